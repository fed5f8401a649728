import PyProof.Rows.All
import KE.KRevSl
import KE.KRevIter
import Wide.All
import OpenK.AllK
import Wide.FinOn
import Lean
import PyProof.EqAt
import PyProof.EqKinds
import PyProof.TupleCall
import PyProof.NeKinds
import PySem.Challenge.RW_ownchain_k07_whole_parts_exchanged
set_option genInjectivity false
set_option genSizeOfSpec false
set_option Elab.async false
set_option linter.all false
set_option maxRecDepth 100000
namespace L2
open PySem PySem.Spec PyProof.Rows

noncomputable abbrev Key := Sum Int Str
noncomputable def keyIs : Key → Value → Bool
  | .inl k, v => Value.isInt k v
  | .inr x, v => Value.isStrOf x v
noncomputable def keyH (w : World) : Key → Int
  | .inl k => hashInt k
  | .inr x => hashStr w x
theorem keyIs_shape : ∀ {k : Key} {v : Value}, keyIs k v = true → (∃ i t, k = Sum.inl i ∧ v = Value.int i t) ∨ (∃ x t, k = Sum.inr x ∧ v = Value.str x t)
  | .inl i, v, h => by
    obtain ⟨t, e⟩ := Value.isInt_shape (k := i) (v := v) h
    exact .inl ⟨i, t, rfl, e⟩
  | .inr x, v, h => by
    obtain ⟨t, e⟩ := Value.isStrOf_shape (x := x) (v := v) h
    exact .inr ⟨x, t, rfl, e⟩
theorem key_ll (a b : Int) : decide ((Sum.inl a : Key) = Sum.inl b) = (a == b) := by
  by_cases e : a = b
  · subst e; simp
  · have h : ¬ (Sum.inl a : Key) = Sum.inl b := fun q => e (Sum.inl.inj q)
    rw [decide_eq_false h]
    exact (beq_eq_false_iff_ne.mpr e).symm
theorem key_rr (a b : Str) : decide ((Sum.inr a : Key) = Sum.inr b) = decide (a = b) := by
  by_cases e : a = b
  · subst e; simp
  · have h : ¬ (Sum.inr a : Key) = Sum.inr b := fun q => e (Sum.inr.inj q)
    rw [decide_eq_false h, decide_eq_false e]
theorem key_lr (a : Int) (b : Str) : decide ((Sum.inl a : Key) = Sum.inr b) = false := decide_eq_false (fun q => nomatch q)
theorem key_rl (a : Str) (b : Int) : decide ((Sum.inr a : Key) = Sum.inl b) = false := decide_eq_false (fun q => nomatch q)

noncomputable def mixKind (prog : Program) (w : World) : PySem.KeyKind prog w Key where
  is := keyIs
  hash := keyH w
  inj := fun v a b ha hb => by
    rcases keyIs_shape ha with ⟨i, t, rfl, rfl⟩ | ⟨x, t, rfl, rfl⟩
    · rcases keyIs_shape hb with ⟨j, u, rfl, e⟩ | ⟨y, u, rfl, e⟩
      · injection e with e1 _; rw [e1]
      · exact nomatch e
    · rcases keyIs_shape hb with ⟨j, u, rfl, e⟩ | ⟨y, u, rfl, e⟩
      · exact nomatch e
      · injection e with e1 _; rw [e1]
  byValue := fun k v h => by
    rcases keyIs_shape h with ⟨i, t, rfl, rfl⟩ | ⟨x, t, rfl, rfl⟩ <;> rfl
  pyHash := fun hv h => by
    rcases keyIs_shape hv with ⟨i, t, rfl, rfl⟩ | ⟨x, t, rfl, rfl⟩
    · exact wpAny_pyHash_int h
    · exact wpAny_pyHash_str h
  eqBool := fun hu hv h => by
    rcases keyIs_shape hu with ⟨i, t, rfl, rfl⟩ | ⟨x, t, rfl, rfl⟩
    · rcases keyIs_shape hv with ⟨j, u, rfl, rfl⟩ | ⟨y, u, rfl, rfl⟩
      · rw [key_ll] at h; exact wpAny_eqBool_int h
      · rw [key_lr] at h; exact SeqAt.EqAt.int_str i t y u _ _ _ _ h
    · rcases keyIs_shape hv with ⟨j, u, rfl, rfl⟩ | ⟨y, u, rfl, rfl⟩
      · rw [key_rl] at h; exact SeqAt.EqAt.str_int x t j u _ _ _ _ h
      · rw [key_rr] at h; exact wpAny_eqBool_str h
  «strs» := fun k x t v h => by
    rcases keyIs_shape h with ⟨i, u, rfl, e⟩ | ⟨y, u, rfl, e⟩
    · exact nomatch e
    · injection e with e1 _
      subst e1
      cases v <;> rfl

end L2

namespace L2
open PySem PySem.Spec PyProof.Rows

inductive V where
  | non | bl (b : Bool) | int (i : Int) | str (x : Str) | byt (b : Array UInt8) | flt (b : UInt64) | ref (a : Addr) | ty (n : String)
  deriving DecidableEq

noncomputable def RelV : V → Value → Prop
  | .non, u => u = Value.none
  | .bl b, u => u = Value.bool b
  | .int i, u => ∃ t, u = Value.int i t
  | .str x, u => ∃ t, u = Value.str x t
  | .byt b, u => ∃ t, u = Value.bytes b t
  | .flt b, u => ∃ t, u = Value.float b t
  | .ref a, u => u = Value.ref a
  | .ty n, u => u = Value.type n

noncomputable abbrev Vals : List V → List Value → Prop := Paired RelV
theorem Vals.length {xs : List V} {us : List Value} (r : Vals xs us) : xs.length = us.length := Paired.length r
theorem Vals.get : ∀ {xs : List V} {us : List Value} {i : Nat} {x : V}, Vals xs us → xs[i]? = some x → ∃ u, us[i]? = some u ∧ RelV x u
  | _, _, _, _, .nil, e => by simp at e
  | _, _, 0, _, .cons r _, e => by simp at e; subst e; exact ⟨_, rfl, r⟩
  | _, _, i + 1, x, .cons _ t, e => by
    obtain ⟨u, h1, h2⟩ := Vals.get (i := i) (x := x) t (by simpa using e)
    exact ⟨u, by simpa using h1, h2⟩
theorem Vals.set {x : V} {u : Value} (r : RelV x u) : ∀ {xs : List V} {us : List Value} (i : Nat), Vals xs us → Vals (xs.set i x) (us.set i u)
  | _, _, _, .nil => .nil
  | _, _, 0, .cons _ t => .cons r t
  | _, _, i + 1, .cons q t => .cons q (Vals.set r i t)
theorem Vals.append : ∀ {xs ys : List V} {us ws : List Value}, Vals xs us → Vals ys ws → Vals (xs ++ ys) (us ++ ws)
  | _, _, _, _, .nil, s => s
  | _, _, _, _, .cons r t, s => .cons r (Vals.append t s)
theorem Vals.take : ∀ {xs : List V} {us : List Value} (n : Nat), Vals xs us → Vals (xs.take n) (us.take n)
  | _, _, 0, _ => .nil
  | _, _, _ + 1, .nil => .nil
  | _, _, n + 1, .cons r t => .cons r (Vals.take n t)
theorem Vals.drop : ∀ {xs : List V} {us : List Value} (n : Nat), Vals xs us → Vals (xs.drop n) (us.drop n)
  | _, _, 0, r => r
  | _, _, _ + 1, .nil => .nil
  | _, _, n + 1, .cons _ t => Vals.drop n t
noncomputable def RelO : Option V → Option Value → Prop
  | some v, some u => RelV v u
  | none, none => True
  | _, _ => False
noncomputable def KV {κ : Type} : List (κ × V) → List (κ × Value) → Prop := Paired fun (p : κ × V) (q : κ × Value) => p.1 = q.1 ∧ RelV p.2 q.2

noncomputable def kV : Key → V
  | .inl i => .int i
  | .inr x => .str x

inductive HO where
  | lst (xs : List V)
  | tup (xs : List V)
  | dK (kvs : List (Key × V)) | dT (kvs : List (List Key × V))
  | set (S : Int → Bool) (n : Nat)
  | ins (C dx : Addr) (fs : List (Str × V))
  | own (x : Addr)
  | xd (fs : List (Str × V))
  | met (f x : Addr)
  | rng (lo hi : Int)
  | frz (o : Obj) (u : HO)
  | tbl (ps : Array Value)
  | ext (φ : Heap → Prop)

noncomputable abbrev Hp := Addr → Option HO
noncomputable def upd (H : Hp) (a : Addr) (o : HO) : Hp := fun b => if b = a then some o else H b
theorem upd_same {H : Hp} {a : Addr} {o : HO} : upd H a o a = some o := by unfold upd; rw [if_pos rfl]
theorem upd_ne {H : Hp} {a b : Addr} {o : HO} (h : b ≠ a) : upd H a o b = H b := by unfold upd; rw [if_neg h]
theorem upd_upd {H : Hp} {a : Addr} {o u : HO} : upd (upd H a o) a u = upd H a u := by
  funext b; unfold upd; split <;> rfl
theorem ne_of_none {H : Hp} {a b : Addr} {o : HO} (h : H a = some o) (h' : H b = none) : a ≠ b := by
  intro e; subst e; rw [h] at h'; cases h'

section
variable (P : Program) (w : World)
noncomputable def ObjOk (H : Hp) (h : Heap) (a : Addr) : HO → Prop
  | .lst xs => xs.length ≤ sizeLine ∧ ∃ (its : List Value) (n : Nat), Vals xs its ∧ h.get? a = some { cls := .type "list", data := .seq its.toArray n }
  | .tup xs => xs.length ≤ sizeLine ∧ ∃ its : List Value, Vals xs its ∧ IsTup h a its.toArray
  | .dK kvs => kvs.length ≤ sizeLine ∧ (a == sysModules) = false ∧ ∃ vs, KV kvs vs ∧ h.DictOf (mixKind P w) a vs
  | .dT kvs => kvs.length ≤ sizeLine ∧ (a == sysModules) = false ∧ ∃ xs : List (List Key × Addr × Value),
      Paired (fun (p : List Key × V) (q : List Key × Addr × Value) => p.1 = q.1 ∧ H q.2.1 = some (.tup (p.1.map kV)) ∧ RelV p.2 q.2.2) kvs xs ∧
      ∃ o es ep, h.get? a = some o ∧ o.ExactDict ∧ o.data = .dict es ep ∧ es.toList = xs.map (entryOfKey (tupleKind (mixKind P w))) ∧ (xs.map (·.1)).Nodup
  | .set S n => h.SetOf (intKind P w) a S n
  | .ins C dx fs => H dx = some (.own a) ∧ fs.length ≤ 1000 ∧ dx ≠ a ∧ h.get? a = some (PySem.W.instObj C dx) ∧
      ∃ mA, h.Ns1 dx mA ∧ (∀ f, RelO (fs.lookup f) (mA f)) ∧ PySem.Within mA (fs.map (·.1))
  | .own _ => ∃ o, h.get? a = some o
  | .xd fs => ∃ mA, h.Ns1 a mA ∧ ∀ f, RelO (fs.lookup f) (mA f)
  | .rng lo hi => ∃ t u v, h.get? a = some { cls := .type "range", data := .fields #[.int lo t, .int hi u, .int 1 v] }
  | .frz o u => h.get? a = some o ∧ ObjOk H h a u
  | .tbl ps => h.get? a = some { cls := .none, data := .fields ps }
  | .met f x => h.get? a = some (PySem.W.methodObj (.ref f) (.ref x))
  | .ext φ => φ h ∧ (∃ o, h.get? a = some o) ∧ ∀ h1 h2 : Heap, φ h1 → (∀ o, h1.get? a = some o → h2.get? a = some o) → φ h2
noncomputable def HOk (H : Hp) (h : Heap) : Prop := ∀ a o, H a = some o → ObjOk P w H h a o
end

section
variable {P : Program} {w : World} {H H' : Hp} {h h' : Heap} {a : Addr} {o : HO}
theorem ObjOk.lt (x : ObjOk P w H h a o) : a < h.objs.size := by
  cases o with
  | lst xs => obtain ⟨_, _, _, _, e⟩ := x; exact Heap.lt_size e
  | tup xs => obtain ⟨_, _, _, p⟩ := x; exact p.lt
  | dK kvs => obtain ⟨_, _, _, _, o, _, _, e, _⟩ := x; exact Heap.lt_size e
  | dT kvs => obtain ⟨_, _, _, _, o, _, _, e, _⟩ := x; exact Heap.lt_size e
  | set S n => obtain ⟨o, _, _, _, e, _⟩ := x; exact Heap.lt_size e
  | ins C dx fs => obtain ⟨_, _, _, e, _⟩ := x; exact Heap.lt_size e
  | own y => obtain ⟨_, e⟩ := x; exact Heap.lt_size e
  | xd fs => obtain ⟨_, ⟨_, _, _, e, _⟩, _⟩ := x; exact Heap.lt_size e
  | rng lo hi => obtain ⟨_, _, _, e⟩ := x; exact Heap.lt_size e
  | frz ob u => obtain ⟨e, _⟩ := x; exact Heap.lt_size e
  | tbl ps => exact Heap.lt_size (show h.get? a = some _ from x)
  | met f y => exact Heap.lt_size (show h.get? a = some _ from x)
  | ext φ => obtain ⟨_, ⟨_, e⟩, _⟩ := x; exact Heap.lt_size e
theorem Paired.mapP {α β : Type} {F G : α → β → Prop} : ∀ {l₁ : List α} {l₂ : List β}, Paired F l₁ l₂ → (∀ a b, F a b → G a b) → Paired G l₁ l₂
  | _, _, .nil, _ => .nil
  | _, _, .cons r t, f => .cons (f _ _ r) (Paired.mapP t f)
theorem ObjOk.stay (x : ObjOk P w H h a o) (k : ∀ b u, (b = a ∨ H b = some (.own a)) → h.get? b = some u → h'.get? b = some u)
    (ho : ∀ b, H b = some (.own a) → H' b = some (.own a)) (ht : ∀ b xs, H b = some (.tup xs) → H' b = some (.tup xs)) : ObjOk P w H' h' a o := by
  induction o with
  | lst xs => obtain ⟨z, its, n, r, e⟩ := x; exact ⟨z, its, n, r, k _ _ (.inl rfl) e⟩
  | tup xs => obtain ⟨z, its, r, ob, e, c⟩ := x; exact ⟨z, its, r, ob, k _ _ (.inl rfl) e, c⟩
  | dK kvs => obtain ⟨z, y, vs, r, ob, es, ep, e, c⟩ := x; exact ⟨z, y, vs, r, ob, es, ep, k _ _ (.inl rfl) e, c⟩
  | dT kvs =>
    obtain ⟨z, y, xs, r, ob, es, ep, e, c⟩ := x
    exact ⟨z, y, xs, Paired.mapP r fun p q z => ⟨z.1, ht _ _ z.2.1, z.2.2⟩, ob, es, ep, k _ _ (.inl rfl) e, c⟩
  | set S n => obtain ⟨ob, es, ep, t, e, c⟩ := x; exact ⟨ob, es, ep, t, k _ _ (.inl rfl) e, c⟩
  | ins C dx fs =>
    obtain ⟨d, z, ne, e, mA, ⟨od, es, ep, e2, c⟩, r⟩ := x
    exact ⟨ho _ d, z, ne, k _ _ (.inl rfl) e, mA, ⟨od, es, ep, k _ _ (.inr d) e2, c⟩, r⟩
  | own y => obtain ⟨ob, e⟩ := x; exact ⟨ob, k _ _ (.inl rfl) e⟩
  | xd fs => obtain ⟨mA, ⟨od, es, ep, e, c⟩, r⟩ := x; exact ⟨mA, ⟨od, es, ep, k _ _ (.inl rfl) e, c⟩, r⟩
  | rng lo hi => obtain ⟨t, u, v, e⟩ := x; exact ⟨t, u, v, k _ _ (.inl rfl) e⟩
  | frz ob u ih => obtain ⟨e, q⟩ := x; exact ⟨k _ _ (.inl rfl) e, ih q⟩
  | tbl ps =>
    have e : h.get? a = some { cls := .none, data := .fields ps } := x
    show h'.get? a = some { cls := .none, data := .fields ps }
    exact k a _ (.inl rfl) e
  | met f y =>
    have e : h.get? a = some (PySem.W.methodObj (.ref f) (.ref y)) := x
    show h'.get? a = some (PySem.W.methodObj (.ref f) (.ref y))
    exact k a _ (.inl rfl) e
  | ext φ => obtain ⟨p, ⟨o, e⟩, st⟩ := x; exact ⟨st _ _ p fun o q => k _ _ (.inl rfl) q, ⟨o, k _ _ (.inl rfl) e⟩, st⟩
theorem HOk.lt (x : HOk P w H h) (e : H a = some o) : a < h.objs.size := (x a o e).lt
theorem HOk.fresh (x : HOk P w H h) (e : h.objs.size ≤ a) : H a = none := by
  cases q : H a with
  | none => rfl
  | some u => exact absurd (Nat.lt_of_lt_of_le (x.lt q) e) (Nat.lt_irrefl _)
theorem HOk.kept (x : HOk P w H h) (k : ∀ b u, h.get? b = some u → h'.get? b = some u) : HOk P w H h' := fun a o e =>
  (x a o e).stay (fun b u _ q => k b u q) (fun _ q => q) fun _ _ q => q
theorem HOk.laid (x : HOk P w H h) (k : ∀ b u, h.get? b = some u → h'.get? b = some u) (hp : h.objs.size ≤ a) (new : ObjOk P w (upd H a o) h' a o) : HOk P w (upd H a o) h' := fun b u e => by
  have hn := x.fresh hp
  by_cases hb : b = a
  · subst hb; rw [upd_same] at e; cases e; exact new
  · rw [upd_ne hb] at e
    exact (x b u e).stay (fun c v _ q => k c v q) (fun c q => by rw [upd_ne (ne_of_none q hn)]; exact q) fun c xs q => by rw [upd_ne (ne_of_none q hn)]; exact q
end

noncomputable def Rd (H : Hp) (a : Addr) (u : HO) : Prop := H a = some u ∨ ∃ o, H a = some (.frz o u)
theorem Rd.ok {P : Program} {w : World} {H : Hp} {h : Heap} {a : Addr} {u : HO} (r : Rd H a u) (x : HOk P w H h) : ObjOk P w H h a u := by
  rcases r with r | ⟨o, r⟩
  · exact x a u r
  · obtain ⟨_, q⟩ := x a _ r
    exact q
noncomputable def Mut : Option HO → Prop
  | some (.lst _) => True
  | some (.dK _) => True
  | some (.dT _) => True
  | some (.set _ _) => True
  | some (.ins _ _ _) => True
  | some (.ext _) => True
  | _ => False
section
variable {P : Program} {w : World} {H : Hp} {h h' : Heap} {x e : Addr} {o' : HO}
theorem HOk.write (ok : HOk P w H h) (mu : Mut (H x)) (he : e = x ∨ H e = some (.own x)) (k : ∀ b u, b ≠ e → h.get? b = some u → h'.get? b = some u) (heo : ∃ u, h'.get? e = some u)
    (new : ObjOk P w (upd H x o') h' x o') : HOk P w (upd H x o') h' := fun b u q => by
  have nown : ∀ c y, H c = some (.own y) → c ≠ x := fun c y r z => by subst z; rw [r] at mu; exact mu
  have ntup : ∀ c xs, H c = some (.tup xs) → c ≠ x := fun c xs r z => by subst z; rw [r] at mu; exact mu
  by_cases hb : b = x
  · subst hb; rw [upd_same] at q; cases q; exact new
  · rw [upd_ne hb] at q
    by_cases hbe : b = e
    · have q' : H b = some (.own x) := by
        rcases he with z | z
        · exact absurd (hbe.trans z) hb
        · rw [hbe]; exact z
      rw [q] at q'; cases q'
      obtain ⟨v, hv⟩ := heo
      exact ⟨v, by rw [hbe]; exact hv⟩
    · refine (ok b u q).stay (fun c v hc r => k c v ?_ r) (fun c r => by rw [upd_ne (nown c b r)]; exact r) fun c xs r => by rw [upd_ne (ntup c xs r)]; exact r
      rcases hc with rfl | hc
      · exact hbe
      · rintro rfl
        rcases he with z | z
        · exact nown c b hc z
        · rw [hc] at z; cases z; exact hb rfl
end

structure Un (fs ex : List Addr) (H H' : Hp) (h h' : Heap) : Prop where
  keep : ∀ b o, h.get? b = some o → H b = none → b ∉ fs → b ∉ ex → h'.get? b = some o
  slot : ∀ b o, h.get? b = some o → H b = none → b ∈ fs → b ∉ ex → ∃ sl, h'.get? b = some { o with slots := sl }
  free : ∀ b o, h.get? b = some o → H b = none → b ∉ ex → H' b = none
  there : ∀ b o, h.get? b = some o → b ∉ ex → ∃ o', h'.get? b = some o'
  tups : ∀ b xs, H b = some (.tup xs) → H' b = some (.tup xs)
  frzs : ∀ b o u, H b = some (.frz o u) → H' b = some (.frz o u)
  tbls : ∀ b ps, H b = some (.tbl ps) → ∃ more, H' b = some (.tbl (ps ++ more))
section
variable {fs fs' ex ex' : List Addr} {H H1 H2 : Hp} {h h1 h2 h' : Heap} {a x e : Addr} {o : HO}
theorem Un.any (u : Un fs ex H H1 h h1) {b : Addr} {ob : Obj} (q : h.get? b = some ob) (n : H b = none) (hx : b ∉ ex) : ∃ sl, h1.get? b = some { ob with slots := sl } := by
  by_cases hb : b ∈ fs
  · exact u.slot b ob q n hb hx
  · exact ⟨ob.slots, u.keep b ob q n hb hx⟩
theorem Un.kept (k : ∀ b u, h.get? b = some u → h'.get? b = some u) : Un fs ex H H h h' :=
  ⟨fun b ob q _ _ _ => k b ob q, fun b ob q _ _ _ => ⟨ob.slots, k b ob q⟩, fun _ _ _ n _ => n, fun b ob q _ => ⟨ob, k b ob q⟩, fun _ _ q => q, fun _ _ _ q => q, fun _ ps q => ⟨#[], by rw [q]; simp⟩⟩
theorem Un.refl : Un fs ex H H h h := Un.kept fun _ _ q => q
theorem Un.laid (k : ∀ b u, h.get? b = some u → h'.get? b = some u) (hp : h.objs.size ≤ a) (hn : H a = none) : Un fs ex H (upd H a o) h h' where
  keep := fun b u q _ _ _ => k b u q
  slot := fun b u q _ _ _ => ⟨u.slots, k b u q⟩
  free := fun b u q n _ => by rw [upd_ne (Nat.ne_of_lt (Nat.lt_of_lt_of_le (Heap.lt_size q) hp))]; exact n
  there := fun b u q _ => ⟨u, k b u q⟩
  tups := fun b xs q => by rw [upd_ne (ne_of_none q hn)]; exact q
  frzs := fun b u xs q => by rw [upd_ne (ne_of_none q hn)]; exact q
  tbls := fun b ps q => ⟨#[], by rw [upd_ne (ne_of_none q hn), q]; simp⟩
theorem Un.write (mu : Mut (H x)) (he : e = x ∨ H e = some (.own x)) (k : ∀ b u, b ≠ e → h.get? b = some u → h'.get? b = some u) (heo : ∃ u, h'.get? e = some u) : Un fs ex H (upd H x o) h h' := by
  have hx : ∀ b, H b = none → b ≠ x := fun b n z => by subst z; rw [n] at mu; exact mu
  have hb : ∀ b, H b = none → b ≠ e := fun b n z => by
    subst z
    rcases he with r | r
    · exact hx b n r
    · rw [n] at r; cases r
  have hm : ∀ b u, H b = some u → ¬ Mut (some u) → b ≠ x := fun b u q nm z => by subst z; rw [q] at mu; exact nm mu
  refine ⟨fun b u q n _ _ => k b u (hb b n) q, fun b u q n _ _ => ⟨u.slots, k b u (hb b n) q⟩, fun b u q n _ => by rw [upd_ne (hx b n)]; exact n, fun b u q _ => ?_,
    fun b xs q => by rw [upd_ne (hm b _ q fun z => z)]; exact q, fun b u xs q => by rw [upd_ne (hm b _ q fun z => z)]; exact q, fun b ps q => ⟨#[], by rw [upd_ne (hm b _ q fun z => z), q]; simp⟩⟩
  by_cases hbe : b = e
  · subst hbe; exact heo
  · exact ⟨u, k b u hbe q⟩
end

noncomputable def trk (h : Heap) (H : Hp) : List Addr := (List.range h.objs.size).filter fun a => (H a).isSome
noncomputable def hidT (h : Heap) (H : Hp) : Heap := PySem.W.hideAll h (trk h H)
theorem hidT_size (h : Heap) (H : Hp) : (hidT h H).objs.size = h.objs.size := PySem.W.hideAll_size _ _
theorem hidT_get {h : Heap} {H : Hp} {b : Addr} {o : Obj} (e : h.get? b = some o) (n : H b = none) : (hidT h H).get? b = some o :=
  PySem.W.hideAll_get _ e fun hm => by
    have q : (H b).isSome = true := (List.mem_filter.mp hm).2
    rw [n] at q; simp at q
theorem of_hidT {h : Heap} {H : Hp} {b : Addr} {o : Obj} (e : (hidT h H).get? b = some o) : h.get? b = some o ∧ H b = none := by
  have e' : h.get? b = some o := PySem.W.of_hideAll (trk h H) e
  refine ⟨e', ?_⟩
  cases q : H b with
  | none => rfl
  | some x =>
    have hm : b ∈ trk h H := List.mem_filter.mpr ⟨List.mem_range.mpr (Heap.lt_size e'), by simp [q]⟩
    have z : (hidT h H).get? b = none := PySem.W.hideAll_none (trk h H) hm
    rw [z] at e; cases e

noncomputable def allNews (g h : Heap) (L : Addr) : List (Addr × Obj) := (List.range h.objs.size).filterMap fun a => if a = L ∨ (g.get? a).isSome = true then none else (h.get? a).map fun o => (a, o)
noncomputable def rest (g h : Heap) (L d : Addr) : List (Addr × Obj) := (allNews g h L).filter fun p => decide (p.1 ≠ d)
end L2

namespace L2
open PySem PySem.Spec PyProof.Rows

structure Mod (K : PySem.W.Frag) (mg : Str → Option Value) (base : Heap) : Prop where
  kin : K.In base
  glob : base.Ns mainGlobals mg
  blt : ∃ mb, base.Ns builtinsNs mb ∧ ∀ x : Str, x ≠ "__name__" → mb x = bootBuiltins x
  nolimit : base.NoLimit

structure Cx where
  prog : Program
  w : World
  K : PySem.W.Frag
  mg : Str → Option Value
  base : Heap
  A : Around
  N : List Str
  s₀ : Shared
  H₀ : Hp
  env : Env
  outer : List Env
  stack : List Env
  ex : List Addr
  fn : Str → Bool
  calm : Bool
  pn : List (Addr × Obj)
  xe : Value → Shared → Prop
noncomputable def frs (l : List Env) : List Addr := l.filterMap (·.frame)
noncomputable abbrev Cx.fs (X : Cx) : List Addr := frs X.outer

noncomputable def Vis (sc : Scope) (x : Str) : Prop := sc.names.lookup x = some .local ∨ sc.names.lookup x = some .cell ∨ sc.names.lookup x = some .free
noncomputable def Loc (sc : Scope) (x : Str) : Prop := sc.names.lookup x = some .local ∨ sc.names.lookup x = some .cell
noncomputable def Look (env : Env) (h : Heap) (m : Str → Option Value) (x : Str) (u : Value) : Prop :=
  (env.kindOf x = some .local ∧ m x = some u) ∨ ((env.kindOf x = some .cell ∨ env.kindOf x = some .free) ∧ ∃ c, env.cells.lookup x = some c ∧ h.IsCell c (some u))

structure Cx.Ok (X : Cx) : Prop where
  mod : Mod X.K X.mg X.base
  kind : X.env.scope.kind = .function
  glob : X.env.globals = mainGlobals
  blt : X.env.builtins = builtinsNs
  above : X.s₀.heap.objs.size ≤ X.env.locals
  inj : ∀ x y c, X.env.cells.lookup x = some c → X.env.cells.lookup y = some c → x = y
  has : ∀ x, (X.env.kindOf x = some .cell ∨ X.env.kindOf x = some .free) → ∃ c, X.env.cells.lookup x = some c
  cab : ∀ x c, X.fn x = true → X.env.cells.lookup x = some c → X.s₀.heap.objs.size ≤ c
  hd : X.calm = true → X.A.handled = none
  frames : X.A.frames = some X.stack
  stk : X.stack = X.outer ∨ (X.stack = X.env :: X.outer ∧ X.env.frame = some X.env.locals)
  exf : ∀ b ∈ X.ex, b ≠ X.env.locals ∧ ∀ x c, X.env.cells.lookup x = some c → c ≠ b
  bs : ∀ b o, X.base.get? b = some o → X.s₀.heap.get? b = some o ∧ X.H₀ b = none
  bsz : X.base.objs.size ≤ X.s₀.heap.objs.size
  noex : ∀ b o, X.base.get? b = some o → b ∉ X.ex
  exfs : ∀ b ∈ X.ex, b ∉ X.fs
  funs : X.s₀.heap.FunFrames X.base X.outer
  frf : ∀ b ∈ X.fs, X.H₀ b = none

structure Inv (X : Cx) (pins : List (Addr × Obj)) (σ : List (Option V)) (H : Hp) (s : Shared) : Prop where
  ok : X.Ok
  os : s.os = X.s₀.os
  bare : AllBare s.gens
  base : Un X.fs X.ex X.H₀ H X.s₀.heap s.heap
  loc : ∃ m, s.heap.Ns X.env.locals m ∧ ∀ (i : Nat) (x : Str) (v : V), X.N[i]? = some x → σ[i]? = some (some v) → Vis X.env.scope x → ∃ u, RelV v u ∧ Look X.env s.heap m x u
  cell : ∀ x c, X.env.cells.lookup x = some c → ∃ v, s.heap.IsCell c v
  free : H X.env.locals = none
  freeC : ∀ x c, X.env.cells.lookup x = some c → H c = none
  pin : ∀ p ∈ X.pn ++ pins, s.heap.get? p.1 = some p.2 ∧ H p.1 = none ∧ p.1 ≠ X.env.locals ∧ p.1 ∉ X.fs ∧ ∀ v, p.2.data ≠ .cell v
  hok : HOk X.prog X.w H s.heap
  len : σ.length = X.N.length

section
variable {X : Cx} {pins : List (Addr × Obj)} {σ : List (Option V)} {H H' : Hp} {s : Shared} {h' : Heap}

theorem Cx.Ok.nofr (ok : X.Ok) {b : Addr} {o : Obj} (e : X.base.get? b = some o) : b ∉ X.fs := fun hb => by
  have := (ok.funs.mem hb).1
  rw [e] at this; cases this
theorem Inv.bs (I : Inv X pins σ H s) : ∀ b o, X.base.get? b = some o → s.heap.get? b = some o ∧ H b = none := fun b o e =>
  ⟨I.base.keep b o (I.ok.bs b o e).1 (I.ok.bs b o e).2 (I.ok.nofr e) (I.ok.noex b o e), I.base.free b o (I.ok.bs b o e).1 (I.ok.bs b o e).2 (I.ok.noex b o e)⟩
theorem Inv.bk (I : Inv X pins σ H s) : ∀ b o, X.base.get? b = some o → s.heap.get? b = some o := fun b o e => (I.bs b o e).1
theorem Inv.mod (I : Inv X pins σ H s) : Mod X.K X.mg X.base := I.ok.mod
theorem Inv.kIn (I : Inv X pins σ H s) : X.K.In s.heap := I.ok.mod.kin.keeps I.bk
theorem Inv.lt (I : Inv X pins σ H s) : X.env.locals < s.heap.objs.size := let ⟨_, hn, _⟩ := I.loc; hn.lt
theorem Inv.sz (I : Inv X pins σ H s) : X.s₀.heap.objs.size ≤ s.heap.objs.size := Nat.le_trans I.ok.above (Nat.le_of_lt I.lt)
theorem Inv.nofs (I : Inv X pins σ H s) {a : Addr} (h : s.heap.objs.size ≤ a) : a ∉ X.fs := fun hb => by
  obtain ⟨_, o, ho, _⟩ := I.ok.funs.mem hb
  exact absurd (Nat.lt_of_lt_of_le (Heap.lt_size ho) (Nat.le_trans I.sz h)) (Nat.lt_irrefl _)
theorem Inv.cne (I : Inv X pins σ H s) : ∀ x c, X.env.cells.lookup x = some c → c ≠ X.env.locals := fun x c e z => by
  obtain ⟨v, o, ho, hd⟩ := I.cell x c e
  obtain ⟨m, ⟨o', es, ep, ho', hd', _⟩, _⟩ := I.loc
  rw [z, ho'] at ho; cases ho; rw [hd'] at hd; cases hd
theorem Inv.funs (I : Inv X pins σ H s) : s.heap.FunFrames X.base X.outer := by
  have all : ∀ (l : List Env), (∀ b ∈ frs l, b ∈ X.fs) → X.s₀.heap.FunFrames X.base l → s.heap.FunFrames X.base l := by
    intro l
    induction l with
    | nil => intro _ _; trivial
    | cons env r ih =>
      intro hs hl
      obtain ⟨hk, ⟨L, o, hf, hn, ho, hd⟩, hr⟩ := hl
      have hL : L ∈ X.fs := hs L (by unfold frs; rw [List.filterMap_cons, hf]; exact List.mem_cons_self)
      obtain ⟨sl, e⟩ := I.base.slot L o ho (I.ok.frf L hL) hL fun z => I.ok.exfs L z hL
      exact ⟨hk, ⟨L, _, hf, hn, e, hd⟩, ih (fun b hb => hs b (by unfold frs; rw [List.filterMap_cons, hf]; exact List.mem_cons_of_mem _ hb)) hr⟩
  exact all X.outer (fun _ hb => hb) I.ok.funs

theorem Inv.stack (I : Inv X pins σ H s) : s.heap.FunFrames X.base X.stack := by
  rcases I.ok.stk with e | ⟨e, hf⟩
  · rw [e]; exact I.funs
  · rw [e]
    obtain ⟨m, hn, _⟩ := I.loc
    refine .cons (by rw [I.ok.kind]; decide) hf hn ?_ I.funs
    exact Heap.get?_none_of_le (Nat.le_trans I.ok.bsz I.ok.above)
theorem Inv.stkSub (I : Inv X pins σ H s) : ∀ b ∈ frs X.stack, b ∈ X.env.locals :: X.fs := fun b hb => by
  rcases I.ok.stk with e | ⟨e, hf⟩
  · rw [e] at hb; exact List.mem_cons_of_mem _ hb
  · rw [e] at hb
    unfold frs at hb
    rw [List.filterMap_cons, hf] at hb
    exact hb
theorem Inv.stkFree (I : Inv X pins σ H s) : ∀ b ∈ frs X.stack, H b = none := fun b hb => by
  rcases List.mem_cons.mp (I.stkSub b hb) with e | hb
  · rw [e]; exact I.free
  · obtain ⟨_, o, ho, _⟩ := I.ok.funs.mem hb
    exact I.base.free b o ho (I.ok.frf b hb) fun z => I.ok.exfs b z hb

theorem Inv.step {g' : Array GenState} {t' : Nat} {d' : Drawn} {ch : List Addr} (I : Inv X pins σ H s)
    (hch : ∀ b ∈ ch, (b ∈ X.ex ∨ X.s₀.heap.objs.size ≤ b) ∧ b ≠ X.env.locals ∧ (∀ x c, X.env.cells.lookup x = some c → c ≠ b) ∧ ∀ p ∈ X.pn ++ pins, p.1 ≠ b)
    (keep : ∀ b o, b ≠ X.env.locals → b ∉ X.fs → b ∉ ch → s.heap.get? b = some o → H b = none → h'.get? b = some o)
    (slot : ∀ b o, b ≠ X.env.locals → b ∈ X.fs → b ∉ ch → s.heap.get? b = some o → H b = none → ∃ sl, h'.get? b = some { o with slots := sl }) (free : ∀ b o, b ∉ ch → s.heap.get? b = some o → H b = none → H' b = none)
    (there : ∀ b o, b ∉ ch → s.heap.get? b = some o → ∃ o', h'.get? b = some o')
    (tups : ∀ b xs, H b = some (.tup xs) → H' b = some (.tup xs)) (frzs : ∀ b o u, H b = some (.frz o u) → H' b = some (.frz o u)) (tbls : ∀ b ps, H b = some (.tbl ps) → ∃ more, H' b = some (.tbl (ps ++ more)))
    (ns : ∀ m, s.heap.Ns X.env.locals m → h'.Ns X.env.locals m) (hok : HOk X.prog X.w H' h') (hg : AllBare g') :
    Inv X pins σ H' { s with heap := h', gens := g', drawn := d', toks := t' } := by
  have neL : ∀ b o, X.s₀.heap.get? b = some o → b ≠ X.env.locals := fun b o e => Nat.ne_of_lt (Nat.lt_of_lt_of_le (Heap.lt_size e) I.ok.above)
  have neC : ∀ b o, X.s₀.heap.get? b = some o → b ∉ X.ex → b ∉ ch := fun b o e hx hb => by
    rcases (hch b hb).1 with z | z
    · exact hx z
    · exact absurd (Nat.lt_of_lt_of_le (Heap.lt_size e) z) (Nat.lt_irrefl _)
  have cellK : ∀ x c, X.env.cells.lookup x = some c → ∀ v, s.heap.IsCell c v → h'.IsCell c v := fun x c e v ⟨o, ho, hd⟩ => by
    have nch : c ∉ ch := fun z => (hch c z).2.2.1 x c e rfl
    by_cases hc : c ∈ X.fs
    · obtain ⟨sl, q⟩ := slot c o (I.cne x c e) hc nch ho (I.freeC x c e)
      exact ⟨_, q, hd⟩
    · exact ⟨o, keep c o (I.cne x c e) hc nch ho (I.freeC x c e), hd⟩
  refine ⟨I.ok, I.os, hg, ⟨fun b o e n hb hx => ?_, fun b o e n hb hx => ?_, fun b o e n hx => ?_, fun b o e hx => ?_, fun b xs e => tups b xs (I.base.tups b xs e), fun b o xs e => frzs b o xs (I.base.frzs b o xs e), fun b ps e => ?_⟩, ?_, fun x c e => ?_, ?_, fun x c e => ?_, fun p hp => ?_, hok, I.len⟩
  · exact keep b o (neL b o e) hb (neC b o e hx) (I.base.keep b o e n hb hx) (I.base.free b o e n hx)
  · obtain ⟨sl, e1⟩ := I.base.slot b o e n hb hx
    obtain ⟨sl', e2⟩ := slot b _ (neL b o e) hb (neC b o e hx) e1 (I.base.free b o e n hx)
    exact ⟨sl', e2⟩
  · obtain ⟨o', e1⟩ := I.base.there b o e hx
    exact free b o' (neC b o e hx) e1 (I.base.free b o e n hx)
  · obtain ⟨o', e1⟩ := I.base.there b o e hx
    exact there b o' (neC b o e hx) e1
  · obtain ⟨m1, e1⟩ := I.base.tbls b ps e
    obtain ⟨m2, e2⟩ := tbls b _ e1
    exact ⟨m1 ++ m2, by rw [e2, Array.append_assoc]⟩
  · obtain ⟨m, hn, hl⟩ := I.loc
    refine ⟨m, ns m hn, fun i x v e1 e2 e3 => ?_⟩
    obtain ⟨u, r, l⟩ := hl i x v e1 e2 e3
    refine ⟨u, r, ?_⟩
    rcases l with l | ⟨k, c, e, z⟩
    · exact .inl l
    · exact .inr ⟨k, c, e, cellK x c e _ z⟩
  · obtain ⟨v, z⟩ := I.cell x c e
    exact ⟨v, cellK x c e v z⟩
  · obtain ⟨m, ⟨o, _, _, ho, _⟩, _⟩ := I.loc
    exact free _ o (fun z => (hch _ z).2.1 rfl) ho I.free
  · obtain ⟨v, o, ho, hd⟩ := I.cell x c e
    exact free c o (fun z => (hch c z).2.2.1 x c e rfl) ho (I.freeC x c e)
  · obtain ⟨e, n, ne, nf, d⟩ := I.pin p hp
    have nch : p.1 ∉ ch := fun z => (hch p.1 z).2.2.2 p hp rfl
    exact ⟨keep p.1 p.2 ne nf nch e n, free p.1 p.2 nch e n, ne, nf, d⟩
theorem Inv.un {t' : Nat} (I : Inv X pins σ H s) (u : Un X.fs [] H H' s.heap h') (hok : HOk X.prog X.w H' h') : Inv X pins σ H' { s with heap := h', toks := t' } := by
  obtain ⟨m, ⟨o, es, ep, ho, r⟩, _⟩ := id I.loc
  obtain ⟨sl, hL⟩ := u.any ho I.free (by simp)
  exact I.step (g' := s.gens) (d' := s.drawn) (ch := []) (fun _ z => nomatch z) (fun b o _ hb _ e n => u.keep b o e n hb (by simp)) (fun b o _ hb _ e n => u.slot b o e n hb (by simp)) (fun b o _ e n => u.free b o e n (by simp)) (fun b o _ e => u.there b o e (by simp)) u.tups u.frzs u.tbls (fun m' hm => by
    obtain ⟨o', es', ep', ho', r'⟩ := hm
    rw [ho] at ho'; cases ho'
    exact ⟨_, es', ep', hL, r'⟩) hok I.bare
theorem Inv.call {g' : Array GenState} {t' : Nat} {d' : Drawn} {ch : List Addr} (I : Inv X pins σ H s) (u : Un (frs X.stack) ch H H' s.heap h') (hok : HOk X.prog X.w H' h') (hg : AllBare g')
    (hch : ∀ b ∈ ch, (b ∈ X.ex ∨ X.s₀.heap.objs.size ≤ b) ∧ b ≠ X.env.locals ∧ (∀ x c, X.env.cells.lookup x = some c → c ≠ b) ∧ ∀ p ∈ X.pn ++ pins, p.1 ≠ b) :
    Inv X pins σ H' { s with heap := h', gens := g', drawn := d', toks := t' } := by
  obtain ⟨m, ⟨o, es, ep, ho, r⟩, _⟩ := id I.loc
  obtain ⟨sl, hL⟩ := u.any ho I.free fun z => (hch _ z).2.1 rfl
  exact I.step (ch := ch) hch (fun b o hL hb hc e n => u.keep b o e n (fun z => (List.mem_cons.mp (I.stkSub b z)).elim hL hb) hc) (fun b o _ _ hc e n => u.any e n hc) (fun b o hc e n => u.free b o e n hc) (fun b o hc e => u.there b o e hc) u.tups u.frzs u.tbls (fun m' hm => by
    obtain ⟨o', es', ep', ho', r'⟩ := hm
    rw [ho] at ho'; cases ho'
    exact ⟨_, es', ep', hL, r'⟩) hok hg
theorem Inv.turned {t' : Nat} {it : Addr} (I : Inv X pins σ H s) (k : ∀ b o, b ≠ it → s.heap.get? b = some o → h'.get? b = some o) (hn : H it = none) (hL : it ≠ X.env.locals)
    (h1 : it ∈ X.ex ∨ X.s₀.heap.objs.size ≤ it) (h2 : ∀ x c, X.env.cells.lookup x = some c → c ≠ it) (h3 : ∀ p ∈ X.pn ++ pins, p.1 ≠ it) : Inv X pins σ H { s with heap := h', toks := t' } := by
  have nit : ∀ b u, H b = some u → b ≠ it := fun b u e z => by rw [z, hn] at e; cases e
  refine I.step (g' := s.gens) (d' := s.drawn) (ch := [it]) (fun b hb => ?_) (fun b o _ _ hc e _ => k b o (fun z => hc (by simp [z])) e) (fun b o _ _ hc e _ => ⟨o.slots, k b o (fun z => hc (by simp [z])) e⟩) (fun _ _ _ _ n => n)
    (fun b o hc e => ⟨o, k b o (fun z => hc (by simp [z])) e⟩) (fun _ _ e => e) (fun _ _ _ e => e) (fun b ps e => ⟨#[], by rw [e]; simp⟩) (fun m hm => ?_) (fun b u e => ?_) I.bare
  · have e : b = it := by simpa using hb
    subst e
    exact ⟨h1, hL, h2, h3⟩
  · obtain ⟨o, es, ep, ho, r⟩ := hm
    exact ⟨o, es, ep, k _ o (Ne.symm hL) ho, r⟩
  · refine (I.hok b u e).stay (fun c v hc q => k c v ?_ q) (fun _ q => q) fun _ _ q => q
    rcases hc with z | z
    · rw [z]; exact nit b u e
    · exact nit c _ z
theorem Inv.tok (I : Inv X pins σ H s) (t : Nat) : Inv X pins σ H { s with toks := t } := I.un (h' := s.heap) (t' := t) Un.refl I.hok
theorem Inv.kept {t' : Nat} (I : Inv X pins σ H s) (k : ∀ b u, s.heap.get? b = some u → h'.get? b = some u) : Inv X pins σ H { s with heap := h', toks := t' } := I.un (Un.kept k) (I.hok.kept k)
theorem Inv.laid {a : Addr} {o : HO} {t' : Nat} (I : Inv X pins σ H s) (k : ∀ b u, s.heap.get? b = some u → h'.get? b = some u) (hp : s.heap.objs.size ≤ a) (new : ObjOk X.prog X.w (upd H a o) h' a o) :
    Inv X pins σ (upd H a o) { s with heap := h', toks := t' } := I.un (Un.laid k hp (I.hok.fresh hp)) (I.hok.laid k hp new)
theorem Inv.write {x e : Addr} {o : HO} {t' : Nat} (I : Inv X pins σ H s) (mu : Mut (H x)) (he : e = x ∨ H e = some (.own x)) (k : ∀ b u, b ≠ e → s.heap.get? b = some u → h'.get? b = some u) (heo : ∃ u, h'.get? e = some u)
    (new : ObjOk X.prog X.w (upd H x o) h' x o) : Inv X pins σ (upd H x o) { s with heap := h', toks := t' } := I.un (Un.write mu he k heo) (I.hok.write mu he k heo new)
theorem Inv.pins_of {pins' : List (Addr × Obj)} (I : Inv X pins σ H s) (h : ∀ p ∈ pins', s.heap.get? p.1 = some p.2 ∧ H p.1 = none ∧ p.1 ≠ X.env.locals ∧ p.1 ∉ X.fs ∧ ∀ v, p.2.data ≠ .cell v) : Inv X pins' σ H s :=
  ⟨I.ok, I.os, I.bare, I.base, I.loc, I.cell, I.free, I.freeC, fun p hp => (List.mem_append.mp hp).elim (fun z => I.pin p (List.mem_append_left _ z)) (h p), I.hok, I.len⟩

theorem nodup_ix {N : List Str} (hN : N.Nodup) {i j : Nat} {x : Str} (a : N[i]? = some x) (b : N[j]? = some x) : i = j := by
  obtain ⟨h1, e1⟩ := List.getElem?_eq_some_iff.mp a
  obtain ⟨h2, e2⟩ := List.getElem?_eq_some_iff.mp b
  exact (List.getElem_inj hN).mp (e1.trans e2.symm)

theorem store_ok2 {M : Model} {A : Around} {E : Value → Shared → Prop} {i : Nat} {x : Str} {v : V} {u : Value} {Q : Unit → Shared → Prop} (I : Inv X pins σ H s) (hN : X.N.Nodup) (hi : X.N[i]? = some x) (hx : Loc X.env.scope x) (r : RelV v u)
    (h : ∀ s', Inv X pins (σ.set i (some v)) H s' → (∃ a, Heap.SameBut a s.heap s'.heap ∧ (a = X.env.locals ∨ X.env.cells.lookup x = some a)) → Q () s') (hf : X.fn x = true ∨ X.env.scope.names.lookup x = some .local := by first | exact .inl rfl | exact .inr rfl | assumption) : wpAny M A (storeName X.env x u) Q E s := by
  obtain ⟨m, hn, hl⟩ := id I.loc
  have hcls : (X.env.scope.kind == .class || (X.env.scope.kind == .module && X.env.locals != X.env.globals)) = false := by rw [I.ok.kind]; rfl
  have hiσ : i < σ.length := by rw [I.len]; exact (List.getElem?_eq_some_iff.mp hi).1
  have cne := I.cne
  have tracked : ∀ {a : Addr} {h' : Heap}, (∃ o, s.heap.get? a = some o ∧ H a = none) → Heap.SameBut a s.heap h' → HOk X.prog X.w H h' := fun {a h'} ha hs b ob e => by
    obtain ⟨_, _, hfree⟩ := ha
    refine (I.hok b ob e).stay (fun c w' hc q => (hs.2 c ?_).trans q) (fun _ q => q) fun _ _ q => q
    rintro rfl
    rcases hc with rfl | hc
    · rw [hfree] at e; cases e
    · rw [hfree] at hc; cases hc
  rcases hx with hk | hk
  · refine wpAny_storeName_local hk hn (fun h' hn' hs => ?_) hcls
    obtain ⟨oL, _, _, hoL, _⟩ := id hn
    refine h _ ⟨I.ok, I.os, I.bare, ⟨fun b o e n hb hx => ?_, fun b o e n hb hx => ?_, I.base.free, fun b o e hx => ?_, I.base.tups, I.base.frzs, I.base.tbls⟩, ⟨_, hn', fun j y v' e1 e2 e3 => ?_⟩, fun y c e => ?_, I.free, I.freeC, fun p hp => ?_, tracked ⟨oL, hoL, I.free⟩ hs, by simpa using I.len⟩ ⟨_, hs, .inl rfl⟩
    · exact (hs.2 b (Nat.ne_of_lt (Nat.lt_of_lt_of_le (Heap.lt_size e) I.ok.above))).trans (I.base.keep b o e n hb hx)
    · obtain ⟨sl, e1⟩ := I.base.slot b o e n hb hx
      exact ⟨sl, (hs.2 b (Nat.ne_of_lt (Nat.lt_of_lt_of_le (Heap.lt_size e) I.ok.above))).trans e1⟩
    · obtain ⟨o', e1⟩ := I.base.there b o e hx
      exact ⟨o', (hs.2 b (Nat.ne_of_lt (Nat.lt_of_lt_of_le (Heap.lt_size e) I.ok.above))).trans e1⟩
    · by_cases hj : j = i
      · subst hj
        rw [hi] at e1; cases e1
        rw [List.getElem?_set_self hiσ] at e2
        cases e2
        exact ⟨u, r, .inl ⟨hk, by simp⟩⟩
      · rw [List.getElem?_set_ne (Ne.symm hj)] at e2
        obtain ⟨u', r', q⟩ := hl j y v' e1 e2 e3
        refine ⟨u', r', ?_⟩
        rcases q with ⟨k, e⟩ | ⟨k, c, e, z⟩
        · refine .inl ⟨k, ?_⟩
          have : y ≠ x := fun e => hj (nodup_ix hN e1 (e ▸ hi))
          simp [this, e]
        · exact .inr ⟨k, c, e, z.sameBut hs (cne y c e)⟩
    · obtain ⟨w', z⟩ := I.cell y c e
      exact ⟨w', z.sameBut hs (cne y c e)⟩
    · obtain ⟨e, n, ne, nf, d⟩ := I.pin p hp
      exact ⟨(hs.2 p.1 ne).trans e, n, ne, nf, d⟩
  · have hfn : X.fn x = true := by
      rcases hf with z | z
      · exact z
      · rw [z] at hk; cases hk
    obtain ⟨c, hc⟩ := I.ok.has x (.inl hk)
    obtain ⟨w', z⟩ := I.cell x c hc
    refine wpAny_storeName_cell I.ok.kind hk hc z (fun h' hc' hs => ?_)
    obtain ⟨oc, hoc, hocd⟩ := id z
    refine h { s with heap := h' } ⟨I.ok, I.os, I.bare, ⟨fun b o e n hb hx => ?_, fun b o e n hb hx => ?_, I.base.free, fun b o e hx => ?_, I.base.tups, I.base.frzs, I.base.tbls⟩, ⟨m, hn.sameBut hs (Ne.symm (cne x c hc)), fun j y v' e1 e2 e3 => ?_⟩, fun y c' e => ?_, I.free, I.freeC, fun p hp => ?_, tracked ⟨oc, hoc, I.freeC x c hc⟩ hs, by simpa using I.len⟩ ⟨c, hs, .inr hc⟩
    · exact (hs.2 b (Nat.ne_of_lt (Nat.lt_of_lt_of_le (Heap.lt_size e) (I.ok.cab x c hfn hc)))).trans (I.base.keep b o e n hb hx)
    · obtain ⟨sl, e1⟩ := I.base.slot b o e n hb hx
      exact ⟨sl, (hs.2 b (Nat.ne_of_lt (Nat.lt_of_lt_of_le (Heap.lt_size e) (I.ok.cab x c hfn hc)))).trans e1⟩
    · obtain ⟨o', e1⟩ := I.base.there b o e hx
      exact ⟨o', (hs.2 b (Nat.ne_of_lt (Nat.lt_of_lt_of_le (Heap.lt_size e) (I.ok.cab x c hfn hc)))).trans e1⟩
    · by_cases hj : j = i
      · subst hj
        rw [hi] at e1; cases e1
        rw [List.getElem?_set_self hiσ] at e2
        cases e2
        exact ⟨u, r, .inr ⟨.inl hk, c, hc, hc'⟩⟩
      · rw [List.getElem?_set_ne (Ne.symm hj)] at e2
        obtain ⟨u', r', q⟩ := hl j y v' e1 e2 e3
        refine ⟨u', r', ?_⟩
        rcases q with q | ⟨k, c', e, z'⟩
        · exact .inl q
        · refine .inr ⟨k, c', e, z'.sameBut hs ?_⟩
          rintro rfl
          exact hj (nodup_ix hN e1 (I.ok.inj _ _ _ e hc ▸ hi))
    · by_cases hcc : c' = c
      · subst hcc; exact ⟨_, hc'⟩
      · obtain ⟨w2, z2⟩ := I.cell y c' e
        exact ⟨w2, z2.sameBut hs hcc⟩
    · obtain ⟨e, n, ne, nf, d⟩ := I.pin p hp
      refine ⟨(hs.2 p.1 ?_).trans e, n, ne, nf, d⟩
      intro q
      rw [q, hoc] at e
      have q' : oc = p.2 := Option.some.inj e
      exact d w' (by rw [← q']; exact hocd)
theorem store_ok {M : Model} {A : Around} {E : Value → Shared → Prop} {i : Nat} {x : Str} {v : V} {u : Value} {Q : Unit → Shared → Prop} (I : Inv X pins σ H s) (hN : X.N.Nodup) (hi : X.N[i]? = some x) (hx : Loc X.env.scope x) (r : RelV v u)
    (h : ∀ s', Inv X pins (σ.set i (some v)) H s' → Q () s') (hf : X.fn x = true ∨ X.env.scope.names.lookup x = some .local := by first | exact .inl rfl | exact .inr rfl | assumption) : wpAny M A (storeName X.env x u) Q E s :=
  store_ok2 I hN hi hx r (fun s' I' _ => h s' I') hf
theorem Inv.call' {s' : Shared} {ch : List Addr} (I : Inv X pins σ H s) (ho : s'.os = s.os) (u : Un (frs X.stack) ch H H' s.heap s'.heap) (hok : HOk X.prog X.w H' s'.heap) (hg : AllBare s'.gens)
    (hch : ∀ b ∈ ch, (b ∈ X.ex ∨ X.s₀.heap.objs.size ≤ b) ∧ b ≠ X.env.locals ∧ (∀ x c, X.env.cells.lookup x = some c → c ≠ b) ∧ ∀ p ∈ X.pn ++ pins, p.1 ≠ b) : Inv X pins σ H' s' := by
  obtain ⟨h', g', d', t', o'⟩ := s'
  have e : o' = s.os := ho
  subst e
  exact I.call (g' := g') (t' := t') (d' := d') u hok hg hch
end

noncomputable abbrev XK := Value → Option Addr → Hp → Prop
noncomputable abbrev St := List (Option V)
noncomputable abbrev VK := V → Hp → Prop
noncomputable abbrev TE := St → Hp → VK → Prop
noncomputable abbrev TT := St → Hp → (Bool → Hp → Prop) → Prop
noncomputable abbrev TA := St → Hp → (List V → Hp → Prop) → Prop
structure Ends where
  nx : St → Hp → Prop
  rt : VK
  bk : St → Hp → Prop := fun _ _ => False
  ct : St → Hp → Prop := fun _ _ => False
noncomputable abbrev TS := Ends → St → Hp → Prop

noncomputable def EP (X : Cx) (pins : List (Addr × Obj)) (σ : St) (Q : VK) (u : Value) (s' : Shared) : Prop := ∃ v H', Inv X pins σ H' s' ∧ RelV v u ∧ Q v H'
noncomputable def TP (X : Cx) (pins : List (Addr × Obj)) (σ : St) (Q : Bool → Hp → Prop) (b : Bool) (s' : Shared) : Prop := ∃ H', Inv X pins σ H' s' ∧ Q b H'
noncomputable def AP (X : Cx) (pins : List (Addr × Obj)) (σ : St) (Q : List V → Hp → Prop) (us : List Value) (s' : Shared) : Prop := ∃ vs H', Inv X pins σ H' s' ∧ Vals vs us ∧ Q vs H'
noncomputable def SP (X : Cx) (pins : List (Addr × Obj)) (D : Ends) (f : Flow) (s' : Shared) : Prop :=
  match f with
  | .next => ∃ σ' H', Inv X pins σ' H' s' ∧ D.nx σ' H'
  | .brk => ∃ σ' H', Inv X pins σ' H' s' ∧ D.bk σ' H'
  | .cont => ∃ σ' H', Inv X pins σ' H' s' ∧ D.ct σ' H'
  | .ret u => ∃ v σ' H', Inv X pins σ' H' s' ∧ RelV v u ∧ D.rt v H'

structure PE (X : Cx) (e : Expr) (t : TE)  : Prop where
  go : ∀ (pins : List (Addr × Obj)) (s : Shared) (σ : St) (H : Hp) (Q : VK), Inv X pins σ H s → t σ H Q → wpAny (model X.prog X.w) X.A (eval e X.env) (EP X pins σ Q) X.xe s
instance {X : Cx} {e : Expr} {t : TE} : CoeFun (PE X e t) (fun _ => ∀ (pins : List (Addr × Obj)) (s : Shared) (σ : St) (H : Hp) (Q : VK), Inv X pins σ H s → t σ H Q → wpAny (model X.prog X.w) X.A (eval e X.env) (EP X pins σ Q) X.xe s) := ⟨PE.go⟩
structure PT (X : Cx) (e : Expr) (t : TT)  : Prop where
  go : ∀ (pins : List (Addr × Obj)) (s : Shared) (σ : St) (H : Hp) (Q : Bool → Hp → Prop), Inv X pins σ H s → t σ H Q → wpAny (model X.prog X.w) X.A (isTrue e X.env (eval e X.env)) (TP X pins σ Q) X.xe s
instance {X : Cx} {e : Expr} {t : TT} : CoeFun (PT X e t) (fun _ => ∀ (pins : List (Addr × Obj)) (s : Shared) (σ : St) (H : Hp) (Q : Bool → Hp → Prop), Inv X pins σ H s → t σ H Q → wpAny (model X.prog X.w) X.A (isTrue e X.env (eval e X.env)) (TP X pins σ Q) X.xe s) := ⟨PT.go⟩
structure PW (X : Cx) (e : Expr) (t : TT)  : Prop where
  go : ∀ (whole : Sem Value) (pins : List (Addr × Obj)) (s : Shared) (σ : St) (H : Hp) (Q : Bool → Hp → Prop), Inv X pins σ H s → t σ H Q → wpAny (model X.prog X.w) X.A (isTrue e X.env whole) (TP X pins σ Q) X.xe s
instance {X : Cx} {e : Expr} {t : TT} : CoeFun (PW X e t) (fun _ => ∀ (whole : Sem Value) (pins : List (Addr × Obj)) (s : Shared) (σ : St) (H : Hp) (Q : Bool → Hp → Prop), Inv X pins σ H s → t σ H Q → wpAny (model X.prog X.w) X.A (isTrue e X.env whole) (TP X pins σ Q) X.xe s) := ⟨PW.go⟩
theorem PW.pt {X : Cx} {e : Expr} {t : TT} (h : PW X e t) : PT X e t := ⟨h _⟩
structure PA (X : Cx) (es : List Expr) (t : TA)  : Prop where
  go : ∀ (pos : Pos) (pins : List (Addr × Obj)) (s : Shared) (σ : St) (H : Hp) (Q : List V → Hp → Prop), Inv X pins σ H s → t σ H Q → wpAny (model X.prog X.w) X.A (spliced (backTo pos (starEach es X.env))) (AP X pins σ Q) X.xe s
instance {X : Cx} {es : List Expr} {t : TA} : CoeFun (PA X es t) (fun _ => ∀ (pos : Pos) (pins : List (Addr × Obj)) (s : Shared) (σ : St) (H : Hp) (Q : List V → Hp → Prop), Inv X pins σ H s → t σ H Q → wpAny (model X.prog X.w) X.A (spliced (backTo pos (starEach es X.env))) (AP X pins σ Q) X.xe s) := ⟨PA.go⟩
structure PS (X : Cx) (st : Stmt) (t : TS)  : Prop where
  go : ∀ (pins : List (Addr × Obj)) (s : Shared) (σ : St) (H : Hp) (D : Ends), Inv X pins σ H s → t D σ H → wpAny (model X.prog X.w) X.A (exec st X.env) (SP X pins D) X.xe s
instance {X : Cx} {st : Stmt} {t : TS} : CoeFun (PS X st t) (fun _ => ∀ (pins : List (Addr × Obj)) (s : Shared) (σ : St) (H : Hp) (D : Ends), Inv X pins σ H s → t D σ H → wpAny (model X.prog X.w) X.A (exec st X.env) (SP X pins D) X.xe s) := ⟨PS.go⟩
structure PSs (X : Cx) (st : List Stmt) (t : TS)  : Prop where
  go : ∀ (pins : List (Addr × Obj)) (s : Shared) (σ : St) (H : Hp) (D : Ends), Inv X pins σ H s → t D σ H → wpAny (model X.prog X.w) X.A (execs st X.env) (SP X pins D) X.xe s
instance {X : Cx} {st : List Stmt} {t : TS} : CoeFun (PSs X st t) (fun _ => ∀ (pins : List (Addr × Obj)) (s : Shared) (σ : St) (H : Hp) (D : Ends), Inv X pins σ H s → t D σ H → wpAny (model X.prog X.w) X.A (execs st X.env) (SP X pins D) X.xe s) := ⟨PSs.go⟩
theorem thn {α : Type} {t : Sem α} {Q Q' : α → Shared → Prop} {M : Model} {A : Around} {E : Value → Shared → Prop} {s : Shared} (h : wpAny M A t Q E s) (hQ : ∀ a s, Q a s → Q' a s) : wpAny M A t Q' E s := wpAny_mono h hQ fun _ _ x => x
end L2

namespace L2
open PySem PySem.Spec PyProof.Rows
section
variable {X : Cx}

noncomputable def tVar (i : Nat) : TE := fun σ H Q => ∃ v, σ[i]? = some (some v) ∧ Q v H
noncomputable def tC (v : V) : TE := fun _ H Q => Q v H
theorem pe_var {i : Nat} {x : Str} {pos : Pos} (hN : X.N[i]? = some x) (hv : Vis X.env.scope x) (hd : (x == ("__debug__" : Str)) = false := by decide) (hcd : (x == ("__classdict__" : Str)) = false := by decide) : PE X (.Name x pos) (tVar i) := by
  refine ⟨?_⟩
  intro pins s σ H Q I h
  obtain ⟨v, e, h⟩ := h
  obtain ⟨m, hn, hl⟩ := I.loc
  obtain ⟨u, r, l⟩ := hl i x v hN e hv
  have fin : EP X pins σ Q u s := ⟨v, H, I, r, h⟩
  rcases l with ⟨hk, hm⟩ | ⟨hk, c, hc, hcell⟩
  · exact wpAny_Name (wpAny_loadName_local I.ok.kind hk hn hm fin) hd
  · rcases hk with hk | hk
    · exact wpAny_Name (wpAny_loadName_cell I.ok.kind hk hc hcell fin) hd
    · exact wpAny_Name (wpAny_loadName_free I.ok.kind hk hc hcell fin hcd) hd
theorem pe_int {i j pos} : PE X (.Constant (.int i) j pos) (tC (.int i)) := ⟨fun _ _ _ H _ I h => wpAny_Constant_int ⟨.int i, H, I.tok _, ⟨_, rfl⟩, h⟩⟩
theorem pe_bl {b j pos} : PE X (.Constant (.bool b) j pos) (tC (.bl b)) := ⟨fun _ _ _ H _ I h => Constant_bool ⟨.bl b, H, I, rfl, h⟩⟩
theorem pe_non {j pos} : PE X (.Constant .none j pos) (tC .non) := ⟨fun _ _ _ H _ I h => Constant_none ⟨.non, H, I, rfl, h⟩⟩
theorem pe_str {x j pos} : PE X (.Constant (.str x) j pos) (tC (.str x)) := ⟨fun _ _ _ H _ I h => Calls.Constant_str ⟨.str x, H, I.tok _, ⟨_, rfl⟩, h⟩⟩
noncomputable def Gl (X : Cx) (x : Str) : Prop := X.env.kindOf x = some .globalImplicit
theorem ld_glob {E : Value → Shared → Prop} {pins : List (Addr × Obj)} {s : Shared} {σ : St} {H : Hp} {x : Str} {u : Value} {pos : Pos} {Q : Value → Shared → Prop} (I : Inv X pins σ H s) (hg : Gl X x) (hm : X.mg x = some u) (h : Q u s)
    (hd : (x == ("__debug__" : Str)) = false := by decide) : wpAny (model X.prog X.w) X.A (eval (.Name x pos) X.env) Q E s :=
  Calls.Name_function_global I.ok.kind hg (Calls.loadGlobal_global (by rw [I.ok.glob]; exact I.mod.glob.keeps I.bk) hm h) hd
theorem ld_blt {E : Value → Shared → Prop} {pins : List (Addr × Obj)} {s : Shared} {σ : St} {H : Hp} {x : Str} {u : Value} {pos : Pos} {Q : Value → Shared → Prop} (I : Inv X pins σ H s) (hg : Gl X x) (hm : X.mg x = none) (hv : bootBuiltins x = some u) (h : Q u s)
    (hn : x ≠ "__name__" := by decide) (hd : (x == ("__debug__" : Str)) = false := by decide) : wpAny (model X.prog X.w) X.A (eval (.Name x pos) X.env) Q E s := by
  obtain ⟨mb, h1, h2⟩ := I.mod.blt
  exact Calls.Name_function_global I.ok.kind hg (Calls.loadGlobal_builtin (by rw [I.ok.glob]; exact I.mod.glob.keeps I.bk) hm (by rw [I.ok.blt]; exact h1.keeps I.bk) ((h2 x hn).trans hv) h) hd
theorem pe_glob {x : Str} {v : V} {u : Value} {pos : Pos} (hg : Gl X x) (hm : X.mg x = some u) (r : RelV v u) (hd : (x == ("__debug__" : Str)) = false := by decide) : PE X (.Name x pos) (tC v) := ⟨fun _ _ _ H _ I h => ld_glob I hg hm ⟨v, H, I, r, h⟩ hd⟩
theorem pe_bltn {x : Str} {v : V} {u : Value} {pos : Pos} (hg : Gl X x) (hm : X.mg x = none) (hv : bootBuiltins x = some u) (r : RelV v u) (hn : x ≠ "__name__" := by decide) (hd : (x == ("__debug__" : Str)) = false := by decide) : PE X (.Name x pos) (tC v) := ⟨fun _ _ _ H _ I h => ld_blt I hg hm hv ⟨v, H, I, r, h⟩ hn hd⟩
noncomputable def t2I (ta tb : TE) (k : Int → Int → Hp → Prop) : St → Hp → Prop := fun σ H => ta σ H fun x H1 => tb σ H1 fun y H2 => ∃ i j, x = .int i ∧ y = .int j ∧ k i j H2
noncomputable def tAdd (ta tb : TE) : TE := fun σ H Q => t2I ta tb (fun i j H2 => Q (.int (i + j)) H2) σ H
noncomputable def tSub (ta tb : TE) : TE := fun σ H Q => t2I ta tb (fun i j H2 => Q (.int (i - j)) H2) σ H
noncomputable def tMul (ta tb : TE) : TE := fun σ H Q => t2I ta tb (fun i j H2 => (-(2 ^ 64) < i ∧ i < 2 ^ 64) ∧ Q (.int (i * j)) H2) σ H
variable {a b : Expr} {ta tb : TE} {pos : Pos}
structure PC (X : Cx) (op : CmpOp) (a b : Expr) (t : TE)  : Prop where
  go : ∀ (pins : List (Addr × Obj)) (s : Shared) (σ : St) (H : Hp) (Q : VK), Inv X pins σ H s → t σ H Q →
    wpAny (model X.prog X.w) X.A (eval a X.env) (fun v s₁ => wpAny (model X.prog X.w) X.A (eval b X.env) (fun u s₂ => wpAny (model X.prog X.w) X.A (compareOp op v u) (EP X pins σ Q) X.xe s₂) X.xe s₁) X.xe s
instance {X : Cx} {op : CmpOp} {a b : Expr} {t : TE} : CoeFun (PC X op a b t) (fun _ => ∀ (pins : List (Addr × Obj)) (s : Shared) (σ : St) (H : Hp) (Q : VK), Inv X pins σ H s → t σ H Q →
    wpAny (model X.prog X.w) X.A (eval a X.env) (fun v s₁ => wpAny (model X.prog X.w) X.A (eval b X.env) (fun u s₂ => wpAny (model X.prog X.w) X.A (compareOp op v u) (EP X pins σ Q) X.xe s₂) X.xe s₁) X.xe s) := ⟨PC.go⟩
noncomputable def tCmp (p : Int → Int → Bool) (ta tb : TE) : TE := fun σ H Q => t2I ta tb (fun i j H2 => Q (.bl (p i j)) H2) σ H
noncomputable abbrev tLt : TE → TE → TE := tCmp fun i j => decide (i < j)
noncomputable abbrev tLe : TE → TE → TE := tCmp fun i j => decide (i ≤ j)
noncomputable abbrev tGt : TE → TE → TE := tCmp fun i j => decide (j < i)
noncomputable abbrev tGe : TE → TE → TE := tCmp fun i j => decide (j ≤ i)
noncomputable abbrev tEqI : TE → TE → TE := tCmp fun i j => decide (i = j)
noncomputable abbrev tNeI : TE → TE → TE := tCmp fun i j => !decide (i = j)
noncomputable def tIsN (ta : TE) : TE := fun σ H Q => ta σ H fun x H1 => Q (.bl (decide (x = .non))) H1
noncomputable def tNotN (ta : TE) : TE := fun σ H Q => ta σ H fun x H1 => Q (.bl (!decide (x = .non))) H1
noncomputable def tB (t : TE) : TT := fun σ H Q => t σ H fun x H1 => ∃ c, x = .bl c ∧ Q c H1
theorem pt_val {e : Expr} {t : TE} (h : PE X e t) (he : ∀ whole, isTrue e X.env whole = (do let v ← whole; standAt e.pos; holding [v] (truthy v)) := by intro _; rfl) : PT X e (tB t) := by
  refine ⟨?_⟩
  intro pins s σ H Q I hw
  refine isTrue_plain (thn (h pins s σ H _ I hw) fun v s1 ⟨x, H1, I1, r1, q1⟩ => ?_) (he _)
  obtain ⟨d, rfl, q⟩ := q1
  cases r1
  exact wpAny_truthy_bool ⟨H1, I1, q⟩

variable {tA tB' : TT} {rest : List Expr}
noncomputable def tAnd (t u : TT) : TT := fun σ H Q => t σ H fun c H1 => if c = true then u σ H1 Q else Q false H1
noncomputable def tOr (t u : TT) : TT := fun σ H Q => t σ H fun c H1 => if c = true then Q true H1 else u σ H1 Q
noncomputable def tNot (t : TT) : TT := fun σ H Q => t σ H fun c H1 => Q (!c) H1
theorem pw_and1 (ha : PT X a tA) : PW X (.BoolOp .And [a] pos) tA := by
  refine ⟨?_⟩
  intro wh pins s σ H Q I h
  refine isTrue_and (thn (ha pins s σ H Q I h) fun c s1 e => ?_)
  cases c with
  | true => exact isTrue_and_nil e
  | false => exact e
theorem pw_or1 (ha : PT X a tA) : PW X (.BoolOp .Or [a] pos) tA := by
  refine ⟨?_⟩
  intro wh pins s σ H Q I h
  refine isTrue_or (thn (ha pins s σ H Q I h) fun c s1 e => ?_)
  cases c with
  | false => exact isTrue_or_nil e
  | true => exact e
theorem pw_and (ha : PT X a tA) (hb : PW X (.BoolOp .And (b :: rest) pos) tB') : PW X (.BoolOp .And (a :: b :: rest) pos) (tAnd tA tB') := by
  refine ⟨?_⟩
  intro wh pins s σ H Q I h
  refine isTrue_and (thn (ha pins s σ H _ I h) fun c s1 hzz => ?_)
  obtain ⟨H1, I1, q1⟩ := hzz
  cases c with
  | true => exact hb wh pins s1 σ H1 Q I1 q1
  | false => exact ⟨H1, I1, q1⟩
theorem pw_or (ha : PT X a tA) (hb : PW X (.BoolOp .Or (b :: rest) pos) tB') : PW X (.BoolOp .Or (a :: b :: rest) pos) (tOr tA tB') := by
  refine ⟨?_⟩
  intro wh pins s σ H Q I h
  refine isTrue_or (thn (ha pins s σ H _ I h) fun c s1 hzz => ?_)
  obtain ⟨H1, I1, q1⟩ := hzz
  cases c with
  | true => exact ⟨H1, I1, q1⟩
  | false => exact hb wh pins s1 σ H1 Q I1 q1
theorem pt_not (ha : PT X a tA) : PT X (.UnaryOp .Not a pos) (tNot tA) := by
  refine ⟨?_⟩
  intro pins s σ H Q I h
  exact isTrue_not (ha pins s σ H (fun c H1 => Q (!c) H1) I h)
noncomputable def tAndV (ta tb : TE) : TE := fun σ H Q => ta σ H fun x H1 => ∃ c, x = .bl c ∧ if c = true then tb σ H1 Q else Q (.bl false) H1
noncomputable def tOrV (ta tb : TE) : TE := fun σ H Q => ta σ H fun x H1 => ∃ c, x = .bl c ∧ if c = true then Q (.bl true) H1 else tb σ H1 Q
noncomputable def tNotV (ta : TE) : TE := fun σ H Q => ta σ H fun x H1 => ∃ c, x = .bl c ∧ Q (.bl (!c)) H1
theorem pe_one {op} {t : TE} (h : PE X a t) : PE X (.BoolOp op [a] pos) t := ⟨fun pins s σ H Q I hw => BoolOp_one (h pins s σ H Q I hw)⟩
theorem pe_and (ha : PE X a ta) (hb : PE X (.BoolOp .And (b :: rest) pos) tb) : PE X (.BoolOp .And (a :: b :: rest) pos) (tAndV ta tb) := by
  refine ⟨?_⟩
  intro pins s σ H Q I h
  refine BoolOp_and (thn (ha pins s σ H _ I h) fun v s1 hzz => ?_)
  obtain ⟨x, H1, I1, r1, q1⟩ := hzz
  obtain ⟨c, rfl, q1⟩ := q1
  cases r1
  refine wpAny_truthy_bool ?_
  cases c with
  | true => exact hb pins s1 σ H1 Q I1 q1
  | false => exact ⟨.bl false, H1, I1, rfl, q1⟩
theorem pe_not (ha : PE X a ta) : PE X (.UnaryOp .Not a pos) (tNotV ta) := by
  refine ⟨?_⟩
  intro pins s σ H Q I h
  refine UnaryOp_ (thn (ha pins s σ H _ I h) fun v s1 hzz => ?_)
  obtain ⟨x, H1, I1, r1, q1⟩ := hzz
  obtain ⟨c, rfl, q1⟩ := q1
  cases r1
  exact not_of (wpAny_truthy_bool ⟨.bl (!c), H1, I1, rfl, q1⟩)
noncomputable def tIf (t : TT) (ta tb : TE) : TE := fun σ H Q => t σ H fun c H1 => if c = true then ta σ H1 Q else tb σ H1 Q
end
end L2

namespace L2
open PySem PySem.Spec PyProof.Rows

noncomputable def SqL (K : PySem.W.Frag) (H : Hp) (a : Addr) (xs : List V) : Prop :=
  Rd H a (.lst xs) ∨
    ∃ (o : Obj) (its : Array Value) (n : Nat), K.lookup a = some o ∧ o.cls = .type "list" ∧ o.dict = none ∧ o.data = .seq its n ∧ its.size ≤ sizeLine ∧ Vals xs its.toList
noncomputable def SqT (K : PySem.W.Frag) (H : Hp) (a : Addr) (xs : List V) : Prop :=
  Rd H a (.tup xs) ∨
    ∃ (o : Obj) (its : Array Value) (n : Nat), K.lookup a = some o ∧ o.cls = .type "tuple" ∧ o.data = .seq its n ∧ its.size ≤ sizeLine ∧ Vals xs its.toList
noncomputable def absV : Value → Option V
  | .none => some .non
  | .bool b => some (.bl b)
  | .int i _ => some (.int i)
  | .str x _ => some (.str x)
  | .bytes b _ => some (.byt b)
  | .float b _ => some (.flt b)
  | .ref a => some (.ref a)
  | .type n => some (.ty n)
  | _ => none
theorem RelV.abs {x : V} {u : Value} (r : RelV x u) : absV u = some x := by
  cases x with
  | non => cases r; rfl
  | bl _ => cases r; rfl
  | int _ => obtain ⟨t, rfl⟩ := r; rfl
  | str _ => obtain ⟨t, rfl⟩ := r; rfl
  | byt _ => obtain ⟨t, rfl⟩ := r; rfl
  | flt _ => obtain ⟨t, rfl⟩ := r; rfl
  | ref _ => cases r; rfl
  | ty _ => cases r; rfl
theorem RelV.inj {x y : V} {u : Value} (r : RelV x u) (q : RelV y u) : x = y := Option.some.inj (r.abs.symm.trans q.abs)
theorem Vals.inj : ∀ {xs ys : List V} {us : List Value}, Vals xs us → Vals ys us → xs = ys
  | _, _, _, .nil, .nil => rfl
  | _, _, _, .cons r t, .cons r' t' => by rw [r.inj r', Vals.inj t t']
section
variable {X : Cx} {pins : List (Addr × Obj)} {σ : St} {H : Hp} {s : Shared} {a : Addr} {xs ys : List V}
theorem SqL.of {K : PySem.W.Frag} (h : H a = some (.lst xs)) : SqL K H a xs := .inl (.inl h)
theorem SqT.of {K : PySem.W.Frag} (h : H a = some (.tup xs)) : SqT K H a xs := .inl (.inl h)
theorem Inv.list (I : Inv X pins σ H s) (h : SqL X.K H a xs) : ∃ its : List Value, Vals xs its ∧ PlainL s.heap a its.toArray ∧ xs.length ≤ sizeLine := by
  rcases h with h | ⟨o, its, n, hk, hc, hd, hs, hz, r⟩
  · obtain ⟨z, its, n, r, e⟩ := h.ok I.hok
    exact ⟨its, r, ⟨_, n, e, rfl, rfl, rfl⟩, z⟩
  · refine ⟨its.toList, r, ⟨o, n, I.kIn a o hk, hc, hd, by simpa using hs⟩, ?_⟩
    have e := r.length
    simp only [Array.length_toList] at e
    (first | lia | omega)
theorem Inv.tuple (I : Inv X pins σ H s) (h : SqT X.K H a xs) : ∃ its : List Value, Vals xs its ∧ IsTup s.heap a its.toArray ∧ xs.length ≤ sizeLine := by
  rcases h with h | ⟨o, its, n, hk, hc, hs, hz, r⟩
  · obtain ⟨z, its, r, p⟩ := h.ok I.hok
    exact ⟨its, r, p, z⟩
  · refine ⟨its.toList, r, ⟨o, I.kIn a o hk, hc, n, by simpa using hs⟩, ?_⟩
    have e := r.length
    simp only [Array.length_toList] at e
    (first | lia | omega)
theorem Inv.list_inj (I : Inv X pins σ H s) (h : SqL X.K H a xs) (h' : SqL X.K H a ys) : xs = ys := by
  obtain ⟨its, r, ⟨o, n, e, _, _, d⟩, _⟩ := I.list h
  obtain ⟨its', r', ⟨o', n', e', _, _, d'⟩, _⟩ := I.list h'
  rw [e] at e'; cases e'
  rw [d] at d'
  injection d' with d1 _
  have : its = its' := by simpa using congrArg Array.toList d1
  subst this
  exact r.inj r'
theorem Inv.tuple_inj (I : Inv X pins σ H s) (h : SqT X.K H a xs) (h' : SqT X.K H a ys) : xs = ys := by
  obtain ⟨its, r, ⟨o, e, _, n, d⟩, _⟩ := I.tuple h
  obtain ⟨its', r', ⟨o', e', _, n', d'⟩, _⟩ := I.tuple h'
  rw [e] at e'; cases e'
  rw [d] at d'
  injection d' with d1 _
  have : its = its' := by simpa using congrArg Array.toList d1
  subst this
  exact r.inj r'
end

noncomputable abbrev Cx.wish (X : Cx) (E : Value → Shared → Prop) : Cx := { X with xe := E }
noncomputable abbrev Cx.nox (X : Cx) : Cx := X.wish fun _ _ => False
theorem Cx.Ok.wish {X : Cx} (ok : X.Ok) (E : Value → Shared → Prop) : (X.wish E).Ok :=
  ⟨ok.mod, ok.kind, ok.glob, ok.blt, ok.above, ok.inj, ok.has, ok.cab, ok.hd, ok.frames, ok.stk, ok.exf, ok.bs, ok.bsz, ok.noex, ok.exfs, ok.funs, ok.frf⟩
theorem Cx.Ok.unwish {X : Cx} {E : Value → Shared → Prop} (ok : (X.wish E).Ok) : X.Ok :=
  ⟨ok.mod, ok.kind, ok.glob, ok.blt, ok.above, ok.inj, ok.has, ok.cab, ok.hd, ok.frames, ok.stk, ok.exf, ok.bs, ok.bsz, ok.noex, ok.exfs, ok.funs, ok.frf⟩
section
variable {X : Cx} {pins : List (Addr × Obj)} {σ : St} {H : Hp} {s : Shared} {E : Value → Shared → Prop}
theorem Inv.wish (I : Inv X pins σ H s) (E : Value → Shared → Prop) : Inv (X.wish E) pins σ H s := ⟨I.ok.wish E, I.os, I.bare, I.base, I.loc, I.cell, I.free, I.freeC, I.pin, I.hok, I.len⟩
theorem Inv.unwish (I : Inv (X.wish E) pins σ H s) : Inv X pins σ H s := ⟨I.ok.unwish, I.os, I.bare, I.base, I.loc, I.cell, I.free, I.freeC, I.pin, I.hok, I.len⟩
theorem SP.unwish {D : Ends} {f : Flow} {s' : Shared} (h : SP (X.wish E) pins D f s') : SP X pins D f s' := by
  cases f with
  | next => obtain ⟨σ', H', I, q⟩ := h; exact ⟨σ', H', I.unwish, q⟩
  | brk => obtain ⟨σ', H', I, q⟩ := h; exact ⟨σ', H', I.unwish, q⟩
  | cont => obtain ⟨σ', H', I, q⟩ := h; exact ⟨σ', H', I.unwish, q⟩
  | ret u => obtain ⟨v, σ', H', I, r, q⟩ := h; exact ⟨v, σ', H', I.unwish, r, q⟩
theorem PSs.nox {st : List Stmt} {t : TS} (h : PSs X.nox st t) : PSs X st t := ⟨fun pins s σ H D I hw =>
  wpAny_mono (h pins s σ H D (I.wish _) hw) (fun _ _ q => q.unwish) fun _ _ z => False.elim z⟩
end

section
variable {X : Cx} {st : Stmt} {rest : List Stmt} {t u : TS} {e : Expr} {te : TE} {pos : Pos}
noncomputable def tNext : TS := fun D σ H => D.nx σ H
noncomputable def tSeq (t u : TS) : TS := fun D σ H => t { D with nx := u D } σ H
theorem pss_nil : PSs X [] tNext := ⟨fun _ _ σ H _ I h => wpAny_execs_nil ⟨σ, H, I, h⟩⟩
theorem pss_cons (h1 : PS X st t) (h2 : PSs X rest u) : PSs X (st :: rest) (tSeq t u) := by
  refine ⟨?_⟩
  intro pins s σ H D I h
  refine wpAny_execs_cons (thn (h1 pins s σ H { D with nx := u D } I h) fun f s1 q => ?_)
  cases f with
  | next =>
    obtain ⟨σ', H', I', q⟩ := q
    exact h2 pins s1 σ' H' D I' q
  | ret v => exact q
  | brk => exact q
  | cont => exact q
theorem pss_one (h1 : PS X st t) : PSs X [st] t := by
  refine ⟨?_⟩
  intro pins s σ H D I h
  refine wpAny_execs_cons (thn (h1 pins s σ H D I h) fun f s1 q => ?_)
  cases f with
  | next => exact wpAny_execs_nil q
  | ret v => exact q
  | brk => exact q
  | cont => exact q
noncomputable def tBreak : TS := fun D σ H => D.bk σ H
noncomputable def tCont : TS := fun D σ H => D.ct σ H
theorem Inv.quiet {pins : List (Addr × Obj)} {σ : St} {H : Hp} {s : Shared} (I : Inv X pins σ H s) : interactive X.env = false := by simp [interactive, I.ok.kind]
noncomputable def tDrop (te : TE) : TS := fun D σ H => te σ H fun _ H1 => D.nx σ H1
theorem ps_expr (he : PE X e te) (hs : swapsWith e none pos.line X.env = pure false := by rfl) : PS X (.Expr e pos) (tDrop te) := by
  refine ⟨?_⟩
  intro pins s σ H D I h
  exact wpAny_Expr_any (thn (he pins s σ H _ I h) fun v s1 ⟨x, H1, I1, r1, q1⟩ => ⟨σ, H1, I1, q1⟩) I.quiet hs
noncomputable def tRet (te : TE) : TS := fun D σ H => te σ H D.rt
theorem ps_ret (he : PE X e te) : PS X (.Return (some e) pos) (tRet te) := by
  refine ⟨?_⟩
  intro pins s σ H D I h
  exact wpAny_Return_some (thn (he pins s σ H _ I h) fun v s1 ⟨x, H1, I1, r1, q1⟩ => ⟨x, σ, H1, I1, r1, q1⟩)
noncomputable def tRetN : TS := fun D _ H => D.rt .non H
noncomputable def tIfS (c : TT) (t u : TS) : TS := fun D σ H => c σ H fun b H1 => if b = true then t D σ H1 else u D σ H1
theorem ps_if {c : Expr} {a b : List Stmt} {tc : TT} (hc : PT X c tc) (ha : PSs X a t) (hb : PSs X b u) : PS X (.If c a b pos) (tIfS tc t u) := by
  refine ⟨?_⟩
  intro pins s σ H D I h
  refine wpAny_If (thn (hc pins s σ H _ I h) fun d s1 hzz => ?_)
  obtain ⟨H1, I1, q1⟩ := hzz
  cases d with
  | true => exact ha pins s1 σ H1 D I1 q1
  | false => exact hb pins s1 σ H1 D I1 q1
noncomputable def tNever : TS := fun _ _ _ => False
end

noncomputable abbrev TG := V → St → Hp → (St → Hp → Prop) → Prop
noncomputable abbrev TGs := List V → St → Hp → (St → Hp → Prop) → Prop
structure PG (X : Cx) (target : Expr) (t : TG)  : Prop where
  go : ∀ (pins : List (Addr × Obj)) (s : Shared) (σ : St) (H : Hp) (v : V) (u : Value) (Q : St → Hp → Prop), Inv X pins σ H s → RelV v u → t v σ H Q →
    wpAny (model X.prog X.w) X.A (assign target X.env u) (fun _ s' => ∃ σ' H', Inv X pins σ' H' s' ∧ Q σ' H') X.xe s
instance {X : Cx} {target : Expr} {t : TG} : CoeFun (PG X target t) (fun _ => ∀ (pins : List (Addr × Obj)) (s : Shared) (σ : St) (H : Hp) (v : V) (u : Value) (Q : St → Hp → Prop), Inv X pins σ H s → RelV v u → t v σ H Q →
    wpAny (model X.prog X.w) X.A (assign target X.env u) (fun _ s' => ∃ σ' H', Inv X pins σ' H' s' ∧ Q σ' H') X.xe s) := ⟨PG.go⟩
structure PGs (X : Cx) (ts : List Expr) (t : TGs)  : Prop where
  go : ∀ (pins : List (Addr × Obj)) (s : Shared) (σ : St) (H : Hp) (vs : List V) (us : List Value) (Q : St → Hp → Prop), Inv X pins σ H s → Vals vs us → t vs σ H Q →
    wpAny (model X.prog X.w) X.A (assignInOrder ((assignEach ts X.env).map (·.2)) us) (fun _ s' => ∃ σ' H', Inv X pins σ' H' s' ∧ Q σ' H') X.xe s
instance {X : Cx} {ts : List Expr} {t : TGs} : CoeFun (PGs X ts t) (fun _ => ∀ (pins : List (Addr × Obj)) (s : Shared) (σ : St) (H : Hp) (vs : List V) (us : List Value) (Q : St → Hp → Prop), Inv X pins σ H s → Vals vs us → t vs σ H Q →
    wpAny (model X.prog X.w) X.A (assignInOrder ((assignEach ts X.env).map (·.2)) us) (fun _ s' => ∃ σ' H', Inv X pins σ' H' s' ∧ Q σ' H') X.xe s) := ⟨PGs.go⟩
noncomputable abbrev TSet := V → V → V → Hp → (Hp → Prop) → Prop
noncomputable def PSet (X : Cx) (t : TSet) : Prop :=
  ∀ (pins : List (Addr × Obj)) (s : Shared) (σ : St) (H : Hp) (o i v : V) (ov iv u : Value) (Q : Hp → Prop), Inv X pins σ H s → RelV o ov → RelV i iv → RelV v u → t o i v H Q →
    wpAny (model X.prog X.w) X.A (setItem ov iv u) (fun _ s' => ∃ H', Inv X pins σ H' s' ∧ Q H') X.xe s
noncomputable abbrev TIp := V → V → Hp → VK → Prop
noncomputable def PIp (X : Cx) (op : Operator) (t : TIp) : Prop :=
  ∀ (pins : List (Addr × Obj)) (s : Shared) (σ : St) (H : Hp) (x y : V) (v u : Value) (Q : VK), Inv X pins σ H s → RelV x v → RelV y u → t x y H Q →
    wpAny (model X.prog X.w) X.A (inplaceOp op v u) (EP X pins σ Q) X.xe s
section
variable {X : Cx} {pos : Pos}
noncomputable def gName (i : Nat) : TG := fun v σ H Q => Q (σ.set i (some v)) H
theorem pg_name {i : Nat} {x : Str} (hN : X.N.Nodup) (hi : X.N[i]? = some x) (hx : Loc X.env.scope x) (hf : X.fn x = true ∨ X.env.scope.names.lookup x = some .local := by first | exact .inl rfl | exact .inr rfl | assumption) : PG X (.Name x pos) (gName i) := by
  refine ⟨?_⟩
  intro pins s σ H v u Q I r h
  exact wpAny_assign_Name (store_ok I hN hi hx r (fun s' I' => ⟨_, H, I', h⟩) hf)
noncomputable def gNil : TGs := fun vs σ H Q => vs = [] ∧ Q σ H
noncomputable def gCons (t : TG) (u : TGs) : TGs := fun vs σ H Q => ∃ v r, vs = v :: r ∧ t v σ H fun σ' H' => u r σ' H' Q
theorem pgs_nil : PGs X [] gNil := by
  refine ⟨?_⟩
  intro pins s σ H vs us Q I r h
  obtain ⟨e, h⟩ := h
  subst e
  cases r
  exact assignInOrder_nil ⟨σ, H, I, h⟩
theorem pgs_cons {e : Expr} {es : List Expr} {t : TG} {u : TGs} (h1 : PG X e t) (h2 : PGs X es u)
    (hs : (assignEach (e :: es) X.env).map (·.2) = assign e X.env :: (assignEach es X.env).map (·.2) := by rfl) : PGs X (e :: es) (gCons t u) := by
  refine ⟨?_⟩
  intro pins s σ H vs us Q I r h
  obtain ⟨v, vr, e1, h⟩ := h
  subst e1
  cases r with
  | cons r rr =>
    rw [hs]
    refine assignInOrder_cons (thn (h1 pins s σ H _ _ _ I r h) fun _ s1 hzz => ?_)
    obtain ⟨σ1, H1, I1, q1⟩ := hzz
    exact h2 pins s1 σ1 H1 _ _ Q I1 rr q1
noncomputable def gTup (K : PySem.W.Frag) (n : Nat) (t : TGs) : TG := fun v σ H Q => ∃ a xs, v = .ref a ∧ SqT K H a xs ∧ xs.length = n ∧ t xs σ H Q
theorem pg_tup {es : List Expr} {k : Nat} {t : TGs} {n : Nat} (hc : X.calm = true) (h : PGs X es t)
    (hn : (assignEach es X.env).length = n := by rfl) (hst : (assignEach es X.env).findIdx? (·.1) = none := by rfl) : PG X (.Tuple es k pos) (gTup X.K n t) := by
  refine ⟨?_⟩
  intro pins s σ H v u Q I r hw
  obtain ⟨a, xs, e1, hq, hl, hw⟩ := hw
  subst e1
  cases r
  obtain ⟨its, rv, ht, hz⟩ := I.tuple hq
  refine assign_Tuple_tuple (I.ok.hd hc) ht (by simp [hn, ← hl, rv.length]) hst fun h' hx => ?_
  have I1 : Inv X pins σ H { s with heap := h' } := I.kept (t' := s.toks) fun b o e => hx b o (Nat.ne_of_lt (Heap.lt_size e)) e
  exact h pins _ σ H xs _ Q I1 (by simpa using rv) hw
noncomputable def gSub (to ti : TE) (t : TSet) : TG := fun v σ H Q => to σ H fun o H1 => ti σ H1 fun i H2 => t o i v H2 fun H3 => Q σ H3
theorem pg_sub {o i : Expr} {to ti : TE} {t : TSet} (ho : PE X o to) (hi : PE X i ti) (hs : PSet X t)
    (ha : ∀ v, assign (.Subscript o i pos) X.env v = (do
      let ov ← holding [v] (eval o X.env)
      let iv ← holding [v, ov] (eval i X.env)
      standAt pos
      holding [v, ov, iv] (setItem ov iv v)
      release [v, ov, iv] []) := by intro _; rfl) : PG X (.Subscript o i pos) (gSub to ti t) := by
  refine ⟨?_⟩
  intro pins s σ H v u Q I r h
  rw [ha]
  refine wpAny_bind (wpAny_holding (thn (ho pins s σ H _ I h) fun ov s1 hzz => ?_))
  obtain ⟨x, H1, I1, r1, q1⟩ := hzz
  refine wpAny_bind (wpAny_holding (thn (hi pins s1 σ H1 _ I1 q1) fun iv s2 hzz => ?_))
  obtain ⟨y, H2, I2, r2, q2⟩ := hzz
  refine wpAny_bind (wpAny_standAt (wpAny_bind (wpAny_holding (thn (hs pins s2 σ H2 x y v ov iv u _ I2 r1 r2 r q2) fun _ s3 hzz => ?_))))
  obtain ⟨H3, I3, q3⟩ := hzz
  exact wpAny_release ⟨σ, H3, I3, q3⟩
noncomputable def tAsg (te : TE) (g : TG) : TS := fun D σ H => te σ H fun x H1 => g x σ H1 D.nx
theorem ps_asg {tg e : Expr} {te : TE} {g : TG} (he : PE X e te) (hg : PG X tg g) (hs : swapsWithSole [tg] e pos.line X.env = pure false := by rfl) (hw : swappedStores [tg] e X.env = pure none := by rfl)
    (h1 : (assignEach [tg] X.env).map (·.2) = [assign tg X.env] := by rfl) : PS X (.Assign [tg] e pos) (tAsg te g) := by
  refine ⟨?_⟩
  intro pins s σ H D I h
  refine wpAny_Assign_stores (thn (he pins s σ H _ I h) fun v s1 ⟨x, H1, I1, r1, q1⟩ => ?_) hs hw
  rw [h1]
  exact thn (hg pins s1 σ H1 x v _ I1 r1 q1) fun _ s2 q => q
theorem ps_set {i : Nat} {x : Str} {e : Expr} {te : TE} {pos' : Pos} (hN : X.N.Nodup) (hi : X.N[i]? = some x) (hx : Loc X.env.scope x) (he : PE X e te) (hs : swapsWith e (some (.Name x pos')) pos.line X.env = pure false := by rfl) (hf : X.fn x = true ∨ X.env.scope.names.lookup x = some .local := by first | exact .inl rfl | exact .inr rfl | assumption) :
    PS X (.Assign [.Name x pos'] e pos) (tAsg te (gName i)) := by
  refine ⟨?_⟩
  intro pins s σ H D I h
  refine wpAny_Assign_Name (thn (he pins s σ H _ I h) fun v s1 ⟨y, H1, I1, r1, q1⟩ => ?_) hs
  exact store_ok I1 hN hi hx r1 (fun s2 I2 => ⟨_, H1, I2, q1⟩) hf
noncomputable def tPar (i j : Nat) (ta : TA) : TS := fun D σ H => ta σ H fun vs H1 => ∃ v w, vs = [v, w] ∧ D.nx ((σ.set i (some v)).set j (some w)) H1
noncomputable def tAug (i : Nat) (te : TE) (ti : TIp) : TS := fun D σ H => ∃ x, σ[i]? = some (some x) ∧ te σ H fun y H1 => ti x y H1 fun z H2 => D.nx (σ.set i (some z)) H2
noncomputable def tAugS (to ti te : TE) (tget : V → V → Hp → VK → Prop) (tip : TIp) (tset : TSet) : TS := fun D σ H => to σ H fun o H1 => ti σ H1 fun i H2 => tget o i H2 fun x H3 => te σ H3 fun y H4 => tip x y H4 fun z H5 => tset o i z H5 fun H6 => D.nx σ H6
noncomputable def PGet (X : Cx) (t : V → V → Hp → VK → Prop) : Prop :=
  ∀ (pins : List (Addr × Obj)) (s : Shared) (σ : St) (H : Hp) (o i : V) (ov iv : Value) (Q : VK), Inv X pins σ H s → RelV o ov → RelV i iv → t o i H Q →
    wpAny (model X.prog X.w) X.A (getItem ov iv) (EP X pins σ Q) X.xe s
noncomputable def ipI (f : Int → Int → Int) : TIp := fun x y H Q => ∃ i j, x = .int i ∧ y = .int j ∧ Q (.int (f i j)) H
end

section
variable {X : Cx} {pos : Pos}
noncomputable def tWhile (c : TT) (tb : TS) : TS := fun D σ H => ∃ W : Nat → St → Hp → Prop, (∃ m, W m σ H) ∧ ∀ m σ H, W m σ H →
  c σ H fun b H1 => if b = true then ∃ N : St → Hp → Prop, (∀ σ' H', N σ' H' → ∃ m', m' < m ∧ W m' σ' H') ∧ tb { D with nx := N, ct := N, bk := D.nx } σ H1 else D.nx σ H1
theorem ps_while {c : Expr} {body : List Stmt} {tc : TT} {tb : TS} (hp : PassesOwn (model X.prog X.w) X.A X.env X.xe) (hc : PT X c tc) (hb : PSs X body tb) : PS X (.While c body [] pos) (tWhile tc tb) := by
  refine ⟨?_⟩
  intro pins s σ H D I h
  obtain ⟨W, ⟨m0, w0⟩, turn⟩ := h
  refine wpAny_While (codeAny_whileLoop (fun n s' => ∃ σ' H', Inv X pins σ' H' s' ∧ W n σ' H') ?_ m0 ⟨σ, H, I, w0⟩)
  rintro n s1 ⟨σ1, H1, I1, w1⟩
  refine wpAny_passesOwn hp (thn (hc pins s1 σ1 H1 _ I1 (turn n σ1 H1 w1)) fun b s2 hzz => ?_)
  obtain ⟨H2, I2, q2⟩ := hzz
  cases b with
  | true =>
    obtain ⟨N, hN, q2⟩ := q2
    rw [if_pos rfl]
    refine wpAny_passesOwn hp (thn (hb pins s2 σ1 H2 _ I2 q2) fun f s3 q3 => ?_)
    cases f with
    | next =>
      obtain ⟨σ3, H3, I3, n3⟩ := q3
      obtain ⟨m', hm, w3⟩ := hN σ3 H3 n3
      exact ⟨m', hm, σ3, H3, I3, w3⟩
    | cont =>
      obtain ⟨σ3, H3, I3, n3⟩ := q3
      obtain ⟨m', hm, w3⟩ := hN σ3 H3 n3
      exact ⟨m', hm, σ3, H3, I3, w3⟩
    | brk => exact q3
    | ret v => exact q3
  | false =>
    rw [if_neg Bool.false_ne_true]
    exact wpAny_execs_nil ⟨σ1, H2, I2, q2⟩
end

structure It where
  go : Nat → Hp → Prop
  yld : Nat → Hp → V → Hp → Prop
  stop : Nat → Hp → Prop
noncomputable def FpOk (X : Cx) (pins : List (Addr × Obj)) (H : Hp) (b : Addr) : Prop :=
  H b = none ∧ b ≠ X.env.locals ∧ b ∉ X.fs ∧ (b ∈ X.ex ∨ X.s₀.heap.objs.size ≤ b) ∧ (∀ x c, X.env.cells.lookup x = some c → c ≠ b) ∧ ∀ p ∈ X.pn ++ pins, p.1 ≠ b
theorem Inv.fpOk {X : Cx} {pins : List (Addr × Obj)} {σ : St} {H H' : Hp} {s : Shared} {b : Addr} (I : Inv X pins σ H s) (hb : s.heap.objs.size ≤ b) (hn : H' b = none) : FpOk X pins H' b := by
  refine ⟨hn, Nat.ne_of_gt (Nat.lt_of_lt_of_le I.lt hb), I.nofs hb, .inr (Nat.le_trans I.sz hb), fun x c e z => ?_, fun p hp z => ?_⟩
  · obtain ⟨v, q⟩ := I.cell x c e
    exact absurd (Nat.lt_of_lt_of_le q.lt (by rw [z]; exact hb)) (Nat.lt_irrefl _)
  · exact absurd (Nat.lt_of_lt_of_le (Heap.lt_size (I.pin p hp).1) (by rw [z]; exact hb)) (Nat.lt_irrefl _)
structure Turn (P : Program) (w : World) (K : PySem.W.Frag) (tg : Expr) (J : It) (fp : List Addr) (it : Addr) (tn : Nat → Heap → Prop) : Prop where
  mem : it ∈ fp
  obj : ∀ i h, tn i h → ∀ b ∈ fp, ∃ o, h.get? b = some o ∧ ∀ v, o.data ≠ .cell v
  keep : ∀ i h h', tn i h → (∀ b ∈ fp, ∀ o, h.get? b = some o → h'.get? b = some o) → tn i h'
  item : ∀ (X : Cx), X.prog = P → X.w = w → X.K = K → X.calm = true → ∀ (i : Nat) (pins : List (Addr × Obj)) (s : Shared) (σ : St) (H : Hp) (E : Value → Shared → Prop), Inv X pins σ H s → (∀ b ∈ fp, FpOk X pins H b) → tn i s.heap → J.go i H →
    wpAny (model P w) X.A (pyNext (.ref it)) (fun r s1 => ∃ u, r = some u ∧
      wpAny (model P w) X.A (letOwnedTupleGo tg (.ref it) u) (fun _ s2 => ∃ x H', Inv X pins σ H' s2 ∧ RelV x u ∧ J.yld i H x H' ∧ tn (i + 1) s2.heap ∧ ∀ b ∈ fp, H' b = none) E s1) E s
  done : ∀ (X : Cx), X.prog = P → X.w = w → X.K = K → X.calm = true → ∀ (i : Nat) (pins : List (Addr × Obj)) (s : Shared) (σ : St) (H : Hp) (E : Value → Shared → Prop), Inv X pins σ H s → (∀ b ∈ fp, FpOk X pins H b) → tn i s.heap → J.stop i H →
    wpAny (model P w) X.A (pyNext (.ref it)) (fun r s1 => r = none ∧ Inv X pins σ H s1) E s
  self : ∀ (A : Around) (i : Nat) (s : Shared) (Q : Value → Shared → Prop) (E : Value → Shared → Prop), tn i s.heap → Q (.ref it) s → wpAny (model P w) A (pyIter (.ref it)) Q E s
noncomputable abbrev TI := St → Hp → (It → Hp → Prop) → Prop
noncomputable def PIE (X : Cx) (pins : List (Addr × Obj)) (σ : St) (tg : Expr) (R : It → Hp → Prop) (itv : Value) (s2 : Shared) : Prop :=
  ∃ (it : Addr) (fp : List Addr) (tn : Nat → Heap → Prop) (J : It) (H' : Hp), itv = .ref it ∧ Inv X pins σ H' s2 ∧ Turn X.prog X.w X.K tg J fp it tn ∧ tn 0 s2.heap ∧ (∀ b ∈ fp, FpOk X pins H' b) ∧ R J H'
structure PI (X : Cx) (tg iter : Expr) (wi : TI)  : Prop where
  go : ∀ (pins : List (Addr × Obj)) (s : Shared) (σ : St) (H : Hp) (R : It → Hp → Prop), Inv X pins σ H s → wi σ H R →
    wpAny (model X.prog X.w) X.A (eval iter X.env) (fun v s1 => wpAny (model X.prog X.w) X.A (pyIter v) (PIE X pins σ tg R) X.xe s1) X.xe s
instance {X : Cx} {tg iter : Expr} {wi : TI} : CoeFun (PI X tg iter wi) (fun _ => ∀ (pins : List (Addr × Obj)) (s : Shared) (σ : St) (H : Hp) (R : It → Hp → Prop), Inv X pins σ H s → wi σ H R →
    wpAny (model X.prog X.w) X.A (eval iter X.env) (fun v s1 => wpAny (model X.prog X.w) X.A (pyIter v) (PIE X pins σ tg R) X.xe s1) X.xe s) := ⟨PI.go⟩

theorem go_of {M : Model} {A : Around} {E : Value → Shared → Prop} {s : Shared} {tg : Expr} {it : Addr} {u : Value} {o : Obj} {n : String} {vs : Array Value} {Q : Unit → Shared → Prop} (ho : s.heap.get? it = some o) (hc : o.cls = .type n) (hd : o.data = .fields vs)
    (hn : ["enumerate", "zip", "dict_itemiterator", "dict_reverseitemiterator", "odict_iterator", "itertools.zip_longest", "itertools.pairwise"].contains n = false) (hQ : Q () s) : wpAny M A (letOwnedTupleGo tg (.ref it) u) Q E s := by
  unfold letOwnedTupleGo
  cases tg <;> first
    | exact wpAny_pure hQ
    | (cases u <;> first
        | exact wpAny_pure hQ
        | (refine wpAny_bind (wpAny_load ho ?_)
           rw [hc, hd]
           show wpAny M A (if (["enumerate", "zip", "dict_itemiterator", "dict_reverseitemiterator", "odict_iterator", "itertools.zip_longest", "itertools.pairwise"].contains n && vs[0]? == some (rawInt _)) = true then _ else _) Q E s
           rw [if_neg (by intro h; rw [hn, Bool.false_and] at h; cases h)]
           exact wpAny_pure hQ))

noncomputable def Itl (K : PySem.W.Frag) (a : Addr) : It :=
  ⟨fun i H => ∃ xs x, SqL K H a xs ∧ xs[i]? = some x, fun i H x H' => H' = H ∧ ∀ xs, SqL K H a xs → xs[i]? = some x, fun i H => ∃ xs, SqL K H a xs ∧ xs.length ≤ i⟩
noncomputable def Itt (K : PySem.W.Frag) (a : Addr) : It :=
  ⟨fun i H => ∃ xs x, SqT K H a xs ∧ xs[i]? = some x, fun i H x H' => H' = H ∧ ∀ xs, SqT K H a xs → xs[i]? = some x, fun i H => ∃ xs, SqT K H a xs ∧ xs.length ≤ i⟩
noncomputable def Itr (lo : Int) (n : Nat) : It := ⟨fun i _ => i < n, fun i H x H' => H' = H ∧ x = .int (lo + i), fun i _ => n ≤ i⟩
theorem turn_list {P : Program} {w : World} {K : PySem.W.Frag} {tg : Expr} (a it : Addr) : Turn P w K tg (Itl K a) [it] it (fun i h => h.IsListIter it a i) where
  mem := by simp
  obj := fun i h st b hb => by
    have e : b = it := by simpa using hb
    subst e
    obtain ⟨o, e, c, d⟩ := st
    exact ⟨o, e, fun v z => by rw [d] at z; cases z⟩
  keep := fun i h h' st k => st.at fun o e => k it (by simp) o e
  item := by
    intro X hP hw hK hc i pins s σ H E I hf st hg
    subst hP hw hK
    obtain ⟨xs, x, hq, hx⟩ := hg
    obtain ⟨its, rv, p, hz⟩ := I.list hq
    obtain ⟨u, hu, ru⟩ := rv.get hx
    obtain ⟨f0, f1, f2, f3, f4, f5⟩ := hf it (by simp)
    refine wpAny_pyNext_list_item st p.isList (x := u) (by simpa using hu) fun h' st' sb => ?_
    have I1 : Inv X pins σ H { s with heap := h' } := I.turned (t' := s.toks) (fun b o hb e => (sb.2 b hb).trans e) f0 f1 f3 f4 f5
    obtain ⟨o, e, c, d⟩ := id st'
    exact ⟨u, rfl, go_of (s := { s with heap := h' }) e c d (by decide) ⟨x, H, I1, ru, ⟨rfl, fun ys hy => by rw [I.list_inj hy hq]; exact hx⟩, st', fun b hb => (hf b hb).1⟩⟩
  done := by
    intro X hP hw hK hc i pins s σ H E I hf st hg
    subst hP hw hK
    obtain ⟨xs, hq, hx⟩ := hg
    obtain ⟨its, rv, p, hz⟩ := I.list hq
    obtain ⟨f0, f1, f2, f3, f4, f5⟩ := hf it (by simp)
    have hl := rv.length
    exact wpAny_pyNext_list_end (I.ok.hd hc) st p.isList (by simp; (first | lia | omega)) fun h' eb => ⟨rfl, I.turned (t' := s.toks) (fun b o hb e => eb b o hb e) f0 f1 f3 f4 f5⟩
  self := fun _ _ _ _ _ st h => wpAny_pyIter_listiter st h
theorem turn_tuple {P : Program} {w : World} {K : PySem.W.Frag} {tg : Expr} (a it : Addr) : Turn P w K tg (Itt K a) [it] it (fun i h => h.IsTupleIter it a i) where
  mem := by simp
  obj := fun i h st b hb => by
    have e : b = it := by simpa using hb
    subst e
    obtain ⟨o, e, c, d⟩ := st
    exact ⟨o, e, fun v z => by rw [d] at z; cases z⟩
  keep := fun i h h' st k => st.at fun o e => k it (by simp) o e
  item := by
    intro X hP hw hK hc i pins s σ H E I hf st hg
    subst hP hw hK
    obtain ⟨xs, x, hq, hx⟩ := hg
    obtain ⟨its, rv, p, hz⟩ := I.tuple hq
    obtain ⟨u, hu, ru⟩ := rv.get hx
    obtain ⟨f0, f1, f2, f3, f4, f5⟩ := hf it (by simp)
    refine wpAny_pyNext_tuple_item st (show s.heap.IsTuple a its.toArray from p) (x := u) (by simpa using hu) fun h' st' sb => ?_
    have I1 : Inv X pins σ H { s with heap := h' } := I.turned (t' := s.toks) (fun b o hb e => (sb.2 b hb).trans e) f0 f1 f3 f4 f5
    obtain ⟨o, e, c, d⟩ := id st'
    exact ⟨u, rfl, go_of (s := { s with heap := h' }) e c d (by decide) ⟨x, H, I1, ru, ⟨rfl, fun ys hy => by rw [I.tuple_inj hy hq]; exact hx⟩, st', fun b hb => (hf b hb).1⟩⟩
  done := by
    intro X hP hw hK hc i pins s σ H E I hf st hg
    subst hP hw hK
    obtain ⟨xs, hq, hx⟩ := hg
    obtain ⟨its, rv, p, hz⟩ := I.tuple hq
    obtain ⟨f0, f1, f2, f3, f4, f5⟩ := hf it (by simp)
    have hl := rv.length
    exact wpAny_pyNext_tuple_end (I.ok.hd hc) st (show s.heap.IsTuple a its.toArray from p) (by simp; (first | lia | omega)) fun h' eb => ⟨rfl, I.turned (t' := s.toks) (fun b o hb e => eb b o hb e) f0 f1 f3 f4 f5⟩
  self := fun _ _ _ _ _ st h => wpAny_pyIter_tupleiter st h
theorem turn_range {P : Program} {w : World} {K : PySem.W.Frag} {tg : Expr} (it : Addr) (lo : Int) (n : Nat) : Turn P w K tg (Itr lo n) [it] it (fun i h => IsRangeIter h it (lo + (i : Nat) * 1) ((n : Int) - (i : Nat)) 1) where
  mem := by simp
  obj := fun i h st b hb => by
    have e : b = it := by simpa using hb
    subst e
    exact ⟨_, st, fun v z => by
      have z' : Data.fields _ = Data.cell v := z
      cases z'⟩
  keep := fun i h h' st k => k it (by simp) _ st
  item := by
    intro X hP hw hK hc i pins s σ H E I hf st hg
    subst hP hw hK
    obtain ⟨f0, f1, f2, f3, f4, f5⟩ := hf it (by simp)
    have W := Walks.range (prog := X.prog) (w := X.w) (I.ok.hd hc) it lo 1 n
    refine W.item i s _ _ hg st fun v h' tk hv st' kk => ?_
    obtain ⟨t, rfl⟩ := hv
    have I1 : Inv X pins σ H { s with heap := h', toks := tk } := I.turned (fun b o hb e => kk b o (by simpa using hb) e) f0 f1 f3 f4 f5
    refine ⟨_, rfl, go_of (s := { s with heap := h', toks := tk }) (n := "range_iterator") st' rfl rfl (by decide) ⟨.int (lo + i), H, I1, ⟨t, ?_⟩, ⟨rfl, rfl⟩, st', fun b hb => (hf b hb).1⟩⟩
    rw [Int.mul_one]
  done := by
    intro X hP hw hK hc i pins s σ H E I hf st hg
    subst hP hw hK
    obtain ⟨f0, f1, f2, f3, f4, f5⟩ := hf it (by simp)
    exact wpAny_pyNext_range_end (I.ok.hd hc) st (by have : n ≤ i := hg; (first | lia | omega)) fun h' eb => ⟨rfl, I.turned (t' := s.toks) (fun b o hb e => eb b o hb e) f0 f1 f3 f4 f5⟩
  self := fun _ _ _ _ _ st h => wpAny_pyIter_rangeiter st h
end L2

namespace L2
open PySem PySem.Spec PyProof.Rows
section
variable {X : Cx} {tg : Expr}
noncomputable def iList (K : PySem.W.Frag) (tl : TE) : TI := fun σ H R => tl σ H fun x H1 => ∃ a, x = .ref a ∧ (∃ xs, SqL K H1 a xs) ∧ R (Itl K a) H1
noncomputable def iTup (K : PySem.W.Frag) (tl : TE) : TI := fun σ H R => tl σ H fun x H1 => ∃ a, x = .ref a ∧ (∃ xs, SqT K H1 a xs) ∧ R (Itt K a) H1
theorem pi_list {l : Expr} {tl : TE} (hl : PE X l tl) : PI X tg l (iList X.K tl) := by
  refine ⟨?_⟩
  intro pins s σ H R I h
  refine thn (hl pins s σ H _ I h) fun v s1 hzz => ?_
  obtain ⟨x, H1, I1, r1, q1⟩ := hzz
  obtain ⟨a, e, ⟨xs, hq⟩, q⟩ := q1
  subst e
  cases r1
  obtain ⟨its, rv, p, hz⟩ := I1.list hq
  refine wpAny_pyIter_list p.isList ?_
  refine ⟨s1.heap.objs.size, [s1.heap.objs.size], _, _, H1, rfl, I1.kept (t' := s1.toks) fun b o e => Heap.get?_push_of_some _ e, turn_list a _, ⟨_, Heap.get?_push_size _ rfl, rfl, rfl⟩, fun b hb => ?_, q⟩
  have e : b = s1.heap.objs.size := by simpa using hb
  subst e
  exact I1.fpOk (Nat.le_refl _) (I1.hok.fresh (Nat.le_refl _))
theorem pi_tup {l : Expr} {tl : TE} (hl : PE X l tl) : PI X tg l (iTup X.K tl) := by
  refine ⟨?_⟩
  intro pins s σ H R I h
  refine thn (hl pins s σ H _ I h) fun v s1 hzz => ?_
  obtain ⟨x, H1, I1, r1, q1⟩ := hzz
  obtain ⟨a, e, ⟨xs, hq⟩, q⟩ := q1
  subst e
  cases r1
  obtain ⟨its, rv, p, hz⟩ := I1.tuple hq
  refine wpAny_pyIter_tuple (show s1.heap.IsTuple a its.toArray from p) ?_
  refine ⟨s1.heap.objs.size, [s1.heap.objs.size], _, _, H1, rfl, I1.kept (t' := s1.toks) fun b o e => Heap.get?_push_of_some _ e, turn_tuple a _, ⟨_, Heap.get?_push_size _ rfl, rfl, rfl⟩, fun b hb => ?_, q⟩
  have e : b = s1.heap.objs.size := by simpa using hb
  subst e
  exact I1.fpOk (Nat.le_refl _) (I1.hok.fresh (Nat.le_refl _))
theorem range_it {pins : List (Addr × Obj)} {σ : St} {H : Hp} {s : Shared} {R : It → Hp → Prop} {E : Value → Shared → Prop} {lo hi : Int} {t u v : Tok} {tk : Nat} (I : Inv X pins σ H s) (h1 : -(2 ^ 62) ≤ lo) (h2 : lo < 2 ^ 62) (h3 : -(2 ^ 62) ≤ hi) (h4 : hi < 2 ^ 62)
    (q : R (Itr lo (hi - lo).toNat) H) : wpAny (model X.prog X.w) X.A (pyIter (.ref s.heap.objs.size)) (PIE X pins σ tg R) E { s with heap := s.heap.push { cls := .type "range", data := .fields #[.int lo t, .int hi u, .int 1 v] }, toks := tk } := by
  refine wpAny_pyIter_range (IsRange.new ..) (small_one h1 h2 h3 h4) ?_
  have I1 : Inv X pins σ H { s with heap := s.heap.push { cls := .type "range", data := .fields #[.int lo t, .int hi u, .int 1 v] }, toks := tk } := I.kept fun b o e => Heap.get?_push_of_some _ e
  refine ⟨(s.heap.push { cls := .type "range", data := .fields #[.int lo t, .int hi u, .int 1 v] }).objs.size, [(s.heap.push { cls := .type "range", data := .fields #[.int lo t, .int hi u, .int 1 v] }).objs.size], _, _, H, rfl,
    I1.kept (t' := tk) fun b o e => Heap.get?_push_of_some _ e, turn_range _ lo (hi - lo).toNat, ?_, fun b hb => ?_, q⟩
  · have e1 : lo + ((0 : Nat) : Int) * 1 = lo := by simp
    have e2 : (((hi - lo).toNat : Nat) : Int) - ((0 : Nat) : Int) = Builtin.Range.rangeSize lo hi 1 := by rw [rangeSize_one]; split <;> (first | lia | omega)
    show IsRangeIter _ _ (lo + ((0 : Nat) : Int) * 1) ((((hi - lo).toNat : Nat) : Int) - ((0 : Nat) : Int)) 1
    rw [e1, e2]
    exact Heap.get?_push_size _ rfl
  · have e : b = (s.heap.push { cls := .type "range", data := .fields #[.int lo t, .int hi u, .int 1 v] }).objs.size := by simpa using hb
    subst e
    exact I1.fpOk (Nat.le_refl _) (I1.hok.fresh (Nat.le_refl _))
noncomputable def iRng1 (ta : TA) : TI := fun σ H R => ta σ H fun vs H1 => ∃ j : Int, vs = [.int j] ∧ -(2 ^ 62) ≤ j ∧ j < 2 ^ 62 ∧ R (Itr 0 j.toNat) H1
noncomputable def iRng2 (ta : TA) : TI := fun σ H R => ta σ H fun vs H1 => ∃ i j : Int, vs = [.int i, .int j] ∧ (-(2 ^ 62) ≤ i ∧ i < 2 ^ 62 ∧ -(2 ^ 62) ≤ j ∧ j < 2 ^ 62) ∧ R (Itr i (j - i).toNat) H1
theorem pi_range1 {a : Expr} {ta : TA} {p pos : Pos} (hg : Gl X "range") (hm : X.mg "range" = none) (ha : PA X [a] ta) (hs : starEach [a] X.env = [(false, eval a X.env)] := by rfl) : PI X tg (.Call (.Name "range" p) [a] [] pos) (iRng1 ta) := by
  refine ⟨?_⟩
  intro pins s σ H R I h
  refine Call_ (ld_blt I hg hm boot_range (PyProof.Rows.callWith_type1 (thn (ha pos pins s σ H _ I h) fun us s1 ⟨vs, H1, I1, r1, q1⟩ => ?_) hs rfl))
  obtain ⟨j, e, q1, q2, q⟩ := q1
  subst e
  cases r1 with
  | cons r rr =>
    cases rr
    obtain ⟨t, rfl⟩ := r
    exact call_range_1 (range_it I1 (by (first | lia | omega)) (by (first | lia | omega)) q1 q2 (by simpa using q))
noncomputable def tFor (wi : TI) (g : TG) (tb : TS) : TS := fun D σ H => wi σ H fun J H1 => ∃ W : Nat → Nat → St → Hp → Prop, (∃ m, W 0 m σ H1) ∧ ∀ i m σ H, W i m σ H →
  (J.stop i H ∧ D.nx σ H) ∨ (J.go i H ∧ ∃ N : St → Hp → Prop, (∀ σ' H', N σ' H' → ∃ m', m' < m ∧ W (i + 1) m' σ' H') ∧ ∀ x H', J.yld i H x H' → g x σ H' fun σ2 H2 => tb { D with nx := N, ct := N, bk := D.nx } σ2 H2)
noncomputable def pinsAt (fp : List Addr) (h : Heap) : List (Addr × Obj) := fp.filterMap fun b => (h.get? b).map fun o => (b, o)
theorem mem_pinsAt {fp : List Addr} {h : Heap} {b : Addr} {o : Obj} (hb : b ∈ fp) (e : h.get? b = some o) : (b, o) ∈ pinsAt fp h := List.mem_filterMap.mpr ⟨b, hb, by rw [e]; rfl⟩
theorem of_pinsAt {fp : List Addr} {h : Heap} {p : Addr × Obj} (hp : p ∈ pinsAt fp h) : p.1 ∈ fp ∧ h.get? p.1 = some p.2 := by
  obtain ⟨b, hb, e⟩ := List.mem_filterMap.mp hp
  cases q : h.get? b with
  | none => rw [q] at e; cases e
  | some o =>
    rw [q] at e
    have e' : (b, o) = p := Option.some.inj e
    subst e'
    exact ⟨hb, q⟩
theorem Inv.pinned {pins : List (Addr × Obj)} {σ : St} {H : Hp} {s : Shared} {fp : List Addr} (I : Inv X pins σ H s) (hf : ∀ b ∈ fp, FpOk X pins H b) (ho : ∀ b ∈ fp, ∃ o, s.heap.get? b = some o ∧ ∀ v, o.data ≠ .cell v) : Inv X (pins ++ pinsAt fp s.heap) σ H s :=
  I.pins_of fun p hp => (List.mem_append.mp hp).elim (fun z => I.pin p (List.mem_append_right _ z)) fun z => by
    obtain ⟨hb, e⟩ := of_pinsAt z
    obtain ⟨f0, f1, f2, _⟩ := hf p.1 hb
    obtain ⟨o, e', d⟩ := ho p.1 hb
    rw [e] at e'; cases e'
    exact ⟨e, f0, f1, f2, d⟩
theorem Inv.unpinned {pins pl : List (Addr × Obj)} {σ : St} {H : Hp} {s : Shared} (I : Inv X (pins ++ pl) σ H s) : Inv X pins σ H s := I.pins_of fun p hp => I.pin p (List.mem_append_right _ (List.mem_append_left _ hp))
theorem ps_for {iter : Expr} {body : List Stmt} {wi : TI} {g : TG} {tb : TS} {pos : Pos} (hp : PassesOwn (model X.prog X.w) X.A X.env X.xe) (hc : X.calm = true) (hi : PI X tg iter wi) (hg : PG X tg g) (hb : PSs X body tb)
    (hs : ∀ x, foldedSetIterable iter X.env x = pure x := by intro _; rfl) : PS X (.For tg iter body [] pos) (tFor wi g tb) := by
  refine ⟨?_⟩
  intro pins s σ H D I h
  refine wpAny_For (thn (hi pins s σ H _ I h) fun v s1 h1 => thn h1 fun itv s2 h2 => ?_) hs
  obtain ⟨it, fp, tn, J, H2, e, I2, T, st2, f2, W, ⟨m0, w0⟩, turn⟩ := h2
  subst e
  have stat : ∀ {H' : Hp}, (∀ b ∈ fp, H' b = none) → ∀ b ∈ fp, FpOk X pins H' b := fun hn b hb => ⟨hn b hb, (f2 b hb).2⟩
  refine codeAny_forLoop_any (fun n s' => ∃ i σ' H', Inv X pins σ' H' s' ∧ tn i s'.heap ∧ (∀ b ∈ fp, H' b = none) ∧ W i n σ' H') ?_ m0 ⟨0, σ, H2, I2, st2, fun b hb => (f2 b hb).1, w0⟩
  rintro n s3 ⟨i, σ3, H3, I3, st3, fr3, w3⟩
  rcases turn i n σ3 H3 w3 with ⟨stop, qn⟩ | ⟨go, N, hN, step⟩
  · refine wpAny_passesOwn hp (thn (T.done X rfl rfl rfl hc i pins s3 σ3 H3 X.xe I3 (stat fr3) st3 stop) fun r s4 hzz => ?_)
    obtain ⟨hr, I4⟩ := hzz
    subst hr
    exact wpAny_execs_nil ⟨σ3, H3, I4, qn⟩
  · refine wpAny_passesOwn hp (thn (T.item X rfl rfl rfl hc i pins s3 σ3 H3 X.xe I3 (stat fr3) st3 go) fun r s4 hzz => ?_)
    obtain ⟨u, hr, h4⟩ := hzz
    subst hr
    refine wpAny_passesOwn hp (thn h4 fun _ s5 hzz => ?_)
    obtain ⟨x, H5, I5, r5, y5, st5, fr5⟩ := hzz
    have I5' := I5.pinned (stat fr5) (T.obj _ _ st5)
    refine wpAny_passesOwn hp (thn (hg _ s5 σ3 H5 x u _ I5' r5 (step x H5 y5)) fun _ s6 hzz => ?_)
    obtain ⟨σ6, H6, I6, q6⟩ := hzz
    refine wpAny_passesOwn hp (thn (hb _ s6 σ6 H6 _ I6 q6) fun f s7 q7 => ?_)
    have again : ∀ {σ7 : St} {H7 : Hp}, Inv X (pins ++ pinsAt fp s5.heap) σ7 H7 s7 → N σ7 H7 → ∃ m, m < n ∧ ∃ i σ' H', Inv X pins σ' H' s7 ∧ tn i s7.heap ∧ (∀ b ∈ fp, H' b = none) ∧ W i m σ' H' := fun {σ7 H7} I7 n7 => by
      obtain ⟨m', hm, w7⟩ := hN σ7 H7 n7
      refine ⟨m', hm, i + 1, σ7, H7, I7.unpinned, T.keep _ _ _ st5 fun b hb o e => (I7.pin (b, o) (List.mem_append_right _ (List.mem_append_right _ (mem_pinsAt hb e)))).1, fun b hb => ?_, w7⟩
      obtain ⟨o, e, d⟩ := T.obj _ _ st5 b hb
      exact (I7.pin (b, o) (List.mem_append_right _ (List.mem_append_right _ (mem_pinsAt hb e)))).2.1
    cases f with
    | next => obtain ⟨σ7, H7, I7, n7⟩ := q7; exact again I7 n7
    | cont => obtain ⟨σ7, H7, I7, n7⟩ := q7; exact again I7 n7
    | brk => obtain ⟨σ7, H7, I7, q7⟩ := q7; exact ⟨σ7, H7, I7.unpinned, q7⟩
    | ret v => obtain ⟨x7, σ7, H7, I7, r7, q7⟩ := q7; exact ⟨x7, σ7, H7, I7.unpinned, r7, q7⟩
end

theorem for_list {K : PySem.W.Frag} {a : Addr} {xs : List V} {g : TG} {tb : TS} {D : Ends} {σ : St} {H : Hp} (Pv : Nat → St → Hp → Prop) (h0 : Pv 0 σ H) (hl : ∀ i σ H, i ≤ xs.length → Pv i σ H → SqL K H a xs)
    (hs : ∀ i x σ H, xs[i]? = some x → Pv i σ H → g x σ H fun σ2 H2 => tb { D with nx := Pv (i + 1), ct := Pv (i + 1), bk := D.nx } σ2 H2) (hd : ∀ σ H, Pv xs.length σ H → D.nx σ H) :
    ∃ W : Nat → Nat → St → Hp → Prop, (∃ m, W 0 m σ H) ∧ ∀ i m σ H, W i m σ H →
      ((Itl K a).stop i H ∧ D.nx σ H) ∨ ((Itl K a).go i H ∧ ∃ N : St → Hp → Prop, (∀ σ' H', N σ' H' → ∃ m', m' < m ∧ W (i + 1) m' σ' H') ∧ ∀ x H', (Itl K a).yld i H x H' → g x σ H' fun σ2 H2 => tb { D with nx := N, ct := N, bk := D.nx } σ2 H2) := by
  refine ⟨fun i m σ H => m = xs.length - i ∧ i ≤ xs.length ∧ Pv i σ H, ⟨xs.length, by simp, Nat.zero_le _, h0⟩, ?_⟩
  rintro i m σ H ⟨rfl, hi, p⟩
  have q := hl i σ H hi p
  by_cases hlt : i < xs.length
  · refine .inr ⟨⟨xs, xs[i], q, by simp [hlt]⟩, Pv (i + 1), fun σ' H' p' => ⟨xs.length - (i + 1), by (first | lia | omega), rfl, hlt, p'⟩, fun x H' y => ?_⟩
    obtain ⟨e, y⟩ := y
    subst e
    exact hs i x σ _ (y xs q) p
  · have e : i = xs.length := by (first | lia | omega)
    subst e
    exact .inl ⟨⟨xs, q, Nat.le_refl _⟩, hd σ H p⟩
theorem for_range {lo : Int} {n : Nat} {g : TG} {tb : TS} {D : Ends} {σ : St} {H : Hp} (Pv : Nat → St → Hp → Prop) (h0 : Pv 0 σ H)
    (hs : ∀ i σ H, i < n → Pv i σ H → g (.int (lo + i)) σ H fun σ2 H2 => tb { D with nx := Pv (i + 1), ct := Pv (i + 1), bk := D.nx } σ2 H2) (hd : ∀ σ H, Pv n σ H → D.nx σ H) :
    ∃ W : Nat → Nat → St → Hp → Prop, (∃ m, W 0 m σ H) ∧ ∀ i m σ H, W i m σ H →
      ((Itr lo n).stop i H ∧ D.nx σ H) ∨ ((Itr lo n).go i H ∧ ∃ N : St → Hp → Prop, (∀ σ' H', N σ' H' → ∃ m', m' < m ∧ W (i + 1) m' σ' H') ∧ ∀ x H', (Itr lo n).yld i H x H' → g x σ H' fun σ2 H2 => tb { D with nx := N, ct := N, bk := D.nx } σ2 H2) := by
  refine ⟨fun i m σ H => m = n - i ∧ i ≤ n ∧ Pv i σ H, ⟨n, by simp, Nat.zero_le _, h0⟩, ?_⟩
  rintro i m σ H ⟨rfl, hi, p⟩
  by_cases hlt : i < n
  · refine .inr ⟨hlt, Pv (i + 1), fun σ' H' p' => ⟨n - (i + 1), by (first | lia | omega), rfl, hlt, p'⟩, fun x H' y => ?_⟩
    obtain ⟨e, y⟩ := y
    subst e y
    exact hs i σ _ hlt p
  · have e : i = n := by (first | lia | omega)
    subst e
    exact .inl ⟨Nat.le_refl _, hd σ H p⟩
end L2

namespace L2
open PySem PySem.Spec PyProof.Rows

noncomputable abbrev R2 := V → V → Hp → VK → Prop
noncomputable def OpR (X : Cx) (f : Value → Value → Sem Value) (r : R2) : Prop :=
  ∀ (pins : List (Addr × Obj)) (s : Shared) (σ : St) (H : Hp) (x y : V) (v u : Value) (Q : VK), Inv X pins σ H s → RelV x v → RelV y u → r x y H Q →
    wpAny (model X.prog X.w) X.A (f v u) (EP X pins σ Q) X.xe s
noncomputable def UnR (X : Cx) (f : Value → Sem Value) (r : V → Hp → VK → Prop) : Prop :=
  ∀ (pins : List (Addr × Obj)) (s : Shared) (σ : St) (H : Hp) (x : V) (v : Value) (Q : VK), Inv X pins σ H s → RelV x v → r x H Q →
    wpAny (model X.prog X.w) X.A (f v) (EP X pins σ Q) X.xe s
noncomputable def CallR (X : Cx) (f : Value) (r : List V → Hp → VK → Prop) : Prop :=
  ∀ (pins : List (Addr × Obj)) (s : Shared) (σ : St) (H : Hp) (xs : List V) (us : List Value) (Q : VK), Inv X pins σ H s → Vals xs us → r xs H Q →
    wpAny (model X.prog X.w) X.A (call f us) (EP X pins σ Q) X.xe s
noncomputable def TruR (X : Cx) (r : V → Hp → (Bool → Hp → Prop) → Prop) : Prop :=
  ∀ (pins : List (Addr × Obj)) (s : Shared) (σ : St) (H : Hp) (x : V) (v : Value) (Q : Bool → Hp → Prop), Inv X pins σ H s → RelV x v → r x H Q →
    wpAny (model X.prog X.w) X.A (truthy v) (TP X pins σ Q) X.xe s

noncomputable def tOp (r : R2) (ta tb : TE) : TE := fun σ H Q => ta σ H fun x H1 => tb σ H1 fun y H2 => r x y H2 Q
noncomputable def tUn (r : V → Hp → VK → Prop) (ta : TE) : TE := fun σ H Q => ta σ H fun x H1 => r x H1 Q
noncomputable def rI (C : Int → Int → Prop) (g : Int → Int → V) : R2 := fun x y H Q => ∃ i j, x = .int i ∧ y = .int j ∧ C i j ∧ Q (g i j) H
noncomputable def rI0 (g : Int → Int → V) : R2 := fun x y H Q => ∃ i j, x = .int i ∧ y = .int j ∧ Q (g i j) H
noncomputable def rU (g : Int → V) : V → Hp → VK → Prop := fun x H Q => ∃ i, x = .int i ∧ Q (g i) H

section
variable {X : Cx} {a b c : Expr} {ta tb tc : TE} {pos : Pos}

theorem binT (ha : PE X a ta) (hb : PE X b tb) {pins : List (Addr × Obj)} {s : Shared} {σ : St} {H : Hp} {R : V → V → Hp → Prop} (I : Inv X pins σ H s)
    (h : ta σ H fun x H1 => tb σ H1 fun y H2 => R x y H2) {Q : Value → Shared → Prop} {f : Value → Value → Sem Value}
    (hf : ∀ v u s2 x y H2, Inv X pins σ H2 s2 → RelV x v → RelV y u → R x y H2 → wpAny (model X.prog X.w) X.A (f v u) Q X.xe s2) :
    wpAny (model X.prog X.w) X.A (eval a X.env) (fun v s₁ => wpAny (model X.prog X.w) X.A (eval b X.env) (fun u s₂ => wpAny (model X.prog X.w) X.A (f v u) Q X.xe s₂) X.xe s₁) X.xe s := by
  refine thn (ha pins s σ H _ I h) fun v s1 hzz => ?_
  obtain ⟨x, H1, I1, r1, q1⟩ := hzz
  refine thn (hb pins s1 σ H1 _ I1 q1) fun u s2 hzz => ?_
  obtain ⟨y, H2, I2, r2, q2⟩ := hzz
  exact hf v u s2 x y H2 I2 r1 r2 q2

theorem pe_op {op : Operator} {r : R2} (ho : OpR X (binaryOp op) r) (ha : PE X a ta) (hb : PE X b tb) : PE X (.BinOp a op b pos) (tOp r ta tb) := by
  refine ⟨?_⟩
  intro pins s σ H Q I h
  exact wpAny_BinOp (binT ha hb I h fun v u s2 x y H2 I2 rx ry q => ho pins s2 σ H2 x y v u Q I2 rx ry q)
theorem pe_un {op : UnaryOp} {r : V → Hp → VK → Prop} (ho : UnR X (unaryOp op) r) (ha : PE X a ta) : PE X (.UnaryOp op a pos) (tUn r ta) := by
  refine ⟨?_⟩
  intro pins s σ H Q I h
  exact UnaryOp_ (thn (ha pins s σ H _ I h) fun v s1 ⟨x, H1, I1, r1, q1⟩ => ho pins s1 σ H1 x v Q I1 r1 q1)
theorem opI {f : Value → Value → Sem Value} {C : Int → Int → Prop} {g : Int → Int → Int}
    (rule : ∀ (i j : Int) (t u : Tok) (s : Shared) (Q : Value → Shared → Prop) (E : Value → Shared → Prop), C i j → Q (.int (g i j) s.toks) { s with toks := s.toks + 1 } → wpAny (model X.prog X.w) X.A (f (.int i t) (.int j u)) Q E s) :
    OpR X f (rI C fun i j => .int (g i j)) := by
  intro pins s σ H x y v u Q I rx ry h
  obtain ⟨i, j, rfl, rfl, hc, q⟩ := h
  obtain ⟨t, rfl⟩ := rx
  obtain ⟨t', rfl⟩ := ry
  exact rule i j t t' s _ _ hc ⟨.int (g i j), H, I.tok _, ⟨_, rfl⟩, q⟩
theorem opI0 {f : Value → Value → Sem Value} {g : Int → Int → Int}
    (rule : ∀ (i j : Int) (t u : Tok) (s : Shared) (Q : Value → Shared → Prop) (E : Value → Shared → Prop), Q (.int (g i j) s.toks) { s with toks := s.toks + 1 } → wpAny (model X.prog X.w) X.A (f (.int i t) (.int j u)) Q E s) :
    OpR X f (rI0 fun i j => .int (g i j)) := by
  intro pins s σ H x y v u Q I rx ry h
  obtain ⟨i, j, rfl, rfl, q⟩ := h
  obtain ⟨t, rfl⟩ := rx
  obtain ⟨t', rfl⟩ := ry
  exact rule i j t t' s _ _ ⟨.int (g i j), H, I.tok _, ⟨_, rfl⟩, q⟩
theorem opB0 {f : Value → Value → Sem Value} {g : Int → Int → Bool}
    (rule : ∀ (i j : Int) (t u : Tok) (s : Shared) (Q : Value → Shared → Prop) (E : Value → Shared → Prop), Q (.bool (g i j)) s → wpAny (model X.prog X.w) X.A (f (.int i t) (.int j u)) Q E s) :
    OpR X f (rI0 fun i j => .bl (g i j)) := by
  intro pins s σ H x y v u Q I rx ry h
  obtain ⟨i, j, rfl, rfl, q⟩ := h
  obtain ⟨t, rfl⟩ := rx
  obtain ⟨t', rfl⟩ := ry
  exact rule i j t t' s _ _ ⟨.bl (g i j), H, I, rfl, q⟩

noncomputable def CDiv (i j : Int) : Prop := 0 < j ∧ j < 1073741824
noncomputable def CDivN (i j : Int) : Prop := j ≠ 0 ∧ j.natAbs < 1073741824
noncomputable def CPow (i j : Int) : Prop := 0 ≤ j ∧ j ≤ 1000000 ∧ i.natAbs < 2 ^ 64
noncomputable def CMul (i j : Int) : Prop := (-(2 ^ 64) < i ∧ i < 2 ^ 64) ∨ (-(2 ^ 64) < j ∧ j < 2 ^ 64)
theorem CMul.ok {i j : Int} (h : CMul i j) : IntMulOk i j := by
  rcases h with ⟨h1, h2⟩ | ⟨h1, h2⟩
  · exact .of_left (intBits_le_64 h1 h2)
  · exact .of_right (intBits_le_64 h1 h2)
theorem op_add : OpR X (binaryOp .Add) (rI0 fun i j => .int (i + j)) := opI0 fun _ _ _ _ _ _ _ q => add_int q
theorem op_sub : OpR X (binaryOp .Sub) (rI0 fun i j => .int (i - j)) := opI0 fun _ _ _ _ _ _ _ q => sub_int q
theorem op_mul : OpR X (binaryOp .Mult) (rI CMul fun i j => .int (i * j)) := opI fun _ _ _ _ _ _ _ hc q => mul_int q hc.ok
theorem op_mod : OpR X (binaryOp .Mod) (rI (fun _ j => 0 < j) fun i j => .int (i % j)) := opI fun i j _ _ _ _ _ hc q => by
  have h1 : (0 : Int) < j := hc
  exact mod_int' (by (first | lia | omega)) (by rw [Int.fmod_eq_emod_of_nonneg i (by (first | lia | omega))]; exact q)
theorem op_pow : OpR X (binaryOp .Pow) (rI CPow fun i j => .int (i ^ j.toNat)) := opI fun _ _ _ _ _ _ _ hc q => pow_int_small hc.1 hc.2.1 hc.2.2 q
theorem unI {f : Value → Sem Value} {g : Int → Int}
    (rule : ∀ (i : Int) (t : Tok) (s : Shared) (Q : Value → Shared → Prop) (E : Value → Shared → Prop), Q (.int (g i) s.toks) { s with toks := s.toks + 1 } → wpAny (model X.prog X.w) X.A (f (.int i t)) Q E s) :
    UnR X f (rU fun i => .int (g i)) := by
  intro pins s σ H x v Q I rx h
  obtain ⟨i, rfl, q⟩ := h
  obtain ⟨t, rfl⟩ := rx
  exact rule i t s _ _ ⟨.int (g i), H, I.tok _, ⟨_, rfl⟩, q⟩
theorem un_neg : UnR X (unaryOp .USub) (rU fun i => .int (-i)) := unI fun _ _ _ _ _ q => neg_int q
end

noncomputable def scal : V → V → Bool
  | .non, .non => true | .non, .int _ => true | .int _, .non => true | .non, .bl _ => true | .bl _, .non => true | .non, .str _ => true | .str _, .non => true
  | .int _, .int _ => true | .bl _, .bl _ => true | .str _, .str _ => true | .byt _, .byt _ => true
  | .int _, .str _ => true | .str _, .int _ => true | .bl _, .str _ => true | .str _, .bl _ => true
  | _, _ => false
noncomputable def rEq : R2 := fun x y H Q => scal x y = true ∧ Q (.bl (decide (x = y))) H
noncomputable def rNe : R2 := fun x y H Q => scal x y = true ∧ Q (.bl (!decide (x = y))) H

theorem dec_int {i j : Int} : decide (V.int i = V.int j) = (i == j) := by
  rw [Bool.eq_iff_iff]
  simp
  exact ⟨fun h => by injection h, fun h => by rw [h]⟩
theorem dec_bl {i j : Bool} : decide (V.bl i = V.bl j) = (i == j) := by
  rw [Bool.eq_iff_iff]
  simp
  exact ⟨fun h => by injection h, fun h => by rw [h]⟩
theorem dec_str {i j : Str} : decide (V.str i = V.str j) = (i == j) := by
  rw [Bool.eq_iff_iff]
  simp
  exact ⟨fun h => by injection h, fun h => by rw [h]⟩
theorem dec_byt {i j : Array UInt8} : decide (V.byt i = V.byt j) = (i.toList == j.toList) := by
  rw [Bool.eq_iff_iff]
  cases i
  cases j
  simp
  exact ⟨fun h => by injection h with h; injection h, fun h => by rw [h]⟩

section
variable {X : Cx} {a b c : Expr} {ta tb tc : TE} {pos : Pos}
theorem fin_bl {pins : List (Addr × Obj)} {σ : St} {H : Hp} {s : Shared} {Q : VK} {k k' : Bool} (I : Inv X pins σ H s) (q : Q (.bl k) H) (e : k = k') : EP X pins σ Q (.bool k') s := by
  subst e
  exact ⟨.bl k, H, I, rfl, q⟩
theorem op_eq : OpR X (compareOp .Eq) rEq := by
  intro pins s σ H x y v u Q I rx ry h
  obtain ⟨hs, q⟩ := h
  cases x with
  | non =>
    cases rx
    cases y with
    | non => cases ry; exact PySem.EqNone.eq_none_none (fin_bl I q (by simp))
    | bl j => cases ry; exact PySem.EqNone.eq_none_bool (fin_bl I q (by simp))
    | int j => obtain ⟨t', rfl⟩ := ry; exact PySem.EqNone.eq_none_int (fin_bl I q (by simp))
    | str j => obtain ⟨t', rfl⟩ := ry; exact PySem.EqNone.eq_none_str (fin_bl I q (by simp))
    | _ => exact absurd (show false = true from hs) Bool.false_ne_true
  | bl i =>
    cases rx
    cases y with
    | non => cases ry; exact PySem.EqNone.eq_bool_none (fin_bl I q (by simp))
    | bl j => cases ry; exact eq_bool (fin_bl I q dec_bl)
    | str j => obtain ⟨t', rfl⟩ := ry; exact PySem.EqMixed.eq_bool_str (fin_bl I q (by simp))
    | _ => exact absurd (show false = true from hs) Bool.false_ne_true
  | int i =>
    obtain ⟨t, rfl⟩ := rx
    cases y with
    | non => cases ry; exact PySem.EqNone.eq_int_none (fin_bl I q (by simp))
    | int j => obtain ⟨t', rfl⟩ := ry; exact eq_int (fin_bl I q dec_int)
    | str j => obtain ⟨t', rfl⟩ := ry; exact PySem.EqMixed.eq_int_str (fin_bl I q (by simp))
    | _ => exact absurd (show false = true from hs) Bool.false_ne_true
  | str i =>
    obtain ⟨t, rfl⟩ := rx
    cases y with
    | non => cases ry; exact PySem.EqNone.eq_str_none (fin_bl I q (by simp))
    | bl j => cases ry; exact PySem.EqMixed.eq_str_bool (fin_bl I q (by simp))
    | int j => obtain ⟨t', rfl⟩ := ry; exact PySem.EqMixed.eq_str_int (fin_bl I q (by simp))
    | str j => obtain ⟨t', rfl⟩ := ry; exact eq_str (fin_bl I q dec_str)
    | _ => exact absurd (show false = true from hs) Bool.false_ne_true
  | byt i =>
    obtain ⟨t, rfl⟩ := rx
    cases y with
    | byt j => obtain ⟨t', rfl⟩ := ry; exact PySem.W.eq_bytes (fin_bl I q dec_byt)
    | _ => exact absurd (show false = true from hs) Bool.false_ne_true
  | _ => cases y <;> exact absurd (show false = true from hs) Bool.false_ne_true
theorem op_lt : OpR X (compareOp .Lt) (rI0 fun i j => .bl (decide (i < j))) := opB0 fun _ _ _ _ _ _ _ q => lt_int q
theorem op_le : OpR X (compareOp .LtE) (rI0 fun i j => .bl (decide (i ≤ j))) := opB0 fun _ _ _ _ _ _ _ q => le_int q
theorem op_gt : OpR X (compareOp .Gt) (rI0 fun i j => .bl (decide (j < i))) := opB0 fun _ _ _ _ _ _ _ q => gt_int q
theorem op_ge : OpR X (compareOp .GtE) (rI0 fun i j => .bl (decide (j ≤ i))) := opB0 fun _ _ _ _ _ _ _ q => ge_int q
theorem op_isN : OpR X (compareOp .Is) (fun x y H Q => y = .non ∧ Q (.bl (decide (x = .non))) H) := by
  intro pins s σ H x y v u Q I rx ry h
  obtain ⟨rfl, q⟩ := h
  cases ry
  refine is_none_gen (fin_bl I q ?_)
  cases x <;> first
    | (cases rx; rfl)
    | (obtain ⟨t, rfl⟩ := rx; rfl)
theorem op_notN : OpR X (compareOp .IsNot) (fun x y H Q => y = .non ∧ Q (.bl (!decide (x = .non))) H) := by
  intro pins s σ H x y v u Q I rx ry h
  obtain ⟨rfl, q⟩ := h
  cases ry
  refine isnot_none_gen (fin_bl I q ?_)
  cases x <;> first
    | (cases rx; rfl)
    | (obtain ⟨t, rfl⟩ := rx; rfl)

noncomputable def isObj : HO → Bool
  | .lst _ => true
  | .ins _ _ _ => true
  | _ => false
theorem nomark (b : Expr) {op : CmpOp} (h : op ≠ .In := by decide) (h2 : op ≠ .NotIn := by decide) : behindInMarks op b = false := by
  have e1 : (op == CmpOp.In) = false := by cases op <;> first | rfl | exact absurd rfl h
  have e2 : (op == CmpOp.NotIn) = false := by cases op <;> first | rfl | exact absurd rfl h2
  cases b <;> simp [behindInMarks, e1, e2]
theorem pe_cmpR {op : CmpOp} {r : R2} (ho : OpR X (compareOp op) r) (ha : PE X a ta) (hb : PE X b tb) (hm : behindInMarks op b = false) : PE X (.Compare a [op] [b] pos) (tOp r ta tb) := by
  refine ⟨?_⟩
  intro pins s σ H Q I h
  exact wpAny_Compare1 (binT ha hb I h fun v u s2 x y H2 I2 rx ry q => ho pins s2 σ H2 x y v u Q I2 rx ry q) hm
noncomputable def tTest (t : TE) : TT := fun σ H Q => t σ H fun x H' => ∃ k, x = .bl k ∧ Q k H'
theorem pt_cmpR {op : CmpOp} {r : R2} (ho : OpR X (compareOp op) r) (ha : PE X a ta) (hb : PE X b tb) (hm : behindInMarks op b = false) : PT X (.Compare a [op] [b] pos) (tTest (tOp r ta tb)) := by
  refine ⟨?_⟩
  intro pins s σ H Q I h
  refine wpAny_isTrue_Compare1 (thn (ha pins s σ H _ I h) fun v s1 ⟨x, H1, I1, r1, q1⟩ => thn (hb pins s1 σ H1 _ I1 q1) fun u s2 ⟨y, H2, I2, r2, q2⟩ =>
    thn (ho pins s2 σ H2 x y v u _ I2 r1 r2 q2) fun c s3 ⟨z, H3, I3, r3, k, e, q3⟩ => ?_) hm
  subst e
  cases r3
  exact wpAny_truthy_bool ⟨H3, I3, q3⟩
noncomputable def tChain (r r' : R2) (ta tb tc : TE) : TE := fun σ H Q => ta σ H fun x H1 => tb σ H1 fun y H2 => r x y H2 fun z H3 => ∃ k, z = .bl k ∧
  (if k = true then tc σ H3 fun w' H4 => r' y w' H4 Q else Q (.bl false) H3)
theorem pt_chain {op op' : CmpOp} {r r' : R2} (ho : OpR X (compareOp op) r) (ho' : OpR X (compareOp op') r') (ha : PE X a ta) (hb : PE X b tb) (hc : PE X c tc)
    (hm : lastMarks [op, op'] [b, c] = false := by with_unfolding_all rfl) : PT X (.Compare a [op, op'] [b, c] pos) (tTest (tChain r r' ta tb tc)) := by
  refine ⟨?_⟩
  intro pins s σ H Q I h
  refine isTrue_chain (thn (ha pins s σ H _ I h) fun v s1 ⟨x, H1, I1, r1, q1⟩ => test_link (thn (hb pins s1 σ H1 _ I1 q1) fun u s2 ⟨y, H2, I2, r2, q2⟩ =>
    thn (ho pins s2 σ H2 x y v u _ I2 r1 r2 q2) fun d s3 ⟨z, H3, I3, r3, k, e, q3⟩ => ?_)) hm
  subst e
  cases r3
  refine wpAny_truthy_bool ?_
  cases k with
  | false =>
    obtain ⟨k', e', q'⟩ := q3
    cases e'
    exact ite_ff ⟨H3, I3, q'⟩
  | true =>
    refine ite_tt (test_last (thn (hc pins s3 σ H3 _ I3 q3) fun w' s4 ⟨z', H4, I4, r4, q4⟩ => thn (ho' pins s4 σ H4 y z' u w' _ I4 r2 r4 q4) fun d' s5 hzz => ?_))
    obtain ⟨z2, H5, I5, r5, k2, e2, q5⟩ := hzz
    subst e2
    cases r5
    exact wpAny_truthy_bool ⟨H5, I5, q5⟩

noncomputable def TruV (K : PySem.W.Frag) (x : V) (H : Hp) (k : Bool) : Prop :=
  match x with
  | .non => k = false
  | .bl b => k = b
  | .int i => k = (i != 0)
  | .str y => y.length ≤ sizeLine ∧ k = ((y.length : Int) != 0)
  | .byt y => y.size ≤ sizeLine ∧ k = ((y.size : Int) != 0)
  | .ref p => (∃ xs, SqL K H p xs ∧ k = !xs.isEmpty) ∨ (∃ xs, SqT K H p xs ∧ k = !xs.isEmpty) ∨ ∃ kvs, H p = some (.dK kvs) ∧ k = !kvs.isEmpty
  | _ => False
theorem isEmpty_kv {κ : Type} {kvs : List (κ × V)} {vs : List (κ × Value)} (r : KV kvs vs) : (!vs.isEmpty) = !kvs.isEmpty := by
  cases r <;> rfl
theorem isEmpty_of {xs : List V} {its : List Value} (r : Vals xs its) : (!its.toArray.isEmpty) = !xs.isEmpty := by
  cases r <;> simp
theorem line63 : (sizeLine : Nat) < 2 ^ 63 := by rw [sizeLine_eq]; decide
theorem tru_ok : TruR X (fun x H Q => ∃ k, TruV X.K x H k ∧ Q k H) := by
  intro pins s σ H x v Q I rx h
  obtain ⟨k, e, q⟩ := h
  have hl := line63
  have hs : sizeLine = 16777216 := sizeLine_eq
  cases x with
  | non =>
    cases rx
    have e' : k = false := e
    subst e'
    exact truthy_none ⟨H, I, q⟩
  | bl b =>
    cases rx
    have e' : k = b := e
    subst e'
    exact wpAny_truthy_bool ⟨H, I, q⟩
  | int i =>
    obtain ⟨t, rfl⟩ := rx
    have e' : k = (i != 0) := e
    subst e'
    exact PySem.P.truthy_int ⟨H, I, q⟩
  | str y =>
    obtain ⟨t, rfl⟩ := rx
    obtain ⟨hy, e'⟩ : y.length ≤ sizeLine ∧ k = ((y.length : Int) != 0) := e
    subst e'
    exact PySem.P.truthy_str (by (first | lia | omega)) ⟨H, I.tok _, q⟩
  | byt y =>
    obtain ⟨t, rfl⟩ := rx
    obtain ⟨hy, e'⟩ : y.size ≤ sizeLine ∧ k = ((y.size : Int) != 0) := e
    subst e'
    exact PySem.W.truthy_bytes (by (first | lia | omega)) ⟨H, I.tok _, q⟩
  | ref p =>
    cases rx
    have e' : (∃ xs, SqL X.K H p xs ∧ k = !xs.isEmpty) ∨ (∃ xs, SqT X.K H p xs ∧ k = !xs.isEmpty) ∨ ∃ kvs, H p = some (.dK kvs) ∧ k = !kvs.isEmpty := e
    rcases e' with ⟨xs, hx, e'⟩ | ⟨xs, hx, e'⟩ | ⟨kvs, hx, e'⟩
    · subst e'
      obtain ⟨its, r, pl, hz⟩ := I.list hx
      have hlen := r.length
      exact wpAny_truthy_list pl.isList (by simp only [List.size_toArray]; (first | lia | omega)) ⟨H, I.tok _, by rw [isEmpty_of r]; exact q⟩
    · subst e'
      obtain ⟨its, r, pl, hz⟩ := I.tuple hx
      have hlen := r.length
      exact truthy_tuple pl (by simp only [List.size_toArray]; (first | lia | omega)) ⟨H, I.tok _, by rw [isEmpty_of r]; exact q⟩
    · subst e'
      obtain ⟨hz, hS, vs, r, m⟩ : kvs.length ≤ sizeLine ∧ (p == sysModules) = false ∧ ∃ vs, KV kvs vs ∧ s.heap.DictOf (mixKind X.prog X.w) p vs := I.hok p _ hx
      have hlen : kvs.length = vs.length := Paired.length r
      exact wpAny_truthy_dict hS m (by (first | lia | omega)) ⟨H, I.tok _, by rw [isEmpty_kv r]; exact q⟩
  | _ => exact (show False from e).elim
theorem pt_truth (ha : PE X a ta) (he : ∀ whole, isTrue a X.env whole = (do let v ← whole; standAt a.pos; holding [v] (truthy v))) :
    PT X a (fun σ H Q => ta σ H fun x H' => ∃ k, TruV X.K x H' k ∧ Q k H') := by
  refine ⟨?_⟩
  intro pins s σ H Q I h
  exact isTrue_plain (thn (ha pins s σ H _ I h) fun v s1 ⟨x, H1, I1, r1, q1⟩ => tru_ok pins s1 σ H1 x v Q I1 r1 q1) (he _)

noncomputable def PlainIxT (b : Expr) : Prop := ∀ o i, subscripted b false o i = operate [o, i] (getItem o i)
theorem vals1 {x : V} {us : List Value} (r : Vals [x] us) : ∃ u, us = [u] ∧ RelV x u := by
  cases r with
  | cons r1 r2 => cases r2; exact ⟨_, rfl, r1⟩
theorem vals2 {x y : V} {us : List Value} (r : Vals [x, y] us) : ∃ u w', us = [u, w'] ∧ RelV x u ∧ RelV y w' := by
  cases r with
  | cons r1 r2 =>
    cases r2 with
    | cons r3 r4 => cases r4; exact ⟨_, _, rfl, r1, r3⟩
theorem call_abs : CallR X (.builtin "abs") (fun xs H Q => ∃ i, xs = [.int i] ∧ Q (.int (if i < 0 then -i else i)) H) := by
  intro pins s σ H xs us Q I r h
  obtain ⟨i, rfl, q⟩ := h
  obtain ⟨u, rfl, t, rfl⟩ := vals1 r
  exact call_abs_int fun u tk => ⟨.int (if i < 0 then -i else i), H, I.tok _, ⟨_, rfl⟩, q⟩
theorem call_max2 (hc : X.calm = true) : CallR X (.builtin "max") (fun xs H Q => ∃ i j, xs = [.int i, .int j] ∧ Q (.int (if j > i then j else i)) H) := by
  intro pins s σ H xs us Q I r h
  obtain ⟨i, j, rfl, q⟩ := h
  obtain ⟨u, w', rfl, ⟨t, rfl⟩, ⟨t', rfl⟩⟩ := vals2 r
  refine max_two_ints (I.ok.hd hc) fun h' tk k => ⟨_, H, I.kept k, ?_, q⟩
  by_cases hj : j > i
  · rw [if_pos hj, if_pos hj]; exact ⟨_, rfl⟩
  · rw [if_neg hj, if_neg hj]; exact ⟨_, rfl⟩
theorem call_int1 : CallR X (.type "int") (fun xs H Q => (∃ i, xs = [.int i] ∧ Q (.int i) H) ∨ ∃ k, xs = [.bl k] ∧ Q (.int (if k then 1 else 0)) H) := by
  intro pins s σ H xs us Q I r h
  rcases h with ⟨i, rfl, q⟩ | ⟨k, rfl, q⟩
  · obtain ⟨u, rfl, t, rfl⟩ := vals1 r
    exact call_int_int ⟨.int i, H, I, ⟨_, rfl⟩, q⟩
  · obtain ⟨u, rfl, r1⟩ := vals1 r
    cases r1
    exact call_int_bool ⟨.int (if k then 1 else 0), H, I.tok _, ⟨_, rfl⟩, q⟩
noncomputable def LenV (K : PySem.W.Frag) (x : V) (H : Hp) (n : Nat) : Prop :=
  match x with
  | .str y => y.length ≤ sizeLine ∧ n = y.length
  | .byt y => y.size ≤ sizeLine ∧ n = y.size
  | .ref p => (∃ xs, SqL K H p xs ∧ n = xs.length) ∨ ∃ xs, SqT K H p xs ∧ n = xs.length
  | _ => False
end
end L2

namespace L2
open PySem PySem.Spec PyProof.Rows

structure ObjM (h : Heap) (x dx C : Addr) (mA : Str → Option Value) : Prop where
  obj : h.get? x = some (PySem.W.instObj C dx)
  ns : h.Ns1 dx mA
  ne : dx ≠ x

theorem lookIn_ns {h : Heap} {dx : Addr} {mA : Str → Option Value} (n : h.Ns1 dx mA) : ∃ od, h.get? dx = some od ∧ ∀ name, PySem.W.lookIn name od = some (mA name) := by
  obtain ⟨o, es, ep, ho, hd, hk, _, hm⟩ := n
  refine ⟨o, ho, fun name => ?_⟩
  have e := hm name
  unfold nsFind findBy at e
  rw [← Array.find?_toList] at e
  unfold PySem.W.lookIn
  rw [hd]
  dsimp only
  split
  · rename_i y q
    rw [q] at e
    exact congrArg some e
  · rename_i q
    rw [q] at e
    have a : es.toList.any (·.refKey) = false := by
      rw [List.any_eq_false]
      intro y hy
      obtain ⟨z, t, hkey⟩ := hk y (Array.mem_toList_iff.mp hy)
      simp [DictEntry.refKey, hkey]
    have a' : ¬ es.toList.any (·.refKey) = true := by rw [a]; exact Bool.false_ne_true
    rw [if_neg a']
    exact congrArg some e

theorem ObjM.look {h : Heap} {x dx C : Addr} {mA : Str → Option Value} (I : ObjM h x dx C mA) : ∃ od, PySem.W.InstAt h x (PySem.W.instObj C dx) C (some od) ∧ ∀ name, PySem.W.lookIn name od = some (mA name) :=
  let ⟨od, ho, hl⟩ := lookIn_ns I.ns
  ⟨od, ⟨I.obj, rfl, rfl, ho⟩, hl⟩

section
variable {prog : Program} {w : World} {A : Around} {E : Value → Shared → Prop} {s : Shared} {K : PySem.W.Frag} {x dx C f : Addr} {mA : Str → Option Value} {name : Str} {v : Value}

theorem get_map {expr : Bool} {Q : Value → Shared → Prop} (X : K.In s.heap) (I : ObjM s.heap x dx C mA) (hg : PySem.W.plainGet K C name = true) (hh : PySem.W.hasDictIn K C = true)
    (ha : PySem.W.findIn K (.ref C) name = some none) (hv : mA name = some v) (hv' : PySem.W.handedIn v = true) (h : Q v { s with toks := s.toks + 1 }) :
    wpAny (model prog w) A (getAttr (.ref x) name expr) Q E s := by
  obtain ⟨od, J, hl⟩ := I.look
  exact PySem.W.get_value X J (PySem.W.plainGet_of hg).1 (PySem.W.findObj_own hh ha rfl (by rw [hl, hv])) hv' h

theorem get_meth {pl : Sem Bool} {Q : Value × List Value → Shared → Prop} (X : K.In s.heap) (I : ObjM s.heap x dx C mA) (hg : PySem.W.plainGet K C name = true)
    (hf : PySem.W.findIn K (.ref C) name = some (some (.ref f))) (ht : PySem.W.isFn K (.ref f) = true) (hv : mA name = none) (h : Q (.ref f, [.ref x]) s) :
    wpAny (model prog w) A (getMethod (.ref x) name pl) Q E s := by
  obtain ⟨od, J, hl⟩ := I.look
  exact PySem.W.method_fn X J (PySem.W.plainGet_of hg).1 (PySem.W.plainGet_of hg).2 hf (beq_iff_eq.mp ht) (by show (PySem.W.lookIn name od).map (·.isSome) = some false; rw [hl, hv]; rfl) h

theorem set_map {ns : List Str} {Q : Unit → Shared → Prop} (X : K.In s.heap) (I : ObjM s.heap x dx C mA)
    (hs : PySem.W.findIn K (.ref C) "__setattr__" = some (some (.builtin "object.__setattr__"))) (hp : PySem.W.plainOver K C = true) (ht : PySem.W.takerIn K C name = some none) (hh : PySem.W.hasDictIn K C = true)
    (hw : PySem.Within mA ns) (hsz : ns.length ≤ sizeLine)
    (h : ∀ h', ObjM h' x dx C (fun y => if y = name then some v else mA y) → Heap.SameBut dx s.heap h' → Q () { s with heap := h', toks := s.toks + 2 }) :
    wpAny (model prog w) A (setAttr (.ref x) name v) Q E s := by
  obtain ⟨od, J, hl⟩ := I.look
  refine PySem.W.set_plain X J hs (PySem.W.osa_open (s := { s with toks := s.toks + 1 }) (r := none) X J hp ht fun b => ?_)
  obtain ⟨cd, hc, hd'⟩ := PySem.W.any_some hh
  have hx : s.heap.get? x = some ⟨.ref C, some dx, .plain, #[]⟩ := I.obj
  refine wpAny_bind (wpAny_pure (wpAny_bind (wpAny_bind (wpAny_loadPart hx (wpAny_bind (PySem.W.Looks.here (s := { s with toks := s.toks + 1 }) (PySem.W.looks_clsIn X hc) ?_))))))
  rw [hd']
  refine wpAny_pure (a := some dx) (wpAny_bind (wpAny_pure (wpAny_bind ?_)))
  refine wpAny_nsSet1 (s := { s with toks := s.toks + 1 }) I.ns fun h' hn2 hs2 => ?_
  obtain ⟨oD, esD, epD, hoD, hdD, hcD⟩ := hn2.count (PySem.Within.cons name v hw)
  refine wpAny_bind (wpAny_lookBehind hoD (by rw [hdD]; exact pastItsLine_dict (Nat.le_trans hcD (by rw [List.length_cons]; (first | lia | omega)))) ?_)
  exact wpAny_pure (h _ ⟨(hs2.2 _ (Ne.symm I.ne)).trans I.obj, hn2, I.ne⟩ hs2)

theorem make_map {R : Result → Shared → Prop} {vs : List Value} {kw : List (Str × Value)} (X : K.In s.heap) (hm : PySem.W.makesIn K C = true)
    (hi : PySem.W.findIn K (.ref C) "__init__" = some (some (.ref f))) (hf : PySem.W.typeIn K (.ref f) = some (.type "function"))
    (h : codeAny (model prog w) (A.under (.builtin "type.__call__" ⟨.ref C :: vs, kw⟩)) (.call (.ref f) ⟨.ref (s.heap.objs.size + 1) :: vs, kw⟩) (PySem.W.InitBack (s.heap.objs.size + 1) R)
      { s with heap := (s.heap.push PySem.W.emptyDict).push (PySem.W.instObj C s.heap.objs.size) }) :
    codeAny (model prog w) A (.call (.ref C) ⟨vs, kw⟩) R s := by
  obtain ⟨hh, g, d, t, os⟩ := s
  exact PySem.W.make_core (PySem.W.makes_of X hm) (PySem.W.looks_findIn X hi) (fun self => PySem.W.bind_fn X self hf) (.inl rfl) h
end

noncomputable def putF (f : Str) (v : V) : List (Str × V) → List (Str × V)
  | [] => [(f, v)]
  | (g, x) :: r => if g = f then (g, v) :: r else (g, x) :: putF f v r
theorem lookup_putF (f g : Str) (v : V) : ∀ fs : List (Str × V), (putF f v fs).lookup g = if g = f then some v else fs.lookup g
  | [] => by
    show List.lookup g [(f, v)] = _
    by_cases h : g = f
    · have hb : (g == f) = true := beq_iff_eq.mpr h
      simp only [List.lookup, hb, if_pos h]
    · have hb : (g == f) = false := beq_eq_false_iff_ne.mpr h
      simp only [List.lookup, hb, if_neg h]
  | (k, x) :: r => by
    have ih := lookup_putF f g v r
    rw [show putF f v ((k, x) :: r) = (if k = f then (k, v) :: r else (k, x) :: putF f v r) from rfl]
    by_cases hk : k = f
    · rw [if_pos hk]
      by_cases h : g = k
      · have hb : (g == k) = true := beq_iff_eq.mpr h
        simp only [List.lookup, hb, if_pos (h.trans hk)]
      · have hb : (g == k) = false := beq_eq_false_iff_ne.mpr h
        simp only [List.lookup, hb, if_neg (fun e : g = f => h (e.trans hk.symm))]
    · rw [if_neg hk]
      by_cases h : g = k
      · have hb : (g == k) = true := beq_iff_eq.mpr h
        simp only [List.lookup, hb, if_neg (fun e : g = f => hk (h.symm.trans e))]
      · have hb : (g == k) = false := beq_eq_false_iff_ne.mpr h
        simp only [List.lookup, hb]
        exact ih
theorem keys_putF (f : Str) (v : V) : ∀ fs : List (Str × V), f ∈ (putF f v fs).map (·.1) ∧ ∀ g, g ∈ fs.map (·.1) → g ∈ (putF f v fs).map (·.1)
  | [] => ⟨by simp [putF], fun g h => by simp at h⟩
  | (k, x) :: r => by
    obtain ⟨i1, i2⟩ := keys_putF f v r
    rw [show putF f v ((k, x) :: r) = (if k = f then (k, v) :: r else (k, x) :: putF f v r) from rfl]
    by_cases hk : k = f
    · rw [if_pos hk]
      subst hk
      exact ⟨by simp, fun g h => by simpa using h⟩
    · rw [if_neg hk]
      refine ⟨?_, fun g h => ?_⟩
      · rw [List.map_cons]
        exact List.mem_cons_of_mem _ i1
      · rw [List.map_cons] at h ⊢
        rcases List.mem_cons.mp h with e | e
        · exact List.mem_cons.mpr (.inl e)
        · exact List.mem_cons_of_mem _ (i2 g e)
theorem length_putF (f : Str) (v : V) : ∀ fs : List (Str × V), (putF f v fs).length ≤ fs.length + 1
  | [] => by simp [putF]
  | (k, x) :: r => by
    have ih := length_putF f v r
    rw [show putF f v ((k, x) :: r) = (if k = f then (k, v) :: r else (k, x) :: putF f v r) from rfl]
    by_cases hk : k = f
    · rw [if_pos hk, List.length_cons, List.length_cons]; (first | lia | omega)
    · rw [if_neg hk, List.length_cons, List.length_cons]; (first | lia | omega)

theorem RelO.some_of {v : V} {o : Option Value} (r : RelO (some v) o) : ∃ u, o = some u ∧ RelV v u := by
  cases o with
  | none => exact (show False from r).elim
  | some u => exact ⟨u, rfl, r⟩
theorem RelO.none_of {o : Option Value} (r : RelO none o) : o = none := by
  cases o with
  | none => rfl
  | some u => exact (show False from r).elim
theorem handed_of {v : V} {u : Value} (r : RelV v u) : PySem.W.handedIn u = true := by
  cases v with
  | non => cases (show u = Value.none from r); rfl
  | bl b => cases (show u = Value.bool b from r); rfl
  | int i => obtain ⟨t, e⟩ := (show ∃ t, u = Value.int i t from r); cases e; rfl
  | str x => obtain ⟨t, e⟩ := (show ∃ t, u = Value.str x t from r); cases e; rfl
  | byt b => obtain ⟨t, e⟩ := (show ∃ t, u = Value.bytes b t from r); cases e; rfl
  | flt b => obtain ⟨t, e⟩ := (show ∃ t, u = Value.float b t from r); cases e; rfl
  | ref a => cases (show u = Value.ref a from r); rfl
  | ty n => cases (show u = Value.type n from r); rfl

section
variable {P : Program} {w : World} {H H' : Hp} {h h' : Heap} {a C dx : Addr} {fs fs' : List (Str × V)}
theorem ins_get (hok : HOk P w H h) (e : H a = some (.ins C dx fs)) : ∃ mA, ObjM h a dx C mA ∧ (∀ f, RelO (fs.lookup f) (mA f)) ∧ PySem.Within mA (fs.map (·.1)) ∧ fs.length ≤ 1000 ∧ H dx = some (.own a) := by
  obtain ⟨d, z, ne, ob, mA, n, r, q⟩ := (show ObjOk P w H h a (.ins C dx fs) from hok a _ e)
  exact ⟨mA, ⟨ob, n, ne⟩, r, q, z, d⟩
end

structure Cls (K : PySem.W.Frag) (C : Addr) : Prop where
  pg : PySem.W.plainGet K C Str.empty = true
  hd : PySem.W.hasDictIn K C = true
  po : PySem.W.plainOver K C = true
  sa : PySem.W.findIn K (.ref C) "__setattr__" = some (some (.builtin "object.__setattr__"))
theorem Cls.get {K : PySem.W.Frag} {C : Addr} (c : Cls K C) (f : Str) : PySem.W.plainGet K C f = true := c.pg
noncomputable def NoAttr (K : PySem.W.Frag) (C : Addr) (f : Str) : Prop := PySem.W.findIn K (.ref C) f = some none
theorem NoAttr.taker {K : PySem.W.Frag} {C : Addr} {f : Str} (n : NoAttr K C f) : PySem.W.takerIn K C f = some none := by
  unfold PySem.W.takerIn
  rw [show PySem.W.findIn K (.ref C) f = some none from n]
  rfl
structure Con (K : PySem.W.Frag) (C : Addr) (f : Str) (v : V) (u : Value) : Prop where
  at_ : PySem.W.findIn K (.ref C) f = some (some u)
  rel : RelV v u
  get : PySem.W.specialIn K u "__get__" = some none
  cp : PySem.W.copiedNames.contains f = false
structure Meth (K : PySem.W.Frag) (C : Addr) (m : Str) (f : Addr) : Prop where
  at_ : PySem.W.findIn K (.ref C) m = some (some (.ref f))
  fn : PySem.W.isFn K (.ref f) = true
  kp : PySem.W.keepIn K (.ref f) = true

section
variable {X : Cx} {pins : List (Addr × Obj)} {σ : St} {H : Hp} {s : Shared} {a C dx : Addr} {fs : List (Str × V)} {f : Str} {v : V} {A : Around} {E : Value → Shared → Prop}

theorem getattr_ok {b : Bool} {Q : Value → Shared → Prop} (I : Inv X pins σ H s) (e : H a = some (.ins C dx fs)) (c : Cls X.K C) (n : NoAttr X.K C f) (l : fs.lookup f = some v)
    (h : ∀ u s', Inv X pins σ H s' → RelV v u → Q u s') : wpAny (model X.prog X.w) A (getAttr (.ref a) f b) Q E s := by
  obtain ⟨mA, O, r, _, _, _⟩ := ins_get I.hok e
  obtain ⟨u, hu, ru⟩ := RelO.some_of (v := v) (o := mA f) (by rw [← l]; exact r f)
  exact get_map I.kIn O (c.get f) c.hd n hu (handed_of ru) (h u _ (I.tok _) ru)

theorem getmeth_ok {m : Str} {g : Addr} {pl : Sem Bool} {Q : Value × List Value → Shared → Prop} (I : Inv X pins σ H s) (e : H a = some (.ins C dx fs)) (c : Cls X.K C) (k : Meth X.K C m g) (l : fs.lookup m = none)
    (h : Q (.ref g, [.ref a]) s) : wpAny (model X.prog X.w) A (getMethod (.ref a) m pl) Q E s := by
  obtain ⟨mA, O, r, _, _, _⟩ := ins_get I.hok e
  have hn : mA m = none := RelO.none_of (by rw [← l]; exact r m)
  exact get_meth I.kIn O (c.get m) k.at_ k.fn hn h

theorem setattr_ok {y : V} {u : Value} {Q : Unit → Shared → Prop} (I : Inv X pins σ H s) (e : H a = some (.ins C dx fs)) (c : Cls X.K C) (n : NoAttr X.K C f) (hl : fs.length < 1000) (ry : RelV y u)
    (h : ∀ s', Inv X pins σ (upd H a (.ins C dx (putF f y fs))) s' → Q () s') : wpAny (model X.prog X.w) A (setAttr (.ref a) f u) Q E s := by
  obtain ⟨mA, O, r, wi, _, ho⟩ := ins_get I.hok e
  have hz : (fs.map (·.1)).length ≤ sizeLine := by rw [List.length_map, sizeLine_eq]; (first | lia | omega)
  refine set_map I.kIn O c.sa c.po n.taker c.hd wi hz fun h' O' sb => h _ ?_
  have hd : ∃ o, h'.get? dx = some o := let ⟨o, _, _, e', _⟩ := O'.ns; ⟨o, e'⟩
  refine I.write (x := a) (e := dx) (by rw [e]; exact True.intro) (.inr ho) (fun b q hb z => (sb.2 b hb).trans z) hd ?_
  refine ⟨by rw [upd_ne O.ne]; exact ho, ?_, O.ne, O'.obj, _, O'.ns, fun g => ?_, fun g hg => ?_⟩
  · have := length_putF f y fs; (first | lia | omega)
  · show RelO ((putF f y fs).lookup g) (if g = f then some u else mA g)
    rw [lookup_putF]
    by_cases q : g = f
    · rw [if_pos q, if_pos q]; exact ry
    · rw [if_neg q, if_neg q]; exact r g
  · by_cases q : g = f
    · rw [q]; exact (keys_putF f y fs).1
    · refine (keys_putF f y fs).2 g (wi g fun z => hg ?_)
      show (if g = f then some u else mA g) = none
      rw [if_neg q]; exact z

theorem Inv.made (I : Inv X pins σ H s) : Inv X pins σ (upd (upd H s.heap.objs.size (.own (s.heap.objs.size + 1))) (s.heap.objs.size + 1) (.ins C s.heap.objs.size []))
    { s with heap := (s.heap.push PySem.W.emptyDict).push (PySem.W.instObj C s.heap.objs.size) } := by
  have e1 : (s.heap.push PySem.W.emptyDict).get? s.heap.objs.size = some PySem.W.emptyDict := Heap.get?_push_size s.heap rfl
  have e2 : ((s.heap.push PySem.W.emptyDict).push (PySem.W.instObj C s.heap.objs.size)).get? (s.heap.objs.size + 1) = some (PySem.W.instObj C s.heap.objs.size) := by
    have := Heap.get?_push_size (s.heap.push PySem.W.emptyDict) (o := PySem.W.instObj C s.heap.objs.size) rfl
    rwa [Heap.size_push] at this
  have e3 : (s.heap.push PySem.W.emptyDict).Ns s.heap.objs.size (fun _ => none) := ⟨PySem.W.emptyDict, #[], _, e1, rfl, (fun e he => absurd he (by simp)), fun _ => rfl⟩
  have I1 := I.laid (a := s.heap.objs.size) (o := .own (s.heap.objs.size + 1)) (h' := s.heap.push PySem.W.emptyDict) (t' := s.toks) (fun b u q => Heap.get?_push_of_some _ q) (Nat.le_refl _) ⟨_, e1⟩
  refine I1.laid (a := s.heap.objs.size + 1) (o := .ins C s.heap.objs.size []) (t' := s.toks) (fun b u q => Heap.get?_push_of_some _ q) (Nat.le_of_eq (Heap.size_push _ _)) ?_
  have ne : s.heap.objs.size ≠ s.heap.objs.size + 1 := Nat.ne_of_lt (Nat.lt_succ_self _)
  refine ⟨by rw [upd_ne ne, upd_same], Nat.zero_le _, ne, e2, fun _ => none, (Heap.Ns1.of_empty e3).at fun o q => Heap.get?_push_of_some _ q, fun _ => True.intro, fun y hy => absurd rfl hy⟩

theorem attr_of {prog : Program} {w : World} {env : Env} {e : Expr} {f : Str} {pos : Pos} {s : Shared} {Q : Value → Shared → Prop} (hb : attributeBase e f env (eval e env) = eval e env)
    (h : wpAny (model prog w) A (eval e env) (fun o s₁ => wpAny (model prog w) A (getAttr o f true) Q E s₁) E s) : wpAny (model prog w) A (eval (.Attribute e f pos) env) Q E s :=
  Attribute_any_ h (by rw [arm_eval_Attribute, hb])
end

noncomputable def tFld (K : PySem.W.Frag) (ta : TE) (f : Str) : TE := fun σ H Q => ta σ H fun x H1 => ∃ a C dx fs v, x = .ref a ∧ H1 a = some (.ins C dx fs) ∧ Cls K C ∧ NoAttr K C f ∧ fs.lookup f = some v ∧ Q v H1
noncomputable def tCon (K : PySem.W.Frag) (ta : TE) (f : Str) : TE := fun σ H Q => ta σ H fun x H1 => ∃ a C dx fs v u, x = .ref a ∧ H1 a = some (.ins C dx fs) ∧ Cls K C ∧ Con K C f v u ∧ fs.lookup f = none ∧ Q v H1
noncomputable def sFld (K : PySem.W.Frag) (ta tv : TE) (f : Str) : TS := fun D σ H => tv σ H fun y H1 => ta σ H1 fun x H2 => ∃ a C dx fs, x = .ref a ∧ H2 a = some (.ins C dx fs) ∧ Cls K C ∧ NoAttr K C f ∧ fs.length < 1000 ∧
  D.nx σ (upd H2 a (.ins C dx (putF f y fs)))
noncomputable def InOp (X : Cx) (op : Operator) (rd : V → V → Hp → VK → Prop) : Prop :=
  ∀ (pins : List (Addr × Obj)) (s : Shared) (σ : St) (H : Hp) (x y : V) (u v : Value) (Q : VK), Inv X pins σ H s → RelV x u → RelV y v → rd x y H Q → wpAny (model X.prog X.w) X.A (inplaceOp op u v) (EP X pins σ Q) X.xe s
noncomputable def sFldAug (K : PySem.W.Frag) (ta tv : TE) (rd : V → V → Hp → VK → Prop) (f : Str) : TS := fun D σ H => ta σ H fun x H1 => ∃ a C dx fs v, x = .ref a ∧ H1 a = some (.ins C dx fs) ∧ Cls K C ∧ NoAttr K C f ∧ fs.lookup f = some v ∧
  tv σ H1 fun y H2 => rd v y H2 fun z H3 => ∃ dx' fs', H3 a = some (.ins C dx' fs') ∧ fs'.length < 1000 ∧ D.nx σ (upd H3 a (.ins C dx' (putF f z fs')))

section
variable {X : Cx} {o e value : Expr} {f : Str} {pos pos' tpos : Pos} {ta tv : TE}
theorem pe_fld (he : PE X e ta) (hb : attributeBase e f X.env (eval e X.env) = eval e X.env) : PE X (.Attribute e f pos) (tFld X.K ta f) := by
  refine ⟨?_⟩
  intro pins s σ H Q I h
  refine attr_of hb (thn (he pins s σ H _ I h) fun u s1 hzz => ?_)
  obtain ⟨x, H1, I1, rx, a, C, dx, fs, v, ex, ea, c, n, l, q⟩ := hzz
  subst ex
  obtain rfl : u = Value.ref a := rx
  exact getattr_ok I1 ea c n l fun u' s2 I2 ru => ⟨v, H1, I2, ru, q⟩
theorem ps_fld (ha : PE X o ta) (hv : PE X value tv) (hs : swapsWith value (some (.Attribute o f pos')) pos.line X.env = pure false) : PS X (.Assign [.Attribute o f pos'] value pos) (sFld X.K ta tv f) := by
  refine ⟨?_⟩
  intro pins s σ H D I h
  refine plainObj_wpAny_Assign_Attribute (thn (hv pins s σ H _ I h) fun u s1 ⟨y, H1, I1, ry, q⟩ => thn (ha pins s1 σ H1 _ I1 q) fun ov s2 ⟨x, H2, I2, rx, a, C, dx, fs, ex, ea, c, n, l, q2⟩ => ?_) hs
  subst ex
  obtain rfl : ov = Value.ref a := rx
  exact setattr_ok I2 ea c n l ry fun s3 I3 => ⟨σ, _, I3, q2⟩
theorem ps_fldaug {op : Operator} {rd : V → V → Hp → VK → Prop} (ha : PE X o ta) (hv : PE X value tv) (hop : InOp X op rd) : PS X (.AugAssign (.Attribute o f tpos) op value pos) (sFldAug X.K ta tv rd f) := by
  refine ⟨?_⟩
  intro pins s σ H D I h
  refine wpAny_AugAssign_AttributeAny (thn (ha pins s σ H _ I h) fun ov s1 hzz => ?_)
  obtain ⟨x, H1, I1, rx, a, C, dx, fs, v, ex, ea, c, n, l, q⟩ := hzz
  subst ex
  obtain rfl : ov = Value.ref a := rx
  refine getattr_ok I1 ea c n l fun u s2 I2 ru => thn (hv pins s2 σ H1 _ I2 q) fun w3 s3 ⟨y, H2, I3, ry, q3⟩ => thn (hop pins s3 σ H2 v y u w3 _ I3 ru ry q3) fun w4 s4 hzz => ?_
  obtain ⟨z, H3, I4, rz, dx', fs', ea', l', q4⟩ := hzz
  exact setattr_ok I4 ea' c n l' rz fun s5 I5 => ⟨σ, _, I5, q4⟩
noncomputable def rAdd : V → V → Hp → VK → Prop := fun x y H Q => ∃ i j, x = .int i ∧ y = .int j ∧ Q (.int (i + j)) H
noncomputable def rSub : V → V → Hp → VK → Prop := fun x y H Q => ∃ i j, x = .int i ∧ y = .int j ∧ Q (.int (i - j)) H
theorem in_add : InOp X .Add rAdd := by
  rintro pins s σ H x y u v Q I rx ry ⟨i, j, rfl, rfl, q⟩
  obtain ⟨t, rfl⟩ := (show ∃ t, u = Value.int i t from rx)
  obtain ⟨t', rfl⟩ := (show ∃ t', v = Value.int j t' from ry)
  exact PyProof.Rows.iadd_int ⟨.int (i + j), H, I.tok _, ⟨_, rfl⟩, q⟩
end

section
variable {X : Cx} {pins : List (Addr × Obj)} {σ : St} {H : Hp} {s : Shared} {A : Around} {E : Value → Shared → Prop} {Q : Value → Shared → Prop} {c : Value} {b : Bool}
inductive TyOf (K : PySem.W.Frag) (H : Hp) : V → Value → Prop where
  | non : TyOf K H .non (.type "NoneType")
  | bl (x : Bool) : TyOf K H (.bl x) (.type "bool")
  | int (i : Int) : TyOf K H (.int i) (.type "int")
  | str (x : Str) : TyOf K H (.str x) (.type "str")
  | flt (x : UInt64) : TyOf K H (.flt x) (.type "float")
  | lst {a : Addr} {xs : List V} (e : H a = some (.lst xs)) : TyOf K H (.ref a) (.type "list")
  | frz {a : Addr} {o : Obj} {xs : List V} (e : H a = some (.frz o (.lst xs))) : TyOf K H (.ref a) (.type "list")
  | tup {a : Addr} {xs : List V} (e : H a = some (.tup xs)) : TyOf K H (.ref a) (.type "tuple")
  | dK {a : Addr} {kvs : List (Key × V)} (e : H a = some (.dK kvs)) : TyOf K H (.ref a) (.type "dict")
  | dT {a : Addr} {kvs : List (List Key × V)} (e : H a = some (.dT kvs)) : TyOf K H (.ref a) (.type "dict")
  | ins {a C dx : Addr} {fs : List (Str × V)} (e : H a = some (.ins C dx fs)) (cl : Cls K C) (ha : PySem.W.findIn K (.ref C) "__class__" = some (some (.builtin "object.__class__")))
      (hn : PySem.W.specialIn K (.builtin "object.__class__") "__get__" = some (some (.builtin "getset_descriptor.__get__"))) (htk : PySem.W.takesIn K (.builtin "object.__class__") = some true)
      (hm : PySem.W.mroIn K C (.type "object") = some true) : TyOf K H (.ref a) (.ref C)
theorem isinst_ok {x : V} {u t : Value} (I : Inv X pins σ H s) (rx : RelV x u) (ty : TyOf X.K H x t) (e : PySem.W.kitOne X.K t c = some b) (h : ∀ tk, Q (.bool b) { s with toks := tk }) :
    wpAny (model X.prog X.w) A (call (.builtin "isinstance") [u, c]) Q E s := by
  cases ty with
  | non => cases (show u = Value.none from rx); exact PySem.W.kia_one PySem.W.kitx_none I.kIn True.intro e (fun z => nomatch z) h
  | bl y => cases (show u = Value.bool y from rx); exact PySem.W.kia_one PySem.W.kitx_bool I.kIn True.intro e (fun z => nomatch z) h
  | int i => obtain ⟨t, q⟩ := (show ∃ t, u = Value.int i t from rx); cases q; exact PySem.W.kia_one PySem.W.kitx_int I.kIn True.intro e (fun z => nomatch z) h
  | str y => obtain ⟨t, q⟩ := (show ∃ t, u = Value.str y t from rx); cases q; exact PySem.W.kia_one PySem.W.kitx_str I.kIn True.intro e (fun z => nomatch z) h
  | flt y => obtain ⟨t, q⟩ := (show ∃ t, u = Value.float y t from rx); cases q; exact PySem.W.kia_one PySem.W.kitx_float I.kIn True.intro e (fun z => nomatch z) h
  | @lst a xs ea =>
    cases (show u = Value.ref a from rx)
    obtain ⟨_, _, n, _, h1⟩ := (show ObjOk X.prog X.w H s.heap a (.lst xs) from I.hok a _ ea)
    exact PySem.W.kia_one PySem.W.kitx_list I.kIn ⟨_, h1, rfl⟩ e (fun z => nomatch z) h
  | @frz a ob xs ea =>
    cases (show u = Value.ref a from rx)
    obtain ⟨_, _, _, n, _, h1⟩ := (show ObjOk X.prog X.w H s.heap a (.frz ob (.lst xs)) from I.hok a _ ea)
    exact PySem.W.kia_one PySem.W.kitx_list I.kIn ⟨_, h1, rfl⟩ e (fun z => nomatch z) h
  | @tup a xs ea =>
    cases (show u = Value.ref a from rx)
    obtain ⟨_, _, _, p⟩ := (show ObjOk X.prog X.w H s.heap a (.tup xs) from I.hok a _ ea)
    obtain ⟨o, h1, h2, _⟩ := p
    exact PySem.W.kia_one PySem.W.kitx_tuple I.kIn ⟨o, h1, h2⟩ e (fun z => nomatch z) h
  | @dK a kvs ea =>
    cases (show u = Value.ref a from rx)
    obtain ⟨_, _, vs, _, p⟩ := (show ObjOk X.prog X.w H s.heap a (.dK kvs) from I.hok a _ ea)
    obtain ⟨o, es, ep, h1, h2, _⟩ := p
    exact PySem.W.kia_one PySem.W.kitx_dict I.kIn ⟨o, h1, h2.1⟩ e (fun z => nomatch z) h
  | @dT a kvs ea =>
    cases (show u = Value.ref a from rx)
    obtain ⟨_, _, xs, _, o, es, ep, h1, h2, _⟩ := (show ObjOk X.prog X.w H s.heap a (.dT kvs) from I.hok a _ ea)
    exact PySem.W.kia_one PySem.W.kitx_dict I.kIn ⟨o, h1, h2.1⟩ e (fun z => nomatch z) h
  | @ins a C dx fs ea cl ha hn htk hm =>
    cases (show u = Value.ref a from rx)
    obtain ⟨mA, O, _⟩ := ins_get I.hok ea
    obtain ⟨od, J, _⟩ := O.look
    exact PySem.W.kia_one (PySem.W.kitx_own (cl.get _) cl.hd ha hn htk hm) I.kIn J e (fun z => nomatch z) h
end
end L2

namespace L2
open PySem PySem.Spec PyProof.Rows

structure Room (k : Nat) (A : Around) : Prop where
  hd : A.handled = none
  dp : A.depth + 3 * k + 5 < recursionLimit
  un : A.units + 16 * k + 200 < cLine
theorem Room.mono {j k : Nat} {A : Around} (r : Room k A) (h : j ≤ k) : Room j A := ⟨r.hd, by have := r.dp; (first | lia | omega), by have := r.un; (first | lia | omega)⟩
theorem Room.deeper {k : Nat} {A : Around} (r : Room (k + 1) A) (env : Env) : Room k (A.deeper env) :=
  ⟨r.hd, by have := r.dp; show A.depth + 1 + 3 * k + 5 < _; (first | lia | omega), by have := r.un; show A.units + 3 + 16 * k + 200 < _; (first | lia | omega)⟩
theorem make_depth {A : Around} {C : Addr} {us : List Value} {kw : List (Str × Value)} : (A.under (.builtin "type.__call__" ⟨.ref C :: us, kw⟩)).depth = A.depth + 1 := by
  first | rfl | simp [Around.under, Code.weight, Code.isCreation, Code.isGuard, Code.isCaller, Code.frames, Code.isFrame, guardIds]
theorem make_units {A : Around} {C : Addr} {us : List Value} {kw : List (Str × Value)} : (A.under (.builtin "type.__call__" ⟨.ref C :: us, kw⟩)).units = A.units + 1 := by
  first | rfl | simp [Around.under, Code.cUnits, Code.frames, Code.isFrame]
theorem Room.make {k : Nat} {A : Around} (r : Room (k + 1) A) (C : Addr) (us : List Value) (kw : List (Str × Value)) : Room k (A.under (.builtin "type.__call__" ⟨.ref C :: us, kw⟩)) :=
  ⟨r.hd, by have := r.dp; rw [make_depth]; (first | lia | omega), by have := r.un; rw [make_units]; (first | lia | omega)⟩
theorem Room.depth {k : Nat} {A : Around} (r : Room k A) : A.depth < recursionLimit := by have := r.dp; (first | lia | omega)
noncomputable def tNil : TA := fun _ H Q => Q [] H
noncomputable def tCons (ta : TE) (tr : TA) : TA := fun σ H Q => ta σ H fun x H1 => tr σ H1 fun xs H2 => Q (x :: xs) H2
section
variable {X : Cx} {e : Expr} {es : List Expr} {te : TE} {t : TA} {pos : Pos}
theorem pa_nil : PA X [] tNil := ⟨fun _ _ _ _ H Q I h => Calls.spliced_nil ⟨[], H, I, .nil, h⟩⟩
theorem pa_cons (ha : PE X e te) (hr : PA X es t) (hs : starEach (e :: es) X.env = (false, eval e X.env) :: starEach es X.env := by rfl) : PA X (e :: es) (tCons te t) := by
  refine ⟨?_⟩
  intro pos pins s σ H Q I h
  rw [hs]
  show wpAny _ _ (spliced ((false, eval e X.env) :: backTo pos (starEach es X.env))) _ _ s
  refine Calls.spliced_cons (thn (ha pins s σ H _ I h) fun u s1 hzz => ?_)
  obtain ⟨x, H1, I1, r1, q1⟩ := hzz
  exact thn (hr pos pins s1 σ H1 _ I1 q1) fun us s2 ⟨xs, H2, I2, r2, q2⟩ => ⟨x :: xs, H2, I2, .cons r1 r2, q2⟩

noncomputable def tTup (t : TA) : TE := fun σ H Q => t σ H fun xs H1 => xs.length ≤ sizeLine ∧ ∀ p, H1 p = none → Q (.ref p) (upd H1 p (.tup xs))
noncomputable def tLst (t : TA) : TE := fun σ H Q => t σ H fun xs H1 => xs.length ≤ sizeLine ∧ ∀ p, H1 p = none → Q (.ref p) (upd H1 p (.lst xs))
theorem pe_tup {x1} (h : PA X es t) : PE X (.Tuple es x1 pos) (tTup t) := by
  refine ⟨?_⟩
  intro pins s σ H Q I hq
  refine wpAny_Tuple_spliced (thn (h pos pins s σ H _ I hq) fun us s1 ⟨xs, H1, I1, r, z, q⟩ => ⟨by rw [← r.length]; exact z, ?_⟩)
  have hf : H1 s1.heap.objs.size = none := I1.hok.fresh (Nat.le_refl _)
  refine ⟨.ref s1.heap.objs.size, upd H1 s1.heap.objs.size (.tup xs), I1.laid (t' := s1.toks) (fun b u e => Heap.get?_push_of_some _ e) (Nat.le_refl _) ?_, rfl, q _ hf⟩
  exact ⟨z, us, r, ⟨_, Heap.get?_push_size _ rfl, rfl, _, rfl⟩⟩
theorem pe_lst (h : PA X es t) : PE X (.List es pos) (tLst t) := by
  refine ⟨?_⟩
  intro pins s σ H Q I hq
  refine wpAny_List_spliced (thn (h pos pins s σ H _ I hq) fun us s1 ⟨xs, H1, I1, r, z, q⟩ => ⟨by rw [← r.length]; exact z, ?_⟩)
  have hf : H1 s1.heap.objs.size = none := I1.hok.fresh (Nat.le_refl _)
  refine ⟨.ref s1.heap.objs.size, upd H1 s1.heap.objs.size (.lst xs), I1.laid (t' := s1.toks) (fun b u e => Heap.get?_push_of_some _ e) (Nat.le_refl _) ?_, rfl, q _ hf⟩
  exact ⟨z, us, 0, r, Heap.get?_push_size _ rfl⟩
end

noncomputable abbrev Sp := List V → Hp → VK → XK → Prop
noncomputable abbrev CXT := List Env → Hp → Shared → XK → Value → Shared → Prop

structure Env0 (P : Program) (w : World) (K : PySem.W.Frag) (mg : Str → Option Value) (base : Heap) (A : Around) (outer : List Env) (s : Shared) (H : Hp) : Prop where
  frames : A.frames = some outer
  mod : Mod K mg base
  bs : ∀ b o, base.get? b = some o → s.heap.get? b = some o ∧ H b = none
  bsz : base.objs.size ≤ s.heap.objs.size
  funs : s.heap.FunFrames base outer
  frf : ∀ b ∈ frs outer, H b = none
  hok : HOk P w H s.heap
  bare : AllBare s.gens
noncomputable def CE (outer : List Env) (P : Program) (w : World) (H : Hp) (s : Shared) (Q : VK) (u : Value) (s' : Shared) : Prop :=
  ∃ v H', s'.os = s.os ∧ AllBare s'.gens ∧ Un (frs outer) [] H H' s.heap s'.heap ∧ HOk P w H' s'.heap ∧ RelV v u ∧ Q v H'
noncomputable def CR (CX : CXT) (outer : List Env) (P : Program) (w : World) (H : Hp) (s : Shared) (Q : VK) (E : XK) (r : Result) (s' : Shared) : Prop :=
  match r with
  | .ok (.ret u) => CE outer P w H s Q u s'
  | .ok _ => False
  | .error e => CX outer H s E e s'
structure FnOk (P : Program) (w : World) (K : PySem.W.Frag) (mg : Str → Option Value) (base : Heap) (CX : CXT) (k : Nat) (f : Addr) (fd : FuncData) (ps : List Str) (sp : Sp) : Prop where
  len : ∀ vs H Q E, sp vs H Q E → vs.length = ps.length
  run : ∀ (A : Around) (outer : List Env) (s : Shared) (H : Hp) (args : Args) (us : List Value) (vs : List V) (Q : VK) (E : XK), Room k A → Env0 P w K mg base A outer s H → BindsTo s fd args (ps.zip us) → Vals vs us → sp vs H Q E →
    codeAny (model P w) A (.call (.ref f) args) (CR CX outer P w H s Q E) s
theorem Env0.make {P : Program} {w : World} {K : PySem.W.Frag} {mg : Str → Option Value} {base : Heap} {A : Around} {outer : List Env} {s : Shared} {H : Hp} (e : Env0 P w K mg base A outer s H) (C : Addr) (us : List Value) (kw : List (Str × Value)) :
    Env0 P w K mg base (A.under (.builtin "type.__call__" ⟨.ref C :: us, kw⟩)) outer s H := ⟨by first | exact e.frames | (simpa [Around.under, Code.envs, Code.isFrame, pushEnvs] using e.frames), e.mod, e.bs, e.bsz, e.funs, e.frf, e.hok, e.bare⟩
section
variable {X : Cx} {pins : List (Addr × Obj)} {σ : St} {H : Hp} {s s' : Shared}
theorem Inv.env0 (I : Inv X pins σ H s) : Env0 X.prog X.w X.K X.mg X.base X.A X.stack s H :=
  ⟨I.ok.frames, I.ok.mod, I.bs, Nat.le_trans I.ok.bsz I.sz, I.stack, I.stkFree, I.hok, I.bare⟩
theorem Inv.after {Q : VK} {u : Value} (I : Inv X pins σ H s) (h : CE X.stack X.prog X.w H s Q u s') : EP X pins σ Q u s' := by
  obtain ⟨v, H', os, bare, un, hok, r, q⟩ := h
  obtain ⟨hh, g, d, t, os'⟩ := s'
  obtain rfl : os' = s.os := os
  exact ⟨v, H', I.call (h' := hh) (g' := g) (d' := d) (t' := t) (ch := []) un hok bare (fun b z => absurd z (by simp)), r, q⟩
end

noncomputable def tCall (sp : Sp) (dvs : List V) (E : XK) (t : TA) : TE := fun σ H Q => t σ H fun vs H1 => sp (vs ++ dvs) H1 Q E
noncomputable def tMeth (C : Addr) (m : Str) (sp : Sp) (dvs : List V) (E : XK) (ta : TE) (t : TA) : TE := fun σ H Q => ta σ H fun x H1 => ∃ a dx fs, x = .ref a ∧ H1 a = some (.ins C dx fs) ∧ fs.lookup m = none ∧
  t σ H1 fun vs H2 => sp (x :: (vs ++ dvs)) H2 Q E
noncomputable def tMake (C : Addr) (sp : Sp) (dvs : List V) (E : XK) (t : TA) : TE := fun σ H Q => t σ H fun vs H1 => ∀ x dx, H1 x = none → H1 dx = none → dx ≠ x →
  sp (.ref x :: (vs ++ dvs)) (upd (upd H1 dx (.own x)) x (.ins C dx [])) (fun v H2 => v = .non ∧ Q (.ref x) H2) E

noncomputable def Binds (K : PySem.W.Frag) (fd : FuncData) (ps : List Str) (ds : List Value) : Prop :=
  ∀ (s : Shared) (us : List Value), K.In s.heap → (us ++ ds).length = ps.length → BindsTo s fd ⟨us, []⟩ (ps.zip (us ++ ds))
theorem Binds.all {K : PySem.W.Frag} {fd : FuncData} {ps : List Str} (h : ∀ us : List Value, us.length = ps.length → bindArgs fd ⟨us, []⟩ = pure (ps.zip us)) : Binds K fd ps [] := fun s us _ hl => by
  rw [List.append_nil] at hl ⊢
  exact .of_eq (h us hl)

noncomputable def Passes (CX : CXT) (X : Cx) (E : XK) : Prop := ∀ (pins : List (Addr × Obj)) (σ : St) (H : Hp) (s : Shared) (e : Value) (s' : Shared), Inv X pins σ H s → CX X.stack H s E e s' → X.xe e s'

section
variable {X : Cx} {CX : CXT} {k : Nat} {f C : Addr} {fd : FuncData} {ps : List Str} {sp : Sp} {dvs : List V} {ds : List Value} {E : XK} {x m : Str} {p pos apos : Pos} {e o : Expr} {es : List Expr} {ta : TE} {t : TA}

theorem run_fn {pins : List (Addr × Obj)} {σ : St} {H : Hp} {s : Shared} {Q : VK} {us : List Value} {vs : List V} (F : FnOk X.prog X.w X.K X.mg X.base CX k f fd ps sp) (hr : Room k X.A) (hb : Binds X.K fd ps ds) (hd : Vals dvs ds) (hx : Passes CX X E)
    (I : Inv X pins σ H s) (r : Vals vs us) (h : sp (vs ++ dvs) H Q E) : wpAny (model X.prog X.w) X.A (call (.ref f) us) (EP X pins σ Q) X.xe s := by
  have r2 : Vals (vs ++ dvs) (us ++ ds) := r.append hd
  have hl : (us ++ ds).length = ps.length := by rw [← r2.length]; exact F.len _ _ _ _ h
  refine wpAny_call (codeAny_mono (F.run X.A X.stack s H ⟨us, []⟩ (us ++ ds) (vs ++ dvs) Q E hr I.env0 (hb s us I.kIn hl) r2 h) fun r s' hq => ?_)
  cases r with
  | error e => exact hx pins σ H s e s' I hq
  | ok fl =>
    cases fl with
    | ret u => exact I.after hq
    | next => exact False.elim hq
    | brk => exact False.elim hq
    | cont => exact False.elim hq

theorem pe_call (F : FnOk X.prog X.w X.K X.mg X.base CX k f fd ps sp) (hr : Room k X.A) (hg : Gl X x) (hm : X.mg x = some (.ref f)) (hk : PySem.W.keepIn X.K (.ref f) = true) (hb : Binds X.K fd ps ds) (hd : Vals dvs ds) (hx : Passes CX X E)
    (ha : PA X (e :: es) t) (hdb : (x == ("__debug__" : Str)) = false := by decide) (he : starEach (e :: es) X.env = (false, eval e X.env) :: starEach es X.env := by rfl) (hpl : (backTo pos (starEach es X.env)).any (·.1) = false := by rfl) :
    PE X (.Call (.Name x p) (e :: es) [] pos) (tCall sp dvs E t) := by
  refine ⟨?_⟩
  intro pins s σ H Q I h
  refine wpAny_Call_Name_kw (ld_glob I hg hm ?_ hdb)
  refine PySem.W.callWith_K (h₀ := X.base) I.ok.mod.kin hk (thn (ha pos pins s σ H _ I h) fun us s1 ⟨vs, H1, I1, r, q⟩ => ⟨I1.kIn, ?_⟩) he hpl
  exact run_fn F hr hb hd hx I1 r q
theorem pe_meth {pl : Sem Bool} (he : PE X o ta) (c : Cls X.K C) (hm : Meth X.K C m f) (F : FnOk X.prog X.w X.K X.mg X.base CX k f fd ps sp) (hr : Room k X.A) (hb : Binds X.K fd ps ds) (hd : Vals dvs ds) (hx : Passes CX X E) (ha : PA X (e :: es) t)
    (hst : starEach (e :: es) X.env = (false, eval e X.env) :: starEach es X.env := by rfl) (hpl : (backTo pos (starEach es X.env)).any (·.1) = false := by rfl)
    (ht : eval (.Call (.Attribute o m apos) (e :: es) [] pos) X.env = (do
      let ov ← eval o X.env
      standAt apos.atName
      let (f, first) ← holding [ov] (getMethod ov m pl)
      callWith pos f first (backTo pos (starEach (e :: es) X.env)) (backToKw pos (keywordEach [] X.env))) := by rfl) :
    PE X (.Call (.Attribute o m apos) (e :: es) [] pos) (tMeth C m sp dvs E ta t) := by
  refine ⟨?_⟩
  intro pins s σ H Q I h
  refine PySem.W.methodCall_KW (pl := pl) (thn (he pins s σ H _ I h) fun u s1 ⟨x, H1, I1, rx, a, dx, fs, ex, ea, l, q⟩ => ?_) ht
  subst ex
  obtain rfl : u = Value.ref a := rx
  refine getmeth_ok I1 ea c hm l ?_
  refine PySem.W.callWith_K (first := [.ref a]) (h₀ := X.base) I.ok.mod.kin hm.kp (thn (ha pos pins s1 σ H1 _ I1 q) fun us s2 ⟨vs, H2, I2, r, q2⟩ => ⟨I2.kIn, ?_⟩) hst hpl
  exact run_fn (us := .ref a :: us) (vs := .ref a :: vs) F hr hb hd hx I2 (.cons rfl r) q2
theorem pe_meth0 {pl : Sem Bool} (he : PE X o ta) (c : Cls X.K C) (hm : Meth X.K C m f) (F : FnOk X.prog X.w X.K X.mg X.base CX k f fd ps sp) (hr : Room k X.A) (hb : Binds X.K fd ps ds) (hd : Vals dvs ds) (hx : Passes CX X E)
    (ht : eval (.Call (.Attribute o m apos) [] [] pos) X.env = (do
      let ov ← eval o X.env
      standAt apos.atName
      let (f, first) ← holding [ov] (getMethod ov m pl)
      callWith pos f first (backTo pos (starEach [] X.env)) (backToKw pos (keywordEach [] X.env))) := by rfl) :
    PE X (.Call (.Attribute o m apos) [] [] pos) (tMeth C m sp dvs E ta tNil) := by
  refine ⟨?_⟩
  intro pins s σ H Q I h
  refine PySem.W.methodCall_KW (pl := pl) (thn (he pins s σ H _ I h) fun u s1 ⟨x, H1, I1, rx, a, dx, fs, ex, ea, l, q⟩ => ?_) ht
  subst ex
  obtain rfl : u = Value.ref a := rx
  refine getmeth_ok I1 ea c hm l ?_
  exact PySem.W.callWith_K0 (first := [.ref a]) I1.kIn hm.kp (run_fn (us := [.ref a]) (vs := [.ref a]) F hr hb hd hx I1 (.cons rfl .nil) q)

structure Mk (K : PySem.W.Frag) (C f : Addr) : Prop where
  makes : PySem.W.makesIn K C = true
  init : PySem.W.findIn K (.ref C) "__init__" = some (some (.ref f))
  fn : PySem.W.isFn K (.ref f) = true
  kp : PySem.W.keepIn K (.ref C) = true

theorem run_make {pins : List (Addr × Obj)} {σ : St} {H : Hp} {s : Shared} {Q : VK} {us : List Value} {vs : List V} (M : Mk X.K C f) (F : FnOk X.prog X.w X.K X.mg X.base CX k f fd ps sp) (hr : Room (k + 1) X.A) (hb : Binds X.K fd ps ds) (hd : Vals dvs ds)
    (hx : Passes CX X E) (I : Inv X pins σ H s) (r : Vals vs us)
    (h : ∀ x dx, H x = none → H dx = none → dx ≠ x → sp (.ref x :: (vs ++ dvs)) (upd (upd H dx (.own x)) x (.ins C dx [])) (fun v H2 => v = .non ∧ Q (.ref x) H2) E) :
    wpAny (model X.prog X.w) X.A (call (.ref C) us) (EP X pins σ Q) X.xe s := by
  have hq := h (s.heap.objs.size + 1) s.heap.objs.size (I.hok.fresh (Nat.le_succ _)) (I.hok.fresh (Nat.le_refl _)) (Nat.ne_of_lt (Nat.lt_succ_self _))
  have I2 := Inv.made (C := C) I
  have r2 : Vals (V.ref (s.heap.objs.size + 1) :: (vs ++ dvs)) (Value.ref (s.heap.objs.size + 1) :: (us ++ ds)) := .cons rfl (r.append hd)
  have hl : (Value.ref (s.heap.objs.size + 1) :: us ++ ds).length = ps.length := by
    have e := r2.length
    rw [F.len _ _ _ _ hq] at e
    exact e.symm
  refine wpAny_call (make_map (f := f) I.kIn M.makes M.init (beq_iff_eq.mp M.fn) (codeAny_mono (F.run _ X.stack _ _ ⟨Value.ref (s.heap.objs.size + 1) :: us, []⟩ (Value.ref (s.heap.objs.size + 1) :: (us ++ ds)) _ _ E (hr.make C us [])
    (I2.env0.make C us []) (hb _ (Value.ref (s.heap.objs.size + 1) :: us) I2.kIn hl) r2 hq) fun r s' hq' => ?_))
  cases r with
  | error e => exact hx pins σ _ _ e s' I2 hq'
  | ok fl =>
    cases fl with
    | ret u =>
      obtain ⟨v, H', I3, rv, ev, q3⟩ := I2.after hq'
      subst ev
      exact ⟨rv, ⟨V.ref (s.heap.objs.size + 1), H', I3, rfl, q3⟩⟩
    | next => exact False.elim hq'
    | brk => exact False.elim hq'
    | cont => exact False.elim hq'
theorem pe_make (M : Mk X.K C f) (F : FnOk X.prog X.w X.K X.mg X.base CX k f fd ps sp) (hr : Room (k + 1) X.A) (hg : Gl X x) (hm : X.mg x = some (.ref C)) (hb : Binds X.K fd ps ds) (hd : Vals dvs ds) (hx : Passes CX X E)
    (ha : PA X (e :: es) t) (hdb : (x == ("__debug__" : Str)) = false := by decide) (he : starEach (e :: es) X.env = (false, eval e X.env) :: starEach es X.env := by rfl) (hpl : (backTo pos (starEach es X.env)).any (·.1) = false := by rfl) :
    PE X (.Call (.Name x p) (e :: es) [] pos) (tMake C sp dvs E t) := by
  refine ⟨?_⟩
  intro pins s σ H Q I h
  refine wpAny_Call_Name_kw (ld_glob I hg hm ?_ hdb)
  refine PySem.W.callWith_K (h₀ := X.base) I.ok.mod.kin M.kp (thn (ha pos pins s σ H _ I h) fun us s1 ⟨vs, H1, I1, r, q⟩ => ⟨I1.kIn, ?_⟩) he hpl
  exact run_make M F hr hb hd hx I1 r q
end

structure PK (X : Cx) (kws : List Keyword) (t : TA)  : Prop where
  go : ∀ (pos : Pos) (pins : List (Addr × Obj)) (s : Shared) (σ : St) (H : Hp) (Q : List V → Hp → Prop), Inv X pins σ H s → t σ H Q → wpAny (model X.prog X.w) X.A (evalAll ((backToKw pos (keywordEach kws X.env)).map (·.2))) (AP X pins σ Q) X.xe s
instance {X : Cx} {kws : List Keyword} {t : TA} : CoeFun (PK X kws t) (fun _ => ∀ (pos : Pos) (pins : List (Addr × Obj)) (s : Shared) (σ : St) (H : Hp) (Q : List V → Hp → Prop), Inv X pins σ H s → t σ H Q → wpAny (model X.prog X.w) X.A (evalAll ((backToKw pos (keywordEach kws X.env)).map (·.2))) (AP X pins σ Q) X.xe s) := ⟨PK.go⟩
section
variable {X : Cx} {CX : CXT} {k : Nat} {f C : Addr} {fd : FuncData} {ps ks : List Str} {sp : Sp} {E : XK} {x m : Str} {p pos apos kpos : Pos} {e o : Expr} {es : List Expr} {kws : List Keyword} {te ta : TE} {t tk : TA} {nm : Option Str}
structure KBinds (K : PySem.W.Frag) (fd : FuncData) (ps ks : List Str) (g : List Value → List Value → List Value) (gV : List V → List V → List V) : Prop where
  to : ∀ (s : Shared) (us ws : List Value), K.In s.heap → (g us ws).length = ps.length → BindsTo s fd ⟨us, ks.zip ws⟩ (ps.zip (g us ws))
  rel : ∀ {vs : List V} {us : List Value} {zs : List V} {ws : List Value}, Vals vs us → Vals zs ws → Vals (gV vs zs) (g us ws)
noncomputable def tCallK (sp : Sp) (gV : List V → List V → List V) (E : XK) (t tk : TA) : TE := fun σ H Q => t σ H fun vs H1 => tk σ H1 fun zs H2 => sp (gV vs zs) H2 Q E
variable {g : List Value → List Value → List Value} {gV : List V → List V → List V}
end

structure FnScope (N P : List Str) (sc : Scope) : Prop where
  kind : sc.kind = .function
  co : sc.isCoroutine = false
  gen : sc.isGenerator = false
  nd : N.Nodup
  pre : N.take P.length = P
  par : ∀ x ∈ P, sc.names.lookup x = some .local ∨ sc.names.lookup x = some .cell
  nofree : ∀ y ∈ sc.names, y.2 ≠ .free

theorem bindL_out {kindOf : Str → Option NameKind} {x : Str} : ∀ {binds : List (Str × Value)} {m : Str → Option Value}, (∀ v, (x, v) ∉ binds) → bindL kindOf binds m x = m x
  | [], _, _ => rfl
  | (n, v) :: r, m, h => by
    unfold bindL
    rw [bindL_out fun w hw => h w (List.mem_cons_of_mem _ hw)]
    split
    · have : x ≠ n := by rintro rfl; exact h v List.mem_cons_self
      simp [this]
    · rfl
theorem bindC_out {kindOf : Str → Option NameKind} {x : Str} : ∀ {binds : List (Str × Value)} {m : Str → Option Value}, (∀ v, (x, v) ∉ binds) → bindC kindOf binds m x = m x
  | [], _, _ => rfl
  | (n, v) :: r, m, h => by
    unfold bindC
    rw [bindC_out fun w hw => h w (List.mem_cons_of_mem _ hw)]
    split
    · rfl
    · have : x ≠ n := by rintro rfl; exact h v List.mem_cons_self
      simp [this]
theorem bindL_get {kindOf : Str → Option NameKind} {x : Str} {v : Value} : ∀ {P : List Str} {vs : List Value} {i : Nat} {m : Str → Option Value}, P.Nodup → P[i]? = some x → vs[i]? = some v → kindOf x = some .local →
    bindL kindOf (P.zip vs) m x = some v
  | [], _, _, _, _, h, _, _ => by simp at h
  | _ :: _, [], _, _, _, _, h, _ => by simp at h
  | p :: P, w :: vs, 0, m, nd, h1, h2, hk => by
    simp at h1 h2; subst h1; subst h2
    show bindL kindOf ((p, w) :: P.zip vs) m p = _
    unfold bindL
    rw [bindL_out fun v hv => (List.nodup_cons.mp nd).1 (List.of_mem_zip hv).1, if_pos hk]
    simp
  | p :: P, w :: vs, i + 1, m, nd, h1, h2, hk => by
    show bindL kindOf ((p, w) :: P.zip vs) m x = _
    unfold bindL
    exact bindL_get (i := i) (List.nodup_cons.mp nd).2 (by simpa using h1) (by simpa using h2) hk
theorem bindC_get {kindOf : Str → Option NameKind} {x : Str} {v : Value} : ∀ {P : List Str} {vs : List Value} {i : Nat} {m : Str → Option Value}, P.Nodup → P[i]? = some x → vs[i]? = some v → kindOf x ≠ some .local →
    bindC kindOf (P.zip vs) m x = some v
  | [], _, _, _, _, h, _, _ => by simp at h
  | _ :: _, [], _, _, _, _, h, _ => by simp at h
  | p :: P, w :: vs, 0, m, nd, h1, h2, hk => by
    simp at h1 h2; subst h1; subst h2
    show bindC kindOf ((p, w) :: P.zip vs) m p = _
    unfold bindC
    rw [bindC_out fun v hv => (List.nodup_cons.mp nd).1 (List.of_mem_zip hv).1, if_neg hk]
    simp
  | p :: P, w :: vs, i + 1, m, nd, h1, h2, hk => by
    show bindC kindOf ((p, w) :: P.zip vs) m x = _
    unfold bindC
    exact bindC_get (i := i) (List.nodup_cons.mp nd).2 (by simpa using h1) (by simpa using h2) hk

noncomputable def start (N : List Str) (vs : List V) : St := vs.map some ++ List.replicate (N.length - vs.length) none

noncomputable def cxOf (CX : CXT) (P : Program) (w : World) (K : PySem.W.Frag) (mg : Str → Option Value) (base : Heap) (N : List Str) (qual : Str) (scope : Scope) (f : Addr) (cd : Value) (A : Around) (outer : List Env) (s : Shared) (H : Hp) (E : XK) : Cx where
  prog := P
  w := w
  K := K
  mg := mg
  base := base
  A := A.deeper (envOfC qual scope s.heap.objs.size f cd)
  N := N
  s₀ := s
  H₀ := H
  env := envOfC qual scope s.heap.objs.size f cd
  outer := outer
  stack := envOfC qual scope s.heap.objs.size f cd :: outer
  ex := []
  calm := true
  fn := fun _ => true
  pn := []
  xe := fun e s' => wpAny (model P w) (A.deeper (envOfC qual scope s.heap.objs.size f cd)) (leaving (envOfC qual scope s.heap.objs.size f cd) e) (fun _ s'' => CX outer H s E e s'') (fun e' s'' => CX outer H s E e' s'') s'

theorem cell_has {sc : Scope} {n : Nat} {x : Str} (h : sc.names.lookup x = some .cell) : ∃ c, (cellsFrom n sc.names []).lookup x = some c := by
  have q := PySem.W.cellsFrom_some sc.names n [] (.inl h)
  exact Option.isSome_iff_exists.mp q

theorem inv_start {CX : CXT} {P : Program} {w : World} {K : PySem.W.Frag} {mg : Str → Option Value} {base : Heap} {N ps : List Str} {qual : Str} {scope : Scope} {f : Addr} {cd : Value} {A : Around} {outer : List Env} {s s1 : Shared} {H : Hp} {E : XK} {us : List Value} {vs : List V}
    (S : FnScope N ps scope) (hd : A.handled = none) (e0 : Env0 P w K mg base A outer s H) (hl : vs.length = ps.length) (r : Vals vs us)
    (x : InCallC s s.heap.objs.size (bindL (envOfC qual scope s.heap.objs.size f cd).kindOf (ps.zip us) fun _ => none) (cellsFrom (s.heap.objs.size + 1) scope.names []) (bindC (envOfC qual scope s.heap.objs.size f cd).kindOf (ps.zip us) fun _ => none) s1) :
    Inv (cxOf CX P w K mg base N qual scope f cd A outer s H E) [] (start N vs) H s1 := by
  have hpl : ps.length ≤ N.length := by have := congrArg List.length S.pre; rw [List.length_take] at this; (first | lia | omega)
  obtain ⟨h1, tk, rfl, hk⟩ := x.done
  have noA : ∀ b : Addr, b ∉ (cxOf CX P w K mg base N qual scope f cd A outer s H E).ex := fun b z => absurd (show b ∈ ([] : List Addr) from z) (by simp)
  refine ⟨⟨e0.mod, S.kind, rfl, rfl, Nat.le_refl _, fun y z c h1 h2 => ?_, fun y hy => ?_, fun y c _ h => ?_, fun _ => hd, Around.frames_deeper e0.frames, .inr ⟨rfl, rfl⟩, fun b z => absurd z (noA b), e0.bs, e0.bsz, fun b _ _ => noA b, fun b z => absurd z (noA b), e0.funs, e0.frf⟩,
    rfl, e0.bare, Un.kept hk, ⟨_, x.toInCall.ns, fun i y v h1 h2 h3 => ?_⟩, fun y c h => ⟨_, x.cell y c h⟩, e0.hok.fresh (Nat.le_refl _), fun y c h => ?_, fun p hp => absurd (show p ∈ ([] : List (Addr × Obj)) from hp) (by simp), e0.hok.kept hk, ?_⟩
  · exact name_of_addr x.apart (PySem.mem_of_lookup h1) (PySem.mem_of_lookup h2)
  · have hy : scope.names.lookup y = some .cell ∨ scope.names.lookup y = some .free := hy
    rcases hy with hy | hy
    · exact cell_has hy
    · exact absurd rfl (S.nofree _ (PySem.mem_of_lookup hy))
  · exact Nat.le_of_lt (x.above y c (PySem.mem_of_lookup h))
  · have hi : i < vs.length := by
      unfold start at h2
      by_cases hi : i < vs.length
      · exact hi
      · rw [List.getElem?_append_right (by simpa using hi)] at h2
        rw [List.getElem?_replicate] at h2
        split at h2 <;> cases h2
    have ha : vs[i]? = some v := by
      unfold start at h2
      rw [List.getElem?_append_left (by simpa using hi), List.getElem?_map] at h2
      cases e : vs[i]? with
      | none => rw [e] at h2; cases h2
      | some a => rw [e] at h2; cases h2; rfl
    obtain ⟨u, hu, rv⟩ := r.get ha
    have hp : ps[i]? = some y := by
      rw [← S.pre, List.getElem?_take_of_lt (by (first | lia | omega))]; exact h1
    have ndP : ps.Nodup := by rw [← S.pre]; exact S.nd.sublist (List.take_sublist _ _)
    refine ⟨u, rv, ?_⟩
    rcases S.par y (List.mem_of_getElem? hp) with k | k
    · exact .inl ⟨k, bindL_get ndP hp hu k⟩
    · obtain ⟨c, e⟩ := cell_has (n := s.heap.objs.size + 1) k
      refine .inr ⟨.inl k, c, e, ?_⟩
      have q := x.cell y c e
      rw [bindC_get ndP hp hu (by show scope.names.lookup y ≠ _; rw [k]; decide)] at q
      exact q
  · exact e0.hok.fresh (Nat.le_of_lt (x.above y c (PySem.mem_of_lookup h)))
  · unfold start
    show _ = N.length
    rw [List.length_append, List.length_map, List.length_replicate]
    (first | lia | omega)

theorem fn_of {CX : CXT} {P : Program} {w : World} {K : PySem.W.Frag} {mg : Str → Option Value} {base : Heap} {k : Nat} {f : Addr} {name qual : Str} {params : Arguments} {body : List Stmt} {scope : Scope} {dV kV doc pm cdv ct oc : Value} {an od : Option Addr}
    {osl : Array (Option Value)} {N ps : List Str} {sp : Sp} (lk : K.lookup f = some ⟨oc, od, .func (PySem.W.fnOf name qual params body scope dV kV doc pm an cdv ct), osl⟩) (hcd : PySem.W.codeIn K cdv qual = true) (S : FnScope N ps scope)
    (len : ∀ vs H Q E, sp vs H Q E → vs.length = ps.length)
    (hbody : ∀ (A : Around) (outer : List Env) (s : Shared) (H : Hp) (vs : List V) (Q : VK) (E : XK), Room k (A.deeper (envOfC qual scope s.heap.objs.size f cdv)) → sp vs H Q E →
      ∃ t, PSs (cxOf CX P w K mg base N qual scope f cdv A outer s H E) body t ∧ t { nx := fun _ H' => Q .non H', rt := Q } (start N vs) H) :
    FnOk P w K mg base CX (k + 1) f (PySem.W.fnOf name qual params body scope dV kV doc pm an cdv ct) ps sp := by
  refine ⟨len, fun A outer s H args us vs Q E hr e0 hb r hsp => ?_⟩
  have hl := len _ _ _ _ hsp
  have KX : K.In s.heap := e0.mod.kin.keeps fun b o e => (e0.bs b o e).1
  have lim : s.heap.NoLimit := e0.mod.nolimit.keeps fun b o e => (e0.bs b o e).1
  have hkind : ∀ y ∈ ps.zip us, scope.names.lookup y.1 = some .local ∨ (scope.names.lookup y.1 = some .cell ∧ ((cellsFrom (s.heap.objs.size + 1) scope.names []).lookup y.1).isSome = true) := fun ⟨n, v⟩ hy => by
    rcases S.par n (List.of_mem_zip hy).1 with q | q
    · exact .inl q
    · exact .inr ⟨q, PySem.W.cellsFrom_some _ _ _ (.inl q)⟩
  refine codeAny_call_function hr.depth (KX _ _ lk) rfl S.co S.gen rfl (PySem.W.codeRec_of KX hcd) (hb _ _ _ _ ?_)
  refine wpAny_newFunctionEnv_cells S.kind hkind fun env he s1 x => ?_
  subst he
  refine ⟨lim.keeps x.toInCall.keep, codeAny_func ?_⟩
  obtain ⟨t, ht, hq⟩ := hbody A outer s H vs Q E (hr.deeper _) hsp
  have I : Inv (cxOf CX P w K mg base N qual scope f cdv A outer s H E) [] (start N vs) H s1 := inv_start S hr.hd e0 hl r x
  refine wpAny_mono (ht [] s1 (start N vs) H _ I hq) (fun fl s' hs => ?_) fun e s' hs => hs
  have fin : ∀ {σ' : St} {H' : Hp} {v : V} {u : Value}, Inv (cxOf CX P w K mg base N qual scope f cdv A outer s H E) [] σ' H' s' → RelV v u → Q v H' → CE outer P w H s Q u s' :=
    fun {σ' H' v u} J rv q => ⟨v, H', J.os, J.bare, J.base, J.hok, rv, q⟩
  cases fl with
  | ret u =>
    obtain ⟨v, σ', H', J, rv, q⟩ := hs
    exact fin J rv q
  | next =>
    obtain ⟨σ', H', J, q⟩ := hs
    exact fin (v := V.non) (u := Value.none) J rfl q
  | brk =>
    obtain ⟨_, _, _, q⟩ := hs
    exact False.elim q
  | cont =>
    obtain ⟨_, _, _, q⟩ := hs
    exact False.elim q
end L2

namespace L2
open PySem PySem.Spec PyProof.Rows
section
variable {X : Cx} {x : Str} {p pos : Pos} {e : Expr} {es : List Expr} {t : TA} {id T : String} {r : List V → Hp → VK → Prop}

noncomputable def tCB (r : List V → Hp → VK → Prop) (t : TA) : TE := fun σ H Q => t σ H fun vs H1 => r vs H1 Q
theorem pe_callB (hc : CallR X (.builtin id) r) (hg : Gl X x) (hm : X.mg x = none) (hv : bootBuiltins x = some (.builtin id)) (ha : PA X (e :: es) t) (hn : x ≠ "__name__" := by decide) (hdb : (x == ("__debug__" : Str)) = false := by decide)
    (he : starEach (e :: es) X.env = (false, eval e X.env) :: starEach es X.env := by rfl) (hpl : (backTo pos (starEach es X.env)).any (·.1) = false := by rfl) : PE X (.Call (.Name x p) (e :: es) [] pos) (tCB r t) := by
  refine ⟨?_⟩
  intro pins s σ H Q I h
  refine wpAny_Call_Name_kw (ld_blt I hg hm hv ?_ hn hdb)
  exact PyProof.Rows.callWith_builtin1 (thn (ha pos pins s σ H _ I h) fun us s1 ⟨vs, H1, I1, r1, q1⟩ => hc pins s1 σ H1 vs us Q I1 r1 q1) he hpl
theorem pe_callTy (hc : CallR X (.type T) r) (hg : Gl X x) (hm : X.mg x = none) (hv : bootBuiltins x = some (.type T)) (ha : PA X (e :: es) t) (hn : x ≠ "__name__" := by decide) (hdb : (x == ("__debug__" : Str)) = false := by decide)
    (he : starEach (e :: es) X.env = (false, eval e X.env) :: starEach es X.env := by rfl) (hpl : (backTo pos (starEach es X.env)).any (·.1) = false := by rfl) : PE X (.Call (.Name x p) (e :: es) [] pos) (tCB r t) := by
  refine ⟨?_⟩
  intro pins s σ H Q I h
  refine wpAny_Call_Name_kw (ld_blt I hg hm hv ?_ hn hdb)
  exact PyProof.Rows.callWith_type1 (thn (ha pos pins s σ H _ I h) fun us s1 ⟨vs, H1, I1, r1, q1⟩ => hc pins s1 σ H1 vs us Q I1 r1 q1) he hpl
end
end L2

namespace HT
open PySem PyProof.Rows

noncomputable def lexLt : List Int → List Int → Bool
  | [], [] => false
  | [], _ :: _ => true
  | _ :: _, [] => false
  | x :: xs, y :: ys => if x = y then lexLt xs ys else decide (x < y)
section
open PySem.SeqAt
open PySem.AutoSeq1 (wpAny_loadPart')
open PySem.MeetsSeq PySem.MeetsSeq2 PySem.MeetsSeq3

end

section
variable {prog : Program} {w : World} {A : Around} {E : Value → Shared → Prop} {s : Shared}

noncomputable def sIx (n d : Nat) : Option Int → Nat
  | none => d
  | some v => if v < 0 then (v + (n : Int)).toNat else min v.toNat n
theorem sIx_none (n d : Nat) : sIx n d none = d := rfl
theorem sIx_nat (n d k : Nat) : sIx n d (some (k : Int)) = min k n := by
  show (if (k : Int) < 0 then ((k : Int) + (n : Int)).toNat else min (k : Int).toNat n) = min k n
  rw [if_neg (by (first | lia | omega)), Int.toNat_natCast]
end
end HT

namespace L2
open PySem PySem.Spec PyProof.Rows

noncomputable abbrev TO := St → Hp → (Option Int → Hp → Prop) → Prop
structure PO (X : Cx) (e : Option Expr) (t : TO)  : Prop where
  go : ∀ (pins : List (Addr × Obj)) (s : Shared) (σ : St) (H : Hp) (Q : Option Int → Hp → Prop), Inv X pins σ H s → t σ H Q →
    wpAny (model X.prog X.w) X.A (evalPart e X.env) (fun u s' => ∃ o H', Inv X pins σ H' s' ∧ IsPart u o ∧ Q o H') X.xe s
instance {X : Cx} {e : Option Expr} {t : TO} : CoeFun (PO X e t) (fun _ => ∀ (pins : List (Addr × Obj)) (s : Shared) (σ : St) (H : Hp) (Q : Option Int → Hp → Prop), Inv X pins σ H s → t σ H Q →
    wpAny (model X.prog X.w) X.A (evalPart e X.env) (fun u s' => ∃ o H', Inv X pins σ H' s' ∧ IsPart u o ∧ Q o H') X.xe s) := ⟨PO.go⟩
noncomputable def tNoPart : TO := fun _ H Q => Q none H
noncomputable def tPart (t : TE) : TO := fun σ H Q => t σ H fun x H1 => ∃ i, x = .int i ∧ Q (some i) H1

section
variable {X : Cx} {e : Expr} {te : TE} {lo hi : Option Expr} {tl th : TO} {pos p2 : Pos}

theorem po_none : PO X none tNoPart := by
  refine ⟨?_⟩
  intro pins s σ H Q I h
  rw [evalPart_none]
  exact wpAny_pure ⟨none, H, I, .none, h⟩
theorem po_some (h : PE X e te) : PO X (some e) (tPart te) := by
  refine ⟨?_⟩
  intro pins s σ H Q I hw
  rw [evalPart_some]
  refine thn (h pins s σ H _ I hw) fun u s1 hzz => ?_
  obtain ⟨x, H1, I1, r1, q1⟩ := hzz
  obtain ⟨i, rfl, q⟩ := q1
  obtain ⟨t, rfl⟩ := r1
  exact ⟨some i, H1, I1, .int i t, q⟩

noncomputable def SlR (X : Cx) (r : V → Option Int → Option Int → Hp → VK → Prop) : Prop :=
  ∀ (pins : List (Addr × Obj)) (s : Shared) (σ : St) (H : Hp) (x : V) (v vl vu : Value) (lo hi : Option Int) (sl : Addr) (Q : VK), Inv X pins σ H s → RelV x v → s.heap.IsSliceOf sl vl vu .none → IsPart vl lo → IsPart vu hi → r x lo hi H Q →
    ∃ T id, typeLookup (.type T) "__getitem__" = pure (some (.builtin id)) ∧ s.TypeIs v T ∧ wpAny (model X.prog X.w) X.A (getItem v (.ref sl)) (EP X pins σ Q) X.xe s
noncomputable def tSl (r : V → Option Int → Option Int → Hp → VK → Prop) (te : TE) (tl th : TO) : TE := fun σ H Q => te σ H fun x H1 => tl σ H1 fun l H2 => th σ H2 fun u H3 => r x l u H3 Q
theorem pe_slice {r : V → Option Int → Option Int → Hp → VK → Prop} (hr : SlR X r) (he : PE X e te) (hl : PO X lo tl) (hu : PO X hi th) : PE X (.Subscript e (.Slice lo hi none p2) pos) (tSl r te tl th) := by
  refine ⟨?_⟩
  intro pins s σ H Q I h
  refine Subscript_ (thn (he pins s σ H _ I h) fun v s1 hzz => ?_)
  obtain ⟨x, H1, I1, r1, q1⟩ := hzz
  refine wpAny_Slice (thn (hl pins s1 σ H1 _ I1 q1) fun vl s2 ⟨l, H2, I2, pl, q2⟩ => thn (hu pins s2 σ H2 _ I2 q2) fun vu s3 hzz => ?_)
  obtain ⟨u, H3, I3, pu, q3⟩ := hzz
  rw [evalPart_none]
  refine wpAny_pure ?_
  have I4 : Inv X pins σ H3 { s3 with heap := s3.heap.push { cls := .type "slice", data := .fields #[vl, vu, .none] } } := I3.kept (t' := s3.toks) fun b ob q => Heap.get?_push_of_some _ q
  obtain ⟨T, id, hT, ht, hg⟩ := hr pins { s3 with heap := s3.heap.push { cls := .type "slice", data := .fields #[vl, vu, .none] } } σ H3 x v vl vu l u s3.heap.objs.size Q I4 r1 (Heap.IsSliceOf.new ..) pl pu q3
  show wpAny (model X.prog X.w) X.A (subscriptTail e (.Slice lo hi none p2) v (.ref s3.heap.objs.size)) (EP X pins σ Q) X.xe { s3 with heap := s3.heap.push { cls := .type "slice", data := .fields #[vl, vu, .none] } }
  exact tail_any (ops := [.ref s3.heap.objs.size, v]) ht hT hg (by with_unfolding_all rfl)

noncomputable def cutV (xs : List V) (lo hi : Option Int) : List V := (xs.drop (HT.sIx xs.length 0 lo)).take (HT.sIx xs.length xs.length hi - HT.sIx xs.length 0 lo)
theorem cutV_length (xs : List V) (lo hi : Option Int) : (cutV xs lo hi).length ≤ xs.length := by
  unfold cutV
  rw [List.length_take, List.length_drop]
  (first | lia | omega)
noncomputable def rSlT (K : PySem.W.Frag) : V → Option Int → Option Int → Hp → VK → Prop := fun x lo hi H Q => ∃ a xs, x = .ref a ∧ SqT K H a xs ∧
  ¬ (HT.sIx xs.length 0 lo = 0 ∧ HT.sIx xs.length xs.length hi = xs.length) ∧ ∀ p, H p = none → Q (.ref p) (upd H p (.tup (cutV xs lo hi)))
noncomputable def rLtT (K : PySem.W.Frag) : R2 := fun x y H Q => ∃ a b ns ms, x = .ref a ∧ y = .ref b ∧ SqT K H a (ns.map V.int) ∧ SqT K H b (ms.map V.int) ∧ Q (.bl (HT.lexLt ns ms)) H
noncomputable def rCatT (K : PySem.W.Frag) : R2 := fun x y H Q => ∃ a b xs ys, x = .ref a ∧ y = .ref b ∧ SqT K H a xs ∧ SqT K H b ys ∧ xs ≠ [] ∧ xs.length + ys.length ≤ sizeLine ∧
  (ys = [] → Q (.ref a) H) ∧ (ys ≠ [] → ∀ p, H p = none → Q (.ref p) (upd H p (.tup (xs ++ ys))))
end
end L2

namespace L2
open PySem PySem.Spec PyProof.Rows

noncomputable def ixN (n : Nat) (i : Int) : Option Nat := if 0 ≤ i then (if i < n then some i.toNat else none) else if -(n : Int) ≤ i then some (i + n).toNat else none
noncomputable def atI {α : Type} (xs : List α) (i : Int) : Option α := (ixN xs.length i).bind fun j => xs[j]?
theorem ixN_seq {n : Nat} {i : Int} {j : Nat} (h : ixN n i = some j) : seqIndex? i n = some j ∧ j < n ∧ -(n : Int) ≤ i ∧ i < n := by
  unfold ixN at h
  by_cases h0 : 0 ≤ i
  · rw [if_pos h0] at h
    by_cases h1 : i < n
    · rw [if_pos h1] at h
      have e : i.toNat = j := Option.some.inj h
      exact ⟨by rw [seqIndex_of h0 h1, e], by (first | lia | omega), by (first | lia | omega), h1⟩
    · rw [if_neg h1] at h; cases h
  · rw [if_neg h0] at h
    by_cases h1 : -(n : Int) ≤ i
    · rw [if_pos h1] at h
      have e : (i + n).toNat = j := Option.some.inj h
      exact ⟨by rw [seqIndex_neg (by (first | lia | omega)) h1, e], by (first | lia | omega), h1, by (first | lia | omega)⟩
    · rw [if_neg h1] at h; cases h
theorem atI_get {α : Type} {xs : List α} {i : Int} {v : α} (h : atI xs i = some v) : ∃ j, seqIndex? i xs.length = some j ∧ xs[j]? = some v ∧ j < xs.length ∧ -(xs.length : Int) ≤ i ∧ i < xs.length := by
  unfold atI at h
  cases e : ixN xs.length i with
  | none => rw [e] at h; cases h
  | some j =>
    rw [e] at h
    obtain ⟨h1, h2, h3, h4⟩ := ixN_seq e
    exact ⟨j, h1, h, h2, h3, h4⟩
theorem atI_nat {α : Type} {xs : List α} {j : Nat} {v : α} (h : xs[j]? = some v) : atI xs (j : Int) = some v := by
  have hj : j < xs.length := (List.getElem?_eq_some_iff.mp h).1
  have e : ixN xs.length (j : Int) = some j := by
    unfold ixN
    rw [if_pos (by (first | lia | omega)), if_pos (by (first | lia | omega))]; simp
  unfold atI; rw [e]; exact h
theorem atI_last {α : Type} (xs : List α) (v : α) : atI (xs ++ [v]) (-1) = some v := by
  have hl : (xs ++ [v]).length = xs.length + 1 := by simp
  have e : ixN (xs ++ [v]).length (-1) = some xs.length := by
    unfold ixN
    rw [hl, if_neg (by decide), if_pos (by (first | lia | omega))]
    congr 1
    (first | lia | omega)
  unfold atI
  rw [e]
  show (xs ++ [v])[xs.length]? = some v
  simp

noncomputable def PlainIx (b : Expr) : Prop := ∀ o i, subscripted b false o i = operate [o, i] (getItem o i)
noncomputable def IxR (X : Cx) (r : R2) : Prop :=
  ∀ (value slice : Expr) (pins : List (Addr × Obj)) (s : Shared) (σ : St) (H : Hp) (x y : V) (v u : Value) (Q : VK), Inv X pins σ H s → RelV x v → RelV y u → r x y H Q →
    subscripted slice false v u = operate [v, u] (getItem v u) → wpAny (model X.prog X.w) X.A (subscriptTail value slice v u) (EP X pins σ Q) X.xe s
noncomputable def MtR (X : Cx) (id : String) (r : V → List V → Hp → VK → Prop) : Prop :=
  ∀ (pins : List (Addr × Obj)) (s : Shared) (σ : St) (H : Hp) (x : V) (xs : List V) (v : Value) (us : List Value) (Q : VK), Inv X pins σ H s → RelV x v → Vals xs us → r x xs H Q →
    wpAny (model X.prog X.w) X.A (call (.builtin id) (v :: us)) (EP X pins σ Q) X.xe s
section
variable {X : Cx} {a b : Expr} {ta tb : TE} {pos : Pos}
theorem pe_ix {r : R2} (hr : IxR X r) (ha : PE X a ta) (hb : PE X b tb) (hs : PlainIx b) : PE X (.Subscript a b pos) (tOp r ta tb) := by
  refine ⟨?_⟩
  intro pins s σ H Q I h
  exact Subscript_ (binT ha hb I h fun v u s2 x y H2 I2 rx ry q => hr a b pins s2 σ H2 x y v u Q I2 rx ry q (hs _ _))

noncomputable def rIxL (K : PySem.W.Frag) : R2 := fun x y H Q => ∃ p xs i v, x = .ref p ∧ y = .int i ∧ SqL K H p xs ∧ atI xs i = some v ∧ Q v H
noncomputable def rIxT (K : PySem.W.Frag) : R2 := fun x y H Q => ∃ p xs i v, x = .ref p ∧ y = .int i ∧ SqT K H p xs ∧ atI xs i = some v ∧ Q v H
noncomputable def rIxS : R2 := fun x y H Q => ∃ z i c, x = .str z ∧ y = .int i ∧ z.length ≤ sizeLine ∧ atI z.cps.toList i = some c ∧ Q (.str ⟨#[c]⟩) H
theorem ix_list : IxR X (rIxL X.K) := by
  intro value slice pins s σ H x y v u Q I rx ry h hs
  obtain ⟨p, xs, i, z, rfl, rfl, hq, he, q⟩ := h
  cases rx
  obtain ⟨t, rfl⟩ := ry
  obtain ⟨its, r, pl, hz⟩ := I.list hq
  obtain ⟨j, h1, h2, h3, h4, h5⟩ := atI_get he
  obtain ⟨w, ew, rw'⟩ := r.get h2
  have hl := r.length
  have hn := line63
  have fin : EP X pins σ Q w s := ⟨z, H, I, rw', q⟩
  by_cases h0 : 0 ≤ i
  · have hj : i.toNat = j := by
      rw [seqIndex_of h0 h5] at h1
      exact Option.some.inj h1
    exact item_listR pl.isList h0 (by (first | lia | omega)) (by rw [hj]; simpa using ew) fin hs
  · have hj : (i + (its.toArray.size : Int)).toNat = j := by
      rw [seqIndex_neg (by (first | lia | omega)) h4] at h1
      rw [List.size_toArray, ← hl]
      exact Option.some.inj h1
    exact subscriptTail_builtinR (x := w) pl.isList.typeIs slot_list_getitem.lookup
      (wpAny_getItem_list_neg (Q := fun r s' => r = w ∧ EP X pins σ Q r s') pl.isList (by (first | lia | omega)) (by rw [List.size_toArray] <;> (first | lia | omega)) (by (first | lia | omega)) (by rw [hj]; simpa using ew) ⟨rfl, fin⟩) hs
theorem ix_tup : IxR X (rIxT X.K) := by
  intro value slice pins s σ H x y v u Q I rx ry h hs
  obtain ⟨p, xs, i, z, rfl, rfl, hq, he, q⟩ := h
  cases rx
  obtain ⟨t, rfl⟩ := ry
  obtain ⟨its, r, pl, hz⟩ := I.tuple hq
  obtain ⟨j, h1, h2, h3, h4, h5⟩ := atI_get he
  obtain ⟨w, ew, rw'⟩ := r.get h2
  have hl := r.length
  have hn := line63
  have fin : EP X pins σ Q w s := ⟨z, H, I, rw', q⟩
  exact subscriptTail_builtinR (x := w) pl.typeIs slot_tuple_getitem.lookup
    (getItem_tuple (j := j) (Q := fun r s' => r = w ∧ EP X pins σ Q r s') pl (by (first | lia | omega)) (by (first | lia | omega)) (by rw [List.size_toArray, ← hl]; exact h1) (by simpa using ew) ⟨rfl, fin⟩) hs
noncomputable def rIx (K : PySem.W.Frag) : R2 := fun x y H Q => rIxL K x y H Q ∨ rIxT K x y H Q ∨ rIxS x y H Q
theorem mapSeq_set (its : List Value) (n j : Nat) (u : Value) : Obj.mapSeq (·.setIfInBounds j u) { cls := .type "list", data := .seq its.toArray n } = { cls := .type "list", data := .seq (its.set j u).toArray n } := by
  simp [Obj.mapSeq]
theorem Inv.lst {pins : List (Addr × Obj)} {σ : St} {H : Hp} {s : Shared} {p : Addr} {xs : List V} (I : Inv X pins σ H s) (h : H p = some (.lst xs)) :
    ∃ (its : List Value) (n : Nat), Vals xs its ∧ s.heap.get? p = some { cls := .type "list", data := .seq its.toArray n } ∧ xs.length ≤ sizeLine := by
  obtain ⟨z, its, n, r, e⟩ := I.hok p _ h
  exact ⟨its, n, r, e, z⟩
theorem Inv.lstUpd {pins : List (Addr × Obj)} {σ : St} {H : Hp} {s : Shared} {p : Addr} {xs ys : List V} {its its' : List Value} {n n' : Nat} {f : Obj → Obj} (I : Inv X pins σ H s) (h : H p = some (.lst xs))
    (ho : s.heap.get? p = some { cls := .type "list", data := .seq its.toArray n }) (hf : f { cls := .type "list", data := .seq its.toArray n } = { cls := .type "list", data := .seq its'.toArray n' }) (r : Vals ys its') (hz : ys.length ≤ sizeLine) (t : Nat) :
    Inv X pins σ (upd H p (.lst ys)) { s with heap := s.heap.update p f, toks := t } := by
  have e : (s.heap.update p f).get? p = some { cls := .type "list", data := .seq its'.toArray n' } := by
    rw [Heap.get?_update_self f ho (by rw [hf] <;> rfl), hf]
  refine I.write (x := p) (e := p) (by rw [h]; trivial) (.inl rfl) (fun b u hb q => (Heap.get?_update_other _ _ (Ne.symm hb)).trans q) ⟨_, e⟩ ?_
  exact ⟨hz, its', n', r, e⟩
noncomputable def rSetL : V → V → V → Hp → (Hp → Prop) → Prop := fun o i v H Q => ∃ p xs k j, o = .ref p ∧ i = .int k ∧ H p = some (.lst xs) ∧ ixN xs.length k = some j ∧ Q (upd H p (.lst (xs.set j v)))
theorem set_list : PSet X rSetL := by
  intro pins s σ H o i v ov iv u Q I ro ri rv h
  obtain ⟨p, xs, k, j, rfl, rfl, hp, hj, q⟩ := h
  cases ro
  obtain ⟨t, rfl⟩ := ri
  obtain ⟨its, n, r, ho, hz⟩ := I.lst hp
  obtain ⟨h1, h2, h3, h4⟩ := ixN_seq hj
  have hl := r.length
  have hn := line63
  have I' : Inv X pins σ (upd H p (.lst (xs.set j v))) { s with heap := s.heap.update p (Obj.mapSeq (·.setIfInBounds j u)) } :=
    I.lstUpd hp ho (mapSeq_set its n j u) (r.set rv j) (by rw [List.length_set]; exact hz) s.toks
  by_cases h0 : 0 ≤ k
  · have hk : k.toNat = j := by
      rw [seqIndex_of h0 h4] at h1
      exact Option.some.inj h1
    exact PySem.W.ki_setAt ho h0 (by (first | lia | omega)) (by rw [List.size_toArray, ← hl]; exact h4) (by rw [hk]; exact ⟨_, I', q⟩)
  · have hk : (k + (its.toArray.size : Int)).toNat = j := by
      rw [seqIndex_neg (by (first | lia | omega)) h3] at h1
      rw [List.size_toArray, ← hl]
      exact Option.some.inj h1
    exact PySem.W.ki_setBack ho (by (first | lia | omega)) (by rw [List.size_toArray, ← hl]; exact h3) (by (first | lia | omega)) (by rw [hk]; exact ⟨_, I', q⟩)

theorem slice_bounds (lo hi : Option Int) (n : Nat) : (sliceBounds lo hi none n).1 = ((HT.sIx n 0 lo : Nat) : Int) ∧ (sliceBounds lo hi none n).2.1 = ((HT.sIx n n hi : Nat) : Int) ∧ (sliceBounds lo hi none n).2.2 = 1 := by
  refine ⟨?_, ?_, rfl⟩
  · cases lo with
    | none => simp [sliceBounds, HT.sIx]
    | some i =>
      simp only [sliceBounds, HT.sIx, Option.getD_none, show (1 : Int) > 0 by decide, if_true]
      by_cases h : i < 0
      · simp only [h, if_true] <;> (first | lia | omega)
      · simp only [h, if_false] <;> (first | lia | omega)
  · cases hi with
    | none => simp [sliceBounds, HT.sIx]
    | some i =>
      simp only [sliceBounds, HT.sIx, Option.getD_none, show (1 : Int) > 0 by decide, if_true]
      by_cases h : i < 0
      · simp only [h, if_true] <;> (first | lia | omega)
      · simp only [h, if_false] <;> (first | lia | omega)
theorem slicePick_cut (its : List Value) (lo hi : Option Int) : slicePick its.toArray lo hi none = ((its.drop (HT.sIx its.length 0 lo)).take (HT.sIx its.length its.length hi - HT.sIx its.length 0 lo)).toArray := by
  obtain ⟨h1, h2, h3⟩ := slice_bounds lo hi its.toArray.size
  unfold slicePick
  rw [h1, h2, h3]
  simp only [sliceRange_one, pick_run, List.size_toArray] <;> rfl
noncomputable def rSlL (K : PySem.W.Frag) : V → Option Int → Option Int → Hp → VK → Prop := fun x lo hi H Q => ∃ a xs, x = .ref a ∧ SqL K H a xs ∧ ∀ p, H p = none → Q (.ref p) (upd H p (.lst (cutV xs lo hi)))
theorem sl_list : SlR X (rSlL X.K) := by
  intro pins s σ H x v vl vu lo hi sl Q I rx hs pl pu h
  obtain ⟨a, xs, rfl, hx, q⟩ := h
  cases rx
  obtain ⟨its, r, ht, hz⟩ := I.list hx
  have hlen := r.length
  refine ⟨"list", _, slot_list_getitem.lookup, ht.isList.typeIs, ?_⟩
  refine wpAny_getItem_list_slice ht.isList hs pl pu .none (by simp) ?_ (by rw [List.size_toArray] <;> (first | lia | omega))
  rw [slicePick_cut, ← hlen]
  refine ⟨.ref s.heap.objs.size, _, I.laid (t' := s.toks) (o := .lst (cutV xs lo hi)) (fun b ob q => Heap.get?_push_of_some _ q) (Nat.le_refl _) ?_, rfl, q _ (I.hok.fresh (Nat.le_refl _))⟩
  exact ⟨Nat.le_trans (cutV_length xs lo hi) hz, _, 0, (r.drop (HT.sIx xs.length 0 lo)).take (HT.sIx xs.length xs.length hi - HT.sIx xs.length 0 lo), Heap.get?_push_size _ rfl⟩

noncomputable def flatV : V → Bool
  | .non => true
  | .bl _ => true
  | .int _ => true
  | .str _ => true
  | _ => false
noncomputable def eqV : V → V → Bool
  | .non, .non => true
  | .bl a, .bl b => a == b
  | .bl a, .int b => (if a then 1 else 0) == b
  | .int a, .bl b => a == (if b then 1 else 0)
  | .int a, .int b => a == b
  | .str a, .str b => a == b
  | _, _ => false
theorem eqAt_V {A : Around} {s : Shared} {y x : V} {u v : Value} (ry : RelV y u) (rx : RelV x v) (fy : flatV y = true) (fx : flatV x = true) : SeqAt.EqAt A s u v (eqV y x) := by
  cases y with
  | non =>
    cases ry
    cases x with
    | non => cases rx; exact SeqAt.EqAt.same _
    | bl b => cases rx; exact SeqAt.EqAt.none_bool b
    | int b => obtain ⟨t, rfl⟩ := rx; exact SeqAt.EqAt.none_int b t
    | str b => obtain ⟨t, rfl⟩ := rx; exact SeqAt.EqAt.none_str b t
    | _ => exact absurd (show false = true from fx) Bool.false_ne_true
  | bl a =>
    cases ry
    cases x with
    | non => cases rx; exact SeqAt.EqAt.bool_none a
    | bl b => cases rx; exact SeqAt.EqAt.bool_bool a b
    | int b => obtain ⟨t, rfl⟩ := rx; exact SeqAt.EqAt.bool_int a b t
    | str b => obtain ⟨t, rfl⟩ := rx; exact SeqAt.EqAt.bool_str a b t
    | _ => exact absurd (show false = true from fx) Bool.false_ne_true
  | int a =>
    obtain ⟨t', rfl⟩ := ry
    cases x with
    | non => cases rx; exact SeqAt.EqAt.int_none a t'
    | bl b => cases rx; exact SeqAt.EqAt.int_bool a t' b
    | int b => obtain ⟨t, rfl⟩ := rx; exact SeqAt.EqAt.int_int a t' b t
    | str b => obtain ⟨t, rfl⟩ := rx; exact SeqAt.EqAt.int_str a t' b t
    | _ => exact absurd (show false = true from fx) Bool.false_ne_true
  | str a =>
    obtain ⟨t', rfl⟩ := ry
    cases x with
    | non => cases rx; exact SeqAt.EqAt.str_none a t'
    | bl b => cases rx; exact SeqAt.EqAt.str_bool a t' b
    | int b => obtain ⟨t, rfl⟩ := rx; exact SeqAt.EqAt.str_int a t' b t
    | str b => obtain ⟨t, rfl⟩ := rx; exact SeqAt.EqAt.str_str a t' b t
    | _ => exact absurd (show false = true from fx) Bool.false_ne_true
  | _ => exact absurd (show false = true from fy) Bool.false_ne_true
noncomputable def eqU (x : V) (u : Value) : Bool := match u with
  | .none => eqV .non x
  | .bool b => eqV (.bl b) x
  | .int i _ => eqV (.int i) x
  | .str z _ => eqV (.str z) x
  | _ => false
noncomputable def inV (x : V) (xs : List V) : Bool := xs.any fun y => eqV y x
noncomputable def rIn (K : PySem.W.Frag) (neg : Bool) : R2 := fun x y H Q => ∃ p xs, y = .ref p ∧ (SqL K H p xs ∨ SqT K H p xs) ∧ flatV x = true ∧ xs.all flatV = true ∧ Q (.bl (if neg then !inV x xs else inV x xs)) H
theorem call_len_seq : CallR X (.builtin "len") (fun xs H Q => ∃ p ys, xs = [.ref p] ∧ (SqL X.K H p ys ∨ SqT X.K H p ys) ∧ Q (.int ys.length) H) := by
  intro pins s σ H xs us Q I r h
  obtain ⟨p, ys, rfl, hq, q⟩ := h
  obtain ⟨u, rfl, rx⟩ := vals1 r
  cases rx
  have hn := line63
  rcases hq with hq | hq
  · obtain ⟨its, r', pl, hz⟩ := I.list hq
    have hlen := r'.length
    exact Calls.call_len_list pl.isList (by simp only [List.size_toArray] <;> (first | lia | omega)) ⟨.int ys.length, H, I.tok _, ⟨s.toks + 1, by rw [List.size_toArray, hlen]⟩, q⟩
  · obtain ⟨its, r', pl, hz⟩ := I.tuple hq
    have hlen := r'.length
    exact len_tuple pl (by simp only [List.size_toArray] <;> (first | lia | omega)) ⟨.int ys.length, H, I.tok _, ⟨s.toks + 1, by rw [List.size_toArray, hlen]⟩, q⟩
theorem call_list_of : CallR X (.type "list") (fun xs H Q => ∃ p ys, xs = [.ref p] ∧ (SqL X.K H p ys ∨ SqT X.K H p ys) ∧ ∀ l, H l = none → Q (.ref l) (upd H l (.lst ys))) := by
  intro pins s σ H xs us Q I r h
  obtain ⟨p, ys, rfl, hq, q⟩ := h
  obtain ⟨u, rfl, rx⟩ := vals1 r
  cases rx
  have fin : ∀ (its : List Value), Vals ys its → ys.length ≤ sizeLine → ∀ (h' : Heap) (c' : Nat), (∀ b o', s.heap.get? b = some o' → h'.get? b = some o') →
      h'.get? s.heap.objs.size = some { cls := .type "list", dict := none, data := .seq its.toArray c', slots := #[] } → EP X pins σ Q (.ref s.heap.objs.size) { s with heap := h' } := fun its r' hz h' c' kp e =>
    ⟨.ref s.heap.objs.size, _, I.laid (t' := s.toks) kp (Nat.le_refl _) (show ObjOk X.prog X.w _ h' _ (.lst ys) from ⟨hz, its, c', r', e⟩), rfl, q _ (I.hok.fresh (Nat.le_refl _))⟩
  rcases hq with hq | hq
  · obtain ⟨its, r', pl, hz⟩ := I.list hq
    have hlen := r'.length
    obtain ⟨o, ho, hc, n, hd⟩ := pl.isList
    exact call_list_seq p (.inl rfl) ho hc hd (fun h' c' kp e => fin its r' hz h' c' kp e) (by simp only [List.size_toArray] <;> (first | lia | omega))
  · obtain ⟨its, r', pl, hz⟩ := I.tuple hq
    have hlen := r'.length
    obtain ⟨o, ho, hc, n, hd⟩ := pl
    exact call_list_seq p (.inr rfl) ho hc hd (fun h' c' kp e => fin its r' hz h' c' kp e) (by simp only [List.size_toArray] <;> (first | lia | omega))
theorem call_tuple_of : CallR X (.type "tuple") (fun xs H Q => ∃ p ys, xs = [.ref p] ∧ ((SqL X.K H p ys ∧ ∀ l, H l = none → Q (.ref l) (upd H l (.tup ys))) ∨ (SqT X.K H p ys ∧ Q (.ref p) H))) := by
  intro pins s σ H xs us Q I r h
  obtain ⟨p, ys, rfl, h⟩ := h
  obtain ⟨u, rfl, rx⟩ := vals1 r
  cases rx
  rcases h with ⟨hq, q⟩ | ⟨hq, q⟩
  · obtain ⟨its, r', pl, hz⟩ := I.list hq
    have hlen := r'.length
    refine call_tuple_list pl.isList (fun h' kp => ?_) (by simp only [List.size_toArray] <;> (first | lia | omega))
    have I1 : Inv X pins σ H { s with heap := h' } := I.kept (t' := s.toks) kp
    have I2 : Inv X pins σ (upd H h'.objs.size (.tup ys)) { s with heap := h'.push { cls := .type "tuple", data := .seq its.toArray } } :=
      I1.laid (t' := s.toks) (fun b o e => Heap.get?_push_of_some _ e) (Nat.le_refl _) (show ObjOk X.prog X.w _ _ _ (.tup ys) from ⟨hz, its, r', IsTup.new _ _⟩)
    exact ⟨.ref h'.objs.size, _, I2, rfl, q _ (I1.hok.fresh (Nat.le_refl _))⟩
  · obtain ⟨its, r', pl, hz⟩ := I.tuple hq
    exact call_tuple_same pl ⟨.ref p, H, I, rfl, q⟩

noncomputable def tyV (K : PySem.W.Frag) (T : String) (x : V) (H : Hp) : Prop := match x with
  | .str _ => T = "str"
  | .int _ => T = "int"
  | .ref p => (T = "list" ∧ ∃ xs, SqL K H p xs) ∨ (T = "tuple" ∧ ∃ o, K.lookup p = some o ∧ o.cls = .type "tuple" ∧ o.dict = none) ∨
      (T = "dict" ∧ ((∃ kvs, H p = some (.dK kvs)) ∨ ∃ kvs, H p = some (.dT kvs))) ∨ (T = "set" ∧ ∃ S n, H p = some (.set S n))
  | _ => False
theorem tyV_is {pins : List (Addr × Obj)} {σ : St} {H : Hp} {s : Shared} {T : String} {x : V} {v : Value} (I : Inv X pins σ H s) (r : RelV x v) (ty : tyV X.K T x H) :
    s.TypeIs v T ∧ ∀ a, v = .ref a → ∃ ob, s.heap.get? a = some ob ∧ ob.dict = none := by
  cases x with
  | str z =>
    obtain ⟨t, rfl⟩ := r
    cases (show T = "str" from ty)
    exact ⟨typeIs_str s z t, fun _ e => nomatch e⟩
  | int i =>
    obtain ⟨t, rfl⟩ := r
    cases (show T = "int" from ty)
    exact ⟨typeIs_int s i t, fun _ e => nomatch e⟩
  | ref p =>
    cases r
    rcases ty with ⟨rfl, xs, hq⟩ | ⟨rfl, o, hk, hc, hd⟩ | ⟨rfl, hk⟩ | ⟨rfl, S, n, hk⟩
    · obtain ⟨its, _, pl, _⟩ := I.list hq
      refine ⟨pl.isList.typeIs, fun a e => ?_⟩
      cases e
      obtain ⟨o, n, e, c, hd, _⟩ := pl
      exact ⟨o, e, hd⟩
    · refine ⟨⟨o, I.kIn p o hk, hc⟩, fun a e => ?_⟩
      cases e
      exact ⟨o, I.kIn _ o hk, hd⟩
    · have z : ∃ o, s.heap.get? p = some o ∧ o.ExactDict := by
        rcases hk with ⟨kvs, hk⟩ | ⟨kvs, hk⟩
        · obtain ⟨_, _, _, _, o, _, _, e, ex, _⟩ := I.hok p _ hk
          exact ⟨o, e, ex⟩
        · obtain ⟨_, _, _, _, o, _, _, e, ex, _⟩ := I.hok p _ hk
          exact ⟨o, e, ex⟩
      obtain ⟨o, e, ex⟩ := z
      refine ⟨⟨o, e, ex.1⟩, fun a e2 => ?_⟩
      cases e2
      exact ⟨o, e, ex.2.1⟩
    · obtain ⟨o, _, _, _, e, ex, _⟩ := I.hok p _ hk
      refine ⟨⟨o, e, ex.1⟩, fun a e2 => ?_⟩
      cases e2
      exact ⟨o, e, ex.2.1⟩
  | _ => exact False.elim ty
noncomputable def tBM0 (K : PySem.W.Frag) (T : String) (r : V → List V → Hp → VK → Prop) (to : TE) : TE := fun σ H Q => to σ H fun x H1 => tyV K T x H1 ∧ r x [] H1 Q
noncomputable def tBM (K : PySem.W.Frag) (T : String) (r : V → List V → Hp → VK → Prop) (to : TE) (t : TA) : TE := fun σ H Q => to σ H fun x H1 => tyV K T x H1 ∧ t σ H1 fun xs H2 => r x xs H2 Q
variable {o e : Expr} {es : List Expr} {to : TE} {t : TA} {name : Str} {apos cpos : Pos} {T id : String} {r : V → List V → Hp → VK → Prop}
theorem pe_bm0 (pa : PlainAttrs T) (slot : Slot T name id) (hty : typeOf (.builtin id) = pure (.type "method_descriptor")) (hm : MtR X id r) (ho : PE X o to)
    (hbase : attributeBase o name X.env (eval o X.env) = eval o X.env := by rfl) (hline : (apos.endLine == cpos.line) = true := by rfl) : PE X (.Call (.Attribute o name apos) [] [] cpos) (tBM0 X.K T r to) := by
  refine ⟨?_⟩
  intro pins s σ H Q I h
  refine wpAny_Call_method0_late hbase hline (thn (ho pins s σ H _ I h) fun v s1 hzz => ?_)
  obtain ⟨x, H1, I1, r1, ty, q1⟩ := hzz
  obtain ⟨h1, h2⟩ := tyV_is I1 r1 ty
  exact ⟨T, id, pa, slot, hty, h1, h2, Calls.callWith_builtin rfl (PySem.evalArgs_none (hm pins s1 σ H1 x [] v [] Q I1 r1 .nil q1))⟩
theorem pe_bm (pa : PlainAttrs T) (slot : Slot T name id) (hty : typeOf (.builtin id) = pure (.type "method_descriptor")) (hm : MtR X id r) (ho : PE X o to) (ha : PA X (e :: es) t)
    (hbase : attributeBase o name X.env (eval o X.env) = eval o X.env := by rfl)
    (hfew : ((backTo cpos (starEach (e :: es) X.env)).all (fun x => !x.1) && (backToKw cpos (keywordEach [] X.env)).all (fun x => x.1.isSome)
      && decide ((e :: es).length + ([] : List Keyword).length + (if ([] : List Keyword).isEmpty then 0 else 1) < 30)) = true := by rfl)
    (hline : (apos.endLine == cpos.line) = true := by rfl) (hs : starEach (e :: es) X.env = (false, eval e X.env) :: starEach es X.env := by rfl) (hplain : (backTo cpos (starEach es X.env)).any (·.1) = false := by rfl) :
    PE X (.Call (.Attribute o name apos) (e :: es) [] cpos) (tBM X.K T r to t) := by
  refine ⟨?_⟩
  intro pins s σ H Q I h
  refine wpAny_Call_method_late hbase hfew hline rfl (thn (ho pins s σ H _ I h) fun v s1 hzz => ?_)
  obtain ⟨x, H1, I1, r1, ty, q1⟩ := hzz
  obtain ⟨h1, h2⟩ := tyV_is I1 r1 ty
  refine ⟨T, id, pa, slot, hty, h1, h2, ?_⟩
  have hA := ha cpos pins s1 σ H1 _ I1 q1
  rw [hs] at hA ⊢
  refine Calls.callWith_builtin (by show (false || (backTo cpos (starEach es X.env)).any (·.1)) = false; rw [hplain] <;> rfl) (Calls.evalArgs_plain ?_)
  exact thn hA fun us s2 ⟨vs, H2, I2, r2, q2⟩ => hm pins s2 σ H2 x vs v us Q I2 r1 r2 q2
/- xs.append(e), list.index on a module's tuple .. are MtR facts of 06m -/
end
end L2

namespace L2
open PySem PySem.Spec PyProof.Rows

noncomputable def MtM (X : Cx) (id : String) (r : V → List V → Hp → VK → Prop) : Prop :=
  ∀ (pins : List (Addr × Obj)) (s : Shared) (σ : St) (H : Hp) (x : V) (xs : List V) (v : Value) (us : List Value) (Q : VK), Inv X pins σ H s → RelV x v → Vals xs us → r x xs H Q →
    wpAny (model X.prog X.w) X.A (call (.builtin id) (v :: us)) (EP X pins σ Q) X.xe s

theorem Vals.one : ∀ {x : V} {us : List Value}, Vals [x] us → ∃ u, us = [u] ∧ RelV x u
  | _, _, .cons r .nil => ⟨_, rfl, r⟩
theorem Vals.zero : ∀ {us : List Value}, Vals [] us → us = []
  | _, .nil => rfl
theorem Vals.dropLast {xs : List V} {us : List Value} (h : Vals xs us) : Vals xs.dropLast us.dropLast := by
  induction h with
  | nil => exact .nil
  | cons r t ih =>
    cases t with
    | nil => exact .nil
    | cons q t' => exact .cons r ih
theorem erase_last {α : Type} (l : List α) : l.eraseIdx (l.length - 1) = l.dropLast := by
  induction l with
  | nil => rfl
  | cons a r ih =>
    cases r with
    | nil => rfl
    | cons b r =>
      have e : (a :: b :: r).length - 1 = ((b :: r).length - 1) + 1 := by
        have h1 : (a :: b :: r).length = r.length + 2 := rfl
        have h2 : (b :: r).length = r.length + 1 := rfl
        (first | lia | omega)
      rw [e, List.eraseIdx_cons_succ, ih]
      all_goals rfl
section
variable {X : Cx} {pins : List (Addr × Obj)} {σ : St} {H : Hp} {s : Shared} {l b : Addr} {xs ys zs : List V}

theorem Inv.lset {its its' : List Value} {n : Nat} {f : Array Value → Array Value} {t' : Nat} (I : Inv X pins σ H s) (hH : H l = some (.lst xs))
    (e : s.heap.get? l = some { cls := .type "list", data := .seq its.toArray n }) (hf : f its.toArray = its'.toArray) (hv : Vals ys its') (hz : ys.length ≤ sizeLine) :
    Inv X pins σ (upd H l (.lst ys)) { s with heap := s.heap.update l (Obj.mapSeq f), toks := t' } := by
  have q := PySem.IsL.update e f
  rw [hf] at q
  refine I.write (x := l) (e := l) (by rw [hH]; exact trivial) (.inl rfl) (fun b' u hb hu => (Heap.get?_update_other s.heap (Obj.mapSeq f) (Ne.symm hb)).trans hu) ⟨_, q⟩ ?_
  exact ⟨hz, its', _, hv, q⟩
theorem Inv.lnew {its : List Value} {t' : Nat} (I : Inv X pins σ H s) (hv : Vals ys its) (hz : ys.length ≤ sizeLine) :
    Inv X pins σ (upd H s.heap.objs.size (.lst ys)) { s with heap := s.heap.push { cls := .type "list", data := .seq its.toArray }, toks := t' } :=
  I.laid (fun _ _ q => Heap.get?_push_of_some _ q) (Nat.le_refl _) ⟨hz, its, 0, hv, Heap.get?_push_size _ rfl⟩
theorem Inv.fresh (I : Inv X pins σ H s) : H s.heap.objs.size = none := I.hok.fresh (Nat.le_refl _)
theorem Inv.lstM (I : Inv X pins σ H s) (hH : H l = some (.lst xs)) : xs.length ≤ sizeLine ∧ ∃ (its : List Value) (n : Nat), Vals xs its ∧ xs.length = its.length ∧ s.heap.get? l = some { cls := .type "list", data := .seq its.toArray n } := by
  obtain ⟨z, its, n, r, e⟩ := I.hok l _ hH
  exact ⟨z, its, n, r, r.length, e⟩

theorem notLongL {n : Nat} (h : n ≤ sizeLine) : Builtin.List.listTooLong n = false := by
  unfold Builtin.List.listTooLong
  exact decide_eq_false (by (first | lia | omega))
end

section
variable {X : Cx}

noncomputable def rAppend : V → List V → Hp → VK → Prop := fun x vs H Q => ∃ l xs y, x = .ref l ∧ vs = [y] ∧ H l = some (.lst xs) ∧ xs.length < sizeLine ∧ Q .non (upd H l (.lst (xs ++ [y])))
theorem mt_append : MtM X "list.append" rAppend := by
  intro pins s σ H x vs v us Q I rx rv h
  obtain ⟨l, xs, y, rfl, rfl, hH, hz, q⟩ := h
  cases rx
  obtain ⟨u, rfl, ru⟩ := rv.one
  obtain ⟨z, its, n, r, hl, e⟩ := I.lstM hH
  refine call_meets F.slot_list_append ⟨_, e, rfl⟩ F.entry_list_append (F.args_list_append_2 _ _) (PySem.list_append l its.toArray n u (by rw [List.size_toArray]; (first | lia | omega))) ⟨e, ?_⟩
  refine ⟨.non, _, I.lset (its' := its ++ [u]) hH e (by simp) (r.append (.cons ru .nil)) ?_, rfl, q⟩
  rw [List.length_append, List.length_singleton]
  (first | lia | omega)

noncomputable def rExtend : V → List V → Hp → VK → Prop := fun x vs H Q => ∃ l b xs zs, x = .ref l ∧ vs = [.ref b] ∧ H l = some (.lst xs) ∧ H b = some (.lst zs) ∧ xs.length + zs.length ≤ sizeLine ∧ Q .non (upd H l (.lst (xs ++ zs)))
theorem mt_extend : MtM X "list.extend" rExtend := by
  intro pins s σ H x vs v us Q I rx rv h
  obtain ⟨l, b, xs, zs, rfl, rfl, hH, hB, hz, q⟩ := h
  cases rx
  obtain ⟨u, rfl, ru⟩ := rv.one
  cases ru
  obtain ⟨z, its, n, r, hl, e⟩ := I.lstM hH
  obtain ⟨z2, its2, n2, r2, hl2, e2⟩ := I.lstM hB
  have hsz : its.toArray.size + its2.toArray.size ≤ sizeLine := by rw [List.size_toArray, List.size_toArray]; (first | lia | omega)
  have hlong : ¬ (!its.toArray.isEmpty && Builtin.List.listTooLong (its.toArray.size + its2.toArray.size)) = true := by
    rw [notLongL hsz, Bool.and_false]
    exact Bool.false_ne_true
  refine call_meets F.slot_list_extend ⟨_, e, rfl⟩ F.entry_list_extend (F.args_list_extend_2 _ _)
    (AutoSeq1.list_extend_list_list_0 l its.toArray n b its2.toArray n2 hlong (by rw [List.size_toArray]; (first | lia | omega)) (by (first | lia | omega))) ⟨e, e2, ?_⟩
  refine ⟨.non, _, I.lset (its' := its ++ its2) hH e (by simp) (r.append r2) ?_, rfl, q⟩
  rw [List.length_append]
  (first | lia | omega)

noncomputable def rPop : V → List V → Hp → VK → Prop := fun x vs H Q => ∃ l xs y, x = .ref l ∧ vs = [] ∧ H l = some (.lst xs) ∧ xs[xs.length - 1]? = some y ∧ Q y (upd H l (.lst xs.dropLast))
theorem mt_pop : MtM X "list.pop" rPop := by
  intro pins s σ H x vs v us Q I rx rv h
  obtain ⟨l, xs, y, rfl, rfl, hH, hy, q⟩ := h
  cases rx
  have hus := rv.zero
  subst hus
  obtain ⟨z, its, n, r, hl, e⟩ := I.lstM hH
  obtain ⟨u, hu, ru⟩ := r.get hy
  have hy' : its.toArray[its.toArray.size - 1]? = some u := by
    show its.toArray[its.length - 1]? = some u
    rw [← Array.getElem?_toList, ← hl]
    exact hu
  refine call_meets F.slot_list_pop ⟨_, e, rfl⟩ F.entry_list_pop (F.args_list_pop_1 _) (MeetsSeq.list_pop_last l its.toArray n u hy' (by rw [List.size_toArray]; (first | lia | omega))) ⟨e, ?_⟩
  refine ⟨y, _, I.lset (its' := its.dropLast) hH e ?_ r.dropLast ?_, ru, q⟩
  · show its.toArray.eraseIdxIfInBounds (its.toArray.size - 1) = its.dropLast.toArray
    rw [List.size_toArray, List.eraseIdxIfInBounds_toArray, erase_last]
  · rw [List.length_dropLast]
    (first | lia | omega)

noncomputable def rPopAt : V → List V → Hp → VK → Prop := fun x vs H Q => ∃ l xs i k y, x = .ref l ∧ vs = [.int i] ∧ H l = some (.lst xs) ∧ -(2 ^ 63) ≤ i ∧ i < 2 ^ 63 ∧ seqIndex? i xs.length = some k ∧ xs[k]? = some y ∧ Q y (upd H l (.lst (xs.eraseIdx k)))
noncomputable def rReverse : V → List V → Hp → VK → Prop := fun x vs H Q => ∃ l xs, x = .ref l ∧ vs = [] ∧ H l = some (.lst xs) ∧ Q .non (upd H l (.lst xs.reverse))
noncomputable def rClear : V → List V → Hp → VK → Prop := fun x vs H Q => ∃ l xs, x = .ref l ∧ vs = [] ∧ H l = some (.lst xs) ∧ Q .non (upd H l (.lst []))
noncomputable def rCat : R2 := fun x y H Q => ∃ l b xs zs, x = .ref l ∧ y = .ref b ∧ H l = some (.lst xs) ∧ H b = some (.lst zs) ∧ xs.length + zs.length ≤ sizeLine ∧ ∀ p, H p = none → Q (.ref p) (upd H p (.lst (xs ++ zs)))
theorem op_cat : OpR X (binaryOp .Add) rCat := by
  intro pins s σ H x y v u Q I rx ry h
  obtain ⟨l, b, xs, zs, rfl, rfl, hH, hB, hz, q⟩ := h
  cases rx
  cases ry
  obtain ⟨z, its, n, r, hl, e⟩ := I.lstM hH
  obtain ⟨z2, its2, n2, r2, hl2, e2⟩ := I.lstM hB
  refine PySem.P.add_list e e2 ?_ (by rw [List.size_toArray, List.size_toArray]; (first | lia | omega))
  have ea : its.toArray ++ its2.toArray = (its ++ its2).toArray := by simp
  rw [ea]
  exact ⟨.ref _, _, I.lnew (t' := s.toks) (r.append r2) (by rw [List.length_append]; (first | lia | omega)), rfl, q _ I.fresh⟩
noncomputable def rRep : R2 := fun x y H Q => ∃ l k xs, x = .ref l ∧ y = .int k ∧ H l = some (.lst xs) ∧ -(2 ^ 63) ≤ k ∧ k < 2 ^ 63 ∧ xs.length * k.toNat ≤ sizeLine ∧
  ∀ p, H p = none → Q (.ref p) (upd H p (.lst (List.replicate k.toNat xs).flatten))
end

section
variable {prog : Program} {w : World} {A : Around} {E : Value → Shared → Prop} {s : Shared}
set_option maxRecDepth 100000 in
end

section
variable {X : Cx}
end
end L2

namespace Att
open PySem PySem.W PySem.Calls PyProof.Rows

theorem ints_of_wellAll {P : Params} {h : Heap} : ∀ (ns : List Int) (vs : List Value), WellAll P h vs (ns.map WData.int) → IntsAre vs ns := by
  intro ns
  induction ns with
  | nil =>
    intro vs w
    rw [List.map_nil] at w
    cases w
    exact .nil
  | cons n ns ih =>
    intro vs w
    rw [List.map_cons] at w
    cases w with
    | cons a b =>
      cases a
      exact .cons _ _ (ih _ b)

theorem script_of {l : OpenLaw} {n : Nat} (hn : l.most = some n) {P : Params} {h : Heap} {args : List WData} {vals : List Value}
    (hpre : l.row.toRowW.claim.pre args = true) (hwl : WellAll P h vals args) :
    ∃ a vs ns, vals = [Value.ref a] ∧ args = [WData.list (ns.map WData.int)] ∧ h.get? a = some { cls := .type "list", data := .seq vs.toArray } ∧ IntsAre vs ns ∧ ns.length ≤ n := by
  have hsh : WShape.hasAll [] args [.list .int] = true := (pre_splitW hpre).1
  have hc : l.pre.holds [] { args := args } = true := (pre_splitW hpre).2
  obtain ⟨d, r, rfl, h1, h2⟩ := hasAllW_cons hsh
  obtain rfl := hasAllW_nil h2
  obtain ⟨xs, rfl, h3⟩ := hasW_list h1
  obtain ⟨ns, rfl⟩ := items_int h3
  have hlen : ns.length ≤ n := by
    unfold OpenLaw.pre at hc
    have h4 : (WTm.not (.lt (.lit (.int (n : Int))) (.len (.arg 0)))).holds [] { args := [.list (ns.map .int)] } = true := by
      have h4 := (holds_andW hc).1
      rw [hn] at h4
      exact h4
    have h5 := condW_of h4 (w_not (w_lt w_lit (w_len_list (w_arg rfl))))
    rw [List.length_map] at h5
    refine Nat.le_of_not_lt fun q => ?_
    have q' : (n : Int) < ((ns.length : Nat) : Int) := by (first | lia | omega)
    first
      | (rw [decide_eq_true q'] at h5; exact absurd h5 (by decide))
      | (simp at h5; (first | lia | omega))
  cases hwl with
  | cons w1 w2 =>
    cases w2
    cases w1 with
    | list ho hall => exact ⟨_, _, ns, rfl, rfl, ho, ints_of_wellAll ns _ hall, hlen⟩

theorem post_true (l : OpenLaw) (args : List WData) : l.row.toRowW.claim.post args (.bool true) args = true :=
  postW_of (r := l.row.toRowW) (X := (true == true))
    (show WShape.has [] (.bool true) .bool = true by first | rfl | decide | simp [WShape.has, WShape.arms, WShape.armsAll])
    (show (WTm.eq .res (.lit (.bool true))).value [] { args := args, res := some (.bool true), after := args } = some (.bool (true == true)) from w_eq_bool (w_res rfl) w_lit) rfl

theorem attach_call {l : OpenLaw} {n : Nat} {q : Program} {loose : List Str} {XP : (Str → Option Value) → Heap → Prop} {YP : World → Heap → Prop} {d : DefRec}
    (hn : l.most = some n) (hdf : d.params.defaults = [])
    (call : ∀ (w : World) (s₀ s₁ : Shared) (mg mb : Str → Option Value) (fa : Addr) (o : Obj) (pm cd doc : Value) (a : Addr) (vs : List Value) (ns : List Int),
      Ground q loose [] XP w s₀ mg mb s₁.heap → YP w s₁.heap →
      s₁.heap.get? fa = some o → o.data = .func (docDef d.name d.params d.body d.scope pm cd doc) → s₁.heap.CodeRec cd d.name → mg d.name = some (.ref fa) →
      s₁.heap.get? a = some { cls := .type "list", data := .seq vs.toArray } → IntsAre vs ns → ns.length ≤ n → s₁.gens = #[] →
      codeAny (model l.prog w) callerA (.call (.ref fa) ⟨[.ref a], []⟩) (fun r s' => r = .ok (.ret (.bool true)) ∧ OldK s₁.heap s'.heap ∧ s'.os = s₁.os ∧ AllBare s'.gens) s₁) :
    WalkO q loose XP YP l.row.toRowW d [] (fun f vs => PySem.call f vs) := by
  intro w s₀ s₁ mg mb G Y fa o pm cd doc dV kV ho hd hcd hD hmg hg args vals as hpre hlay hrd hwl hlo
  obtain rfl : dV = .none := Dflts.none hD hdf
  obtain rfl : kV = .none := Dflts.noKw hD
  obtain ⟨a, vs, ns, rfl, rfl, hobj, hints, hlen⟩ := script_of hn hpre hwl
  refine enter_call (codeAny_mono (call w s₀ s₁ mg mb fa o pm cd doc a vs ns G Y ho (fd_plain hd) hcd hmg hobj hints hlen hg) fun r s' hq => ?_)
  obtain ⟨rfl, h2, h3, h4⟩ := hq
  exact ⟨.inl ⟨.bool true, .bool true, [], rfl, fun _ => rfl, .bool true, post_true l _, fun _ => ⟨List.Pairwise.nil, fun _ hm => (nomatch hm)⟩⟩, h2, h3, h4⟩

section
variable {prog : Program} {w : World} {A : Around} {E : Value → Shared → Prop} {s : Shared} {K : Frag}

noncomputable def noObjs (h : Heap) : Heap := { h with objs := #[] }
noncomputable def ledger (h : Heap) (L d : Addr) : List (Addr × Obj) := (List.range h.objs.size).filterMap fun a => if a = L ∨ a = d then none else (h.get? a).map fun o => (a, o)
end
end Att

namespace L2
open PySem PySem.Spec PyProof.Rows

theorem vals_ints : ∀ {vs : List Value} {ns : List Int}, IntsAre vs ns → Vals (ns.map V.int) vs
  | _, _, .nil => .nil
  | _, _, .cons n t h => .cons ⟨t, rfl⟩ (vals_ints h)

noncomputable def Only (H : Hp) : Prop := ∀ b, H b = none ∨ ∃ o xs, H b = some (.frz o (.lst xs))

theorem law_call {P : Program} {w : World} {K : PySem.W.Frag} {mg mb : Str → Option Value} {CX : CXT} {k : Nat} {fa a : Addr} {fd : FuncData} {x : Str} {sp : Sp} {s₁ : Shared} {vs : List Value} {ns : List Int}
    (KX : K.In s₁.heap) (hns : s₁.heap.Ns mainGlobals mg) (hb : s₁.heap.Ns builtinsNs mb) (hbb : ∀ x : Str, x ≠ "__name__" → mb x = bootBuiltins x) (hlim : s₁.heap.NoLimit) (hg : s₁.gens = #[])
    (ha : s₁.heap.get? a = some { cls := .type "list", data := .seq vs.toArray }) (hi : IntsAre vs ns) (hl : ns.length ≤ sizeLine) (hr : Room k callerA)
    (F : ∀ base : Heap, K.In base → base.Ns mainGlobals mg → FnOk P w K mg base CX k fa fd [x] sp) (hbind : ∀ (s : Shared) (u : Value), BindsTo s fd ⟨[u], []⟩ [(x, u)])
    (hsp : ∀ H : Hp, Only H → SqL K H a (ns.map V.int) → sp [.ref a] H (fun v _ => v = .bl true) fun _ _ _ => False)
    (hCX : ∀ H e s', CX [] H s₁ (fun _ _ _ => False) e s' → False) :
    codeAny (model P w) callerA (.call (.ref fa) ⟨[.ref a], []⟩) (fun r s' => r = .ok (.ret (.bool true)) ∧ OldK s₁.heap s'.heap ∧ s'.os = s₁.os ∧ AllBare s'.gens) s₁ := by
  have rv := vals_ints hi
  have lenV := hi.length
  have core : ∀ H : Hp, Only H → SqL K H a (ns.map V.int) → HOk P w H s₁.heap → (∀ b, H b ≠ none → b = a) → (H a ≠ none → K.lookup a = none) →
      codeAny (model P w) callerA (.call (.ref fa) ⟨[.ref a], []⟩) (fun r s' => r = .ok (.ret (.bool true)) ∧ OldK s₁.heap s'.heap ∧ s'.os = s₁.os ∧ AllBare s'.gens) s₁ := by
    intro H hO hS hok hA hK
    have base_of : ∀ {b : Addr} {o : Obj}, s₁.heap.get? b = some o → H b = none → (hidT s₁.heap H).get? b = some o := fun e n => hidT_get e n
    have noA : ∀ {b : Addr} {o : Obj} {es : Array DictEntry} {ep : Nat}, s₁.heap.get? b = some o → o.data = .dict es ep → H b = none := fun {b o es ep} e d => by
      cases q : H b with
      | none => rfl
      | some u =>
        have e' : b = a := hA b (by rw [q]; simp)
        subst e'
        rw [ha] at e; cases e
        have d' : Data.seq vs.toArray _ = Data.dict es ep := d
        cases d'
    have nsK : ∀ {b : Addr} {m : Str → Option Value}, s₁.heap.Ns b m → (hidT s₁.heap H).Ns b m := fun {b m} ⟨o, es, ep, e, d, r⟩ => ⟨o, es, ep, base_of e (noA e d), d, r⟩
    have hKb : K.In (hidT s₁.heap H) := fun b o e => base_of (KX b o e) (by
      cases q : H b with
      | none => rfl
      | some u =>
        have e' : b = a := hA b (by rw [q]; simp)
        subst e'
        rw [hK (by rw [q]; simp)] at e; cases e)
    have hM : Mod K mg (hidT s₁.heap H) := ⟨hKb, nsK hns, ⟨mb, nsK hb, hbb⟩, let ⟨mc, h1, h2⟩ := hlim; ⟨mc, nsK h1, h2⟩⟩
    have e0 : Env0 P w K mg (hidT s₁.heap H) callerA [] s₁ H := ⟨rfl, hM, fun b o e => of_hidT e, Nat.le_of_eq (hidT_size _ _), trivial, fun b hb => absurd (show b ∈ ([] : List Addr) from hb) (by simp), hok, .of_eq hg⟩
    refine codeAny_mono ((F _ hKb (nsK hns)).run callerA [] s₁ H ⟨[.ref a], []⟩ [.ref a] [.ref a] _ _ hr e0 (hbind s₁ (.ref a)) (.cons rfl .nil) (hsp H hO hS)) fun r s' h => ?_
    cases r with
    | error e => exact (hCX H e s' h).elim
    | ok fl =>
      cases fl with
      | next => exact False.elim h
      | brk => exact False.elim h
      | cont => exact False.elim h
      | ret u =>
        obtain ⟨v, H', os, bare, un, hok', r', q⟩ := h
        have q' : v = .bl true := q
        subst q'
        obtain rfl : u = Value.bool true := r'
        refine ⟨rfl, OldK.of_keep fun b o e => ?_, os, bare⟩
        cases q : H b with
        | none => exact un.keep b o e q (by intro z; exact absurd (show b ∈ ([] : List Addr) from z) (by simp)) (by simp)
        | some u =>
          rcases hO b with z | ⟨ob, xs, z⟩
          · rw [q] at z; cases z
          · have z2 := un.frzs b ob _ z
            obtain ⟨e1, _⟩ := hok b _ z
            obtain ⟨e2, _⟩ := hok' b _ z2
            rw [e] at e1; cases e1
            exact e2
  cases hk : K.lookup a with
  | some o =>
    have e := KX a o hk
    rw [ha] at e
    cases e
    refine core (fun _ => none) (fun _ => .inl rfl) (.inr ⟨_, vs.toArray, _, hk, rfl, rfl, rfl, by rw [List.size_toArray, lenV]; exact hl, by simpa using rv⟩) (fun b u z => by have z' : (none : Option HO) = some u := z; cases z') (fun b z => absurd rfl z) fun z => absurd rfl z
  | none =>
    refine core (fun b => if b = a then some (.frz { cls := .type "list", data := .seq vs.toArray } (.lst (ns.map V.int))) else none) (fun b => ?_) (.inl (.inr ⟨{ cls := .type "list", data := .seq vs.toArray }, if_pos rfl⟩)) (fun b u z => ?_) (fun b z => ?_) fun _ => hk
    · by_cases hb : b = a
      · exact .inr ⟨_, _, if_pos hb⟩
      · exact .inl (if_neg hb)
    · by_cases hb : b = a
      · have z' := (if_pos hb).symm.trans z
        cases z'
        subst hb
        exact ⟨ha, by rw [List.length_map]; exact hl, vs, _, rv, ha⟩
      · have z' := (if_neg hb).symm.trans z
        cases z'
    · by_cases hb : b = a
      · exact hb
      · exact absurd (if_neg hb) z
end L2

namespace L2
open PySem PySem.Spec PyProof.Rows

noncomputable abbrev KOf {K : PySem.W.Frag} {h : Heap} (_ : K.In h) : PySem.W.Frag := K

theorem walk_of {l : PySem.W.OpenLaw} {n k : Nat} {q : Program} {loose : List Str} {XP : (Str → Option Value) → Heap → Prop} {YP : World → Heap → Prop} {d : DefRec} {K : Params → PySem.W.Frag} {CX : World → CXT} {sp : World → Sp} {x : Str}
    (hn : l.most = some n) (hn2 : n ≤ sizeLine) (hdf : d.params.defaults = []) (hr : Room k callerA)
    (hY : ∀ (w : World) (h : Heap), YP w h → (K w.params).In h)
    (F : ∀ (w : World) (mg : Str → Option Value) (fa : Addr) (h : Heap), (K w.params).In h → h.Ns mainGlobals mg → mg d.name = some (.ref fa) →
      ∃ fd : FuncData, (∀ (s : Shared) (u : Value), BindsTo s fd ⟨[u], []⟩ [(x, u)]) ∧
        ∀ base : Heap, (K w.params).In base → base.Ns mainGlobals mg → FnOk l.prog w (K w.params) mg base (CX w) k fa fd [x] (sp w))
    (hsp : ∀ (w : World) (H : Hp) (a : Addr) (ns : List Int), ns.length ≤ n → Only H → SqL (K w.params) H a (ns.map V.int) → sp w [.ref a] H (fun v _ => v = .bl true) fun _ _ _ => False)
    (hCX : ∀ (w : World) (H : Hp) (s : Shared) (e : Value) (s' : Shared), CX w [] H s (fun _ _ _ => False) e s' → False) :
    PySem.W.WalkO q loose XP YP l.row.toRowW d [] (fun f vs => PySem.call f vs) := by
  refine Att.attach_call hn hdf fun w s₀ s₁ mg mb fa o pm cd doc a vs ns G Y ho hd hcd hmg hobj hints hlen hg => ?_
  have KX := hY w _ Y
  obtain ⟨fd, hb, hF⟩ := F w mg fa _ KX G.T.g hmg
  exact law_call KX G.T.g G.T.b G.T.builtins G.T.nolimit hg hobj hints (Nat.le_trans hlen hn2) hr hF hb (fun H hO hS => hsp w H a ns hlen hO hS) fun H e s' => hCX w H s₁ e s'
end L2


namespace L2
open PySem PySem.Spec PyProof.Rows

noncomputable def inClass (s : Stmt) (j : Nat) : Stmt := match s with
  | .ClassDef _ _ _ body _ _ _ _ _ _ _ => body.getD j (.Pass ⟨0, 0, 0, 0⟩)
  | _ => .Pass ⟨0, 0, 0, 0⟩
noncomputable def defArgs (s : Stmt) : Arguments := match s with
  | .FunctionDef _ a _ _ _ _ _ _ _ _ => a
  | _ => { posonlyargs := [], args := [], vararg := none, kwonlyargs := [], kw_defaults := [], kwarg := none, defaults := [] }
noncomputable def defBody (s : Stmt) : List Stmt := match s with
  | .FunctionDef _ _ b _ _ _ _ _ _ _ => b
  | _ => []
noncomputable def defScope (s : Stmt) : Scope := match s with
  | .FunctionDef _ _ _ _ _ _ sc _ _ _ => sc
  | _ => { kind := .function, names := [], isGenerator := false, isCoroutine := false }

noncomputable abbrev CX0 : CXT := fun _ _ _ _ _ _ => False
noncomputable abbrev E0 : XK := fun _ _ _ => False
structure Fun (K : PySem.W.Frag) (x qual : Str) (st : Stmt) (f : Addr) (fd : FuncData) : Prop where
  ex : ∃ (oc : Value) (od : Option Addr) (kV doc pm : Value) (an : Option Addr) (cdv ct : Value) (osl : Array (Option Value)),
    fd = PySem.W.fnOf x qual (defArgs st) (defBody st) (defScope st) .none kV doc pm an cdv ct ∧ K.lookup f = some ⟨oc, od, .func fd, osl⟩ ∧ PySem.W.codeIn K cdv qual = true
  kp : PySem.W.keepIn K (.ref f) = true
section
variable {P : Program} {w : World} {K : PySem.W.Frag} {mg : Str → Option Value} {base : Heap}
theorem Fun.binds {x qual : Str} {st : Stmt} {f : Addr} {fd : FuncData} {ps : List Str} (F : Fun K x qual st f fd)
    (h : ∀ (kV doc pm : Value) (an : Option Addr) (cdv ct : Value) (us : List Value), us.length = ps.length → bindArgs (PySem.W.fnOf x qual (defArgs st) (defBody st) (defScope st) .none kV doc pm an cdv ct) ⟨us, []⟩ = pure (ps.zip us)) : Binds K fd ps [] := by
  obtain ⟨oc, od, kV, doc, pm, an, cdv, ct, osl, rfl, lk, hcd⟩ := F.ex
  exact .all (h kV doc pm an cdv ct)
theorem fun_mk {x qual : Str} {st : Stmt} {f : Addr} {oc : Value} {od an : Option Addr} {osl : Array (Option Value)} {kV doc pm cdv ct : Value} (l : K.lookup f = some ⟨oc, od, .func (PySem.W.fnOf x qual (defArgs st) (defBody st) (defScope st) .none kV doc pm an cdv ct), osl⟩)
    (c : PySem.W.codeIn K cdv qual = true) (k : PySem.W.keepIn K (.ref f) = true) : Fun K x qual st f (PySem.W.fnOf x qual (defArgs st) (defBody st) (defScope st) .none kV doc pm an cdv ct) := ⟨⟨oc, od, kV, doc, pm, an, cdv, ct, osl, rfl, l, c⟩, k⟩
end
theorem small1000 {n : Nat} (h : n ≤ 1000) : n < sizeLine := Nat.lt_of_le_of_lt h (by decide)

section
variable {X : Cx}
theorem pv (i : Nat) {x : Str} {pos : Pos} (hN : X.N[i]? = some x := by rfl) (hv : Vis X.env.scope x := by first | exact Or.inl rfl | exact Or.inr (Or.inl rfl) | exact Or.inr (Or.inr rfl)) (hd : (x == ("__debug__" : Str)) = false := by decide)
    (hcd : (x == ("__classdict__" : Str)) = false := by decide) : PE X (.Name x pos) (tVar i) := pe_var hN hv hd hcd
end

theorem iteF {A B : Prop} (h : B) : if false = true then A else B := by
  rw [if_neg Bool.false_ne_true]
  exact h
theorem iteT {A B : Prop} (h : A) : if true = true then A else B := by
  rw [if_pos rfl]
  exact h
theorem ite2 {c A B : Prop} [Decidable c] (h1 : c → A) (h2 : ¬ c → B) : if c then A else B := by
  by_cases h : c
  · rw [if_pos h]
    exact h1 h
  · rw [if_neg h]
    exact h2 h
noncomputable def Same (H H' : Hp) : Prop := ∀ b o, H b = some o → H' b = some o
theorem Same.trans {H H1 H2 : Hp} (a : Same H H1) (b : Same H1 H2) : Same H H2 := fun c o h => b c o (a c o h)
theorem Same.free {H H' : Hp} (e : Same H H') {l : Addr} (h : H' l = Option.none) : H l = Option.none := by
  cases q : H l with
  | none => rfl
  | some o =>
    rw [e l o q] at h
    cases h
end L2

set_option Elab.async false
set_option linter.all false
set_option maxRecDepth 100000
namespace L2
open PySem PySem.Spec PyProof.Rows

theorem comp_turns {prog : Program} {w : World} {A : Around} {R : Result → Shared → Prop} {s : Shared} {elt target iter : Expr} {ifs : List Expr} {scope : Scope} {pos : Pos} {it acc : Value} {env : Env} (J : Nat → Shared → Prop)
    (turn : ∀ n s, J n s → wpAny (model prog w) A (pyNext it) (fun r s1 => match r with
      | none => R (.ok .next) s1
      | some v => wpAny (model prog w) A (letOwnedTupleGo target it v) (fun _ s1 => wpAny (model prog w) A (assign target env v) (fun _ s2 =>
          wpAny (model prog w) A (forIn ifs true fun c r => if r = true then do let ok ← isTrue c env (eval c env); pure (ForInStep.yield ok) else pure (ForInStep.yield r)) (fun ok s3 =>
            if ok = true then wpAny (model prog w) A (eval elt env) (fun x s4 =>
              wpAny (model prog w) A (call (.builtin "list.append") [acc, x]) (fun _ s5 => ∃ m, m < n ∧ J m s5) (fun _ _ => False) s4) (fun _ _ => False) s3
            else ∃ m, m < n ∧ J m s3) (fun _ _ => False) s2) (fun _ _ => False) s1) (fun _ _ => False) s1) (fun _ _ => False) s)
    (n : Nat) (h : J n s) :
    codeAny (model prog w) A (.compLoop (.ListComp elt [⟨target, iter, ifs, 0⟩] scope pos) 0 it acc env) R s := by
  refine codeAny_loop rfl J (fun n s hI => ?_) n h
  show wpAny _ A ((compTurn (.ListComp elt [⟨target, iter, ifs, 0⟩] scope pos) 0 it acc env).onRaise (fun x => do noteFrame x env; theTreesLotGoes x)) _ _ s
  refine wpAny_noted (wpAny_mono (E := fun _ _ => False) ?_ (fun _ _ q => q) fun _ _ q => q.elim)
  rw [compTurn_list]
  refine wpAny_bind (wpAny_standAt (wpAny_bind (thn (turn n s hI) fun r s1 h1 => ?_)))
  cases r with
  | none => exact wpAny_pure h1
  | some v =>
    refine wpAny_bind (thn h1 fun _ s1 h1 => ?_)
    refine wpAny_bind (thn h1 fun _ s2 h2 => wpAny_bind (thn h2 fun ok s3 h3 => ?_))
    cases ok with
    | false => exact wpAny_pure ⟨rfl, h3⟩
    | true => exact wpAny_bind (wpAny_bind (thn h3 fun x s4 h4 => wpAny_bind (thn h4 fun _ s5 h5 => wpAny_pure (wpAny_pure ⟨rfl, h5⟩))))

theorem closure_ok {env : Env} : ∀ (names : List (Str × NameKind)) (acc : List (Str × Addr)), (∀ y ∈ names, y.2 = .free → ∃ c, env.cells.lookup y.1 = some c) →
    ∃ cl : List (Str × Addr), (forIn names acc (fun (y : Str × NameKind) (r : List (Str × Addr)) => if (y.2 == NameKind.free) = true then do let a ← cellOf env y.1; pure (ForInStep.yield ((y.1, a) :: r)) else pure (ForInStep.yield r)) : Sem _) = pure cl ∧
      ∀ x, (∀ c, cl.lookup x = some c → acc.lookup x = some c ∨ env.cells.lookup x = some c) ∧ ((acc.lookup x).isSome = true ∨ (x, NameKind.free) ∈ names → (cl.lookup x).isSome = true)
  | [], acc, _ => ⟨acc, rfl, fun x => ⟨fun c h => .inl h, fun h => h.elim id fun z => nomatch z⟩⟩
  | (n, k) :: r, acc, hf => by
    by_cases hk : k = .free
    · subst hk
      obtain ⟨c, hc⟩ := hf (n, .free) List.mem_cons_self rfl
      obtain ⟨cl, e, q⟩ := closure_ok r ((n, c) :: acc) fun y hy => hf y (List.mem_cons_of_mem _ hy)
      refine ⟨cl, ?_, fun x => ⟨fun d hd => ?_, fun hx => ?_⟩⟩
      · rw [List.forIn_cons]
        have e1 : cellOf env n = pure c := by unfold cellOf; simp only [hc]
        simp only [beq_self_eq_true, if_true, e1]
        exact e
      · rcases (q x).1 d hd with z | z
        · by_cases hx : x = n
          · subst hx; rw [List.lookup_cons_self] at z; cases z; exact .inr hc
          · rw [List.lookup_cons, beq_eq_false_iff_ne.mpr hx] at z; exact .inl z
        · exact .inr z
      · refine (q x).2 ?_
        by_cases hxn : x = n
        · subst hxn; exact .inl (by rw [List.lookup_cons_self]; rfl)
        · rcases hx with z | z
          · exact .inl (by rw [List.lookup_cons, beq_eq_false_iff_ne.mpr hxn]; exact z)
          · rcases List.mem_cons.mp z with z | z
            · cases z; exact absurd rfl hxn
            · exact .inr z
    · obtain ⟨cl, e, q⟩ := closure_ok r acc fun y hy => hf y (List.mem_cons_of_mem _ hy)
      refine ⟨cl, ?_, fun x => ⟨(q x).1, fun hx => (q x).2 ?_⟩⟩
      · rw [List.forIn_cons]
        have hb : (k == NameKind.free) = false := by simpa using hk
        simp only [hb, Bool.false_eq_true, if_false]
        exact e
      · rcases hx with z | z
        · exact .inl z
        · rcases List.mem_cons.mp z with z | z
          · cases z; exact absurd rfl hk
          · exact .inr z
theorem closure_at {env : Env} {scope : Scope} (hf : ∀ y ∈ scope.names, y.2 = .free → ∃ c, env.cells.lookup y.1 = some c) :
    ∃ cl, closureFor scope env = pure cl ∧ (∀ x c, cl.lookup x = some c → env.cells.lookup x = some c) ∧ ∀ x, (x, NameKind.free) ∈ scope.names → ∃ c, cl.lookup x = some c := by
  obtain ⟨cl, e, q⟩ := closure_ok scope.names [] hf
  refine ⟨cl, ?_, fun x c h => ?_, fun x hx => Option.isSome_iff_exists.mp ((q x).2 (.inr hx))⟩
  · unfold closureFor
    exact (congrArg (· >>= fun r => pure r) e).trans rfl
  · rcases (q x).1 c h with z | z
    · simp at z
    · exact z

noncomputable abbrev Cx.comp (X : Cx) (N : List Str) (scope : Scope) (cl : List (Str × Addr)) (C : Addr) (fp : List Addr) (s : Shared) (H : Hp) : Cx :=
  { X with N := N, s₀ := s, H₀ := H, env := compEnvC scope cl C X.env, outer := X.stack, stack := X.stack, ex := fp, fn := fun _ => false, pn := [], xe := fun _ _ => False }

structure PTs (X : Cx) (ifs : List Expr) (t : TT)  : Prop where
  go : ∀ (pins : List (Addr × Obj)) (s : Shared) (σ : St) (H : Hp) (Q : Bool → Hp → Prop), Inv X pins σ H s → t σ H Q →
    wpAny (model X.prog X.w) X.A (forIn ifs true fun c r => if r = true then do let ok ← isTrue c X.env (eval c X.env); pure (ForInStep.yield ok) else pure (ForInStep.yield r)) (TP X pins σ Q) X.xe s
instance {X : Cx} {ifs : List Expr} {t : TT} : CoeFun (PTs X ifs t) (fun _ => ∀ (pins : List (Addr × Obj)) (s : Shared) (σ : St) (H : Hp) (Q : Bool → Hp → Prop), Inv X pins σ H s → t σ H Q →
    wpAny (model X.prog X.w) X.A (forIn ifs true fun c r => if r = true then do let ok ← isTrue c X.env (eval c X.env); pure (ForInStep.yield ok) else pure (ForInStep.yield r)) (TP X pins σ Q) X.xe s) := ⟨PTs.go⟩
noncomputable def tYes : TT := fun _ H Q => Q true H
theorem pts_nil {X : Cx} : PTs X [] tYes := ⟨fun _ _ _ H _ I h => wpAny_tests_nil ⟨H, I, h⟩⟩
theorem pts_one {X : Cx} {c : Expr} {t : TT} (h : PT X c t) : PTs X [c] t := ⟨fun pins s σ H Q I q => wpAny_tests_one (h pins s σ H Q I q)⟩
noncomputable def compSt (own : Nat) (js : List Nat) (σ : St) : St := List.replicate own none ++ js.map fun j => (σ[j]?).join
noncomputable def CompGo (J : It) (p : Addr) (σ0 : St) (H0 : Hp) (g : TG) (tt : TT) (te : TE) (R : Hp → Prop) : Prop :=
  ∃ W : Nat → Nat → St → Hp → Prop, (∃ m, W 0 m σ0 H0) ∧ ∀ i m σ' H', W i m σ' H' →
    (J.stop i H' ∧ R H') ∨ (J.go i H' ∧ ∀ x H2, J.yld i H' x H2 → g x σ' H2 fun σ3 H3 => tt σ3 H3 fun b H4 =>
      if b = true then te σ3 H4 fun v H5 => ∃ ys, H5 p = some (.lst ys) ∧ ys.length < sizeLine ∧ ∃ m', m' < m ∧ W (i + 1) m' σ3 (upd H5 p (.lst (ys ++ [v])))
      else ∃ m', m' < m ∧ W (i + 1) m' σ3 H4)
noncomputable def tComp (wi : TI) (own : Nat) (js : List Nat) (g : TG) (tt : TT) (te : TE) : TE := fun σ H Q => wi σ H fun J H1 => ∀ p, H1 p = none → CompGo J p (compSt own js σ) (upd H1 p (.lst [])) g tt te (Q (.ref p))
inductive Frees (N : List Str) : List Str → List Nat → Prop where
  | nil : Frees N [] []
  | cons {y : Str} {j : Nat} {ys : List Str} {js : List Nat} (h : N[j]? = some y) (r : Frees N ys js) : Frees N (y :: ys) (j :: js)
theorem Frees.at {N : List Str} : ∀ {ys : List Str} {js : List Nat}, Frees N ys js → ∀ (i : Nat) (y : Str), ys[i]? = some y → ∃ j, js[i]? = some j ∧ N[j]? = some y
  | _, _, .nil, _, _, e => by simp at e
  | _, _, .cons (j := j) h _, 0, _, e => by simp at e; subst e; exact ⟨j, rfl, h⟩
  | _, _, .cons _ r, i + 1, y, e => by
    obtain ⟨j, h1, h2⟩ := r.at i y (by simpa using e)
    exact ⟨j, by simpa using h1, h2⟩
theorem Frees.length {N : List Str} : ∀ {ys : List Str} {js : List Nat}, Frees N ys js → ys.length = js.length
  | _, _, .nil => rfl
  | _, _, .cons _ r => by simp [r.length]
theorem lookup_map_names {f : Str → NameKind → NameKind} : ∀ {names : List (Str × NameKind)} {x : Str}, (names.map fun y => (y.1, f y.1 y.2)).lookup x = (names.lookup x).map (f x)
  | [], _ => rfl
  | (n, k) :: r, x => by
    by_cases h : x = n
    · subst h; rw [List.map_cons, List.lookup_cons_self, List.lookup_cons_self]; rfl
    · have hb : (x == n) = false := beq_eq_false_iff_ne.mpr h
      rw [List.map_cons, List.lookup_cons, List.lookup_cons, hb]
      exact lookup_map_names
noncomputable def relK (env : Env) (n : Str) (k : NameKind) : NameKind := if (k == .free && env.scope.kind == .function && env.kindOf n == some .cell) = true then .cell else k
theorem relabel_look (scope : Scope) (env : Env) (x : Str) : (relabel scope env).names.lookup x = (scope.names.lookup x).map (relK env x) := by
  have e : (relabel scope env).names = scope.names.map fun y => (y.1, relK env y.1 y.2) := by
    unfold relabel
    refine List.map_congr_left fun y _ => ?_
    obtain ⟨n, k⟩ := y
    show (if (k == .free && env.scope.kind == .function && env.kindOf n == some .cell) = true then (n, NameKind.cell) else (n, k)) = (n, relK env n k)
    unfold relK
    split <;> rfl
  rw [e, lookup_map_names]

section
variable {X : Cx} {elt target iter : Expr} {ifs : List Expr} {scope : Scope} {own ys : List Str} {js : List Nat} {wi : TI} {g : TG} {tt : TT} {te : TE} {pos : Pos}
theorem comp_block {pins : List (Addr × Obj)} {σ : St} {H : Hp} {s2 : Shared} {it : Addr} {fp : List Addr} {tn : Nat → Heap → Prop} {J : It} {Q : VK} {E : Value → Shared → Prop} {cl : List (Str × Addr)} {RR : Value → Addr → Result → Shared → Prop}
    (hc : X.calm = true) (I : Inv X pins σ H s2) (T : Turn X.prog X.w X.K target J fp it tn) (st : tn 0 s2.heap) (fpk : ∀ b ∈ fp, FpOk X pins H b)
    (hkind : scope.kind = .function) (hcell : ∀ y ∈ scope.names, y.2 ≠ .cell) (fr : Frees X.N ys js) (hys : ∀ y ∈ ys, X.env.kindOf y = some .cell)
    (hcl1 : ∀ x c, cl.lookup x = some c → X.env.cells.lookup x = some c) (hcl2 : ∀ x, (x, NameKind.free) ∈ scope.names → ∃ c, cl.lookup x = some c)
    (hvis : ∀ y ∈ ys, (relabel scope X.env).names.lookup y = some .cell)
    (hg : ∀ cl C fp s H, PG (X.comp (own ++ ys) scope cl C fp s H) target g) (ht : ∀ cl C fp s H, PTs (X.comp (own ++ ys) scope cl C fp s H) ifs tt) (he : ∀ cl C fp s H, PE (X.comp (own ++ ys) scope cl C fp s H) elt te)
    (h : ∀ p, H p = none → ∃ W : Nat → Nat → St → Hp → Prop, (∃ m, W 0 m (compSt own.length js σ) (upd H p (.lst []))) ∧ ∀ i m σ' H', W i m σ' H' →
      (J.stop i H' ∧ Q (.ref p) H') ∨ (J.go i H' ∧ ∀ x H2, J.yld i H' x H2 → g x σ' H2 fun σ3 H3 => tt σ3 H3 fun b H4 =>
        if b = true then te σ3 H4 fun v H5 => ∃ ys, H5 p = some (.lst ys) ∧ ys.length < sizeLine ∧ ∃ m', m' < m ∧ W (i + 1) m' σ3 (upd H5 p (.lst (ys ++ [v])))
        else ∃ m', m' < m ∧ W (i + 1) m' σ3 H4))
    (hRR : ∀ D C (H' : Hp) (s' : Shared), Inv X pins σ H' s' → Q (.ref D) H' → (∃ m, s'.heap.Ns C m) → H' C = none → C ≠ X.env.locals → X.s₀.heap.objs.size ≤ C → (∀ x c, X.env.cells.lookup x = some c → c ≠ C) → (∀ p ∈ X.pn ++ pins, p.1 ≠ C) → RR (.ref D) C (.ok .next) s') :
    wpAny (model X.prog X.w) X.A (newList []) (fun acc s3 => wpAny (model X.prog X.w) X.A (newFunctionEnv scope X.env.globals cl [] X.env.qual none .none (some X.env)) (fun cenv s4 =>
      codeAny (model X.prog X.w) X.A (.compStart (.ListComp elt [⟨target, iter, ifs, 0⟩] scope pos) 0 (.ref it) acc { cenv with scope := relabel scope X.env }) (RR acc cenv.locals) s4) E s3) E s2 := by
  refine wpAny_newObj_type (wpAny_newFunctionEnv hcell (by intro y hy; simp at hy) (fun h1 hns1 hsb1 => ?_) hkind)
  have hnp : H s2.heap.objs.size = none := I.hok.fresh (Nat.le_refl _)
  have I3 : Inv X pins σ (upd H s2.heap.objs.size (.lst [])) { s2 with heap := s2.heap.push { cls := .type "list", data := .seq ([] : List Value).toArray }, toks := s2.toks } :=
    I.lnew (its := []) (ys := []) .nil (Nat.zero_le _)
  obtain ⟨W, ⟨m0, w0⟩, turn⟩ := h _ hnp
  clear h
  generalize hH0 : upd H s2.heap.objs.size (.lst []) = H0 at I3 w0
  generalize hp : s2.heap.objs.size = p at *
  have eS : ({ s2 with heap := s2.heap.push { cls := .type "list", data := .seq ([] : List Value).toArray }, toks := s2.toks } : Shared) = { s2 with heap := s2.heap.push { cls := .type "list", data := .seq ([] : List Value).toArray } } := rfl
  rw [eS] at I3
  clear eS
  generalize hs3 : ({ s2 with heap := s2.heap.push { cls := .type "list", data := .seq ([] : List Value).toArray } } : Shared) = s3 at *
  have heap3 : s3.heap = s2.heap.push { cls := .type "list", data := .seq ([] : List Value).toArray } := by rw [← hs3]
  have old3 : ∀ b o, s2.heap.get? b = some o → s3.heap.get? b = some o := fun b o e => by rw [heap3]; exact Heap.get?_push_of_some _ e
  generalize hC : s3.heap.objs.size = C at *
  have st3 : tn 0 s3.heap := T.keep _ _ _ st fun b _ o e => old3 b o e
  have fp3 : ∀ b ∈ fp, b < C := fun b hb => by
    obtain ⟨o, e, _⟩ := T.obj _ _ st3 b hb
    have := Heap.lt_size e
    rw [hC] at this; exact this
  have nH0 : ∀ b ∈ fp, H0 b = none := fun b hb => by
    obtain ⟨o, e, _⟩ := T.obj _ _ st b hb
    rw [← hH0, upd_ne (fun z => by have := Heap.lt_size e; rw [hp, z] at this; exact Nat.lt_irrefl _ this)]
    exact (fpk b hb).1
  have old1 : ∀ b o, s3.heap.get? b = some o → h1.get? b = some o := fun b o e =>
    hsb1.extBut b o (fun z => by have := Heap.lt_size e; rw [hC, z] at this; exact Nat.lt_irrefl _ this) (Heap.get?_push_of_some _ e)
  have nstk : ∀ b ∈ fp, b ∉ frs X.stack := fun b hb z => by
    rcases List.mem_cons.mp (I.stkSub b z) with e | e
    · exact (fpk b hb).2.1 e
    · exact (fpk b hb).2.2.1 e
  have ncC : ∀ x c, X.env.cells.lookup x = some c → c ≠ C := fun x c e z => by
    obtain ⟨v, o, ho, _⟩ := I3.cell x c e
    have := Heap.lt_size ho
    rw [hC, z] at this; exact Nat.lt_irrefl _ this
  have LC : C ≠ X.env.locals := fun z => by have := I3.lt; rw [hC, z] at this; exact Nat.lt_irrefl _ this
  have sC : X.s₀.heap.objs.size ≤ C := by rw [← hC]; exact I3.sz
  have rl : ∀ x k, (compEnvC scope cl C X.env).kindOf x = some k → (k = .cell ∨ k = .free) → (x, NameKind.free) ∈ scope.names := fun x k e hk => by
    have e' : (relabel scope X.env).names.lookup x = some k := e
    rw [relabel_look] at e'
    cases q : scope.names.lookup x with
    | none => rw [q] at e'; cases e'
    | some k0 =>
      rw [q] at e'
      have m0 := PySem.mem_of_lookup q
      have n0 := hcell _ m0
      have : relK X.env x k0 = k := Option.some.inj e'
      unfold relK at this
      split at this
      · rename_i z
        have : k0 = .free := by
          simp only [Bool.and_eq_true, beq_iff_eq] at z
          exact z.1.1
        rw [← this]; exact m0
      · rcases hk with hk | hk
        · exact absurd (this.trans hk) n0
        · rw [← hk, ← this]; exact m0
  let Y := X.comp (own ++ ys) scope cl C fp s3 H0
  have okY : Y.Ok := by
    refine ⟨I.ok.mod, ?_, I.ok.glob, I.ok.blt, ?_, fun x y c e1 e2 => I.ok.inj x y c (hcl1 x c e1) (hcl1 y c e2), fun x hx => ?_, fun x c z => (nomatch z), I.ok.hd, I.ok.frames, .inl rfl, fun b hb => ⟨?_, fun x c e => (fpk b hb).2.2.2.2.1 x c (hcl1 x c e)⟩, fun b o e => I3.bs b o e, ?_, fun b o e hb => ?_, nstk, I3.stack, I3.stkFree⟩
    · exact hkind
    · exact Nat.le_of_eq hC
    · rcases hx with hx | hx
      · exact hcl2 x (rl x _ hx (.inl rfl))
      · exact hcl2 x (rl x _ hx (.inr rfl))
    · exact Nat.ne_of_lt (fp3 b hb)
    · exact Nat.le_trans I.ok.bsz I3.sz
    · rcases (fpk b hb).2.2.2.1 with z | z
      · exact I.ok.noex b o e z
      · exact absurd (Nat.lt_of_lt_of_le (Heap.lt_size e) (Nat.le_trans I.ok.bsz z)) (Nat.lt_irrefl _)
  have I4 : Inv Y [] (compSt own.length js σ) H0 { s3 with heap := h1, toks := s3.toks + ([] : List (Str × Value)).length } := by
    refine ⟨okY, rfl, I3.bare, Un.kept old1, ⟨_, hns1, fun i x v e1 e2 e3 => ?_⟩, fun x c e => ?_, ?_, fun x c e => I3.freeC x c (hcl1 x c e), fun p hp => absurd (show p ∈ ([] : List (Addr × Obj)) from hp) (by simp), I3.hok.kept old1, ?_⟩
    · have e1 : (own ++ ys)[i]? = some x := e1
      have hi : own.length ≤ i := Nat.le_of_not_lt fun lt => by
        unfold compSt at e2
        rw [List.getElem?_append_left (by simpa using lt), List.getElem?_replicate] at e2
        split at e2 <;> cases e2
      rw [List.getElem?_append_right hi] at e1
      obtain ⟨j, hj, hN⟩ := fr.at _ _ e1
      unfold compSt at e2
      rw [List.getElem?_append_right (by simpa using hi), List.length_replicate, List.getElem?_map, hj] at e2
      have e2 : (σ[j]?).join = some v := Option.some.inj e2
      have e2' : σ[j]? = some (some v) := by
        cases q : σ[j]? with
        | none => rw [q] at e2; cases e2
        | some z => rw [q] at e2; rw [show z = some v from e2]
      have my := List.mem_of_getElem? e1
      have hk := hys x my
      obtain ⟨m, hn, hl⟩ := I3.loc
      obtain ⟨u, r, q⟩ := hl j x v hN e2' (.inr (.inl hk))
      refine ⟨u, r, ?_⟩
      rcases q with ⟨k, _⟩ | ⟨_, c, e, z⟩
      · rw [hk] at k; cases k
      · obtain ⟨c', e'⟩ := hcl2 x (rl x _ (hvis x my) (.inl rfl))
        have : c' = c := by have := hcl1 x c' e'; rw [e] at this; exact (Option.some.inj this).symm
        subst this
        refine .inr ⟨?_, c', e', ?_⟩
        · exact .inl (hvis x my)
        · obtain ⟨o, ho, hd⟩ := z
          exact ⟨o, old1 _ _ ho, hd⟩
    · obtain ⟨v, o, ho, hd⟩ := I3.cell x c (hcl1 x c e)
      exact ⟨v, o, old1 _ _ ho, hd⟩
    · exact I3.hok.fresh (Nat.le_of_eq hC)
    · unfold compSt
      show _ = (own ++ ys).length
      rw [List.length_append, List.length_replicate, List.length_map, List.length_append, fr.length]
  have stat : ∀ {H' : Hp}, (∀ b ∈ fp, H' b = none) → ∀ b ∈ fp, FpOk Y [] H' b := fun hn b hb =>
    ⟨hn b hb, Nat.ne_of_lt (fp3 b hb), nstk b hb, .inl hb, fun x c e => (fpk b hb).2.2.2.2.1 x c (hcl1 x c e), fun p hp => absurd (show p ∈ ([] : List (Addr × Obj)) from hp) (by simp)⟩
  have fin : ∀ {σ' : St} {H' : Hp} {s' : Shared}, Inv Y [] σ' H' s' → Q (.ref p) H' → RR (.ref p) C (.ok .next) s' := fun {σ' H' s'} I' q => by
    have back : Inv X pins σ H' s' := I3.call' (ch := fp) I'.os I'.base I'.hok I'.bare fun b hb => ⟨(fpk b hb).2.2.2.1, (fpk b hb).2.1, (fpk b hb).2.2.2.2.1, (fpk b hb).2.2.2.2.2⟩
    obtain ⟨m, hn, _⟩ := I'.loc
    exact hRR p C H' s' back q ⟨m, hn⟩ I'.free LC sC ncC fun q hq z => by
      have := Heap.lt_size (I3.pin q hq).1
      rw [hC, z] at this; exact Nat.lt_irrefl _ this
  have loop : ∀ s4 : Shared, s4 = { s3 with heap := h1, toks := s3.toks + ([] : List (Str × Value)).length } →
      codeAny (model X.prog X.w) X.A (.compLoop (.ListComp elt [⟨target, iter, ifs, 0⟩] scope pos) 0 (.ref it) (.ref p) (compEnvC scope cl C X.env)) (RR (.ref p) C) s4 := by
    rintro s4 rfl
    refine comp_turns (fun n s' => ∃ i σ' H', Inv Y [] σ' H' s' ∧ tn i s'.heap ∧ (∀ b ∈ fp, H' b = none) ∧ W i n σ' H') ?_ m0 ⟨0, _, _, I4, T.keep _ _ _ st3 fun b _ o e => old1 b o e, nH0, w0⟩
    rintro n s5 ⟨i, σ5, H5, I5, st5, fr5, w5⟩
    rcases turn i n σ5 H5 w5 with ⟨stop, qn⟩ | ⟨go, step⟩
    · refine thn (T.done Y rfl rfl rfl hc i [] s5 σ5 H5 (fun _ _ => False) I5 (stat fr5) st5 stop) fun r s6 hzz => ?_
      obtain ⟨hr, I6⟩ := hzz
      subst hr
      exact fin I6 qn
    · refine thn (T.item Y rfl rfl rfl hc i [] s5 σ5 H5 (fun _ _ => False) I5 (stat fr5) st5 go) fun r s6 hzz => ?_
      obtain ⟨u, hr, h6⟩ := hzz
      subst hr
      refine thn h6 fun _ s7 hzz => ?_
      obtain ⟨x, H7, I7, r7, y7, st7, fr7⟩ := hzz
      have I7' := I7.pinned (stat fr7) (T.obj _ _ st7)
      have again : ∀ {σ9 : St} {H9 : Hp} {s9 : Shared} {m' : Nat}, Inv Y ([] ++ pinsAt fp s7.heap) σ9 H9 s9 → m' < n → W (i + 1) m' σ9 H9 → ∃ m, m < n ∧ ∃ i σ' H', Inv Y [] σ' H' s9 ∧ tn i s9.heap ∧ (∀ b ∈ fp, H' b = none) ∧ W i m σ' H' := fun {σ9 H9 s9 m'} I9 hm w9 => by
        refine ⟨m', hm, i + 1, σ9, H9, I9.unpinned, T.keep _ _ _ st7 fun b hb o e => (I9.pin (b, o) (List.mem_append_right _ (List.mem_append_right _ (mem_pinsAt hb e)))).1, fun b hb => ?_, w9⟩
        obtain ⟨o, e, d⟩ := T.obj _ _ st7 b hb
        exact (I9.pin (b, o) (List.mem_append_right _ (List.mem_append_right _ (mem_pinsAt hb e)))).2.1
      refine thn (hg cl C fp s3 H0 _ s7 σ5 H7 x u _ I7' r7 (step x H7 y7)) fun _ s8 hzz => ?_
      obtain ⟨σ8, H8, I8, q8⟩ := hzz
      refine thn (ht cl C fp s3 H0 _ s8 σ8 H8 _ I8 q8) fun b s9 hzz => ?_
      obtain ⟨H9, I9, q9⟩ := hzz
      cases b with
      | false =>
        obtain ⟨m', hm, w9⟩ := q9
        exact again I9 hm w9
      | true =>
        refine thn (he cl C fp s3 H0 _ s9 σ8 H9 _ I9 q9) fun y s10 hzz => ?_
        obtain ⟨v, H10, I10, r10, zs, e10, z10, m', hm, w10⟩ := hzz
        refine thn (mt_append (X := Y) _ s10 σ8 H10 (.ref p) [v] (.ref p) [y] (fun _ H' => H' = upd H10 p (.lst (zs ++ [v]))) I10 rfl (.cons r10 .nil) ⟨p, zs, v, rfl, rfl, e10, z10, rfl⟩) fun _ s11 hzz => ?_
        obtain ⟨_, H11, I11, _, q11⟩ := hzz
        subst q11
        exact again I11 hm w10
  have st4 : tn 0 h1 := T.keep _ _ _ st3 fun b _ o e => old1 b o e
  exact codeAny_compStart_list (loop _ rfl) (T.self _ 0 _ _ _ st4 (loop _ rfl))
end

section
variable {X : Cx} {elt target iter : Expr} {ifs : List Expr} {scope : Scope} {own ys : List Str} {js : List Nat} {wi : TI} {g : TG} {tt : TT} {te : TE} {pos : Pos}
structure CompSc (X : Cx) (scope : Scope) (ys : List Str) : Prop where
  kind : scope.kind = .function
  cell : ∀ y ∈ scope.names, y.2 ≠ .cell
  loc : ∀ y ∈ scope.names, y.2 = .local → scope.names.lookup y.1 = some .local
  free : ∀ y ∈ scope.names, y.2 = .free → X.env.kindOf y.1 = some .cell
  cap : ∀ y ∈ ys, X.env.kindOf y = some .cell
  vis : ∀ y ∈ ys, (relabel scope X.env).names.lookup y = some .cell
noncomputable def compScB (sc scope : Scope) (ys : List Str) : Bool :=
  scope.kind == .function && sc.kind == .function && (scope.names.all fun y => y.2 != .cell && (y.2 != .local || scope.names.lookup y.1 == some .local) && (y.2 != .free || sc.names.lookup y.1 == some .cell)) &&
    ys.all fun y => sc.names.lookup y == some .cell && scope.names.lookup y == some .free
theorem compSc_of {sc : Scope} (hsc : X.env.scope = sc) (h : compScB sc scope ys = true) : CompSc X scope ys := by
  unfold compScB at h
  simp only [Bool.and_eq_true, List.all_eq_true, beq_iff_eq, bne_iff_ne, Bool.or_eq_true, ne_eq] at h
  obtain ⟨⟨⟨h1, h0⟩, h2⟩, h3⟩ := h
  subst hsc
  refine ⟨h1, fun y hy => (h2 y hy).1.1, fun y hy e => ?_, fun y hy e => ?_, fun y hy => (h3 y hy).1, fun y hy => ?_⟩
  · rcases (h2 y hy).1.2 with z | z
    · exact absurd e z
    · exact z
  · rcases (h2 y hy).2 with z | z
    · exact absurd e z
    · exact z
  · rw [relabel_look, (h3 y hy).2]
    show some (relK X.env y .free) = _
    have z : X.env.kindOf y = some .cell := (h3 y hy).1
    unfold relK
    rw [z, h0]
    rfl
theorem pe_comp (hc : X.calm = true) (hi : PI X target iter wi) (S : CompSc X scope ys) (fr : Frees X.N ys js)
    (hg : ∀ cl C fp s H, PG (X.comp (own ++ ys) scope cl C fp s H) target g) (ht : ∀ cl C fp s H, PTs (X.comp (own ++ ys) scope cl C fp s H) ifs tt) (he : ∀ cl C fp s H, PE (X.comp (own ++ ys) scope cl C fp s H) elt te)
    (hs : ∀ x, foldedSetIterable iter X.env x = pure x := by intro _; rfl) : PE X (.ListComp elt [⟨target, iter, ifs, 0⟩] scope pos) (tComp wi own.length js g tt te) := by
  refine ⟨?_⟩
  intro pins s σ H Q I h
  rw [eval_ListComp]
  obtain ⟨cl, e, c1, c2⟩ := closure_at (env := X.env) (scope := scope) fun y hy hf => I.ok.has y.1 (.inl (S.free y hy hf))
  refine wpAny_comprehension_free (use := none) rfl hs e S.kind S.loc (thn (hi pins s σ H _ I h) fun v s1 h1 => thn h1 fun itv s2 h2 => ?_)
  obtain ⟨it, fp, tn, J, H2, e, I2, T, st2, f2, q2⟩ := h2
  subst e
  refine comp_block (Q := Q) (RR := fun acc C => compPost (model X.prog X.w) X.A X.xe none (EP X pins σ Q) acc C) hc I2 T st2 f2 S.kind S.cell fr S.cap c1 c2 S.vis hg ht he q2 ?_
  intro D C H' s' I' q hm n1 n2 n3 n4 n5
  obtain ⟨m, hn⟩ := hm
  exact ⟨m, hn, fun h' hs' => ⟨.ref D, H', I'.turned (fun b o hb e => (hs'.2 b hb).trans e) n1 n2 (.inr n3) n4 n5, rfl, q⟩⟩
end
end L2

set_option Elab.async false
set_option linter.all false
set_option maxRecDepth 100000
namespace L2
open PySem PySem.Spec PyProof.Rows
section
variable {X : Cx} {x : Str} {p pos : Pos} {e : Expr} {es : List Expr} {t : TA}

noncomputable def GInt (mg : Str → Option Value) (x : Str) (i : Int) : Prop := ∃ t, mg x = some (.int i t)
theorem pe_gint {i : Int} (hg : Gl X x) (hm : GInt X.mg x i) (hd : (x == ("__debug__" : Str)) = false := by decide) : PE X (.Name x pos) (tC (.int i)) := by
  obtain ⟨t, hm⟩ := hm
  exact pe_glob (v := .int i) hg hm ⟨t, rfl⟩ hd
theorem pe_gref {a : Addr} (hg : Gl X x) (hm : X.mg x = some (.ref a)) (hd : (x == ("__debug__" : Str)) = false := by decide) : PE X (.Name x pos) (tC (.ref a)) := pe_glob (v := .ref a) hg hm rfl hd

structure Cal (P : Program) (w : World) (K : PySem.W.Frag) (mg : Str → Option Value) (base : Heap) (CX : CXT) (k : Nat) (x : Str) (ps : List Str) (sp : Sp) : Prop where
  ex : ∃ f fd, FnOk P w K mg base CX k f fd ps sp ∧ mg x = some (.ref f) ∧ PySem.W.keepIn K (.ref f) = true ∧ Binds K fd ps []
theorem pe_callC {CX : CXT} {k n : Nat} {ps : List Str} {sp : Sp} {E : XK} (C : Cal X.prog X.w X.K X.mg X.base CX k x ps sp) (hr : Room n X.A) (hg : Gl X x) (ha : PA X (e :: es) t) (hx : Passes CX X E) (hk : k ≤ n := by first | decide | (first | lia | omega)) (hdb : (x == ("__debug__" : Str)) = false := by decide)
    (he : starEach (e :: es) X.env = (false, eval e X.env) :: starEach es X.env := by rfl) (hpl : (backTo pos (starEach es X.env)).any (·.1) = false := by rfl) : PE X (.Call (.Name x p) (e :: es) [] pos) (tCall sp [] E t) := by
  obtain ⟨f, fd, F, hm, kp, hb⟩ := C.ex
  exact pe_call F (hr.mono hk) hg hm kp hb .nil hx ha hdb he hpl
inductive Consts : List Expr → List V → Prop where
  | nil : Consts [] []
  | int {i j pos es vs} (r : Consts es vs) : Consts (.Constant (.int i) j pos :: es) (.int i :: vs)
  | str {x j pos es vs} (r : Consts es vs) : Consts (.Constant (.str x) j pos :: es) (.str x :: vs)
theorem pa_consts : ∀ {es : List Expr} {vs : List V}, Consts es vs → PA X es (fun _ H Q => Q vs H)
  | _, _, .nil => ⟨fun pos pins s σ H Q I h => pa_nil pos pins s σ H Q I h⟩
  | _, _, .int r => ⟨fun pos pins s σ H Q I h => pa_cons pe_int (pa_consts r) (by rfl) pos pins s σ H Q I h⟩
  | _, _, .str r => ⟨fun pos pins s σ H Q I h => pa_cons pe_str (pa_consts r) (by rfl) pos pins s σ H Q I h⟩

noncomputable def rIsi (K : PySem.W.Frag) : List V → Hp → VK → Prop := fun xs H Q =>
  (∃ x n t b, xs = [x, .ty n] ∧ TyOf K H x t ∧ PySem.W.kitOne K t (.type n) = some b ∧ Q (.bl b) H) ∨ ∃ x C t b, xs = [x, .ref C] ∧ TyOf K H x t ∧ PySem.W.kitOne K t (.ref C) = some b ∧ Q (.bl b) H
theorem call_isiK (K : PySem.W.Frag) (hK : X.K = K) : CallR X (.builtin "isinstance") (rIsi K) := by
  subst hK
  intro pins s σ H xs us Q I r h
  rcases h with ⟨x, n, t, b, rfl, ty, e, q⟩ | ⟨x, C, t, b, rfl, ty, e, q⟩
  · obtain ⟨u, w', rfl, ru, rw'⟩ := vals2 r
    cases rw'
    exact isinst_ok I ru ty e fun tk => ⟨.bl b, H, I.tok tk, rfl, q⟩
  · obtain ⟨u, w', rfl, ru, rw'⟩ := vals2 r
    cases rw'
    exact isinst_ok I ru ty e fun tk => ⟨.bl b, H, I.tok tk, rfl, q⟩
theorem call_isi : CallR X (.builtin "isinstance") (rIsi X.K) := call_isiK X.K rfl

theorem ix_listK (K : PySem.W.Frag) (hK : X.K = K) : IxR X (rIxL K) := hK ▸ ix_list
theorem ix_tupK (K : PySem.W.Frag) (hK : X.K = K) : IxR X (rIxT K) := hK ▸ ix_tup
noncomputable def rSlS : V → Option Int → Option Int → Hp → VK → Prop := fun x lo hi H Q => ∃ z, x = .str z ∧ z.length ≤ sizeLine ∧ Q (.str (Txt.slice z lo hi)) H
noncomputable def rJoin (K : PySem.W.Frag) : V → List V → Hp → VK → Prop := fun x vs H Q => ∃ z l ys, x = .str z ∧ vs = [.ref l] ∧ SqL K H l (ys.map V.str) ∧ (ys.map (·.length)).sum + ys.length * z.length ≤ 16777216 ∧ Q (.str (Txt.join z ys)) H
noncomputable def FirstAt (xs : List V) (y : V) (j : Nat) : Prop := (∃ z, xs[j]? = some z ∧ eqV z y = true) ∧ ∀ (m : Nat) (z : V), m < j → xs[m]? = some z → eqV z y = false
noncomputable def rIndex (S : Hp → Addr → List V → Prop) : V → List V → Hp → VK → Prop := fun x vs H Q => ∃ l xs y j, x = .ref l ∧ vs = [y] ∧ S H l xs ∧ flatV y = true ∧ xs.all flatV = true ∧ FirstAt xs y j ∧ Q (.int (j : Nat)) H
end
end L2

set_option Elab.async false
set_option linter.all false
set_option maxRecDepth 100000
namespace L2
open PySem PySem.Spec PyProof.Rows
theorem bt_len : bootBuiltins "len" = some (.builtin "len") := PySem.boot_len
theorem bt_abs : bootBuiltins "abs" = some (.builtin "abs") := by decide +kernel
theorem bt_isinstance : bootBuiltins "isinstance" = some (.builtin "isinstance") := by decide +kernel
theorem bt_int : bootBuiltins "int" = some (.type "int") := by decide +kernel
theorem bt_bool : bootBuiltins "bool" = some (.type "bool") := by decide +kernel
theorem bt_list : bootBuiltins "list" = some (.type "list") := by decide +kernel
theorem bt_tuple : bootBuiltins "tuple" = some (.type "tuple") := by decide +kernel
theorem bt_reversed : bootBuiltins "reversed" = some (.type "reversed") := by decide +kernel
theorem bt_max : bootBuiltins "max" = some (.builtin "max") := by decide +kernel

theorem small {n : Nat} (h : n ≤ 1000) : n ≤ sizeLine := Nat.le_of_lt (small1000 h)
theorem same_new {H : Hp} {p : Addr} (h : H p = none) (o : HO) : Same H (upd H p o) := fun b u q => by rw [upd_ne (ne_of_none q h)]; exact q

noncomputable def Scr (K : PySem.W.Frag) (H : Hp) (a : Addr) (ns : List Int) : Prop :=
  (∃ o, H a = some (.frz o (.lst (ns.map V.int)))) ∨
    ∃ (o : Obj) (its : Array Value) (n : Nat), K.lookup a = some o ∧ o.cls = .type "list" ∧ o.dict = none ∧ o.data = .seq its n ∧ its.size ≤ sizeLine ∧ Vals (ns.map V.int) its.toList
theorem Scr.sq {K : PySem.W.Frag} {H : Hp} {a : Addr} {ns : List Int} (h : Scr K H a ns) : SqL K H a (ns.map V.int) := by
  rcases h with h | h
  · exact .inl (.inr h)
  · exact .inr h
theorem Scr.of {K : PySem.W.Frag} {H : Hp} {a : Addr} {ns : List Int} (hO : Only H) (h : SqL K H a (ns.map V.int)) : Scr K H a ns := by
  rcases h with (h | h) | h
  · rcases hO a with z | ⟨o, xs, z⟩
    · rw [h] at z; cases z
    · rw [h] at z; cases z
  · exact .inl h
  · exact .inr h
noncomputable def Keep (st : Addr) (H H' : Hp) : Prop := ∀ b o, b ≠ st → H b = some o → H' b = some o
theorem Keep.refl (st : Addr) (H : Hp) : Keep st H H := fun _ _ _ e => e
theorem Keep.trans {st : Addr} {H H1 H2 : Hp} (a : Keep st H H1) (b : Keep st H1 H2) : Keep st H H2 := fun c o n e => b c o n (a c o n e)
theorem Keep.same {st : Addr} {H H1 : Hp} (a : Same H H1) : Keep st H H1 := fun c o _ e => a c o e
theorem Keep.upd {st : Addr} {H : Hp} {o : HO} : Keep st H (upd H st o) := fun c u n e => by rw [upd_ne n]; exact e
theorem Keep.new {st p : Addr} {H : Hp} (o : HO) (h : H p = none) : Keep st H (L2.upd H p o) := Keep.same (same_new h o)
theorem Scr.keep {K : PySem.W.Frag} {H H' : Hp} {a st : Addr} {ns : List Int} {xs : List V} (h : Scr K H a ns) (hst : H st = some (.lst xs)) (k : Keep st H H') : Scr K H' a ns := by
  rcases h with ⟨o, h⟩ | h
  · exact .inl ⟨o, k a _ (fun z => by rw [z, hst] at h; cases h) h⟩
  · exact .inr h
noncomputable def Draw (K : PySem.W.Frag) (H : Hp) (st : Addr) : Prop := ∃ a ns k c, H st = some (.lst [.ref a, .int k, .int c]) ∧ Scr K H a ns ∧ ns.length ≤ 63 ∧ 0 ≤ k ∧ 0 ≤ c
structure Drawn (K : PySem.W.Frag) (st : Addr) (H H' : Hp) : Prop where
  draw : Draw K H' st
  keep : Keep st H H'
theorem Drawn.trans {K : PySem.W.Frag} {st : Addr} {H H1 H2 : Hp} (a : Drawn K st H H1) (b : Drawn K st H1 H2) : Drawn K st H H2 := ⟨b.draw, a.keep.trans b.keep⟩
theorem Draw.refl {K : PySem.W.Frag} {st : Addr} {H : Hp} (d : Draw K H st) : Drawn K st H H := ⟨d, Keep.refl st H⟩
theorem Draw.ne {K : PySem.W.Frag} {st b : Addr} {H : Hp} (d : Draw K H st) (h : H b = none) : st ≠ b := by
  obtain ⟨a, ns, k, c, e, _⟩ := d
  exact ne_of_none e h
theorem Draw.same {K : PySem.W.Frag} {st : Addr} {H H' : Hp} (d : Draw K H st) (h : Same H H') : Draw K H' st := by
  obtain ⟨a, ns, k, c, e, s, r⟩ := d
  exact ⟨a, ns, k, c, h _ _ e, s.keep e (Keep.same h), r⟩
theorem Draw.new {K : PySem.W.Frag} {st p : Addr} {H : Hp} (d : Draw K H st) (h : H p = none) (o : HO) : Drawn K st H (upd H p o) := ⟨d.same (same_new h o), Keep.new o h⟩
theorem Draw.put {K : PySem.W.Frag} {st p : Addr} {H : Hp} {xs ys : List V} (d : Draw K H st) (hp : H p = some (.lst xs)) (n : p ≠ st) : Draw K (upd H p (.lst ys)) st := by
  obtain ⟨a, ns, k, c, e, s, r⟩ := d
  refine ⟨a, ns, k, c, (by rw [upd_ne (Ne.symm n)]; exact e), ?_, r⟩
  rcases s with ⟨o, s⟩ | s
  · exact .inl ⟨o, by rw [upd_ne (fun z => by rw [z, hp] at s; cases s)]; exact s⟩
  · exact .inr s

noncomputable def spMixed : Sp := fun vs H Q _ => ∃ c k : Int, vs = [.int c, .int k] ∧ ∀ r : Int, 0 ≤ r → Q (.int r) H
noncomputable def spTake (K : PySem.W.Frag) : Sp := fun vs H Q _ => ∃ (st : Addr) (many : Int), vs = [.ref st, .int many] ∧ 0 < many ∧ many < 1073741824 ∧ Draw K H st ∧ ∀ (r : Int) (H' : Hp), 0 ≤ r → r < many → Drawn K st H H' → Q (.int r) H'
noncomputable def spLaw (K : PySem.W.Frag) : Sp := fun vs H Q _ => ∃ (a : Addr) (ns : List Int), vs = [.ref a] ∧ Scr K H a ns ∧ ns.length ≤ 63 ∧ ∀ H', Q (.bl true) H'
theorem atI_int {ns : List Int} {k : Int} (h0 : 0 ≤ k) (h : k < (ns.length : Int)) : ∃ v : Int, atI (ns.map V.int) k = some (.int v) := by
  have hk : k.toNat < ns.length := by (first | lia | omega)
  have q : atI (ns.map V.int) ((k.toNat : Nat) : Int) = some (.int ns[k.toNat]) := atI_nat (by rw [List.getElem?_map, List.getElem?_eq_getElem hk] <;> rfl)
  rw [show ((k.toNat : Nat) : Int) = k by (first | lia | omega)] at q
  exact ⟨_, q⟩

theorem tyes {σ : St} {H : Hp} {A B : Hp → Prop} (h : A H) : tYes σ H fun b H4 => if b = true then A H4 else B H4 := by
  show if true = true then A H else B H
  exact iteT h
noncomputable def CompW (n : Nat) (fs : St) (Pv : Nat → List V → Hp → Prop) (i m : Nat) (σ : St) (H : Hp) : Prop := i ≤ n ∧ m = n - i ∧ (∃ v, σ = v :: fs) ∧ ∃ ys, Pv i ys H
theorem CompW.next {n : Nat} {fs : St} {Pv : Nat → List V → Hp → Prop} {i : Nat} {v : Option V} {H : Hp} {ys : List V} (hi : i < n) (h : Pv (i + 1) ys H) : ∃ m', m' < n - i ∧ CompW n fs Pv (i + 1) m' (v :: fs) H :=
  ⟨n - (i + 1), by (first | lia | omega), by (first | lia | omega), rfl, ⟨v, rfl⟩, ys, h⟩
theorem comp_rng {lo : Int} {n : Nat} {fs : St} {tt : TT} {te : TE} {R : Hp → Prop} {p : Addr} {H0 : Hp} (Pv : Nat → List V → Hp → Prop) (h0 : Pv 0 [] H0)
    (hs : ∀ i ys H, i < n → Pv i ys H → tt (some (.int (lo + (i : Nat))) :: fs) H fun b H4 =>
      if b = true then te (some (.int (lo + (i : Nat))) :: fs) H4 fun v H5 => ∃ ys, H5 p = some (.lst ys) ∧ ys.length < sizeLine ∧ ∃ m', m' < n - i ∧ CompW n fs Pv (i + 1) m' (some (.int (lo + (i : Nat))) :: fs) (upd H5 p (.lst (ys ++ [v])))
      else ∃ m', m' < n - i ∧ CompW n fs Pv (i + 1) m' (some (.int (lo + (i : Nat))) :: fs) H4)
    (hd : ∀ ys H, Pv n ys H → R H) : CompGo (Itr lo n) p (none :: fs) H0 (gName 0) tt te R := by
  refine ⟨CompW n fs Pv, ⟨n, Nat.zero_le _, rfl, ⟨_, rfl⟩, [], h0⟩, fun i m σ' H' w => ?_⟩
  obtain ⟨hi, rfl, ⟨v, rfl⟩, ys, hp⟩ := w
  by_cases hlt : i < n
  · refine .inr ⟨hlt, fun x H2 y => ?_⟩
    obtain ⟨rfl, rfl⟩ := y
    exact hs i ys _ hlt hp
  · have : i = n := by (first | lia | omega)
    subst this
    exact .inl ⟨Nat.le_refl _, hd ys H' hp⟩
theorem kit_of {K : PySem.W.Frag} {t : Value} {n : String} {b : Bool} (h : PySem.W.subIn K t (.type n) = some b) (h1 : (t == Value.type n) = false := by decide) (h2 : PySem.W.kitMeta n = true := by decide +kernel) : PySem.W.kitOne K t (.type n) = some b := by
  unfold PySem.W.kitOne PySem.W.kitCls
  rw [h1]
  simp only [Bool.false_eq_true, if_false, h2, if_true]
  exact h
theorem kit_self {K : PySem.W.Frag} {t : Value} (h : (t == t) = true := by decide) : PySem.W.kitOne K t t = some true := by
  unfold PySem.W.kitOne
  rw [if_pos h]
theorem sqT_of {K : PySem.W.Frag} {a : Addr} {its : Array Value} {n : Nat} {sl : Array (Option Value)} {dd : Option Addr} {xs : List V} (h : K.lookup a = some ⟨.type "tuple", dd, .seq its n, sl⟩) (hz : its.size ≤ sizeLine) (r : Vals xs its.toList) (H : Hp) : SqT K H a xs :=
  .inr ⟨_, its, n, h, rfl, rfl, hz, r⟩
noncomputable def absVs : List Value → List V
  | [] => []
  | u :: r => (absV u).getD .non :: absVs r
end L2

set_option Elab.async false
set_option linter.all false
set_option maxRecDepth 100000
namespace L2
open PySem PySem.Spec PySem.W PyProof.Rows
section
variable {prog : Program} {w : World} {A : Around} {K : Frag} {E : Value → Shared → Prop} {h : Heap} {g : Array GenState} {d : PySem.Drawn} {t : Nat} {os : OsState} {R : Result → Shared → Prop}
variable {nm q : Str} {C N f : Addr} {bs bm bmB : List Value} {hdct : Bool} {sn : List Str} {sub : List Value} {ab : Bool} {col : Option Bool} {dd : Option Addr} {k0 k1 k2 k3 k5 : Option Value} {B newId initId : String}
noncomputable abbrev excObj (C tp : Addr) : Obj := { cls := .ref C, data := .fields #[.ref tp, .none, .none, .none, .bool false, .none] }
noncomputable abbrev excHeap (h : Heap) (C : Addr) (rest : List Value) : Heap := (h.push { cls := .type "tuple", data := .seq rest.toArray }).push (excObj C h.objs.size)
theorem exc_make (X : K.In h) (hC : h.get? C = some (excClassObj nm q C N bs bm hdct sn sub ab col dd k0 k1 k2 k3 k5 newId)) (F : ExcBaseFacts B newId initId bmB) (T : OwnTail h bmB bm)
    (hi : findIn K (.ref C) "__init__" = some (some (.ref f))) (hf : typeIn K (.ref f) = some (.type "function")) {rest : List Value} (hrest : rest.length ≤ sizeLine)
    (hq : codeAny (model prog w) (A.under (.builtin "type.__call__" ⟨.ref C :: rest, []⟩)) (.call (.ref f) ⟨.ref (h.objs.size + 1) :: rest, []⟩) (InitBack (h.objs.size + 1) R) ⟨excHeap h C rest, g, d, t, os⟩) :
    codeAny (model prog w) A (.call (.ref C) ⟨rest, []⟩) R ⟨h, g, d, t, os⟩ := by
  have f1 := tc_lookup
  have f2 := tc_bind (.ref C)
  have hT : (⟨h, g, d, t, os⟩ : Shared).TypeIs (.ref C) "type" := ⟨_, hC, rfl⟩
  refine codeAny_of_tree ?_
  show wpAny _ _ (callAny (.ref C) _) _ _ _
  repeat (any_goals (first | assumption | with_reducible refine wpAny_loadPart_at hC ?_ | wp_step))
  refine ⟨rfl, ?_⟩
  refine codeAny_call_builtin_at (Code.quiet_builtin _ (by decide +kernel)) entry_typeCall (wpAny_check_type_call_sub hC ?_)
  repeat (first | with_reducible refine wpAny_loadPart_at hC ?_ | with_reducible refine wpAny_madeBy_exc hC ?_ | wp_step)
  refine codeAny_call_builtin_code (Code.quiet_builtin _ F.quiet) (wpAny_check_new_subT F T hC ?_)
  refine codeAny_exc_new_subT F T hC ?_ hrest
  show wpAny _ _ _ _ _ _
  have k : ∀ b o, h.get? b = some o → (excHeap h C rest).get? b = some o := fun b o e => Heap.get?_push_of_some _ (Heap.get?_push_of_some _ e)
  have hx : (excHeap h C rest).get? (h.objs.size + 1) = some (excObj C h.objs.size) := by heap_get
  have t1 : Looks (model prog w) (excHeap h C rest) (typeOf (.ref (h.objs.size + 1))) (.ref C) := (Looks.ld hx).andThen .now
  have hcC : (Value.ref C :: bm).contains (.ref C) = true := by simp
  have i1 := (looks_findIn (M := model prog w) X hi).keeps k
  have b1 := (bind_fn (M := model prog w) X (.ref (h.objs.size + 1)) hf).keeps k
  have s1 : Looks (model prog w) (excHeap h C rest) (isSubtype (.ref C) (.ref C)) true := by
    intro A' Q' E' s' kk hq'
    obtain ⟨h', g', d', t', os'⟩ := s'
    refine wpAny_isSubtype_exc (kk _ _ (k _ _ hC)) ?_
    rw [hcC]; exact hq'
  have n1 : Looks (model prog w) (excHeap h C rest) (isInstance (.ref (h.objs.size + 1)) (.ref C)) true := t1.andThen s1
  refine wpAny_bind (n1.at ?_)
  have c1 : Looks (model prog w) (excHeap h C rest) (specialOf (.ref (h.objs.size + 1)) "__init__") (some (.ref f)) := t1.andThen i1
  unfold callSpecial?
  repeat (first | with_reducible refine wpAny_call ?_ | lk)
  refine codeAny_mono hq fun r s' z => ?_
  rcases r with e | (v | _ | _ | _) <;> first | exact z | exact z.elim | skip
  obtain ⟨rfl, z⟩ := z
  exact wpAny_pure (wpAny_pure z)

structure ExCls (K : Frag) (C : Addr) : Prop where
  cd : ∃ cd, clsIn K C = some cd ∧ cd.hasDict = true ∧ ∀ self, refuseLoop self "__setattr__" cd.mro = pure ()
  obj : mroIn K C (.type "object") = some true
  base : mroIn K C (.type "BaseException") = some true
  sa : findIn K (.ref C) "__setattr__" = some (some (.builtin "object.__setattr__"))
  ga : findIn K (.ref C) "__getattribute__" = some (some (.builtin "BaseException.__getattribute__"))
  noHook : findIn K (.ref C) "__getattr__" = some none

section
variable {s : Shared} {x : Addr} {ox : Obj} {od : Option Obj} {name : Str} {v : Value} {expr : Bool} {Q : Value → Shared → Prop}
theorem exc_getattr (X : K.In s.heap) (I : InstAt s.heap x ox C od) (Ec : ExCls K C) (hf : findObj K C od name = some (.value v)) (hh : handedIn v = true) (hq : Q v { s with toks := s.toks + 1 }) :
    wpAny (model prog w) A (getAttr (.ref x) name expr) Q E s := by
  obtain ⟨h, g, d, t, os⟩ := s
  have L0 := I.type (M := model prog w)
  have L1 := looks_findIn (M := model prog w) X Ec.ga
  have L2' := looks_findIn (M := model prog w) X Ec.noHook
  have L3 := looks_find (M := model prog w) X I hf
  have Lb : Looks (model prog w) h (isInstance (.ref x) (.type "BaseException")) true := L0.andThen (looks_mroIn X Ec.base)
  have f3 := F.excAttr_ValueError.ga.bind (.ref x)
  have hx0 : (expr && onTheHeap (Value.builtin "BaseException.__getattribute__")) = false := by cases expr <;> rfl
  have hk : builtinKind "BaseException.__getattribute__" = some .slot := by decide +kernel
  have hsplit : splitId "BaseException.__getattribute__" = some ("BaseException", "__getattribute__") := by decide +kernel
  unfold getAttr getAttrBy
  refine wpAny_bind (wpAny_mkText (wpAny_holding (wpAny_bind (L0.at (wpAny_bind (L1.at ?_))))))
  show wpAny _ _ (getAttrByItsOwn _ _ _ _ _ _) _ _ _
  unfold getAttrByItsOwn
  refine wpAny_bind (L2'.at (wpAny_bind (wpAny_attempt (wpAny_holding ?_))))
  unfold callGetattribute
  rw [hx0]
  unfold boundAndCalled
  show wpAny _ _ (bindSpecial _ _ >>= _) _ _ _
  rw [f3]
  refine wpAny_bind (wpAny_pure (wpAny_call (codeAny_call_builtin F.excAttr_ValueError.ga.plain F.entry_bexc_ga (@check_slot (model prog w) _ _ _ "BaseException.__getattribute__" "BaseException" "__getattribute__" (.ref x) [.str name t] [] _ hk hsplit Lb (F.args_bexc_ga _ _) ?_))))
  refine wpAny_bind (wpAny_pure (wpAny_bind (wpAny_pure (wpAny_bind (L0.at (wpAny_bind (L3.at ?_)))))))
  refine wpAny_pure ?_
  show wpAny _ _ (handedOut v) _ _ _
  rw [handedOut_of hh]; exact wpAny_pure hq
theorem exc_osa {tk : Tok} {R : Result → Shared → Prop} (X : K.In s.heap) (I : InstAt s.heap x ox C od) (Ec : ExCls K C) (ha : findIn K (.ref C) name = some none)
    (hq : wpAny (model prog w) A.in1 (PySem.Builtin.ObjectAttr.storeInOwnDict (.ref x) (.ref C) (.str name tk) name v false)
      (fun fin s' => match fin with | .done f => R (.ok f) s' | .again c' => c'.quiet = true ∧ codeAny (model prog w) A c' R s') (fun e s' => R (.error e) s') s) :
    codeAny (model prog w) A (.call (.builtin "object.__setattr__") ⟨[.ref x, .str name tk, v], []⟩) R s := by
  have SF := PySem.F.store_object
  obtain ⟨cd, hc, hd, hp⟩ := Ec.cd
  have sub : Looks (model prog w) s.heap (isInstance (.ref x) (.type "object")) true := I.type.andThen (looks_mroIn X Ec.obj)
  refine codeAny_call_builtin SF.slot.plain SF.entry (@check_slot (model prog w) _ _ s "object.__setattr__" "object" "__setattr__" (.ref x) [.str name tk, v] [] _ SF.kind SF.split sub (SF.args (.ref x) (.str name tk) v) ?_)
  have hm : Looks (model prog w) s.heap (mroOf (.ref C)) cd.mro := (looks_clsIn X hc).andThen .now
  rw [osa_eq, refuse_eq]
  refine wpAny_bind (wpAny_bind (I.type.here (wpAny_bind (hm.here ?_))))
  rw [hp]
  exact wpAny_pure (wpAny_bind (I.type.here (wpAny_bind ((looks_findIn X ha).here (wpAny_bind (wpAny_pure hq))))))
theorem exc_set_new {vs : Array Value} {Qu : Unit → Shared → Prop} (X : K.In s.heap) (hx : s.heap.get? x = some ox) (hcl : ox.cls = .ref C) (hdi : ox.dict = none) (hda : ox.data = .fields vs) (Ec : ExCls K C) (ha : findIn K (.ref C) name = some none)
    (hq : ∀ h', h'.Ns1 s.heap.objs.size (fun y => if y = name then some v else none) → h'.get? x = some { ox with dict := some s.heap.objs.size } → (∀ b o, b ≠ x → s.heap.get? b = some o → h'.get? b = some o) → Qu () { s with heap := h', toks := s.toks + 2 }) :
    wpAny (model prog w) A (setAttr (.ref x) name v) Qu E s := by
  have I : InstAt s.heap x ox C none := ⟨hx, hcl, by unfold notCls; rw [hda], by rw [hdi]; trivial⟩
  obtain ⟨cd, hc, hd, hp⟩ := id Ec.cd
  refine set_plain X I Ec.sa (exc_osa (s := { s with toks := s.toks + 1 }) X I Ec ha ?_)
  have hxlt := Heap.lt_size hx
  clear I
  obtain ⟨oc, odi, oda, osl⟩ := ox
  dsimp only at hcl hdi hda
  subst hcl hdi hda
  refine wpAny_bind (wpAny_pure (wpAny_bind (wpAny_bind (wpAny_loadPart hx (wpAny_bind (Looks.here (s := { s with toks := s.toks + 1 }) (looks_clsIn X hc) ?_))))))
  rw [hd]
  show wpAny _ _ (alloc { cls := Value.type "dict", data := Data.dict #[] } >>= _) _ _ _
  refine wpAny_bind (wpAny_alloc (wpAny_bind ?_))
  have hx1 := Heap.get?_push_of_some (h := s.heap) ({ cls := Value.type "dict", data := Data.dict #[] } : Obj) hx
  refine wpAny_update hx1 (wpAny_pure ?_)
  have ne : s.heap.objs.size ≠ x := Nat.ne_of_gt hxlt
  have hx2 := Heap.get?_update_self (fun o : Obj => { o with dict := some s.heap.objs.size }) hx1 rfl
  have hd2 : ((s.heap.push ({ cls := Value.type "dict", data := Data.dict #[] } : Obj)).update x fun o => { o with dict := some s.heap.objs.size }).Ns1 s.heap.objs.size (fun _ => none) := by
    refine ⟨_, #[], _, (Heap.get?_update_other _ _ (Ne.symm ne)).trans (Heap.get?_push_size _ rfl), rfl, fun e he => by simp at he, List.Pairwise.nil, fun n => rfl⟩
  refine wpAny_bind (wpAny_pure (wpAny_bind ?_))
  refine wpAny_nsSet1 (s := { s with heap := (s.heap.push ({ cls := Value.type "dict", data := Data.dict #[] } : Obj)).update x fun o => { o with dict := some s.heap.objs.size }, toks := s.toks + 1 }) hd2 fun h' hn2 hs2 => ?_
  have w0 : PySem.Within (fun _ : Str => (none : Option Value)) [] := fun n hn => by first | cases hn | exact absurd rfl hn | simp at hn
  obtain ⟨oD, esD, epD, hoD, hdD, hcD⟩ := hn2.count (PySem.Within.cons name v w0)
  refine wpAny_bind (wpAny_lookBehind hoD (by rw [hdD]; exact pastItsLine_dict (Nat.le_trans hcD (show 1 ≤ sizeLine + 1 by decide))) ?_)
  refine wpAny_pure (hq _ hn2 ((hs2.2 _ (Ne.symm ne)).trans hx2) fun b o hb e => ?_)
  have hbs : b ≠ s.heap.objs.size := Nat.ne_of_lt (Heap.lt_size e)
  exact (hs2.2 _ hbs).trans ((Heap.get?_update_other _ _ (Ne.symm hb)).trans (Heap.get?_push_of_some _ e))
theorem exc_set_more {vs : Array Value} {dx : Addr} {mA : Str → Option Value} {ns : List Str} {Qu : Unit → Shared → Prop} (X : K.In s.heap) (hx : s.heap.get? x = some ox) (hcl : ox.cls = .ref C) (hdi : ox.dict = some dx) (hda : ox.data = .fields vs) (hn : s.heap.Ns1 dx mA)
    (hw : PySem.Within mA ns) (hsz : ns.length < sizeLine) (Ec : ExCls K C) (ha : findIn K (.ref C) name = some none)
    (hq : ∀ h', h'.Ns1 dx (fun y => if y = name then some v else mA y) → Heap.SameBut dx s.heap h' → Qu () { s with heap := h', toks := s.toks + 2 }) :
    wpAny (model prog w) A (setAttr (.ref x) name v) Qu E s := by
  obtain ⟨od, hod, _⟩ := lookIn_ns hn
  have I : InstAt s.heap x ox C (some od) := ⟨hx, hcl, by unfold notCls; rw [hda], by rw [hdi]; exact hod⟩
  obtain ⟨cd, hc, hd, hp⟩ := id Ec.cd
  refine set_plain X I Ec.sa (exc_osa (s := { s with toks := s.toks + 1 }) X I Ec ha ?_)
  clear I
  obtain ⟨oc, odi, oda, osl⟩ := ox
  dsimp only at hcl hdi hda
  subst hcl hdi hda
  refine wpAny_bind (wpAny_pure (wpAny_bind (wpAny_bind (wpAny_loadPart hx (wpAny_bind (Looks.here (s := { s with toks := s.toks + 1 }) (looks_clsIn X hc) ?_))))))
  rw [hd]
  refine wpAny_pure (a := some dx) (wpAny_bind (wpAny_pure (wpAny_bind ?_)))
  refine wpAny_nsSet1 (s := { s with toks := s.toks + 1 }) hn fun h' hn2 hs2 => ?_
  obtain ⟨oD, esD, epD, hoD, hdD, hcD⟩ := hn2.count (PySem.Within.cons name v hw)
  refine wpAny_bind (wpAny_lookBehind hoD (by rw [hdD]; exact pastItsLine_dict (Nat.le_trans hcD (by rw [List.length_cons]; (first | lia | omega)))) ?_)
  exact wpAny_pure (hq _ hn2 hs2)
end
end
end L2

set_option Elab.async false
set_option linter.all false
set_option maxRecDepth 100000
namespace L2
open PySem PySem.Spec PyProof.Rows
noncomputable def ExO (x C : Addr) (od : Option Addr) : HO := .ext fun h => ∃ o vs, h.get? x = some o ∧ o.cls = .ref C ∧ o.dict = od ∧ o.data = .fields vs ∧ 6 ≤ vs.size
noncomputable def ExN (x C : Addr) (od : Option Addr) : HO := .ext fun h => ∃ o vs, h.get? x = some o ∧ o.cls = .ref C ∧ o.dict = od ∧ o.data = .fields vs ∧ 6 ≤ vs.size ∧ vs[1]? = some .none
noncomputable def XdO (dx : Addr) (fs : List (Str × V)) : HO := .ext fun h => ∃ mA, h.Ns1 dx mA ∧ (∀ f, RelO (fs.lookup f) (mA f)) ∧ PySem.Within mA (fs.map (·.1))
section
variable {P : Program} {w : World} {H : Hp} {h : Heap} {x C dx : Addr} {od : Option Addr} {fs : List (Str × V)}
theorem ExO.ok {o : Obj} {vs : Array Value} (e : h.get? x = some o) (hc : o.cls = .ref C) (hd : o.dict = od) (hf : o.data = .fields vs) (hz : 6 ≤ vs.size) : ObjOk P w H h x (ExO x C od) :=
  ⟨⟨o, vs, e, hc, hd, hf, hz⟩, ⟨o, e⟩, fun h1 h2 ⟨o, vs, e, r⟩ k => ⟨o, vs, k o e, r⟩⟩
theorem ExN.ok {o : Obj} {vs : Array Value} (e : h.get? x = some o) (hc : o.cls = .ref C) (hd : o.dict = od) (hf : o.data = .fields vs) (hz : 6 ≤ vs.size) (h1 : vs[1]? = some .none) : ObjOk P w H h x (ExN x C od) :=
  ⟨⟨o, vs, e, hc, hd, hf, hz, h1⟩, ⟨o, e⟩, fun g1 g2 ⟨o, vs, e, r⟩ k => ⟨o, vs, k o e, r⟩⟩
theorem ExN.get (ok : HOk P w H h) (e : H x = some (ExN x C od)) : ∃ o vs, h.get? x = some o ∧ o.cls = .ref C ∧ o.dict = od ∧ o.data = .fields vs ∧ 6 ≤ vs.size ∧ vs[1]? = some .none := (ok x _ e).1
theorem ExO.get (ok : HOk P w H h) (e : H x = some (ExO x C od)) : ∃ o vs, h.get? x = some o ∧ o.cls = .ref C ∧ o.dict = od ∧ o.data = .fields vs ∧ 6 ≤ vs.size := (ok x _ e).1
theorem XdO.ok {mA : Str → Option Value} (n : h.Ns1 dx mA) (r : ∀ f, RelO (fs.lookup f) (mA f)) (wi : PySem.Within mA (fs.map (·.1))) : ObjOk P w H h dx (XdO dx fs) := by
  obtain ⟨o, es, ep, e, q⟩ := id n
  exact ⟨⟨mA, n, r, wi⟩, ⟨o, e⟩, fun h1 h2 ⟨mA, n, r⟩ k => ⟨mA, n.at k, r⟩⟩
theorem XdO.get (ok : HOk P w H h) (e : H dx = some (XdO dx fs)) : ∃ mA, h.Ns1 dx mA ∧ (∀ f, RelO (fs.lookup f) (mA f)) ∧ PySem.Within mA (fs.map (·.1)) := (ok dx _ e).1
end

noncomputable def tFldX (K : PySem.W.Frag) (ta : TE) (f : Str) : TE := fun σ H Q => ta σ H fun y H1 => ∃ a C d fs v, y = .ref a ∧ H1 a = some (ExO a C (some d)) ∧ H1 d = some (XdO d fs) ∧ ExCls K C ∧ NoAttr K C f ∧ fs.lookup f = some v ∧ Q v H1
noncomputable def sFldX (K : PySem.W.Frag) (ta tv : TE) (f : Str) : TS := fun D σ H => tv σ H fun y H1 => ta σ H1 fun u H2 => ∃ a C od, u = .ref a ∧ H2 a = some (ExN a C od) ∧ ExCls K C ∧ NoAttr K C f ∧
  ((od = none ∧ ∀ d, H2 d = none → D.nx σ (upd (upd H2 d (XdO d [(f, y)])) a (ExN a C (some d)))) ∨ ∃ d fs, od = some d ∧ H2 d = some (XdO d fs) ∧ fs.length < 1000 ∧ D.nx σ (upd H2 d (XdO d (putF f y fs))))
section
variable {X : Cx} {o e value : Expr} {f : Str} {pos pos' : Pos} {ta tv : TE}
theorem pe_fldX (he : PE X e ta) (hb : attributeBase e f X.env (eval e X.env) = eval e X.env := by rfl) : PE X (.Attribute e f pos) (tFldX X.K ta f) := by
  refine ⟨?_⟩
  intro pins s σ H Q I h
  refine attr_of hb (thn (he pins s σ H _ I h) fun u s1 hzz => ?_)
  obtain ⟨y, H1, I1, r1, a, C, d, fs, v, hy, ha, hd, ec, na, l, q⟩ := hzz
  subst hy
  cases r1
  obtain ⟨ox, vs, gx, hcl, hdi, hda, _⟩ := ExO.get I1.hok ha
  obtain ⟨mA, n, r, wi⟩ := XdO.get I1.hok hd
  obtain ⟨od, hod, hl⟩ := lookIn_ns n
  have J : PySem.W.InstAt s1.heap a ox C (some od) := ⟨gx, hcl, by unfold PySem.W.notCls; rw [hda], by rw [hdi]; exact hod⟩
  obtain ⟨u, eu, ru⟩ := RelO.some_of (by have := r f; rw [l] at this; exact this)
  obtain ⟨cd, hc, hdd, _⟩ := ec.cd
  refine exc_getattr I1.kIn J ec (v := u) ?_ (handed_of ru) ⟨v, H1, I1.tok _, ru, q⟩
  unfold PySem.W.findObj
  rw [hc, Option.bind_some, na, Option.bind_some]
  simp only [Option.bind_some, PySem.W.ownOf, hdd, if_true, hl, eu]
theorem Inv.excDict {pins : List (Addr × Obj)} {σ : St} {H : Hp} {s : Shared} {h' : Heap} {a C : Addr} {oa ob : HO} {t' : Nat} (I : Inv X pins σ H s) (ha : H a = some (ExN a C none))
    (keep : ∀ b o, b ≠ a → s.heap.get? b = some o → h'.get? b = some o) (hat : ∃ o, h'.get? a = some o) (hoa : ObjOk X.prog X.w (upd (upd H s.heap.objs.size ob) a oa) h' a oa) (hob : ObjOk X.prog X.w (upd (upd H s.heap.objs.size ob) a oa) h' s.heap.objs.size ob) :
    Inv X pins σ (upd (upd H s.heap.objs.size ob) a oa) { s with heap := h', toks := t' } := by
  have hd : H s.heap.objs.size = none := I.fresh
  have nda : a ≠ s.heap.objs.size := ne_of_none ha hd
  have off : ∀ b u, H b = some u → u ≠ ExN a C none → b ≠ a ∧ b ≠ s.heap.objs.size := fun b u e ne => ⟨fun z => by rw [z, ha] at e; exact ne (Option.some.inj e).symm, ne_of_none e hd⟩
  have up : ∀ b, b ≠ a → b ≠ s.heap.objs.size → upd (upd H s.heap.objs.size ob) a oa b = H b := fun b h1 h2 => by rw [upd_ne h1, upd_ne h2]
  refine I.un ⟨fun b o e n _ _ => keep b o (fun z => by rw [z, ha] at n; cases n) e, fun b o e n _ _ => ⟨o.slots, keep b o (fun z => by rw [z, ha] at n; cases n) e⟩, fun b o e n _ => ?_, fun b o e _ => ?_, fun b xs e => ?_, fun b o xs e => ?_, fun b ps e => ?_⟩ fun b u e => ?_
  · rw [up b (fun z => by rw [z, ha] at n; cases n) (Nat.ne_of_lt (Heap.lt_size e))]; exact n
  · by_cases z : b = a
    · subst z; exact hat
    · exact ⟨o, keep b o z e⟩
  · obtain ⟨h1, h2⟩ := off b _ e (by intro z; cases z)
    rw [up b h1 h2]; exact e
  · obtain ⟨h1, h2⟩ := off b _ e (by intro z; cases z)
    rw [up b h1 h2]; exact e
  · obtain ⟨h1, h2⟩ := off b _ e (by intro z; cases z)
    exact ⟨#[], by rw [up b h1 h2, e]; simp⟩
  · by_cases z : b = a
    · subst z; rw [upd_same] at e; cases e; exact hoa
    · rw [upd_ne z] at e
      by_cases z2 : b = s.heap.objs.size
      · subst z2; rw [upd_same] at e; cases e; exact hob
      · rw [upd_ne z2] at e
        refine (I.hok b u e).stay (fun c v hc q => keep c v ?_ q) (fun c q => ?_) fun c xs q => ?_
        · rcases hc with hc | hc
          · rw [hc]; exact z
          · exact (off c _ hc (by intro z; cases z)).1
        · obtain ⟨h1, h2⟩ := off c _ q (by intro z; cases z)
          rw [up c h1 h2]; exact q
        · obtain ⟨h1, h2⟩ := off c _ q (by intro z; cases z)
          rw [up c h1 h2]; exact q
theorem ps_fldX (ha : PE X o ta) (hv : PE X value tv) (hs : swapsWith value (some (.Attribute o f pos')) pos.line X.env = pure false := by rfl) : PS X (.Assign [.Attribute o f pos'] value pos) (sFldX X.K ta tv f) := by
  refine ⟨?_⟩
  intro pins s σ H D I h
  refine plainObj_wpAny_Assign_Attribute (thn (hv pins s σ H _ I h) fun u s1 ⟨y, H1, I1, ry, q⟩ => thn (ha pins s1 σ H1 _ I1 q) fun ov s2 ⟨x, H2, I2, rx, a, C, od, ex, ea, ec, na, q2⟩ => ?_) hs
  subst ex
  obtain rfl : ov = Value.ref a := rx
  obtain ⟨ox, vs, gx, hcl, hdi, hda, hz, h1⟩ := ExN.get I2.hok ea
  rcases q2 with ⟨rfl, q2⟩ | ⟨d, fs, rfl, hd, hl, q2⟩
  · refine exc_set_new I2.kIn gx hcl hdi hda ec na fun h' hn hx' keep => ?_
    refine ⟨σ, _, I2.excDict ea keep ⟨_, hx'⟩ (ExN.ok hx' hcl rfl hda hz h1) (XdO.ok hn (fun g => ?_) fun g hg => ?_), q2 _ I2.fresh⟩
    · show RelO ([(f, y)].lookup g) (if g = f then some u else none)
      by_cases z : g = f
      · subst z; rw [List.lookup_cons_self, if_pos rfl]; exact ry
      · rw [List.lookup_cons, beq_eq_false_iff_ne.mpr z, if_neg z]; exact True.intro
    · by_cases z : g = f
      · subst z; simp
      · exact absurd (show (if g = f then some u else none) = none by rw [if_neg z]) hg
  · obtain ⟨mA, n, r, wi⟩ := XdO.get I2.hok hd
    refine exc_set_more I2.kIn gx hcl hdi hda n wi (by rw [List.length_map, sizeLine_eq]; (first | lia | omega)) ec na fun h' hn sb => ?_
    refine ⟨σ, _, I2.write (x := d) (e := d) (by rw [hd]; exact True.intro) (.inl rfl) (fun b q hb z => (sb.2 b hb).trans z) (let ⟨o, _, _, e', _⟩ := hn; ⟨o, e'⟩) (XdO.ok hn (fun g => ?_) fun g hg => ?_), q2⟩
    · show RelO ((putF f y fs).lookup g) (if g = f then some u else mA g)
      rw [lookup_putF]
      by_cases q : g = f
      · rw [if_pos q, if_pos q]; exact ry
      · rw [if_neg q, if_neg q]; exact r g
    · by_cases q : g = f
      · rw [q]; exact (keys_putF f y fs).1
      · refine (keys_putF f y fs).2 g (wi g fun z => hg ?_)
        show (if g = f then some u else mA g) = none
        rw [if_neg q]; exact z
end

noncomputable def Ours (X : Cx) (pins : List (Addr × Obj)) (H : Hp) (T : Addr) : Prop := H T = none ∧ X.s₀.heap.objs.size ≤ T ∧ T ≠ X.env.locals ∧ ∀ p ∈ X.pn ++ pins, p.1 ≠ T
noncomputable def Tb (X : Cx) (pins : List (Addr × Obj)) (H : Hp) (x : Addr) (h : Heap) : Prop :=
  ∃ oe vs, h.get? x = some oe ∧ oe.data = .fields vs ∧ (vs[1]? = some .none ∨ ∃ T oT ts fl, vs[1]? = some (.ref T) ∧ T ≠ x ∧ Ours X pins H T ∧ h.get? T = some oT ∧ oT.data = .fields ts ∧ ts[3]? = some fl ∧ (fl = .none ∨ fl = rawInt X.env.locals))
noncomputable def TbAt (X : Cx) (pins : List (Addr × Obj)) (H : Hp) (x : Addr) (fl : Value) (h : Heap) : Prop :=
  ∃ oe vs T oT ts, h.get? x = some oe ∧ oe.data = .fields vs ∧ vs[1]? = some (.ref T) ∧ T ≠ x ∧ Ours X pins H T ∧ h.get? T = some oT ∧ oT.data = .fields ts ∧ ts[3]? = some fl
theorem TbAt.tb {X : Cx} {pins : List (Addr × Obj)} {H : Hp} {x : Addr} {fl : Value} {h : Heap} (t : TbAt X pins H x fl h) (hf : fl = .none ∨ fl = rawInt X.env.locals) : Tb X pins H x h := by
  obtain ⟨oe, vs, T, oT, ts, e, d, h1, r1, r2, r3, r4, r5⟩ := t
  exact ⟨oe, vs, e, d, .inr ⟨T, oT, ts, fl, h1, r1, r2, r3, r4, r5, hf⟩⟩
section
variable {X : Cx} {pins : List (Addr × Obj)} {σ : St} {H : Hp} {s : Shared} {h' : Heap} {x C : Addr} {od : Option Addr}
theorem Inv.flight (I : Inv X pins σ H s) (hx : H x = some (ExO x C od)) {ch : List Addr} (hch : ∀ b ∈ ch, Ours X pins H b) (ncell : ∀ b ∈ ch, ∀ y c, X.env.cells.lookup y = some c → c ≠ b)
    (keep : ∀ b o, b ≠ x → b ∉ ch → b ∉ frs X.stack → s.heap.get? b = some o → h'.get? b = some o) (slot : ∀ b o, b ≠ x → b ∉ ch → s.heap.get? b = some o → ∃ sl, h'.get? b = some { o with slots := sl })
    (hx' : ∃ o vs, h'.get? x = some o ∧ o.cls = .ref C ∧ o.dict = od ∧ o.data = .fields vs ∧ 6 ≤ vs.size) : Inv X pins σ H { s with heap := h' } := by
  have nx : ∀ b, H b = none → b ≠ x := fun b n z => by rw [z, hx] at n; cases n
  have nst : ∀ b, b ≠ X.env.locals → b ∉ X.fs → b ∉ frs X.stack := fun b h1 h2 z => (List.mem_cons.mp (I.stkSub b z)).elim h1 h2
  have nch : ∀ b u, H b = some u → b ∉ ch := fun b u e z => by rw [(hch b z).1] at e; cases e
  have nfr : ∀ b u, H b = some u → b ∉ frs X.stack := fun b u e z => by rw [I.stkFree b z] at e; cases e
  refine I.step (g' := s.gens) (d' := s.drawn) (t' := s.toks) (ch := ch) (fun b hb => ⟨.inr (hch b hb).2.1, (hch b hb).2.2.1, ncell b hb, (hch b hb).2.2.2⟩)
    (fun b o hL hf hc e n => keep b o (nx b n) hc (nst b hL hf) e) (fun b o hL hf hc e n => slot b o (nx b n) hc e) (fun b o hc e n => n) (fun b o hc e => ?_) (fun _ _ e => e) (fun _ _ _ e => e) (fun b ps e => ⟨#[], by rw [e]; simp⟩) (fun m hm => ?_) (fun b u e => ?_) I.bare
  · by_cases z : b = x
    · subst z; obtain ⟨o, _, g, _⟩ := hx'; exact ⟨o, g⟩
    · obtain ⟨sl, q⟩ := slot b o z hc e; exact ⟨_, q⟩
  · obtain ⟨o, es, ep, ho, hd, r⟩ := hm
    obtain ⟨sl, q⟩ := slot _ o (nx _ I.free) (fun z => (hch _ z).2.2.1 rfl) ho
    exact ⟨_, es, ep, q, hd, r⟩
  · by_cases z : b = x
    · subst z; rw [hx] at e; cases e
      obtain ⟨o, vs, g, r1, r2, r3, r4⟩ := hx'
      exact ExO.ok g r1 r2 r3 r4
    · refine (I.hok b u e).stay (fun c v hc q => ?_) (fun _ q => q) fun _ _ q => q
      rcases hc with hc | hc
      · rw [hc] at q ⊢; exact keep b v z (nch b u e) (nfr b u e) q
      · exact keep c v (fun z2 => by rw [z2, hx] at hc; cases hc) (nch c _ hc) (nfr c _ hc) q

theorem Ours.ncell {T : Addr} {oT : Obj} {ts : Array Value} (I : Inv X pins σ H s) (g : s.heap.get? T = some oT) (d : oT.data = .fields ts) : ∀ b ∈ [T], ∀ y c, X.env.cells.lookup y = some c → c ≠ b := fun b hb y c e z => by
  rw [List.mem_singleton.mp hb] at z
  obtain ⟨v, o, ho, hd⟩ := I.cell y c e
  rw [z, g] at ho; cases ho; rw [d] at hd; cases hd
theorem fly_entry {M : Model} {A : Around} {E : Value → Shared → Prop} {Q : Unit → Shared → Prop} {head : Value} {hadNext : Bool} (I : Inv X pins σ H s) (hst : X.stack = X.env :: X.outer) (hfr : X.env.frame = some X.env.locals) (hA : A.frames = some X.stack)
    (hx : H x = some (ExO x C od)) (hq : ∀ s', Inv X pins σ H s' → TbAt X pins H x (rawInt X.env.locals) s'.heap → Q () s') :
    wpAny M A (do let a ← frameOf X.env; let pl ← entryPlaceOf X.env.locals hadNext; let b ← EntryCells.newEntry head a .none (rawInt X.env.locals) .none pl; setField (.ref x) 1 b) Q E s := by
  have hl : s.heap.FunFrames X.base (X.env :: X.outer) := hst ▸ I.stack
  refine wpAny_bind (wpAny_frameOf_fun (hst ▸ hA) hl hfr fun h1 hs1 => ?_)
  refine wpAny_bind (wpAny_entryPlaceOf fun pl hpl => ?_)
  unfold EntryCells.newEntry newFields
  refine wpAny_bind (wpAny_newObj_type ?_ (hpl.sizeOk5 _ _ _ _ _))
  obtain ⟨ox, vs, gx, hcl, hdi, hda, hz⟩ := ExO.get I.hok hx
  have hxf : x ∉ (X.env :: X.outer).filterMap (·.frame) := fun hm => by
    obtain ⟨_, o, ho, hnf⟩ := hl.mem hm
    rw [gx] at ho; cases ho; exact hnf vs hda
  have gx1 : h1.get? x = some ox := (hs1.2.1 x hxf).trans gx
  generalize hob : ({ cls := .type "traceback", dict := none, data := .fields ([head, .ref X.env.locals, .none, rawInt X.env.locals, .none] ++ (if pl.isEmpty then List.replicate 6 Value.none else pl)).toArray } : Obj) = ob
  have gx2 := Heap.get?_push_of_some (h := h1) ob gx1
  have hz1 : 1 < vs.size := by (first | lia | omega)
  refine wpAny_setField gx2 hda hz1 ?_
  have sz : h1.objs.size = s.heap.objs.size := hs1.1
  have hd3 := Obj.data_mapFields hda (·.setIfInBounds 1 (Value.ref h1.objs.size))
  have gx3 := Heap.get?_update_self (Obj.mapFields (·.setIfInBounds 1 (Value.ref h1.objs.size))) gx2 (Obj.isFreed_of_fields hd3)
  have hTx : h1.objs.size ≠ x := Nat.ne_of_gt (Heap.lt_size gx1)
  have gT : (h1.push ob).get? h1.objs.size = some ob := Heap.get?_push_size _ (by rw [← hob]; rfl)
  have hT : H h1.objs.size = none := by rw [sz]; exact I.fresh
  have keep : ∀ b o, b ≠ x → h1.get? b = some o → ((h1.push ob).update x (Obj.mapFields (·.setIfInBounds 1 (Value.ref h1.objs.size)))).get? b = some o := fun b o hb e => by
    rw [Heap.get?_update_other _ _ (Ne.symm hb)]; exact Heap.get?_push_of_some _ e
  have I' : Inv X pins σ H { s with heap := (h1.push ob).update x (Obj.mapFields (·.setIfInBounds 1 (Value.ref h1.objs.size))) } := by
    refine I.flight hx (ch := []) (fun b hb => (nomatch hb)) (fun b hb => (nomatch hb)) (fun b o hb _ hf e => keep b o hb ((hs1.2.1 b (by rw [← hst]; exact hf)).trans e)) (fun b o hb _ e => ?_) ⟨_, _, gx3, (Obj.cls_mapFields _ _).trans hcl, ?_, hd3, by simp; exact hz⟩
    · obtain ⟨sl, q⟩ := hs1.2.2 b o e
      exact ⟨sl, keep b _ hb q⟩
    · obtain ⟨oc, odi, oda, osl⟩ := ox
      simp only at hda
      subst hda
      exact hdi
  refine hq _ I' ⟨_, _, h1.objs.size, ob, _, gx3, hd3, by simp [hz1], hTx, ⟨hT, ?_, ?_, fun p hp z => ?_⟩, ?_, by rw [← hob], ?_⟩
  · rw [sz]; exact I.sz
  · rw [sz]; exact Nat.ne_of_gt I.lt
  · have := Heap.lt_size (I.pin p hp).1
    rw [z, sz] at this; exact Nat.lt_irrefl _ this
  · rw [Heap.get?_update_other _ _ (Ne.symm hTx)]; exact gT
  · first | (simp; done) | (rcases hpl with rfl | ⟨_, _, _, _, _, _, _, rfl⟩ <;> simp)
theorem fly_note {M : Model} {A : Around} {E : Value → Shared → Prop} {Q : Unit → Shared → Prop} (I : Inv X pins σ H s) (hst : X.stack = X.env :: X.outer) (hfr : X.env.frame = some X.env.locals) (hA : A.frames = some X.stack)
    (hx : H x = some (ExO x C od)) (tb : Tb X pins H x s.heap) (hq : ∀ s', Inv X pins σ H s' → TbAt X pins H x (rawInt X.env.locals) s'.heap → Q () s') : wpAny M A (noteFrame (.ref x) X.env) Q E s := by
  obtain ⟨oe, vs, ge, hd, h1⟩ := tb
  unfold noteFrame
  simp only [hfr]
  rcases h1 with h1 | ⟨T, oT, ts, fl, h1, hTx, ours, gT, dT, h3, hfl⟩
  · refine wpAny_bind (wpAny_field ge hd h1 ?_)
    rw [if_neg (by decide)]
    exact fly_entry I hst hfr hA hx hq
  · refine wpAny_bind (wpAny_field ge hd h1 ?_)
    rw [if_pos (show (Value.ref T != Value.none) = true from by simp)]
    refine wpAny_bind (wpAny_field gT dT h3 ?_)
    rcases hfl with rfl | rfl
    · rw [if_neg (show ¬ ((Value.none == rawInt X.env.locals) = true) from by simp [rawInt])]
      refine wpAny_bind (wpAny_setField gT dT (Array.getElem?_eq_some_iff.mp h3).1 ?_)
      have other : ∀ b, b ≠ T → (s.heap.update T (Obj.mapFields (·.setIfInBounds 3 Value.none))).get? b = s.heap.get? b := fun b hb => Heap.get?_update_other _ _ (Ne.symm hb)
      obtain ⟨ox, ws, gx, r⟩ := ExO.get I.hok hx
      have I' : Inv X pins σ H { s with heap := s.heap.update T (Obj.mapFields (·.setIfInBounds 3 Value.none)) } := by
        refine I.flight hx (ch := [T]) (fun b hb => by rw [List.mem_singleton.mp hb]; exact ours) (Ours.ncell I gT dT) (fun b o hb hc _ e => (other b fun z => hc (by simp [z])).trans e) (fun b o hb hc e => ⟨o.slots, (other b fun z => hc (by simp [z])).trans e⟩) ⟨ox, ws, (other x (Ne.symm hTx)).trans gx, r⟩
      exact fly_entry I' hst hfr hA hx hq
    · rw [if_pos (show (rawInt X.env.locals == rawInt X.env.locals) = true from by simp)]
      exact wpAny_pure (hq s I ⟨oe, vs, T, oT, ts, ge, hd, h1, hTx, ours, gT, dT, h3⟩)
theorem fly_set {M : Model} {A : Around} {E : Value → Shared → Prop} {Q : Unit → Shared → Prop} {fl : Value} {to : Option Addr} (I : Inv X pins σ H s) (hx : H x = some (ExO x C od)) (tb : TbAt X pins H x fl s.heap)
    (hq : ∀ s', Inv X pins σ H s' → TbAt X pins H x (to.elim Value.none fun f => rawInt f) s'.heap → Q () s') : wpAny M A (setFlight (.ref x) to) Q E s := by
  obtain ⟨oe, vs, T, oT, ts, ge, hd, h1, hTx, ours, gT, dT, h3⟩ := tb
  unfold setFlight
  refine wpAny_bind (wpAny_field ge hd h1 ?_)
  rw [if_pos (show (Value.ref T != Value.none) = true from by simp)]
  have hsz3 := (Array.getElem?_eq_some_iff.mp h3).1
  refine wpAny_setField gT dT hsz3 (hq _ ?_ ?_)
  · obtain ⟨ox, ws, gx, r⟩ := ExO.get I.hok hx
    exact I.flight hx (ch := [T]) (fun b hb => by rw [List.mem_singleton.mp hb]; exact ours) (Ours.ncell I gT dT) (fun b o hb hc _ e => (Heap.get?_update_other _ _ (fun z => hc (by simp [z]))).trans e) (fun b o hb hc e => ⟨o.slots, (Heap.get?_update_other _ _ (fun z => hc (by simp [z]))).trans e⟩) ⟨ox, ws, (Heap.get?_update_other _ _ hTx).trans gx, r⟩
  · exact ⟨oe, vs, T, _, _, (Heap.get?_update_other _ _ hTx).trans ge, hd, h1, hTx, ours, Heap.get?_update_self _ gT (Obj.isFreed_of_fields (Obj.data_mapFields dT _)), Obj.data_mapFields dT _, by simp [hsz3]⟩
end

noncomputable def CXE (P : Program) (w : World) : CXT := fun outer H s E e s' => ∃ x C d H', e = .ref x ∧ s'.os = s.os ∧ AllBare s'.gens ∧ Un (frs outer) [] H H' s.heap s'.heap ∧ HOk P w H' s'.heap ∧ H' x = some (ExO x C d) ∧
  (∃ oe vs T oT ts, s'.heap.get? x = some oe ∧ oe.data = .fields vs ∧ vs[1]? = some (.ref T) ∧ T ≠ x ∧ H' T = none ∧ s.heap.objs.size ≤ T ∧ s'.heap.get? T = some oT ∧ oT.data = .fields ts ∧ ts[3]? = some .none) ∧ E (.ref C) d H'
theorem cxe_none {P : Program} {w : World} {outer : List Env} {H : Hp} {s : Shared} {e : Value} {s' : Shared} (h : CXE P w outer H s (fun _ _ _ => False) e s') : False := by
  obtain ⟨_, _, _, _, _, _, _, _, _, _, _, z⟩ := h
  exact z
noncomputable def FlyW (X : Cx) (E : XK) : Value → Shared → Prop := fun e s1 => ∃ x C d pins σ H, e = .ref x ∧ Inv X pins σ H s1 ∧ H x = some (ExO x C d) ∧ Tb X pins H x s1.heap ∧ E (.ref C) d H
noncomputable abbrev Cx.exc (X : Cx) (E : XK) : Cx := X.wish (FlyW X E)
section
variable {X : Cx} {E : XK}
theorem passN {P : Program} {w : World} : Passes (CXE P w) X E0 := fun _ _ _ _ _ _ _ h => (cxe_none h).elim
theorem cxe_fly {pins : List (Addr × Obj)} {σ : St} {H : Hp} {s s' : Shared} {e : Value} (I : Inv X pins σ H s) (h : CXE X.prog X.w X.stack H s E e s') : FlyW X E e s' := by
  obtain ⟨x, C, d, H', rfl, ho, hg, u, hok, hx, ⟨oe, vs, T, oT, ts, ge, hd, h1, hTx, hT, lo, gT, dT, h3⟩, q⟩ := h
  have I' : Inv X pins σ H' s' := I.call' (ch := []) ho u hok hg fun b z => (nomatch z)
  refine ⟨x, C, d, pins, σ, H', rfl, I', hx, ⟨oe, vs, ge, hd, .inr ⟨T, oT, ts, .none, h1, hTx, ⟨hT, Nat.le_trans I.sz lo, Nat.ne_of_gt (Nat.lt_of_lt_of_le I.lt lo), fun p hp z => ?_⟩, gT, dT, h3, .inl rfl⟩⟩, q⟩
  have := Heap.lt_size (I.pin p hp).1
  rw [z] at this
  exact absurd (Nat.lt_of_lt_of_le this lo) (Nat.lt_irrefl _)
theorem passX : Passes (CXE X.prog X.w) (X.exc E) E := fun pins σ H s e s' I h => cxe_fly I.unwish h
theorem fly_leave {e : Value} {s1 : Shared} {E' : Value → Shared → Prop} (hst : X.stack = X.env :: X.outer) (hfr : X.env.frame = some X.env.locals) (hex : X.ex = []) (h : FlyW X E e s1) :
    wpAny (model X.prog X.w) X.A (leaving X.env e) (fun _ s'' => CXE X.prog X.w X.outer X.H₀ X.s₀ E e s'') E' s1 := by
  obtain ⟨x, C, d, pins, σ, H, rfl, I, hx, tb, q⟩ := h
  unfold leaving
  refine wpAny_bind (fly_note I hst hfr I.ok.frames hx tb fun s2 I2 t2 => fly_set (to := none) I2 hx t2 fun s3 I3 t3 => ?_)
  obtain ⟨oe, vs, T, oT, ts, ge, hd, h1, hTx, ours, gT, dT, h3⟩ := t3
  have b := I3.base
  rw [hex] at b
  exact ⟨x, C, d, H, rfl, I3.os, I3.bare, b, I3.hok, hx, ⟨oe, vs, T, oT, ts, ge, hd, h1, hTx, ours.1, ours.2.1, gT, dT, h3⟩, q⟩
theorem own_fly (hst : X.stack = X.env :: X.outer) (hfr : X.env.frame = some X.env.locals) : PassesOwn (model X.prog X.w) X.A X.env (FlyW X E) := fun e s1 h => by
  obtain ⟨x, C, d, pins, σ, H, rfl, I, hx, tb, q⟩ := h
  refine fly_note I hst hfr I.ok.frames hx tb fun s2 I2 t2 => ?_
  have t2' := t2
  obtain ⟨oe, vs, T, oT, ts, ge, hd, h1, hTx, ours, gT, dT, h3⟩ := t2
  unfold cameBackBy
  refine wpAny_bind (wpAny_field ge hd h1 ?_)
  rw [if_neg (show ¬ ((Value.ref T == Value.none) = true) from by simp)]
  rw [hfr]
  exact fly_set (to := some X.env.locals) I2 hx t2' fun s3 I3 t3 => ⟨x, C, d, pins, σ, H, rfl, I3, hx, t3.tb (.inr rfl), q⟩
end
section
variable {P : Program} {w : World} {K : PySem.W.Frag} {mg : Str → Option Value} {base : Heap}
theorem Fun.okN {CX : CXT} {x qual : Str} {st : Stmt} {f : Addr} {fd : FuncData} {N ps : List Str} {k : Nat} {sp : Sp} (F : Fun K x qual st f fd) (S : FnScope N ps (defScope st)) (len : ∀ vs H Q E, sp vs H Q E → vs.length = ps.length)
    (hbody : ∀ (cdv : Value) (A : Around) (outer : List Env) (s : Shared) (H : Hp) (vs : List V) (Q : VK) (E : XK), Room k (A.deeper (envOfC qual (defScope st) s.heap.objs.size f cdv)) → sp vs H Q E →
      ∃ t, PSs (cxOf CX P w K mg base N qual (defScope st) f cdv A outer s H E).nox (defBody st) t ∧ t { nx := fun _ H' => Q .non H', rt := Q } (start N vs) H) : FnOk P w K mg base CX (k + 1) f fd ps sp := by
  obtain ⟨oc, od, kV, doc, pm, an, cdv, ct, osl, rfl, lk, hcd⟩ := F.ex
  refine fn_of lk hcd S len fun A outer s H vs Q E hr hsp => ?_
  obtain ⟨t, h, q⟩ := hbody cdv A outer s H vs Q E hr hsp
  exact ⟨t, h.nox, q⟩
theorem Fun.okX {x qual : Str} {st : Stmt} {f : Addr} {fd : FuncData} {N ps : List Str} {k : Nat} {sp : Sp} (F : Fun K x qual st f fd) (S : FnScope N ps (defScope st)) (len : ∀ vs H Q E, sp vs H Q E → vs.length = ps.length)
    (hbody : ∀ (cdv : Value) (A : Around) (outer : List Env) (s : Shared) (H : Hp) (vs : List V) (Q : VK) (E : XK), Room k (A.deeper (envOfC qual (defScope st) s.heap.objs.size f cdv)) → sp vs H Q E →
      ∃ t, PSs ((cxOf (CXE P w) P w K mg base N qual (defScope st) f cdv A outer s H E).exc E) (defBody st) t ∧ t { nx := fun _ H' => Q .non H', rt := Q } (start N vs) H) : FnOk P w K mg base (CXE P w) (k + 1) f fd ps sp := by
  obtain ⟨oc, od, kV, doc, pm, an, cdv, ct, osl, rfl, lk, hcd⟩ := F.ex
  refine fn_of lk hcd S len fun A outer s H vs Q E hr hsp => ?_
  obtain ⟨t, h, q⟩ := hbody cdv A outer s H vs Q E hr hsp
  refine ⟨t, ⟨fun pins s1 σ H1 D I hw => ?_⟩, q⟩
  refine wpAny_mono (h pins s1 σ H1 D (I.wish _) hw) (fun fl s2 hs => hs.unwish) fun e s2 fl => ?_
  exact fly_leave rfl rfl rfl fl
end
end L2

set_option Elab.async false
set_option linter.all false
set_option maxRecDepth 100000
namespace L2
open PySem PySem.Spec PyProof.Rows
noncomputable abbrev bmValue : List Value := [.type "ValueError", .type "Exception", .type "BaseException", .type "object"]
structure ExMk (K : PySem.W.Frag) (C f : Addr) : Prop where
  cls : ∃ (B nw ini : String) (bmB : List Value), ExcBaseFacts B nw ini bmB ∧ bmB.contains (.type "BaseException") = true ∧ ∃ nm q N bs bm hdct sn sub ab col dd k0 k1 k2 k3 k5, K.lookup C = some (excClassObj nm q C N bs bm hdct sn sub ab col dd k0 k1 k2 k3 k5 nw) ∧ ∀ h, K.In h → OwnTail h bmB bm
  init : PySem.W.findIn K (.ref C) "__init__" = some (some (.ref f))
  fn : PySem.W.typeIn K (.ref f) = some (.type "function")
  kp : PySem.W.keepIn K (.ref C) = true
  ec : ExCls K C
theorem ExMk.ofValue {K : PySem.W.Frag} {C f : Addr} (h : ∃ nm q N bs bm hdct sn sub ab col dd k0 k1 k2 k3 k5, K.lookup C = some (excClassObj nm q C N bs bm hdct sn sub ab col dd k0 k1 k2 k3 k5 "ValueError.__new__") ∧ ∀ h, K.In h → OwnTail h bmValue bm)
    (i : PySem.W.findIn K (.ref C) "__init__" = some (some (.ref f))) (fn : PySem.W.typeIn K (.ref f) = some (.type "function")) (kp : PySem.W.keepIn K (.ref C) = true) (ec : ExCls K C) : ExMk K C f :=
  ⟨⟨_, _, _, bmValue, F.excBase_ValueError, by decide, h⟩, i, fn, kp, ec⟩
section
variable {X : Cx} {pins : List (Addr × Obj)} {σ : St} {H : Hp} {s : Shared}
theorem Inv.excMade (I : Inv X pins σ H s) (C : Addr) (us : List Value) : Inv X pins σ (upd H (s.heap.objs.size + 1) (ExN (s.heap.objs.size + 1) C none)) { s with heap := excHeap s.heap C us } := by
  have gx : (excHeap s.heap C us).get? (s.heap.objs.size + 1) = some (excObj C s.heap.objs.size) := by heap_get
  refine I.laid (t' := s.toks) (fun b o e => Heap.get?_push_of_some _ (Heap.get?_push_of_some _ e)) (Nat.le_succ _) (ExN.ok gx rfl rfl rfl (show 6 ≤ 6 by decide) rfl)
theorem run_exc {CX : CXT} {k : Nat} {f C : Addr} {fd : FuncData} {ps : List Str} {sp : Sp} {E : XK} {Q : Addr → Hp → Prop} {us : List Value} {vs : List V} (M : ExMk X.K C f) (G : FnOk X.prog X.w X.K X.mg X.base CX k f fd ps sp) (hr : Room (k + 1) X.A) (hb : Binds X.K fd ps [])
    (hx : Passes CX X E) (I : Inv X pins σ H s) (r : Vals vs us) (hz : us.length ≤ sizeLine)
    (h : ∀ x, H x = none → sp (.ref x :: vs) (upd H x (ExN x C none)) (fun v H2 => v = .non ∧ Q x H2) E) :
    wpAny (model X.prog X.w) X.A (call (.ref C) us) (fun u s' => ∃ x H', u = .ref x ∧ Inv X pins σ H' s' ∧ Q x H') X.xe s := by
  have hq := h (s.heap.objs.size + 1) (I.hok.fresh (Nat.le_succ _))
  have I2 := I.excMade C us
  have r2 : Vals (V.ref (s.heap.objs.size + 1) :: vs) (Value.ref (s.heap.objs.size + 1) :: us) := .cons rfl r
  have hl : (Value.ref (s.heap.objs.size + 1) :: us ++ []).length = ps.length := by
    have e := r2.length
    rw [G.len _ _ _ _ hq] at e
    rw [List.append_nil]
    exact e.symm
  obtain ⟨_, _, _, bmB, BF, hcb, nm, q, N, bs, bm, hdct, sn, sub, ab, col, dd, k0, k1, k2, k3, k5, hC, T⟩ := M.cls
  have KI := I.kIn
  have bd := hb { s with heap := excHeap s.heap C us } (Value.ref (s.heap.objs.size + 1) :: us) I2.kIn hl
  rw [List.append_nil] at bd
  obtain ⟨hh, g, d, t, os⟩ := s
  refine wpAny_call (exc_make KI (KI _ _ hC) BF (T _ KI) M.init M.fn hz (codeAny_mono (G.run _ X.stack _ _ ⟨Value.ref (hh.objs.size + 1) :: us, []⟩ _ _ _ E (hr.make C us []) (I2.env0.make C us []) bd r2 hq) fun r s' hq' => ?_))
  cases r with
  | error e => exact hx pins σ _ _ e s' I2 hq'
  | ok fl =>
    cases fl with
    | ret u =>
      obtain ⟨v, H', I3, rv, ev, q3⟩ := I2.after hq'
      subst ev
      exact ⟨rv, hh.objs.size + 1, H', rfl, I3, q3⟩
    | next => exact False.elim hq'
    | brk => exact False.elim hq'
    | cont => exact False.elim hq'
theorem raise_stmt {M : Model} {A : Around} {E : Value → Shared → Prop} {env : Env} {xs : Sem Value} {Q : Flow → Shared → Prop} {K : PySem.W.Frag} {C : Addr} {s : Shared} {f : Addr} (hM : ExMk K C f) (hh : A.handled = none)
    (h : wpAny M A xs (fun v s1 => ∃ x oe vs, v = .ref x ∧ K.In s1.heap ∧ s1.heap.get? x = some oe ∧ oe.cls = .ref C ∧ oe.data = .fields vs ∧ vs[1]? = some .none ∧ E (.ref x) s1) E s) :
    wpAny M A (raiseStmt env (some xs) none) Q E s := by
  obtain ⟨_, _, _, bmB, BF, hcb, nm, q, N, bs, bm, hdct, sn, sub, ab, col, dd, k0, k1, k2, k3, k5, hC, T⟩ := hM.cls
  unfold raiseStmt
  refine wpAny_bind (thn h fun v s1 h1 => ?_)
  obtain ⟨x, oe, vs, rfl, KI, ge, hcl, hd, h1, hE⟩ := h1
  have hC1 := KI _ _ hC
  have hcB : (Value.ref C :: bm).contains (.type "BaseException") = true := by rw [List.contains_cons, (T _ KI).hasType hcb, Bool.or_true]
  obtain ⟨hp, g, d, tk, os⟩ := s1
  repeat (first | (with_reducible refine wpAny_loadPart_at ge ?_; try rw [hcl]) | with_reducible refine wpAny_loadPart_at hC1 ?_ | (with_reducible refine wpAny_isSubtype_exc hC1 ?_; rw [hcB]) | with_reducible refine wpAny_field ge hd h1 ?_ | wp_step)
  exact wpAny_raiseNew_none hh hE
theorem Inv.excFlies {x C d : Addr} (I : Inv X pins σ H s) (hx : H x = some (ExN x C (some d))) : Inv X pins σ (upd H x (ExO x C (some d))) s := by
  obtain ⟨o, vs, g, r1, r2, r3, r4, r5⟩ := ExN.get I.hok hx
  exact I.write (h' := s.heap) (t' := s.toks) (x := x) (e := x) (by rw [hx]; exact True.intro) (.inl rfl) (fun _ _ _ q => q) ⟨o, g⟩ (ExO.ok g r1 r2 r3 r4)
end
noncomputable def tRaise (C : Addr) (sp : Sp) (E : XK) (t : TA) : TS := fun _ σ H => t σ H fun vs H1 => vs.length ≤ sizeLine ∧ ∀ x, H1 x = none →
  sp (.ref x :: vs) (upd H1 x (ExN x C none)) (fun v H2 => v = .non ∧ ∃ d, H2 x = some (ExN x C (some d)) ∧ E (.ref C) (some d) (upd H2 x (ExO x C (some d)))) E
section
variable {X : Cx} {E : XK} {k : Nat} {f C : Addr} {fd : FuncData} {ps : List Str} {sp : Sp} {x : Str} {np cpos pos : Pos} {e : Expr} {es : List Expr} {t : TA}
theorem ps_raise (M : ExMk X.K C f) (G : FnOk X.prog X.w X.K X.mg X.base (CXE X.prog X.w) k f fd ps sp) (hr : Room (k + 1) X.A) (hg : Gl (X.exc E) x) (hm : X.mg x = some (.ref C)) (hb : Binds X.K fd ps []) (ha : PA (X.exc E) (e :: es) t) (hc : X.calm = true := by rfl)
    (hdb : (x == ("__debug__" : Str)) = false := by decide) (he : starEach (e :: es) X.env = (false, eval e X.env) :: starEach es X.env := by rfl) (hpl : (backTo cpos (starEach es X.env)).any (·.1) = false := by rfl) :
    PS (X.exc E) (.Raise (some (.Call (.Name x np) (e :: es) [] cpos)) none pos) (tRaise C sp E t) := by
  refine ⟨?_⟩
  intro pins s σ H D I h
  have cal : wpAny (model X.prog X.w) X.A (eval (.Call (.Name x np) (e :: es) [] cpos) X.env) (fun v s1 => ∃ y oe vs, v = .ref y ∧ X.K.In s1.heap ∧ s1.heap.get? y = some oe ∧ oe.cls = .ref C ∧ oe.data = .fields vs ∧ vs[1]? = some .none ∧ FlyW X E (.ref y) s1) (FlyW X E) s := by
    refine wpAny_Call_Name_kw (ld_glob (X := X.exc E) I hg hm ?_ hdb)
    refine PySem.W.callWith_K (h₀ := X.base) I.ok.mod.kin M.kp (thn (ha cpos pins s σ H _ I h) fun us s1 ⟨vs, H1, I1, r, hz, q⟩ => ⟨I1.kIn, ?_⟩) he hpl
    refine thn (run_exc (X := X.exc E) (Q := fun y H2 => ∃ d, H2 y = some (ExN y C (some d)) ∧ E (.ref C) (some d) (upd H2 y (ExO y C (some d)))) M G hr hb passX I1 r (by have := r.length; rw [List.nil_append]; (first | lia | omega)) q) fun v s2 ⟨y, H2, ev, I2, d, hy, qe⟩ => ?_
    · subst ev
      obtain ⟨o, ws, g, r1, r2, r3, r4, r5⟩ := ExN.get I2.hok hy
      exact ⟨y, o, ws, rfl, I2.kIn, g, r1, r3, r5, y, C, some d, pins, σ, _, rfl, I2.unwish.excFlies hy, upd_same, ⟨o, ws, g, r3, .inl r5⟩, qe⟩
  show wpAny _ _ (exec (.Raise (some (.Call (.Name x np) (e :: es) [] cpos)) none pos) X.env) _ _ _
  rw [arm_exec_Raise]
  refine wpAny_bind (wpAny_standAt (raise_stmt (K := X.K) M (I.ok.hd hc) ?_))
  exact wpAny_bind (thn cal fun v s1 h1 => wpAny_bind (wpAny_standAt (wpAny_pure h1)))
end
end L2

set_option Elab.async false
set_option linter.all false
set_option maxRecDepth 100000
namespace L2
open PySem PySem.Spec PyProof.Rows
section
variable {X : Cx} {pins : List (Addr × Obj)} {σ : St} {H : Hp} {s : Shared}
theorem name_gone {M : Model} {A : Around} {E : Value → Shared → Prop} {i : Nat} {n : Str} {pos : Pos} {Q : Unit → Shared → Prop} (I : Inv X pins σ H s) (hN : X.N.Nodup) (hi : X.N[i]? = some n) (hl : X.env.scope.names.lookup n = some .local)
    (h : ∀ s', Inv X pins (σ.set i none) H s' → Q () s') : wpAny M A (do bindName X.env n .none; unbindBehindTheSuite X.env n pos) Q E s := by
  obtain ⟨m, hn, hlk⟩ := id I.loc
  have hcls : (X.env.scope.kind == .class || (X.env.scope.kind == .module && X.env.locals != X.env.globals)) = false := by rw [I.ok.kind]; rfl
  have hiσ : i < σ.length := by rw [I.len]; exact (List.getElem?_eq_some_iff.mp hi).1
  refine wpAny_nameGoes_keeps hl hn hcls fun h' v hn' hs => h _ ?_
  have neL : ∀ b o, X.s₀.heap.get? b = some o → b ≠ X.env.locals := fun b o e => Nat.ne_of_lt (Nat.lt_of_lt_of_le (Heap.lt_size e) I.ok.above)
  refine ⟨I.ok, I.os, I.bare, ⟨fun b o e n hb hx => (hs.2 b (neL b o e)).trans (I.base.keep b o e n hb hx), fun b o e n hb hx => ?_, I.base.free, fun b o e hx => ?_, I.base.tups, I.base.frzs, I.base.tbls⟩, ⟨_, hn', fun j y v' e1 e2 e3 => ?_⟩, fun y c e => ?_, I.free, I.freeC, fun p hp => ?_, fun b u e => ?_, by simpa using I.len⟩
  · obtain ⟨sl, e1⟩ := I.base.slot b o e n hb hx
    exact ⟨sl, (hs.2 b (neL b o e)).trans e1⟩
  · obtain ⟨o', e1⟩ := I.base.there b o e hx
    exact ⟨o', (hs.2 b (neL b o e)).trans e1⟩
  · by_cases hj : j = i
    · subst hj
      rw [List.getElem?_set_self hiσ] at e2
      cases e2
    · rw [List.getElem?_set_ne (Ne.symm hj)] at e2
      obtain ⟨u', r', q⟩ := hlk j y v' e1 e2 e3
      refine ⟨u', r', ?_⟩
      rcases q with ⟨k, e⟩ | ⟨k, c, e, z⟩
      · refine .inl ⟨k, ?_⟩
        have : y ≠ n := fun e => hj (nodup_ix hN e1 (e ▸ hi))
        simp [this, e]
      · exact .inr ⟨k, c, e, z.sameBut hs (I.cne y c e)⟩
  · obtain ⟨w', z⟩ := I.cell y c e
    exact ⟨w', z.sameBut hs (I.cne y c e)⟩
  · obtain ⟨e, n, ne, nf, d⟩ := I.pin p hp
    exact ⟨(hs.2 p.1 ne).trans e, n, ne, nf, d⟩
  · refine (I.hok b u e).stay (fun c w' hc q => (hs.2 c ?_).trans q) (fun _ q => q) fun _ _ q => q
    rintro rfl
    rcases hc with rfl | hc
    · rw [I.free] at e; cases e
    · rw [I.free] at hc; cases hc
noncomputable abbrev Cx.mark (X : Cx) (v : Value) : Cx := { X with A := X.A.mark (some v), calm := false, xe := fun _ _ => False }
theorem Inv.mark (I : Inv X pins σ H s) (v : Value) : Inv (X.mark v) pins σ H s :=
  ⟨⟨I.ok.mod, I.ok.kind, I.ok.glob, I.ok.blt, I.ok.above, I.ok.inj, I.ok.has, I.ok.cab, fun z => (nomatch z), I.ok.frames, I.ok.stk, I.ok.exf, I.ok.bs, I.ok.bsz, I.ok.noex, I.ok.exfs, I.ok.funs, I.ok.frf⟩, I.os, I.bare, I.base, I.loc, I.cell, I.free, I.freeC, I.pin, I.hok, I.len⟩
theorem Inv.unmark {v : Value} (hd : X.calm = true → X.A.handled = none) (I : Inv (X.mark v) pins σ H s) : Inv X pins σ H s :=
  ⟨⟨I.ok.mod, I.ok.kind, I.ok.glob, I.ok.blt, I.ok.above, I.ok.inj, I.ok.has, I.ok.cab, hd, I.ok.frames, I.ok.stk, I.ok.exf, I.ok.bs, I.ok.bsz, I.ok.noex, I.ok.exfs, I.ok.funs, I.ok.frf⟩, I.os, I.bare, I.base, I.loc, I.cell, I.free, I.freeC, I.pin, I.hok, I.len⟩
noncomputable abbrev Cx.pinned (X : Cx) (pn : List (Addr × Obj)) : Cx := { X with pn := pn }
theorem Inv.topin (I : Inv X pins σ H s) : Inv (X.pinned (X.pn ++ pins)) [] σ H s :=
  ⟨⟨I.ok.mod, I.ok.kind, I.ok.glob, I.ok.blt, I.ok.above, I.ok.inj, I.ok.has, I.ok.cab, I.ok.hd, I.ok.frames, I.ok.stk, I.ok.exf, I.ok.bs, I.ok.bsz, I.ok.noex, I.ok.exfs, I.ok.funs, I.ok.frf⟩, I.os, I.bare, I.base, I.loc, I.cell, I.free, I.freeC, fun p hp => I.pin p (by rw [List.append_nil] at hp; exact hp), I.hok, I.len⟩
theorem Inv.unpin {pins' : List (Addr × Obj)} (I : Inv (X.pinned (X.pn ++ pins)) pins' σ H s) : Inv X pins σ H s :=
  ⟨⟨I.ok.mod, I.ok.kind, I.ok.glob, I.ok.blt, I.ok.above, I.ok.inj, I.ok.has, I.ok.cab, I.ok.hd, I.ok.frames, I.ok.stk, I.ok.exf, I.ok.bs, I.ok.bsz, I.ok.noex, I.ok.exfs, I.ok.funs, I.ok.frf⟩, I.os, I.bare, I.base, I.loc, I.cell, I.free, I.freeC, fun p hp => I.pin p (List.mem_append_left _ hp), I.hok, I.len⟩
end
structure Mch (K : PySem.W.Frag) (C CE : Addr) : Prop where
  sub : PySem.W.subIn K (.ref C) (.ref CE) = some true
  ty : PySem.W.typeIn K (.ref CE) = some (.type "type")
  cl : (PySem.W.clsIn K CE).isSome = true
  base : PySem.W.subIn K (.ref CE) (.type "BaseException") = some true
theorem exc_matches {M : Model} {A : Around} {E : Value → Shared → Prop} {K : PySem.W.Frag} {s : Shared} {x C CE : Addr} {oe : Obj} {Q : Bool → Shared → Prop} (KI : K.In s.heap) (m : Mch K C CE) (ge : s.heap.get? x = some oe) (hcl : oe.cls = .ref C) (hq : Q true s) :
    wpAny M A (excMatches (.ref x) (.ref CE)) Q E s := by
  obtain ⟨h, g, d, t, os⟩ := s
  have kc : PySem.W.kitCls K (.ref C) (.ref CE) = some true := by
    unfold PySem.W.kitCls
    simp only [m.cl, m.ty, beq_self_eq_true, Bool.and_self, if_true]
    exact m.sub
  obtain ⟨L1, L2', L3⟩ := PySem.W.kit_cls (M := M) (h := h) KI kc
  have L4 := PySem.W.looks_subIn (M := M) (h := h) KI m.base
  have L5 : PySem.W.Looks M h (typeOf (.ref x)) (.ref C) := hcl ▸ (PySem.W.Looks.ld ge).andThen .now
  have L6 : PySem.W.Looks M h (isInstance (.ref CE) (.type "tuple")) false := L1.andThen (PySem.W.Looks.of_pure tc_notTuple)
  have L7 : PySem.W.Looks M h (isExcClass (.ref CE)) true := L2'.andThen L4
  unfold excMatches
  refine wpAny_bind (L6.at (wpAny_bind (wpAny_pure (wpAny_bind ?_))))
  show wpAny M A (forIn [Value.ref CE] PUnit.unit _) _ E _
  simp only [List.forIn_cons, List.forIn_nil]
  refine wpAny_bind (wpAny_bind (L7.at ?_))
  refine wpAny_pure (wpAny_pure (wpAny_bind (L5.at (wpAny_bind (wpAny_bind (wpAny_bind (L3.at ?_)))))))
  exact wpAny_pure (wpAny_pure (wpAny_pure hq))

noncomputable def behind (D : Ends) (i : Nat) : Ends := { nx := fun σ H => D.nx (σ.set i none) H, rt := D.rt, bk := fun σ H => D.bk (σ.set i none) H, ct := fun σ H => D.ct (σ.set i none) H }
noncomputable def tTry (K : PySem.W.Frag) (N i : Nat) (CE : Addr) (tb : XK → TS) (th : TS) : TS := fun D σ H =>
  tb (fun cls dx H1 => ∃ C d, cls = .ref C ∧ dx = some d ∧ Mch K C CE ∧ ∀ (x : Addr) (σ1 : St), H1 x = some (ExO x C (some d)) → σ1.length = N → th (behind D i) (σ1.set i (some (.ref x))) H1) D σ H
section
variable {X : Cx}
theorem ps_try {body suite : List Stmt} {b0 : Stmt} {x n : Str} {i : Nat} {CE : Addr} {tb : XK → TS} {th : TS} {np hpos pos : Pos} (hN : X.N.Nodup) (hi : X.N[i]? = some n) (hl : X.env.scope.names.lookup n = some .local) (hg : Gl X x) (hm : X.mg x = some (.ref CE))
    (hb : ∀ pn E', PSs ((X.pinned pn).exc E') body (tb E')) (hh : ∀ v, PSs (X.mark v) (b0 :: suite) th)
    (hst : X.stack = X.env :: X.outer := by rfl) (hfr : X.env.frame = some X.env.locals := by rfl) (hdb : (x == ("__debug__" : Str)) = false := by decide) :
    PS X (.Try body [.ExceptHandler (some (.Name x np)) (some n) (b0 :: suite) hpos] [] [] pos) (tTry X.K X.N.length i CE tb th) := by
  refine ⟨?_⟩
  intro pins s σ H D I h
  refine wpAny_Try_except ?_
  refine wpAny_mono (hb (X.pn ++ pins) _ [] s σ H D (I.topin.wish _) h) (fun f s1 h1 => ?_) fun e s1 h1 => ?_
  · cases f with
    | next => obtain ⟨σ1, H1, I1, q⟩ := h1; exact wpAny_execs_nil ⟨σ1, H1, I1.unwish.unpin, q⟩
    | brk => obtain ⟨σ1, H1, I1, q⟩ := h1; exact ⟨σ1, H1, I1.unwish.unpin, q⟩
    | cont => obtain ⟨σ1, H1, I1, q⟩ := h1; exact ⟨σ1, H1, I1.unwish.unpin, q⟩
    | ret u => obtain ⟨v, σ1, H1, I1, r, q⟩ := h1; exact ⟨v, σ1, H1, I1.unwish.unpin, r, q⟩
  · obtain ⟨y, C0, d0, pins1, σ1, H1, rfl, I1, hy, tb1, C, d, ec, ed, mc, q⟩ := h1
    cases ec
    cases ed
    refine fly_note (X := X.pinned (X.pn ++ pins)) I1 hst hfr I1.ok.frames hy tb1 fun s2 I2 t2 => fly_set (to := none) I2 hy t2 fun s3 I3 t3 => ?_
    obtain ⟨oe, vs, ge, hcl, hdi, hda, hz⟩ := ExO.get I3.hok hy
    have J3 : Inv X pins σ1 H1 s3 := I3.unpin
    refine wpAny_handleBy_cons (codeAny_handlers_test ?_) (by intro z; cases z)
    refine ld_glob (X := X.mark (.ref y)) (J3.mark _) hg hm ?_ hdb
    refine exc_matches J3.kIn mc ge hcl ?_
    refine codeAny_handlers_suite_as ?_
    refine fly_set (X := (X.pinned (X.pn ++ pins))) (to := none) I3 hy t3 fun s4 I4 t4 => ?_
    have J4 : Inv X pins σ1 H1 s4 := I4.unpin
    refine store_ok (X := X.mark (.ref y)) (J4.mark _) hN hi (.inl hl) (v := .ref y) rfl (fun s5 I5 => ?_) (.inr hl)
    refine wpAny_mono (hh (.ref y) pins s5 _ H1 (behind D i) I5 (q y σ1 hy I1.len)) (fun f s6 h6 => ?_) fun _ _ z => z.elim
    have go : ∀ {σ6 : St} {H6 : Hp} {P : Flow → Shared → Prop}, Inv (X.mark (.ref y)) pins σ6 H6 s6 → (∀ s7, Inv X pins (σ6.set i none) H6 s7 → P f s7) → wpAny (model X.prog X.w) X.A (do bindName X.env n .none; unbindBehindTheSuite X.env n hpos) (fun _ s7 => P f s7) X.xe s6 :=
      fun {σ6 H6 P} I6 k => name_gone (Inv.unmark I.ok.hd I6) hN hi hl k
    cases f with
    | next => obtain ⟨σ6, H6, I6, q6⟩ := h6; exact go (P := SP X pins D) I6 fun s7 I7 => ⟨_, H6, I7, q6⟩
    | brk => obtain ⟨σ6, H6, I6, q6⟩ := h6; exact go (P := SP X pins D) I6 fun s7 I7 => ⟨_, H6, I7, q6⟩
    | cont => obtain ⟨σ6, H6, I6, q6⟩ := h6; exact go (P := SP X pins D) I6 fun s7 I7 => ⟨_, H6, I7, q6⟩
    | ret u => obtain ⟨v, σ6, H6, I6, r, q6⟩ := h6; exact go (P := SP X pins D) I6 fun s7 I7 => ⟨v, _, H6, I7, r, q6⟩
end
end L2

set_option Elab.async false
set_option linter.all false
set_option maxRecDepth 100000
namespace L2
open PySem PySem.Spec PyProof.Rows
noncomputable def EqD (K : PySem.W.Frag) (H : Hp) : Nat → V → V → Prop
  | 0, x, y => flatV x = true ∧ x = y
  | n + 1, x, y => (flatV x = true ∧ x = y) ∨ ∃ a b xs ys, x = .ref a ∧ y = .ref b ∧ ((SqL K H a xs ∧ SqL K H b ys) ∨ (SqT K H a xs ∧ SqT K H b ys)) ∧ Paired (EqD K H n) xs ys
theorem EqD.flat {K : PySem.W.Frag} {H : Hp} {x : V} (h : flatV x = true) : ∀ n, EqD K H n x x
  | 0 => ⟨h, rfl⟩
  | _ + 1 => .inl ⟨h, rfl⟩
theorem eqV_same : ∀ {x : V}, flatV x = true → eqV x x = true
  | .non, _ => rfl
  | .bl b, _ => beq_self_eq_true b
  | .int i, _ => beq_self_eq_true i
  | .str z, _ => beq_self_eq_true z
theorem Paired.get {α β : Type} {F : α → β → Prop} : ∀ {xs : List α} {ys : List β}, Paired F xs ys → ∀ (j : Nat) (x : α) (y : β), xs[j]? = some x → ys[j]? = some y → F x y
  | _, _, .nil, j, x, y, h, _ => by simp at h
  | _, _, .cons r t, 0, x, y, h, q => by simp at h q; subst h; subst q; exact r
  | _, _, .cons r t, j + 1, x, y, h, q => Paired.get t j x y (by simpa using h) (by simpa using q)
theorem Paired.len {α β : Type} {F : α → β → Prop} : ∀ {xs : List α} {ys : List β}, Paired F xs ys → xs.length = ys.length
  | _, _, .nil => rfl
  | _, _, .cons _ t => by simp [Paired.len t]
theorem Paired.imp {α β : Type} {F G : α → β → Prop} (h : ∀ x y, F x y → G x y) : ∀ {xs : List α} {ys : List β}, Paired F xs ys → Paired G xs ys
  | _, _, .nil => .nil
  | _, _, .cons r t => .cons (h _ _ r) (Paired.imp h t)
theorem all_true (n : Nat) : (List.range n).all (fun _ => true) = true := List.all_eq_true.mpr fun _ _ => rfl
section
variable {X : Cx} {pins : List (Addr × Obj)} {σ : St} {H : Hp} {s : Shared}
theorem vals_pair {K : PySem.W.Frag} {xs ys : List V} {us vs : List Value} {R : V → V → Prop} (p : Paired R xs ys) (r : Vals xs us) (q : Vals ys vs) (P : Value → Value → Prop) (h : ∀ x y u v, R x y → RelV x u → RelV y v → P u v) :
    us.toArray.size = vs.toArray.size ∧ ∀ j (h1 : j < us.toArray.size) (h2 : j < vs.toArray.size), P us.toArray[j] vs.toArray[j] := by
  refine ⟨?_, fun j h1 h2 => ?_⟩
  · have e1 := r.length; have e2 := q.length; have e3 := Paired.len p
    simp only [List.size_toArray]; (first | lia | omega)
  · have l1 : j < us.length := by simpa using h1
    have l2 : j < vs.length := by simpa using h2
    have e1 := r.length; have e2 := q.length
    have g1 : xs[j]? = some xs[j] := List.getElem?_eq_getElem (by (first | lia | omega))
    have g2 : ys[j]? = some ys[j] := List.getElem?_eq_getElem (by (first | lia | omega))
    simp only [List.getElem_toArray]
    exact h _ _ _ _ (Paired.get p j _ _ g1 g2) (Paired.get r j _ _ g1 (List.getElem?_eq_getElem l1)) (Paired.get q j _ _ g2 (List.getElem?_eq_getElem l2))
theorem eqD_at (I : Inv X pins σ H s) : ∀ (n : Nat) (x y : V) (u v : Value) (A : Around), EqD X.K H n x y → RelV x u → RelV y v → A.units + n ≤ cLine → SeqAt.EqAt A s u v true
  | 0, x, y, u, v, A, ⟨f, e⟩, ru, rv, _ => by subst e; rw [← eqV_same f]; exact eqAt_V ru rv f f
  | n + 1, x, y, u, v, A, .inl ⟨f, e⟩, ru, rv, _ => by subst e; rw [← eqV_same f]; exact eqAt_V ru rv f f
  | n + 1, x, y, u, v, A, .inr ⟨a, b, xs, ys, ex, ey, hs, p⟩, ru, rv, hu => by
    subst ex ey
    cases ru; cases rv
    by_cases hab : a = b
    · subst hab; exact SeqAt.EqAt.same _
    refine SeqAt.EqAt.of_refs hab ?_
    rcases hs with ⟨ha, hb⟩ | ⟨ha, hb⟩
    · obtain ⟨us, r, pa, _⟩ := I.list ha
      obtain ⟨vs, q, pb, _⟩ := I.list hb
      obtain ⟨sz, he⟩ := vals_pair (K := X.K) p r q (fun u v => SeqAt.EqAt A.in1 s u v true) fun x y u v e ru rv => eqD_at I n x y u v A.in1 e ru rv (by show A.units + 1 + n ≤ _; (first | lia | omega))
      have := SeqAt.RcAt.lists (e := fun _ => true) pa.isList pb.isList sz (by (first | lia | omega)) he
      rwa [all_true] at this
    · obtain ⟨us, r, pa, _⟩ := I.tuple ha
      obtain ⟨vs, q, pb, _⟩ := I.tuple hb
      obtain ⟨sz, he⟩ := vals_pair (K := X.K) p r q (fun u v => SeqAt.EqAt A.in1 s u v true) fun x y u v e ru rv => eqD_at I n x y u v A.in1 e ru rv (by show A.units + 1 + n ≤ _; (first | lia | omega))
      have := SeqAt.RcAt.tuples (e := fun _ => true) pa pb (by (first | lia | omega)) he
      rw [all_true, sz, beq_self_eq_true] at this
      exact this
noncomputable def rEqD (K : PySem.W.Frag) (k : Bool) : R2 := fun x y H Q => ∃ a b xs ys n, x = .ref a ∧ y = .ref b ∧ ((SqL K H a xs ∧ SqL K H b ys) ∨ (SqT K H a xs ∧ SqT K H b ys)) ∧ Paired (EqD K H n) xs ys ∧ n ≤ 100 ∧ Q (.bl k) H
theorem op_eqD {k : Nat} (hr : Room k X.A) : OpR X (compareOp .Eq) (rEqD X.K true) := by
  intro pins s σ H x y v u Q I rx ry h
  obtain ⟨a, b, xs, ys, n, rfl, rfl, hs, p, hn, q⟩ := h
  cases rx; cases ry
  have hu := hr.un
  rcases hs with ⟨ha, hb⟩ | ⟨ha, hb⟩
  · obtain ⟨us, r, pa, _⟩ := I.list ha
    obtain ⟨vs, q', pb, _⟩ := I.list hb
    obtain ⟨sz, he⟩ := vals_pair (K := X.K) p r q' (fun u v => SeqAt.EqAt X.A.in1 s u v true) fun x y u v e ru rv => eqD_at I n x y u v X.A.in1 e ru rv (by show X.A.units + 1 + n ≤ _; (first | lia | omega))
    have := SeqAt.RcAt.lists (e := fun _ => true) pa.isList pb.isList sz (by (first | lia | omega)) he
    rw [all_true] at this
    exact this _ _ _ _ ⟨.bl true, H, I, rfl, q⟩
  · obtain ⟨us, r, pa, _⟩ := I.tuple ha
    obtain ⟨vs, q', pb, _⟩ := I.tuple hb
    obtain ⟨sz, he⟩ := vals_pair (K := X.K) p r q' (fun u v => SeqAt.EqAt X.A.in1 s u v true) fun x y u v e ru rv => eqD_at I n x y u v X.A.in1 e ru rv (by show X.A.units + 1 + n ≤ _; (first | lia | omega))
    have := SeqAt.RcAt.tuples (e := fun _ => true) pa pb (by (first | lia | omega)) he
    rw [all_true, sz, beq_self_eq_true] at this
    exact this _ _ _ _ ⟨.bl true, H, I, rfl, q⟩
theorem op_neD {k : Nat} (hr : Room k X.A) : OpR X (compareOp .NotEq) (rEqD X.K false) := by
  intro pins s σ H x y v u Q I rx ry h
  obtain ⟨a, b, xs, ys, n, rfl, rfl, hs, p, hn, q⟩ := h
  cases rx; cases ry
  have hu := hr.un
  rcases hs with ⟨ha, hb⟩ | ⟨ha, hb⟩
  · obtain ⟨us, r, pa, _⟩ := I.list ha
    obtain ⟨vs, q', pb, _⟩ := I.list hb
    obtain ⟨sz, he⟩ := vals_pair (K := X.K) p r q' (fun u v => SeqAt.EqAt X.A.in1 s u v true) fun x y u v e ru rv => eqD_at I n x y u v X.A.in1 e ru rv (by show X.A.units + 1 + n ≤ _; (first | lia | omega))
    have := SeqAt.RcNeAt.lists (e := fun _ => true) pa.isList pb.isList sz (by (first | lia | omega)) he
    rw [all_true] at this
    exact this _ _ _ _ ⟨.bl false, H, I, rfl, q⟩
  · obtain ⟨us, r, pa, _⟩ := I.tuple ha
    obtain ⟨vs, q', pb, _⟩ := I.tuple hb
    obtain ⟨sz, he⟩ := vals_pair (K := X.K) p r q' (fun u v => SeqAt.EqAt X.A.in1 s u v true) fun x y u v e ru rv => eqD_at I n x y u v X.A.in1 e ru rv (by show X.A.units + 1 + n ≤ _; (first | lia | omega))
    have := SeqAt.RcNeAt.tuples (e := fun _ => true) pa pb (by (first | lia | omega)) he
    rw [all_true, sz, beq_self_eq_true] at this
    exact this _ _ _ _ ⟨.bl false, H, I, rfl, q⟩
theorem EqD.ints {K : PySem.W.Frag} {H : Hp} : ∀ (ns : List Int), Paired (EqD K H 0) (ns.map V.int) (ns.map V.int)
  | [] => .nil
  | n :: r => .cons ⟨rfl, rfl⟩ (EqD.ints r)
noncomputable def CDivB (i j : Int) : Prop := 0 < j ∧ j.natAbs.log2 < 8000
theorem op_fdivB : OpR X (binaryOp .FloorDiv) (rI CDivB fun i j => .int (i / j)) := opI fun i j _ _ _ _ _ hc q => by
  rw [← Int.fdiv_eq_ediv_of_nonneg i (by have := hc.1; (first | lia | omega))] at q
  exact floordiv_int (by have := hc.1; (first | lia | omega)) q (.inl (PyProof.noPylong_of_log2 (by have := hc.2; (first | lia | omega))))
noncomputable def tCut (t : TS) : TS := fun D σ H => ∃ P : St → Hp → Prop, t { D with nx := P } σ H ∧ ∀ σ' H', P σ' H' → D.nx σ' H'
theorem ps_cut {st : Stmt} {t : TS} (h : PS X st t) : PS X st (tCut t) := by
  refine ⟨?_⟩
  intro pins s σ H D I hw
  obtain ⟨P, h1, h2⟩ := hw
  refine wpAny_mono (h pins s σ H _ I h1) (fun f s' q => ?_) fun _ _ z => z
  cases f with
  | next => obtain ⟨σ1, H1, I1, q⟩ := q; exact ⟨σ1, H1, I1, h2 _ _ q⟩
  | brk => exact q
  | cont => exact q
  | ret u => exact q
structure CalM (P : Program) (w : World) (K : PySem.W.Frag) (mg : Str → Option Value) (base : Heap) (CX : CXT) (k : Nat) (C : Addr) (m : Str) (ps : List Str) (sp : Sp) : Prop where
  ex : ∃ f fd, FnOk P w K mg base CX k f fd ps sp ∧ Cls K C ∧ Meth K C m f ∧ Binds K fd ps []
end
section
variable {X : Cx} {o e : Expr} {es : List Expr} {m : Str} {apos pos : Pos} {ta : TE} {t : TA} {E : XK} {C : Addr}
theorem pe_methC {CX : CXT} {k n : Nat} {ps : List Str} {sp : Sp} {pl : Sem Bool} (he : PE X o ta) (G : CalM X.prog X.w X.K X.mg X.base CX k C m ps sp) (hr : Room n X.A) (ha : PA X (e :: es) t) (hx : Passes CX X E) (hk : k ≤ n := by first | decide | (first | lia | omega))
    (hst : starEach (e :: es) X.env = (false, eval e X.env) :: starEach es X.env := by rfl) (hpl : (backTo pos (starEach es X.env)).any (·.1) = false := by rfl)
    (ht : eval (.Call (.Attribute o m apos) (e :: es) [] pos) X.env = (do
      let ov ← eval o X.env
      standAt apos.atName
      let (f, first) ← holding [ov] (getMethod ov m pl)
      callWith pos f first (backTo pos (starEach (e :: es) X.env)) (backToKw pos (keywordEach [] X.env))) := by rfl) :
    PE X (.Call (.Attribute o m apos) (e :: es) [] pos) (tMeth C m sp [] E ta t) := by
  obtain ⟨f, fd, F, c, hm, hb⟩ := G.ex
  exact pe_meth he c hm F (hr.mono hk) hb .nil hx ha hst hpl ht
theorem pe_methC0 {CX : CXT} {k n : Nat} {ps : List Str} {sp : Sp} {pl : Sem Bool} (he : PE X o ta) (G : CalM X.prog X.w X.K X.mg X.base CX k C m ps sp) (hr : Room n X.A) (hx : Passes CX X E) (hk : k ≤ n := by first | decide | (first | lia | omega))
    (ht : eval (.Call (.Attribute o m apos) [] [] pos) X.env = (do
      let ov ← eval o X.env
      standAt apos.atName
      let (f, first) ← holding [ov] (getMethod ov m pl)
      callWith pos f first (backTo pos (starEach [] X.env)) (backToKw pos (keywordEach [] X.env))) := by rfl) :
    PE X (.Call (.Attribute o m apos) [] [] pos) (tMeth C m sp [] E ta tNil) := by
  obtain ⟨f, fd, F, c, hm, hb⟩ := G.ex
  exact pe_meth0 he c hm F (hr.mono hk) hb .nil hx ht
theorem pe_fldXK {f : Str} {te : TE} (K : PySem.W.Frag) (hK : X.K = K) (he : PE X e te) (hb : attributeBase e f X.env (eval e X.env) = eval e X.env := by rfl) : PE X (.Attribute e f pos) (tFldX K te f) := by
  subst hK
  exact pe_fldX he hb
structure CalK (P : Program) (w : World) (K : PySem.W.Frag) (mg : Str → Option Value) (base : Heap) (CX : CXT) (k : Nat) (x : Str) (C : Addr) (ps : List Str) (sp : Sp) : Prop where
  ex : ∃ f fd, Mk K C f ∧ FnOk P w K mg base CX k f fd ps sp ∧ mg x = some (.ref C) ∧ Binds K fd ps []
theorem pe_makeC {x : Str} {p : Pos} {CX : CXT} {k n : Nat} {ps : List Str} {sp : Sp} (G : CalK X.prog X.w X.K X.mg X.base CX k x C ps sp) (hr : Room n X.A) (hg : Gl X x) (ha : PA X (e :: es) t) (hx : Passes CX X E) (hk : k + 1 ≤ n := by first | decide | (first | lia | omega))
    (hdb : (x == ("__debug__" : Str)) = false := by decide) (he : starEach (e :: es) X.env = (false, eval e X.env) :: starEach es X.env := by rfl) (hpl : (backTo pos (starEach es X.env)).any (·.1) = false := by rfl) :
    PE X (.Call (.Name x p) (e :: es) [] pos) (tMake C sp [] E t) := by
  obtain ⟨f, fd, M, F, hm, hb⟩ := G.ex
  exact pe_make M F (hr.mono hk) hg hm hb .nil hx ha hdb he hpl
structure CalX (P : Program) (w : World) (K : PySem.W.Frag) (mg : Str → Option Value) (base : Heap) (k : Nat) (x : Str) (C : Addr) (ps : List Str) (sp : Sp) : Prop where
  ex : ∃ f fd, ExMk K C f ∧ FnOk P w K mg base (CXE P w) k f fd ps sp ∧ mg x = some (.ref C) ∧ Binds K fd ps []
theorem ps_raiseC {x : Str} {np cpos : Pos} {k n : Nat} {ps : List Str} {sp : Sp} (G : CalX X.prog X.w X.K X.mg X.base k x C ps sp) (hr : Room n X.A) (hg : Gl (X.exc E) x) (ha : PA (X.exc E) (e :: es) t) (hc : X.calm = true := by rfl) (hk : k + 1 ≤ n := by first | decide | (first | lia | omega))
    (hdb : (x == ("__debug__" : Str)) = false := by decide) (he : starEach (e :: es) X.env = (false, eval e X.env) :: starEach es X.env := by rfl) (hpl : (backTo cpos (starEach es X.env)).any (·.1) = false := by rfl) :
    PS (X.exc E) (.Raise (some (.Call (.Name x np) (e :: es) [] cpos)) none pos) (tRaise C sp E t) := by
  obtain ⟨f, fd, M, F, hm, hb⟩ := G.ex
  exact ps_raise M F (hr.mono hk) hg hm hb ha hc hdb he hpl
end
end L2

set_option Elab.async false
set_option linter.all false
set_option maxRecDepth 100000
namespace L2
open PySem
noncomputable abbrev Bad := Nat × Str
noncomputable abbrev Hds := List (Int × Int)
inductive Nd where
  | mk (kind : Int) (place : Nat) (own : List Int) (parts : List Nd)
noncomputable def takeM (ns : List Int) (p : Nat) : Except Bad Int := match ns[p]? with
  | some n => .ok n
  | none => .error (p, "end")
noncomputable def withinM (ns : List Int) (p : Nat) (lo hi : Int) : Except Bad Int := match ns[p]? with
  | some n => if n < lo ∨ hi < n then .error (p, "range") else .ok n
  | none => .error (p, "end")
noncomputable def headsM (ns : List Int) : Nat → Int → Nat → Except Bad Hds
  | 0, _, _ => .ok []
  | n + 1, most, p => match withinM ns p 0 most with
    | .error b => .error b
    | .ok a => match withinM ns (p + 1) a 12 with
      | .error b => .error b
      | .ok c => match headsM ns n 4 (p + 2) with
        | .error b => .error b
        | .ok r => .ok ((a, c) :: r)
noncomputable def headsAllM (ns : List Int) : Except Bad Hds := match withinM ns 0 1 16 with
  | .error b => .error b
  | .ok n => headsM ns n.toNat 0 1
noncomputable def oneM (r : Except Bad Int) : Except Bad (List Int) := match r with
  | .ok n => .ok [n]
  | .error b => .error b
noncomputable def ownM (ns : List Int) (heads : Hds) (boxes k : Int) (p : Nat) : Except Bad (List Int) :=
  if k = 0 then oneM (takeM ns p) else if k = 1 ∨ k = 2 then oneM (withinM ns p 0 (boxes - 1)) else if k = 3 then oneM (withinM ns p 1 12) else if k = 4 then oneM (withinM ns p 2 12) else if k = 6 then oneM (withinM ns p 0 ((heads.length : Int) - 1)) else .ok []
noncomputable def partsN : List Int := [1, 2, 2, 2, 2, 2, 2, 2, 2, 2, 3, 1, 0]
noncomputable def dueM (heads : Hds) (k : Int) (own : List Int) : Int :=
  if k = 0 ∨ k = 1 then 0 else if k = 2 then 1 else if k = 3 then own.headD 0 else if k = 4 then 1 + own.headD 0 else if k = 5 then 2 else if k = 6 then (heads.getD (own.headD 0).toNat (0, 0)).1 else partsN.getD (k - 7).toNat 0
noncomputable def partsM (f : Nat → Except Bad (Nd × Nat)) : Nat → Nat → Except Bad (List Nd × Nat)
  | 0, p => .ok ([], p)
  | n + 1, p => match f p with
    | .error b => .error b
    | .ok a => match partsM f n a.2 with
      | .error b => .error b
      | .ok r => .ok (a.1 :: r.1, r.2)
noncomputable def nodeM (ns : List Int) (heads : Hds) (boxes : Int) : Nat → Nat → Except Bad (Nd × Nat)
  | 0, p => .error (p, "deep")
  | d + 1, p => match withinM ns p 0 19 with
    | .error b => .error b
    | .ok k => match ownM ns heads boxes k (p + 1) with
      | .error b => .error b
      | .ok own => match partsM (nodeM ns heads boxes d) (dueM heads k own).toNat (p + 1 + own.length) with
        | .error b => .error b
        | .ok r => .ok (.mk k p own r.1, r.2)
noncomputable def bodiesM (ns : List Int) (heads : Hds) : Hds → Nat → Except Bad (List Nd × Nat)
  | [], p => .ok ([], p)
  | h :: r, p => match nodeM ns heads h.2 10 p with
    | .error b => .error b
    | .ok a => match bodiesM ns heads r a.2 with
      | .error b => .error b
      | .ok z => .ok (a.1 :: z.1, z.2)
noncomputable def functionsM (ns : List Int) : Except Bad (Hds × List Nd) := match headsAllM ns with
  | .error b => .error b
  | .ok hs => match bodiesM ns hs hs (1 + 2 * hs.length) with
    | .error b => .error b
    | .ok r => if r.2 < ns.length then .error (r.2, "over") else .ok (hs, r.1)
noncomputable def NodeAt (H : Hp) : Nat → V → Nd → Prop
  | 0, _, _ => False
  | d + 1, v, .mk k p own ps => ∃ t o q vs, v = .ref t ∧ H t = some (.tup [.int k, .int p, .ref o, .ref q]) ∧ H o = some (.tup (own.map V.int)) ∧ H q = some (.tup vs) ∧ Paired (NodeAt H d) vs ps
noncomputable def FnAt (H : Hp) (v : V) (f : (Int × Int) × Nd) : Prop := ∃ t b, v = .ref t ∧ H t = some (.tup [.int f.1.1, .int f.1.2, b]) ∧ NodeAt H 10 b f.2
noncomputable def FnsAt (H : Hp) (l : Addr) (r : Hds × List Nd) : Prop := ∃ rs, H l = some (.lst rs) ∧ r.1.length = r.2.length ∧ Paired (FnAt H) rs (r.1.zip r.2)
noncomputable def HeadAt (H : Hp) (v : V) (h : Int × Int) : Prop := ∃ t, v = .ref t ∧ H t = some (.tup [.int h.1, .int h.2])
noncomputable def HeadsAt (H : Hp) (hd : Addr) (hs : Hds) : Prop := ∃ rs, H hd = some (.lst rs) ∧ Paired (HeadAt H) rs hs
noncomputable def LookO (CL dx a : Addr) (p : Nat) : HO := .ins CL dx [("numbers", .ref a), ("place", .int p)]
noncomputable def Tups (H H' : Hp) : Prop := ∀ b xs, H b = some (.tup xs) → H' b = some (.tup xs)
theorem Tups.same {H H' : Hp} (h : Same H H') : Tups H H' := fun _ _ e => h _ _ e
theorem Tups.keep {lk CL dx a : Addr} {p : Nat} {H H' : Hp} (e : H lk = some (LookO CL dx a p)) (k : Keep lk H H') : Tups H H' := fun b xs q => k b _ (fun z => by rw [z, e] at q; cases q) q
theorem Tups.keepL {l : Addr} {ys : List V} {H H' : Hp} (e : H l = some (.lst ys)) (k : Keep l H H') : Tups H H' := fun b xs q => k b _ (fun z => by rw [z, e] at q; cases q) q
theorem NodeAt.tups {H H' : Hp} (h : Tups H H') : ∀ {d : Nat} {v : V} {n : Nd}, NodeAt H d v n → NodeAt H' d v n
  | 0, _, _, z => z.elim
  | d + 1, v, .mk k p own ps, ⟨t, o, q, vs, e, h1, h2, h3, r⟩ => ⟨t, o, q, vs, e, h _ _ h1, h _ _ h2, h _ _ h3, Paired.imp (fun _ _ z => NodeAt.tups h z) r⟩
theorem HeadAt.tups {H H' : Hp} (h : Tups H H') {v : V} {n : Int × Int} : HeadAt H v n → HeadAt H' v n := fun ⟨t, e, q⟩ => ⟨t, e, h _ _ q⟩
theorem FnAt.tups {H H' : Hp} (h : Tups H H') {v : V} {n : (Int × Int) × Nd} : FnAt H v n → FnAt H' v n := fun ⟨t, b, e, q, z⟩ => ⟨t, b, e, h _ _ q, z.tups h⟩
theorem HeadsAt.keep {lk CL dx a hd : Addr} {p : Nat} {H H' : Hp} {hs : Hds} (e : H lk = some (LookO CL dx a p)) (k : Keep lk H H') (h : HeadsAt H hd hs) : HeadsAt H' hd hs := by
  obtain ⟨rs, q, r⟩ := h
  exact ⟨rs, k hd _ (fun z => by rw [z, e] at q; cases q) q, Paired.imp (fun _ _ z => z.tups (.keep e k)) r⟩
theorem pair_all {α β γ : Type} {F : α → γ → Prop} {G : β → γ → Prop} {R : α → β → Prop} (h : ∀ x y z, F x z → G y z → R x y) : ∀ {xs : List α} {ys : List β} {zs : List γ}, Paired F xs zs → Paired G ys zs → Paired R xs ys
  | _, _, _, .nil, .nil => .nil
  | _, _, _, .cons a t, .cons b u => .cons (h _ _ _ a b) (pair_all h t u)
theorem EqD.intsN {K : PySem.W.Frag} {H : Hp} {n : Nat} : ∀ (ns : List Int), Paired (EqD K H n) (ns.map V.int) (ns.map V.int)
  | [] => .nil
  | i :: r => .cons (EqD.flat rfl n) (EqD.intsN r)
noncomputable def Tells {α : Type} (r : Except Bad α) (ok : α → Prop) (bad : Nat → Str → Prop) : Prop := (∀ a, r = .ok a → ok a) ∧ ∀ p w, r = .error (p, w) → bad p w
noncomputable def Fails (CN lk : Addr) (H : Hp) (E : XK) (p : Nat) (w : Str) : Prop := ∀ d H', Keep lk H H' → H' d = some (XdO d [("place", .int p), ("word", .str w)]) → E (.ref CN) (some d) H'
theorem Fails.keep {CN lk : Addr} {H H1 : Hp} {E : XK} {p : Nat} {w : Str} (f : Fails CN lk H E p w) (k : Keep lk H H1) : Fails CN lk H1 E p w := fun d H' k' e => f d H' (k.trans k') e
noncomputable def Looks (CL : Addr) (H : Hp) (lk dx a : Addr) (p : Nat) (ns : List Int) : Prop := H lk = some (LookO CL dx a p) ∧ H a = some (.lst (ns.map V.int))
theorem Looks.go {CL lk dx a : Addr} {p p' : Nat} {ns : List Int} {H H' : Hp} (l : Looks CL H lk dx a p ns) (k : Keep lk H H') (e : H' lk = some (LookO CL dx a p')) : Looks CL H' lk dx a p' ns :=
  ⟨e, k a _ (fun z => by have := l.1; rw [← z, l.2] at this; cases this) l.2⟩
noncomputable def spInitX (C : Addr) : Sp := fun vs H Q _ => ∃ x y z, vs = [.ref x, y, z] ∧ H x = some (ExN x C none) ∧
  ∀ d H', d ≠ x → H d = none → (∀ b o, b ≠ x → H b = some o → H' b = some o) → H' x = some (ExN x C (some d)) → H' d = some (XdO d [("place", y), ("word", z)]) → Q .non H'
noncomputable def spInitL (CL : Addr) : Sp := fun vs H Q _ => ∃ x dx a, vs = [.ref x, .ref a] ∧ H x = some (.ins CL dx []) ∧ ∀ H', Keep x H H' → H' x = some (LookO CL dx a 0) → Q .non H'
noncomputable def spWhole : Sp := fun vs H Q _ => ∃ i : Int, vs = [.int i] ∧ Q (.bl true) H
noncomputable def spTk (CL CN : Addr) : Sp := fun vs H Q E => ∃ lk dx a p ns, vs = [.ref lk] ∧ Looks CL H lk dx a p ns ∧ Tells (takeM ns p) (fun n => Q (.int n) (upd H lk (LookO CL dx a (p + 1)))) (Fails CN lk H E)
noncomputable def spWithin (CL CN : Addr) : Sp := fun vs H Q E => ∃ lk dx a p ns lo hi, vs = [.ref lk, .int lo, .int hi] ∧ Looks CL H lk dx a p ns ∧ Tells (withinM ns p lo hi) (fun n => Q (.int n) (upd H lk (LookO CL dx a (p + 1)))) (Fails CN lk H E)
noncomputable def spHeads (CL CN : Addr) : Sp := fun vs H Q E => ∃ lk dx a ns, vs = [.ref lk] ∧ Looks CL H lk dx a 0 ns ∧
  Tells (headsAllM ns) (fun hs => ∀ hd H', Keep lk H H' → H' lk = some (LookO CL dx a (1 + 2 * hs.length)) → HeadsAt H' hd hs → Q (.ref hd) H') (Fails CN lk H E)
noncomputable def spOwn (CL CN : Addr) : Sp := fun vs H Q E => ∃ lk dx a p ns hd hs boxes k, vs = [.ref lk, .int k, .ref hd, .int boxes] ∧ Looks CL H lk dx a p ns ∧ HeadsAt H hd hs ∧
  Tells (ownM ns hs boxes k p) (fun own => ∀ t H', Keep lk H H' → H' lk = some (LookO CL dx a (p + own.length)) → H' t = some (.tup (own.map V.int)) → Q (.ref t) H') (Fails CN lk H E)
noncomputable def OwnOk (heads : Hds) (k : Int) (own : List Int) : Prop := 0 ≤ k ∧ k ≤ 19 ∧ (k = 3 ∨ k = 4 ∨ k = 6 → ∃ n, own = [n] ∧ 0 ≤ n ∧ (k = 6 → n < heads.length) ∧ (k ≠ 6 → n ≤ 12))
noncomputable def HdsOk (hs : Hds) : Prop := ∀ h ∈ hs, 0 ≤ h.1 ∧ h.1 ≤ 4
noncomputable def spDue : Sp := fun vs H Q _ => ∃ k t own hd hs, vs = [.int k, .ref t, .ref hd] ∧ H t = some (.tup (own.map V.int)) ∧ HeadsAt H hd hs ∧ OwnOk hs k own ∧ Q (.int (dueM hs k own)) H
noncomputable def spNode (CL CN : Addr) (d : Nat) : Sp := fun vs H Q E => ∃ lk dx a p ns hd hs boxes, vs = [.ref lk, .ref hd, .int boxes, .int (11 - (d : Int))] ∧ Looks CL H lk dx a p ns ∧ HeadsAt H hd hs ∧ HdsOk hs ∧
  Tells (nodeM ns hs boxes d p) (fun r => ∀ v H', Keep lk H H' → H' lk = some (LookO CL dx a r.2) → NodeAt H' d v r.1 → Q v H') (Fails CN lk H E)
noncomputable def spFns (CN : Addr) : Sp := fun vs H Q E => ∃ a ns, vs = [.ref a] ∧ H a = some (.lst (ns.map V.int)) ∧
  Tells (functionsM ns) (fun r => ∀ l H', Same H H' → H l = none → FnsAt H' l r → Q (.ref l) H') (fun p w => ∀ d H', Same H H' → H' d = some (XdO d [("place", .int p), ("word", .str w)]) → E (.ref CN) (some d) H')
noncomputable def spWrong : Sp := fun vs H Q _ => ∃ a ns, vs = [.ref a] ∧ H a = some (.lst (ns.map V.int)) ∧
  Tells (functionsM ns) (fun _ => ∀ H', Same H H' → Q .non H') (fun p w => ∀ t H', Same H H' → H' t = some (.tup [.int (p : Nat), .str w]) → Q (.ref t) H')
theorem withinM_ok {ns : List Int} {p : Nat} {lo hi n : Int} (h : withinM ns p lo hi = .ok n) : ns[p]? = some n ∧ lo ≤ n ∧ n ≤ hi := by
  unfold withinM at h
  cases e : ns[p]? with
  | none => rw [e] at h; cases h
  | some m =>
    rw [e] at h
    simp only at h
    by_cases c : m < lo ∨ hi < m
    · rw [if_pos c] at h; cases h
    · rw [if_neg c] at h; cases h
      exact ⟨rfl, by (first | lia | omega), by (first | lia | omega)⟩
theorem oneM_ok {r : Except Bad Int} {own : List Int} (h : oneM r = .ok own) : ∃ n, r = .ok n ∧ own = [n] := by
  unfold oneM at h
  cases r with
  | error b => cases h
  | ok n => cases h; exact ⟨n, rfl, rfl⟩
theorem own_ok {ns : List Int} {hs : Hds} {boxes k : Int} {p : Nat} {own : List Int} (h0 : 0 ≤ k) (h1 : k ≤ 19) (h : ownM ns hs boxes k p = .ok own) : OwnOk hs k own := by
  refine ⟨h0, h1, fun hk => ?_⟩
  unfold ownM at h
  rcases hk with rfl | rfl | rfl
  · rw [if_neg (by decide), if_neg (by decide), if_pos rfl] at h
    obtain ⟨n, e, rfl⟩ := oneM_ok h
    obtain ⟨_, a, b⟩ := withinM_ok e
    exact ⟨n, rfl, by (first | lia | omega), fun z => by (first | lia | omega), fun _ => b⟩
  · rw [if_neg (by decide), if_neg (by decide), if_neg (by decide), if_pos rfl] at h
    obtain ⟨n, e, rfl⟩ := oneM_ok h
    obtain ⟨_, a, b⟩ := withinM_ok e
    exact ⟨n, rfl, by (first | lia | omega), fun z => by (first | lia | omega), fun _ => b⟩
  · rw [if_neg (by decide), if_neg (by decide), if_neg (by decide), if_neg (by decide), if_pos rfl] at h
    obtain ⟨n, e, rfl⟩ := oneM_ok h
    obtain ⟨_, a, b⟩ := withinM_ok e
    exact ⟨n, rfl, by (first | lia | omega), fun _ => by (first | lia | omega), fun z => absurd rfl z⟩
theorem partsN_ok : ∀ k : Nat, 0 ≤ partsN.getD k 0 ∧ partsN.getD k 0 ≤ 3 := by
  intro k
  by_cases h : k < 13
  · have : ∀ k : Fin 13, 0 ≤ partsN.getD k.1 0 ∧ partsN.getD k.1 0 ≤ 3 := by decide
    exact this ⟨k, h⟩
  · have : partsN[k]? = none := List.getElem?_eq_none (by show 13 ≤ k; (first | lia | omega))
    rw [List.getD_eq_getElem?_getD, this]; decide
theorem due_ok {hs : Hds} {k : Int} {own : List Int} (o : OwnOk hs k own) (hh : HdsOk hs) : 0 ≤ dueM hs k own ∧ dueM hs k own ≤ 13 := by
  obtain ⟨h0, h1, h2⟩ := o
  unfold dueM
  by_cases c1 : k = 0 ∨ k = 1
  · rw [if_pos c1]; decide
  rw [if_neg c1]
  by_cases c2 : k = 2
  · rw [if_pos c2]; decide
  rw [if_neg c2]
  by_cases c3 : k = 3
  · rw [if_pos c3]
    obtain ⟨n, rfl, a, _, b⟩ := h2 (.inl c3)
    have := b (by (first | lia | omega))
    show 0 ≤ n ∧ n ≤ 13
    (first | lia | omega)
  rw [if_neg c3]
  by_cases c4 : k = 4
  · rw [if_pos c4]
    obtain ⟨n, rfl, a, _, b⟩ := h2 (.inr (.inl c4))
    have := b (by (first | lia | omega))
    show 0 ≤ 1 + n ∧ 1 + n ≤ 13
    (first | lia | omega)
  rw [if_neg c4]
  by_cases c5 : k = 5
  · rw [if_pos c5]; decide
  rw [if_neg c5]
  by_cases c6 : k = 6
  · rw [if_pos c6]
    obtain ⟨n, rfl, a, b, _⟩ := h2 (.inr (.inr c6))
    have hn := b c6
    show 0 ≤ (hs.getD n.toNat (0, 0)).1 ∧ (hs.getD n.toNat (0, 0)).1 ≤ 13
    have hl : n.toNat < hs.length := by (first | lia | omega)
    rw [List.getD_eq_getElem?_getD, List.getElem?_eq_getElem hl]
    have := hh _ (List.getElem_mem hl)
    simp only [Option.getD_some]
    (first | lia | omega)
  rw [if_neg c6]
  have := partsN_ok (k - 7).toNat
  (first | lia | omega)
theorem headsM_ok {ns : List Int} : ∀ {n : Nat} {most : Int} {p : Nat} {hs : Hds}, most ≤ 4 → headsM ns n most p = .ok hs → HdsOk hs ∧ hs.length = n
  | 0, _, _, _, _, h => by cases h; exact ⟨fun _ z => (nomatch z), rfl⟩
  | n + 1, most, p, hs, hm, h => by
    unfold headsM at h
    cases e1 : withinM ns p 0 most with
    | error b => rw [e1] at h; cases h
    | ok a =>
      rw [e1] at h; simp only at h
      cases e2 : withinM ns (p + 1) a 12 with
      | error b => rw [e2] at h; cases h
      | ok c =>
        rw [e2] at h; simp only at h
        cases e3 : headsM ns n 4 (p + 2) with
        | error b => rw [e3] at h; cases h
        | ok r =>
          rw [e3] at h; cases h
          obtain ⟨q, l⟩ := headsM_ok (Int.le_refl _) e3
          obtain ⟨_, a0, a1⟩ := withinM_ok e1
          exact ⟨fun z hz => by
            rcases List.mem_cons.mp hz with rfl | hz
            · exact ⟨a0, by show a ≤ 4; (first | lia | omega)⟩
            · exact q z hz, by simp [l]⟩
theorem headsAllM_ok {ns : List Int} {hs : Hds} (h : headsAllM ns = .ok hs) : HdsOk hs ∧ ns[0]? = some (hs.length : Int) ∧ 1 ≤ hs.length ∧ hs.length ≤ 16 ∧ headsM ns hs.length 0 1 = .ok hs := by
  unfold headsAllM at h
  cases e1 : withinM ns 0 1 16 with
  | error b => rw [e1] at h; cases h
  | ok n =>
    rw [e1] at h; simp only at h
    obtain ⟨q, l⟩ := headsM_ok (by decide) h
    obtain ⟨e, a, b⟩ := withinM_ok e1
    rw [l]
    refine ⟨q, ?_, by (first | lia | omega), by (first | lia | omega), h⟩
    rw [e]; congr 1; (first | lia | omega)
noncomputable def joinM {α : Type} (done : List α) (r : Except Bad (List α)) : Except Bad (List α) := match r with
  | .ok r => .ok (done ++ r)
  | .error b => .error b
theorem joinM_nil {α : Type} (r : Except Bad (List α)) : joinM [] r = r := by cases r <;> rfl
noncomputable def joinP {α : Type} (done : List α) (r : Except Bad (List α × Nat)) : Except Bad (List α × Nat) := match r with
  | .ok r => .ok (done ++ r.1, r.2)
  | .error b => .error b
theorem joinP_nil {α : Type} (r : Except Bad (List α × Nat)) : joinP [] r = r := by cases r <;> rfl
theorem Keep.fresh {lk hd : Addr} {H H' : Hp} {o : HO} (k : Keep lk H H') (h : H hd = none) : Keep lk H (L2.upd H' hd o) := fun b u nb e => by rw [upd_ne (ne_of_none e h)]; exact k b u nb e
theorem Tups.upd {b : Addr} {ys : List V} {H : Hp} {o : HO} (h : H b = some (.lst ys)) : Tups H (L2.upd H b o) := fun c xs e => by rw [upd_ne (fun z => by rw [z, h] at e; cases e)]; exact e
theorem Tups.trans {H H1 H2 : Hp} (a : Tups H H1) (b : Tups H1 H2) : Tups H H2 := fun c xs e => b c xs (a c xs e)
theorem Tups.new {b : Addr} {H : Hp} {o : HO} (h : H b = none) : Tups H (L2.upd H b o) := .same (same_new h o)
theorem raised {C lk : Addr} {H H1 : Hp} {E E' : XK} {p : Nat} {w : Str} (f : Fails C lk H E p w) (k : Keep lk H H1) : ∀ x, H1 x = none →
    spInitX C [.ref x, .int (p : Int), .str w] (upd H1 x (ExN x C none)) (fun v H2 => v = .non ∧ ∃ d, H2 x = some (ExN x C (some d)) ∧ E (.ref C) (some d) (upd H2 x (ExO x C (some d)))) E' := by
  intro x hx
  refine ⟨x, _, _, rfl, upd_same, fun d H' dx hd kp ex ed => ⟨rfl, d, ex, f d _ (fun b o nb e => ?_) ?_⟩⟩
  · have e1 := k b o nb e
    have nx : b ≠ x := ne_of_none e1 hx
    rw [upd_ne nx]
    exact kp b o nx (by rw [upd_ne nx]; exact e1)
  · rw [upd_ne dx]; exact ed
end L2

set_option Elab.async false
set_option linter.all false
set_option maxRecDepth 100000
namespace L2
open PySem
noncomputable def Sub (ns : List Int) : Nat → List Int → Prop
  | _, [] => True
  | p, z :: zs => ns[p]? = some z ∧ Sub ns (p + 1) zs
theorem Sub.append {ns : List Int} : ∀ {xs ys : List Int} {p : Nat}, Sub ns p (xs ++ ys) → Sub ns p xs ∧ Sub ns (p + xs.length) ys
  | [], _, _, h => ⟨trivial, h⟩
  | x :: xs, ys, p, h => by
    have q := Sub.append h.2
    refine ⟨⟨h.1, q.1⟩, ?_⟩
    rw [show p + (x :: xs).length = p + 1 + xs.length by simp; (first | lia | omega)]
    exact q.2
theorem Sub.behind : ∀ (zs pre : List Int), Sub (pre ++ zs) pre.length zs
  | [], _ => trivial
  | z :: zs, pre => by
    refine ⟨by simp, ?_⟩
    have := Sub.behind zs (pre ++ [z])
    simpa using this
theorem Sub.self (ns : List Int) : Sub ns 0 ns := Sub.behind ns []
noncomputable def OwnFit (hs : Hds) (boxes k : Int) (own : List Int) : Prop :=
  (k = 0 ∧ ∃ n, own = [n]) ∨ ((k = 1 ∨ k = 2) ∧ ∃ n, own = [n] ∧ 0 ≤ n ∧ n ≤ boxes - 1) ∨ (k = 3 ∧ ∃ n, own = [n] ∧ 1 ≤ n ∧ n ≤ 12) ∨ (k = 4 ∧ ∃ n, own = [n] ∧ 2 ≤ n ∧ n ≤ 12) ∨ (k = 6 ∧ ∃ n, own = [n] ∧ 0 ≤ n ∧ n ≤ (hs.length : Int) - 1) ∨ ((k = 5 ∨ 7 ≤ k) ∧ own = [])
theorem withinM_at {ns : List Int} {p : Nat} {lo hi n : Int} (h : ns[p]? = some n) (h0 : lo ≤ n) (h1 : n ≤ hi) : withinM ns p lo hi = .ok n := by
  unfold withinM
  rw [h]
  exact if_neg (by (first | lia | omega))
theorem own_fit {ns : List Int} {hs : Hds} {boxes k : Int} {own : List Int} {p : Nat} (f : OwnFit hs boxes k own) (s : Sub ns p own) : ownM ns hs boxes k p = .ok own := by
  unfold ownM
  rcases f with ⟨rfl, n, rfl⟩ | ⟨hk, n, rfl, a, b⟩ | ⟨rfl, n, rfl, a, b⟩ | ⟨rfl, n, rfl, a, b⟩ | ⟨rfl, n, rfl, a, b⟩ | ⟨hk, rfl⟩
  · rw [if_pos rfl]; unfold takeM; rw [s.1]; rfl
  · rw [if_neg (by (first | lia | omega)), if_pos hk, withinM_at s.1 a b]; rfl
  · rw [if_neg (by decide), if_neg (by decide), if_pos rfl, withinM_at s.1 a b]; rfl
  · rw [if_neg (by decide), if_neg (by decide), if_neg (by decide), if_pos rfl, withinM_at s.1 a b]; rfl
  · rw [if_neg (by decide), if_neg (by decide), if_neg (by decide), if_neg (by decide), if_pos rfl, withinM_at s.1 a b]; rfl
  · rw [if_neg (by (first | lia | omega)), if_neg (by (first | lia | omega)), if_neg (by (first | lia | omega)), if_neg (by (first | lia | omega)), if_neg (by (first | lia | omega))]
noncomputable def PN (hs : Hds) (boxes : Int) (d : Nat) (zs : List Int) : Prop := ∀ ns p, Sub ns p zs → ∃ nd, nodeM ns hs boxes d p = .ok (nd, p + zs.length)
noncomputable def PP (hs : Hds) (boxes : Int) (d n : Nat) (zs : List Int) : Prop := ∀ ns p, Sub ns p zs → ∃ nds, partsM (nodeM ns hs boxes d) n p = .ok (nds, p + zs.length)
theorem partsM_snoc {f : Nat → Except Bad (Nd × Nat)} : ∀ {n p q z : Nat} {r : List Nd} {a : Nd}, partsM f n p = .ok (r, q) → f q = .ok (a, z) → partsM f (n + 1) p = .ok (r ++ [a], z)
  | 0, p, q, z, r, a, h, e => by
    cases h
    unfold partsM
    rw [e]; rfl
  | n + 1, p, q, z, r, a, h, e => by
    unfold partsM at h ⊢
    cases e1 : f p with
    | error b => rw [e1] at h; cases h
    | ok x =>
      rw [e1] at h; simp only at h ⊢
      cases e2 : partsM f n x.2 with
      | error b => rw [e2] at h; cases h
      | ok y =>
        rw [e2] at h; cases h
        have := partsM_snoc (show partsM f n x.2 = .ok (y.1, y.2) from e2) e
        rw [this]; rfl
theorem PP.zero {hs : Hds} {boxes : Int} {d : Nat} : PP hs boxes d 0 [] := fun ns p _ => ⟨[], rfl⟩
theorem PP.snoc {hs : Hds} {boxes : Int} {d n : Nat} {xs ys : List Int} (a : PP hs boxes d n xs) (b : PN hs boxes d ys) : PP hs boxes d (n + 1) (xs ++ ys) := fun ns p s => by
  obtain ⟨s1, s2⟩ := Sub.append s
  obtain ⟨r, e1⟩ := a ns p s1
  obtain ⟨x, e2⟩ := b ns _ s2
  refine ⟨r ++ [x], ?_⟩
  rw [partsM_snoc e1 e2, List.length_append, Nat.add_assoc]
theorem PN.of {hs : Hds} {boxes k : Int} {d : Nat} {own zs : List Int} (h0 : 0 ≤ k) (h1 : k ≤ 19) (f : OwnFit hs boxes k own) (h : PP hs boxes d (dueM hs k own).toNat zs) : PN hs boxes (d + 1) (k :: own ++ zs) := fun ns p s => by
  obtain ⟨s1, s2⟩ := Sub.append (xs := k :: own) s
  obtain ⟨nds, e⟩ := h ns _ s2
  refine ⟨.mk k p own nds, ?_⟩
  unfold nodeM
  rw [withinM_at s1.1 h0 h1]; simp only
  rw [own_fit f s1.2]; simp only
  rw [show p + 1 + own.length = p + (k :: own).length by simp; (first | lia | omega), e]
  simp only
  rw [List.length_append, Nat.add_assoc]
noncomputable def Leaf (boxes : Int) (zs : List Int) : Prop := (∃ x, zs = [1, x] ∧ 0 ≤ x ∧ x < boxes) ∨ zs = [19] ∨ ∃ n, zs = [0, n]
theorem Leaf.len {boxes : Int} {zs : List Int} (l : Leaf boxes zs) : zs.length ≤ 2 := by
  rcases l with ⟨x, rfl, _⟩ | rfl | ⟨n, rfl⟩ <;> simp
theorem Leaf.pn {hs : Hds} {boxes : Int} {zs : List Int} (l : Leaf boxes zs) (d : Nat) : PN hs boxes (d + 1) zs := by
  rcases l with ⟨x, rfl, a, b⟩ | rfl | ⟨n, rfl⟩
  · exact PN.of (own := [x]) (zs := []) (by decide) (by decide) (.inr (.inl ⟨.inl rfl, x, rfl, a, by (first | lia | omega)⟩)) PP.zero
  · exact PN.of (own := []) (zs := []) (by decide) (by decide) (.inr (.inr (.inr (.inr (.inr ⟨.inr (by decide), rfl⟩))))) PP.zero
  · exact PN.of (own := [n]) (zs := []) (by decide) (by decide) (.inl ⟨rfl, n, rfl⟩) PP.zero
structure HdsGood (hs : Hds) : Prop where
  lo : 1 ≤ hs.length
  hi : hs.length ≤ 16
  all : ∀ (i : Nat) (h : Int × Int), hs[i]? = some h → 0 ≤ h.1 ∧ h.1 ≤ 4 ∧ h.1 ≤ h.2 ∧ h.2 ≤ 12 ∧ (i = 0 → h.1 = 0)
noncomputable def flat : Hds → List Int
  | [] => []
  | h :: r => h.1 :: h.2 :: flat r
theorem flat_len : ∀ hs : Hds, (flat hs).length = 2 * hs.length
  | [] => rfl
  | h :: r => by simp [flat, flat_len r]; (first | lia | omega)
theorem flat_append : ∀ (xs ys : Hds), flat (xs ++ ys) = flat xs ++ flat ys
  | [], _ => rfl
  | h :: r, ys => by simp [flat, flat_append r ys]
theorem headsM_flat {ns : List Int} : ∀ {hs : Hds} {most : Int} {p : Nat}, (∀ (i : Nat) (h : Int × Int), hs[i]? = some h → 0 ≤ h.1 ∧ h.1 ≤ 4 ∧ h.1 ≤ h.2 ∧ h.2 ≤ 12 ∧ (i = 0 → h.1 ≤ most)) → Sub ns p (flat hs) → headsM ns hs.length most p = .ok hs
  | [], _, _, _, _ => rfl
  | h :: r, most, p, a, s => by
    obtain ⟨a0, a1, a2, a3, a4⟩ := a 0 h rfl
    unfold headsM
    show (match withinM ns p 0 most with | .error b => _ | .ok a => _) = _
    rw [withinM_at s.1 a0 (a4 rfl)]; simp only
    rw [withinM_at s.2.1 a2 a3]; simp only
    rw [headsM_flat (most := 4) (fun i x e => by have := a (i + 1) x (by simpa using e); (first | lia | omega)) s.2.2]
theorem HdsGood.heads {ns : List Int} {hs : Hds} {p : Nat} (g : HdsGood hs) (s : Sub ns p (flat hs)) : headsM ns hs.length 0 p = .ok hs := headsM_flat (fun i h e => by have := g.all i h e; (first | lia | omega)) s
noncomputable def PB (hs todo : Hds) (zs : List Int) : Prop := ∀ ns p, Sub ns p zs → ∃ nds, nds.length = todo.length ∧ bodiesM ns hs todo p = .ok (nds, p + zs.length)
theorem bodiesM_snoc {ns : List Int} {hs : Hds} : ∀ {todo : Hds} {h : Int × Int} {p q z : Nat} {r : List Nd} {a : Nd}, bodiesM ns hs todo p = .ok (r, q) → nodeM ns hs h.2 10 q = .ok (a, z) → bodiesM ns hs (todo ++ [h]) p = .ok (r ++ [a], z)
  | [], h, p, q, z, r, a, e, f => by
    cases e
    show (match nodeM ns hs h.2 10 p with | .error b => _ | .ok a => _) = _
    rw [f]; rfl
  | x :: todo, h, p, q, z, r, a, e, f => by
    unfold bodiesM at e
    show (match nodeM ns hs x.2 10 p with | .error b => _ | .ok a => _) = _
    cases e1 : nodeM ns hs x.2 10 p with
    | error b => rw [e1] at e; cases e
    | ok y =>
      rw [e1] at e; simp only at e ⊢
      cases e2 : bodiesM ns hs todo y.2 with
      | error b => rw [e2] at e; cases e
      | ok u =>
        rw [e2] at e; cases e
        have := bodiesM_snoc (show bodiesM ns hs todo y.2 = .ok (u.1, u.2) from e2) f
        show (match bodiesM ns hs (todo ++ [h]) y.2 with | .error b => _ | .ok a => _) = _
        rw [this]; rfl
theorem PB.zero {hs : Hds} : PB hs [] [] := fun ns p _ => ⟨[], rfl, rfl⟩
theorem PB.snoc {hs todo : Hds} {h : Int × Int} {xs ys : List Int} (a : PB hs todo xs) (b : PN hs h.2 10 ys) : PB hs (todo ++ [h]) (xs ++ ys) := fun ns p s => by
  obtain ⟨s1, s2⟩ := Sub.append s
  obtain ⟨r, l, e1⟩ := a ns p s1
  obtain ⟨x, e2⟩ := b ns _ s2
  refine ⟨r ++ [x], ?_, ?_⟩
  · simp [l]
  · rw [bodiesM_snoc e1 e2, List.length_append, Nat.add_assoc]
theorem sheet_of_parts {hs : Hds} {zs : List Int} (g : HdsGood hs) (b : PB hs hs zs) : ∃ nds, functionsM ((hs.length : Int) :: flat hs ++ zs) = .ok (hs, nds) := by
  have s := Sub.self ((hs.length : Int) :: flat hs ++ zs)
  obtain ⟨s1, s2⟩ := Sub.append (xs := (hs.length : Int) :: flat hs) s
  have l : 0 + ((hs.length : Int) :: flat hs).length = 1 + 2 * hs.length := by simp [flat_len]; (first | lia | omega)
  rw [l] at s2
  obtain ⟨nds, _, e⟩ := b _ _ s2
  refine ⟨nds, ?_⟩
  have g1 := g.lo
  have g2 := g.hi
  have eh : headsAllM ((hs.length : Int) :: flat hs ++ zs) = .ok hs := by
    unfold headsAllM
    rw [withinM_at s1.1 (by (first | lia | omega)) (by (first | lia | omega))]
    simp only
    rw [Int.toNat_natCast]
    exact g.heads s1.2
  unfold functionsM
  rw [eh]; simp only
  rw [e]
  exact if_neg (by simp [flat_len]; (first | lia | omega))
noncomputable def SheetOk (ns : List Int) : Prop := ns.length ≤ 100000 ∧ ∃ r, functionsM ns = .ok r
theorem HeadsAt.ne {K : PySem.W.Frag} {H : Hp} {hd st : Addr} {hs : Hds} (h : HeadsAt H hd hs) (D : Draw K H st) : hd ≠ st := fun z => by
  obtain ⟨a, ns, k, c, e, _⟩ := D
  obtain ⟨rs, e', pr⟩ := h
  rw [z, e] at e'
  cases e'
  cases pr with
  | cons _ t =>
    cases t with
    | cons h _ => obtain ⟨_, q, _⟩ := h; cases q
noncomputable def tableN : List Int := [0, 0, 0, 0, 0, 2, 0, 1, 2, 2, 2, 2, 2, 2, 2, 2, 2, 3, 1, 0]
theorem due_any {hs hs' : Hds} {k : Int} {own own' : List Int} (n3 : k ≠ 3) (n4 : k ≠ 4) (n6 : k ≠ 6) : dueM hs k own = dueM hs' k own' := by
  unfold dueM
  rw [if_neg n3, if_neg n4, if_neg n6, if_neg n3, if_neg n4, if_neg n6]
theorem tabN_all : ∀ n : Fin 20, atI (tableN.map V.int) (n.1 : Int) = some (.int (tableN.getD n.1 0)) ∧ 0 ≤ tableN.getD n.1 0 ∧ tableN.getD n.1 0 ≤ 13 ∧ (n.1 < 5 ∨ n.1 = 6 ∨ tableN.getD n.1 0 = dueM [] (n.1 : Int) []) := by decide +kernel
theorem head_table {hs : Hds} {boxes k : Int} (h0 : 0 ≤ k) (h1 : k < 20) (n3 : k ≠ 3) (n4 : k ≠ 4) (n6 : k ≠ 6) : ∃ v : Int, atI (tableN.map V.int) k = some (.int v) ∧ 0 ≤ v ∧ v ≤ 13 ∧
    (k < 3 ∧ ([] : List Int) = [] ∨ OwnFit hs boxes k [] ∧ (k < 3 → ([] : List Int) ≠ []) ∧ v = dueM hs k []) := by
  obtain ⟨n, rfl⟩ : ∃ n : Nat, k = n := ⟨k.toNat, by (first | lia | omega)⟩
  obtain ⟨e, l, m, o⟩ := tabN_all ⟨n, by (first | lia | omega)⟩
  refine ⟨_, e, l, m, ?_⟩
  by_cases c : (n : Int) < 3
  · exact .inl ⟨c, rfl⟩
  · refine .inr ⟨.inr (.inr (.inr (.inr (.inr ⟨by (first | lia | omega), rfl⟩)))), fun z => absurd z c, ?_⟩
    have o' : tableN.getD n 0 = dueM [] (n : Int) [] := o.resolve_left (by show ¬ n < 5; (first | lia | omega)) |>.resolve_left (by show ¬ n = 6; (first | lia | omega))
    exact o'.trans (due_any n3 n4 n6)
noncomputable def spTakeB (K : PySem.W.Frag) : Sp := fun vs H Q _ => ∃ (st : Addr) (many : Int), vs = [.ref st, .int many] ∧ 0 < many ∧ many < 2 ^ 256 ∧ Draw K H st ∧ ∀ (r : Int) (H' : Hp), 0 ≤ r → r < many → Drawn K st H H' → Q (.int r) H'
theorem divB {j : Int} (h0 : 0 < j) (h1 : j < 2 ^ 256) : CDivB i j := by
  refine ⟨h0, ?_⟩
  have : j.natAbs.log2 < 256 := (Nat.log2_lt (by (first | lia | omega))).mpr (by (first | lia | omega))
  (first | lia | omega)
noncomputable def spHeadsL (K : PySem.W.Frag) : Sp := fun vs H Q _ => ∃ st, vs = [.ref st] ∧ Draw K H st ∧ ∀ hd H' hs, Drawn K st H H' → HeadsAt H' hd hs → HdsGood hs → Q (.ref hd) H'
noncomputable def spNumber (K : PySem.W.Frag) : Sp := fun vs H Q _ => ∃ st, vs = [.ref st] ∧ Draw K H st ∧ ∀ (n : Int) H', Drawn K st H H' → Q (.int n) H'
noncomputable def spLeaf (K : PySem.W.Frag) : Sp := fun vs H Q _ => ∃ st boxes, vs = [.ref st, .int boxes] ∧ boxes ≤ 12 ∧ Draw K H st ∧ ∀ l zs H', Drawn K st H H' → H l = none → H' l = some (.lst (zs.map V.int)) → Leaf boxes zs → Q (.ref l) H'
noncomputable def spHead (K : PySem.W.Frag) : Sp := fun vs H Q _ => ∃ st hd hs boxes, vs = [.ref st, .ref hd, .int boxes] ∧ boxes ≤ 12 ∧ Draw K H st ∧ HeadsAt H hd hs ∧ HdsGood hs ∧
  ∀ t l k own many H', Drawn K st H H' → H l = none → H' t = some (.tup [.ref l, .int many]) → H' l = some (.lst (((k :: own : List Int)).map V.int)) → own.length ≤ 1 → 0 ≤ k → k ≤ 19 → (k < 3 ∧ own = [] ∨ OwnFit hs boxes k own ∧ (k < 3 → own ≠ []) ∧ many = dueM hs k own) → 0 ≤ many → many ≤ 13 → Q (.ref t) H'
theorem Drawn.free {K : PySem.W.Frag} {st p : Addr} {H H' : Hp} (d : Drawn K st H H') (h : H' p = none) : H p = none := by
  cases e : H p with
  | none => rfl
  | some o =>
    by_cases z : p = st
    · obtain ⟨a, ns, k, c, e', _⟩ := d.draw
      rw [z, e'] at h; cases h
    · rw [d.keep p o z e] at h; cases h
noncomputable def Keep2 (st rm : Addr) (H H' : Hp) : Prop := ∀ b o, b ≠ st → b ≠ rm → H b = some o → H' b = some o
theorem Keep2.trans {st rm : Addr} {H H1 H2 : Hp} (a : Keep2 st rm H H1) (b : Keep2 st rm H1 H2) : Keep2 st rm H H2 := fun c o n m e => b c o n m (a c o n m e)
theorem Keep2.one {st rm : Addr} {H H1 : Hp} (a : Keep st H H1) : Keep2 st rm H H1 := fun c o n _ e => a c o n e
theorem Keep2.two {st rm : Addr} {H : Hp} {o : HO} : Keep2 st rm H (L2.upd H rm o) := fun c u _ m e => by rw [upd_ne m]; exact e
theorem Keep2.same {st rm : Addr} {H H1 : Hp} (a : Same H H1) : Keep2 st rm H H1 := fun c o _ _ e => a c o e
theorem Keep2.free {st rm p : Addr} {H H' : Hp} {o1 o2 : HO} (k : Keep2 st rm H H') (h1 : H' st = some o1) (h2 : H' rm = some o2) (h : H' p = none) : H p = none := by
  cases e : H p with
  | none => rfl
  | some o =>
    by_cases z : p = st
    · rw [z, h1] at h; cases h
    · by_cases z2 : p = rm
      · rw [z2, h2] at h; cases h
      · rw [k p o z z2 e] at h; cases h
theorem HeadsAt.keep2 {st rm hd : Addr} {xs ys : List V} {H H' : Hp} {hs : Hds} (n1 : hd ≠ st) (n2 : hd ≠ rm) (e1 : H st = some (.lst xs)) (e2 : H rm = some (.lst ys)) (k : Keep2 st rm H H') (h : HeadsAt H hd hs) : HeadsAt H' hd hs := by
  obtain ⟨rs, q, r⟩ := h
  refine ⟨rs, k hd _ n1 n2 q, Paired.imp (fun _ _ z => z.tups fun b zs e => k b _ ?_ ?_ e) r⟩
  · intro z; rw [z, e1] at e; cases e
  · intro z; rw [z, e2] at e; cases e
noncomputable def spNodeL (K : PySem.W.Frag) (d : Nat) : Sp := fun vs H Q _ => ∃ st hd hs boxes rm r, vs = [.ref st, .ref hd, .int boxes, .int (11 - (d : Int)), .ref rm] ∧ 1 ≤ d ∧ d ≤ 10 ∧ boxes ≤ 12 ∧ Draw K H st ∧ HeadsAt H hd hs ∧ HdsGood hs ∧ H rm = some (.lst [.int (r : Nat)]) ∧ r ≤ 1000 ∧ rm ≠ hd ∧
  ∀ l zs (r' : Nat) H', Keep2 st rm H H' → Draw K H' st → H' rm = some (.lst [.int r']) → r' ≤ r → zs.length + 2 * r' ≤ 2 + 2 * r → H' l = some (.lst (zs.map V.int)) → H l = none → PN hs boxes d zs → Q (.ref l) H'
noncomputable def spSheet (K : PySem.W.Frag) : Sp := fun vs H Q _ => ∃ st most, vs = [.ref st, .int most] ∧ 0 < most ∧ most ≤ 1000 ∧ Draw K H st ∧ ∀ l ns H', Drawn K st H H' → H' l = some (.lst (ns.map V.int)) → SheetOk ns → Q (.ref l) H'
noncomputable def CW (n : Nat) (Pv : Nat → St → Hp → Prop) (i m : Nat) (σ : St) (H : Hp) : Prop := i ≤ n ∧ m = n - i ∧ Pv i σ H
theorem CW.next {n : Nat} {Pv : Nat → St → Hp → Prop} {i : Nat} {σ : St} {H : Hp} (hi : i < n) (h : Pv (i + 1) σ H) : ∃ m', m' < n - i ∧ CW n Pv (i + 1) m' σ H := ⟨n - (i + 1), by (first | lia | omega), by (first | lia | omega), rfl, h⟩
theorem comp_tup {K : PySem.W.Frag} {a p : Addr} {xs : List V} {g : TG} {tt : TT} {te : TE} {R : Hp → Prop} {σ0 : St} {H0 : Hp} (Pv : Nat → St → Hp → Prop) (h0 : Pv 0 σ0 H0) (hl : ∀ i σ H, i ≤ xs.length → Pv i σ H → SqT K H a xs)
    (hs : ∀ i x σ H, i < xs.length → xs[i]? = some x → Pv i σ H → g x σ H fun σ3 H3 => tt σ3 H3 fun b H4 =>
      if b = true then te σ3 H4 fun v H5 => ∃ ys, H5 p = some (.lst ys) ∧ ys.length < sizeLine ∧ ∃ m', m' < xs.length - i ∧ CW xs.length Pv (i + 1) m' σ3 (upd H5 p (.lst (ys ++ [v])))
      else ∃ m', m' < xs.length - i ∧ CW xs.length Pv (i + 1) m' σ3 H4)
    (hd : ∀ σ H, Pv xs.length σ H → R H) : CompGo (Itt K a) p σ0 H0 g tt te R := by
  refine ⟨CW xs.length Pv, ⟨_, Nat.zero_le _, rfl, h0⟩, fun i m σ' H' w => ?_⟩
  obtain ⟨hi, rfl, hp⟩ := w
  have q := hl i σ' H' hi hp
  by_cases hlt : i < xs.length
  · refine .inr ⟨⟨xs, xs[i], q, by simp [hlt]⟩, fun x H2 y => ?_⟩
    obtain ⟨e, y⟩ := y
    subst e
    exact hs i x σ' _ hlt (y xs q) hp
  · have e : i = xs.length := by (first | lia | omega)
    subst e
    exact .inl ⟨⟨xs, q, Nat.le_refl _⟩, hd σ' H' hp⟩
theorem comp_lst {K : PySem.W.Frag} {a p : Addr} {xs : List V} {g : TG} {tt : TT} {te : TE} {R : Hp → Prop} {σ0 : St} {H0 : Hp} (Pv : Nat → St → Hp → Prop) (h0 : Pv 0 σ0 H0) (hl : ∀ i σ H, i ≤ xs.length → Pv i σ H → SqL K H a xs)
    (hs : ∀ i x σ H, i < xs.length → xs[i]? = some x → Pv i σ H → g x σ H fun σ3 H3 => tt σ3 H3 fun b H4 =>
      if b = true then te σ3 H4 fun v H5 => ∃ ys, H5 p = some (.lst ys) ∧ ys.length < sizeLine ∧ ∃ m', m' < xs.length - i ∧ CW xs.length Pv (i + 1) m' σ3 (upd H5 p (.lst (ys ++ [v])))
      else ∃ m', m' < xs.length - i ∧ CW xs.length Pv (i + 1) m' σ3 H4)
    (hd : ∀ σ H, Pv xs.length σ H → R H) : CompGo (Itl K a) p σ0 H0 g tt te R := by
  refine ⟨CW xs.length Pv, ⟨_, Nat.zero_le _, rfl, h0⟩, fun i m σ' H' w => ?_⟩
  obtain ⟨hi, rfl, hp⟩ := w
  have q := hl i σ' H' hi hp
  by_cases hlt : i < xs.length
  · refine .inr ⟨⟨xs, xs[i], q, by simp [hlt]⟩, fun x H2 y => ?_⟩
    obtain ⟨e, y⟩ := y
    subst e
    exact hs i x σ' _ hlt (y xs q) hp
  · have e : i = xs.length := by (first | lia | omega)
    subst e
    exact .inl ⟨⟨xs, q, Nat.le_refl _⟩, hd σ' H' hp⟩
theorem takeM_ok {ns : List Int} {p : Nat} {n : Int} (h : takeM ns p = .ok n) : ns[p]? = some n := by
  unfold takeM at h
  cases e : ns[p]? with
  | none => rw [e] at h; cases h
  | some m => rw [e] at h; cases h; rfl
theorem own_at {ns : List Int} {hs : Hds} {boxes k : Int} {p : Nat} {own : List Int} (h0 : 0 ≤ k) (h : ownM ns hs boxes k p = .ok own) :
    ((k < 5 ∨ k = 6) ∧ ∃ n, own = [n] ∧ ns[p]? = some n) ∨ (¬ (k < 5 ∨ k = 6) ∧ own = []) := by
  unfold ownM at h
  by_cases c0 : k = 0
  · rw [if_pos c0] at h; obtain ⟨n, e, rfl⟩ := oneM_ok h; exact .inl ⟨by (first | lia | omega), n, rfl, takeM_ok e⟩
  rw [if_neg c0] at h
  by_cases c1 : k = 1 ∨ k = 2
  · rw [if_pos c1] at h; obtain ⟨n, e, rfl⟩ := oneM_ok h; exact .inl ⟨by (first | lia | omega), n, rfl, (withinM_ok e).1⟩
  rw [if_neg c1] at h
  by_cases c3 : k = 3
  · rw [if_pos c3] at h; obtain ⟨n, e, rfl⟩ := oneM_ok h; exact .inl ⟨by (first | lia | omega), n, rfl, (withinM_ok e).1⟩
  rw [if_neg c3] at h
  by_cases c4 : k = 4
  · rw [if_pos c4] at h; obtain ⟨n, e, rfl⟩ := oneM_ok h; exact .inl ⟨by (first | lia | omega), n, rfl, (withinM_ok e).1⟩
  rw [if_neg c4] at h
  by_cases c6 : k = 6
  · rw [if_pos c6] at h; obtain ⟨n, e, rfl⟩ := oneM_ok h; exact .inl ⟨by (first | lia | omega), n, rfl, (withinM_ok e).1⟩
  rw [if_neg c6] at h
  cases h
  exact .inr ⟨by (first | lia | omega), rfl⟩
theorem headsM_at {ns : List Int} : ∀ {n : Nat} {most : Int} {p : Nat} {hs : Hds}, headsM ns n most p = .ok hs → ∀ (i : Nat) (h : Int × Int), hs[i]? = some h → ns[p + 2 * i]? = some h.1 ∧ ns[p + 2 * i + 1]? = some h.2
  | 0, _, _, _, e, i, h, q => by cases e; simp at q
  | n + 1, most, p, hs, e, i, h, q => by
    unfold headsM at e
    cases e1 : withinM ns p 0 most with
    | error b => rw [e1] at e; cases e
    | ok a =>
      rw [e1] at e; simp only at e
      cases e2 : withinM ns (p + 1) a 12 with
      | error b => rw [e2] at e; cases e
      | ok c =>
        rw [e2] at e; simp only at e
        cases e3 : headsM ns n 4 (p + 2) with
        | error b => rw [e3] at e; cases e
        | ok r =>
          rw [e3] at e; cases e
          cases i with
          | zero => cases q; exact ⟨(withinM_ok e1).1, (withinM_ok e2).1⟩
          | succ i =>
            have := headsM_at e3 i h (by simpa using q)
            rw [show p + 2 * (i + 1) = p + 2 + 2 * i by (first | lia | omega)]
            exact this
theorem node_ok {ns : List Int} {hs : Hds} {boxes : Int} {d p z : Nat} {nd : Nd} (h : nodeM ns hs boxes (d + 1) p = .ok (nd, z)) :
    ∃ k own ps, nd = .mk k p own ps ∧ 0 ≤ k ∧ k ≤ 19 ∧ ns[p]? = some k ∧ ownM ns hs boxes k (p + 1) = .ok own ∧ partsM (nodeM ns hs boxes d) (dueM hs k own).toNat (p + 1 + own.length) = .ok (ps, z) := by
  unfold nodeM at h
  cases e1 : withinM ns p 0 19 with
  | error b => rw [e1] at h; cases h
  | ok k =>
    rw [e1] at h; simp only at h
    cases e2 : ownM ns hs boxes k (p + 1) with
    | error b => rw [e2] at h; cases h
    | ok own =>
      rw [e2] at h; simp only at h
      cases e3 : partsM (nodeM ns hs boxes d) (dueM hs k own).toNat (p + 1 + own.length) with
      | error b => rw [e3] at h; cases h
      | ok r =>
        rw [e3] at h; cases h
        obtain ⟨a, b, c⟩ := withinM_ok e1
        exact ⟨k, own, r.1, rfl, b, c, a, e2, e3⟩
theorem parts_ok {f : Nat → Except Bad (Nd × Nat)} : ∀ {n p z : Nat} {ps : List Nd}, partsM f n p = .ok (ps, z) → ps.length = n
  | 0, _, _, _, h => by cases h; rfl
  | n + 1, p, z, ps, h => by
    unfold partsM at h
    cases e1 : f p with
    | error b => rw [e1] at h; cases h
    | ok a =>
      rw [e1] at h; simp only at h
      cases e2 : partsM f n a.2 with
      | error b => rw [e2] at h; cases h
      | ok r => rw [e2] at h; cases h; simp [parts_ok (show partsM f n a.2 = .ok (r.1, r.2) from e2)]
theorem parts_cons {f : Nat → Except Bad (Nd × Nat)} {n p z : Nat} {a : Nd} {ps : List Nd} (h : partsM f (n + 1) p = .ok (a :: ps, z)) : ∃ q, f p = .ok (a, q) ∧ partsM f n q = .ok (ps, z) := by
  unfold partsM at h
  cases e1 : f p with
  | error b => rw [e1] at h; cases h
  | ok a =>
    rw [e1] at h; simp only at h
    cases e2 : partsM f n a.2 with
    | error b => rw [e2] at h; cases h
    | ok r => rw [e2] at h; cases h; exact ⟨a.2, rfl, e2⟩
theorem parts_nil {f : Nat → Except Bad (Nd × Nat)} {n p z : Nat} (h : partsM f n p = .ok ([], z)) : n = 0 ∧ z = p := by
  cases n with
  | zero => cases h; exact ⟨rfl, rfl⟩
  | succ n => have := parts_ok h; simp at this
theorem at_lt {ns : List Int} {p : Nat} {n : Int} (h : ns[p]? = some n) : p < ns.length := (List.getElem?_eq_some_iff.mp h).1
theorem parts_le {f : Nat → Except Bad (Nd × Nat)} {L : Nat} (hf : ∀ p nd z, f p = .ok (nd, z) → p < z ∧ z ≤ L) : ∀ {n p z : Nat} {ps : List Nd}, p ≤ L → partsM f n p = .ok (ps, z) → p ≤ z ∧ z ≤ L
  | 0, _, _, _, hp, h => by cases h; exact ⟨Nat.le_refl _, hp⟩
  | n + 1, p, z, ps, hp, h => by
    cases ps with
    | nil => exact absurd (parts_nil h).1 (by (first | lia | omega))
    | cons a ps =>
      obtain ⟨q, e1, e2⟩ := parts_cons h
      have := hf _ _ _ e1
      have := parts_le hf (by (first | lia | omega)) e2
      (first | lia | omega)
theorem node_le {ns : List Int} {hs : Hds} {boxes : Int} : ∀ {d p z : Nat} {nd : Nd}, nodeM ns hs boxes d p = .ok (nd, z) → p < z ∧ z ≤ ns.length
  | 0, _, _, _, h => by cases h
  | d + 1, p, z, nd, h => by
    obtain ⟨k, own, ps, rfl, k0, k1, ek, eo, ep⟩ := node_ok h
    have h1 := at_lt ek
    have h2 : p + 1 + own.length ≤ ns.length := by
      rcases own_at k0 eo with ⟨_, n, rfl, en⟩ | ⟨_, rfl⟩
      · have := at_lt en; simp; (first | lia | omega)
      · simp; (first | lia | omega)
    have := parts_le (fun p nd z e => node_le (d := d) e) h2 ep
    (first | lia | omega)
theorem bodies_le {ns : List Int} {hs : Hds} : ∀ {todo : Hds} {p z : Nat} {nds : List Nd}, p ≤ ns.length → bodiesM ns hs todo p = .ok (nds, z) → z ≤ ns.length ∧ nds.length = todo.length
  | [], _, _, _, hp, h => by cases h; exact ⟨hp, rfl⟩
  | x :: todo, p, z, nds, hp, h => by
    unfold bodiesM at h
    cases e1 : nodeM ns hs x.2 10 p with
    | error b => rw [e1] at h; cases h
    | ok y =>
      rw [e1] at h; simp only at h
      cases e2 : bodiesM ns hs todo y.2 with
      | error b => rw [e2] at h; cases h
      | ok u =>
        rw [e2] at h; cases h
        have := bodies_le (node_le (show nodeM ns hs x.2 10 p = .ok (y.1, y.2) from e1)).2 (show bodiesM ns hs todo y.2 = .ok (u.1, u.2) from e2)
        exact ⟨this.1, by simp [this.2]⟩
theorem heads_le {ns : List Int} {hs : Hds} (h : headsAllM ns = .ok hs) : 1 + 2 * hs.length ≤ ns.length := by
  obtain ⟨_, _, l1, _, e⟩ := headsAllM_ok h
  have q : hs[hs.length - 1]? = some hs[hs.length - 1] := List.getElem?_eq_getElem (by (first | lia | omega))
  have := at_lt (headsM_at e _ _ q).2
  (first | lia | omega)
theorem fns_ok {ns : List Int} {r : Hds × List Nd} (h : functionsM ns = .ok r) : headsAllM ns = .ok r.1 ∧ bodiesM ns r.1 r.1 (1 + 2 * r.1.length) = .ok (r.2, ns.length) ∧ r.2.length = r.1.length := by
  unfold functionsM at h
  cases e1 : headsAllM ns with
  | error b => rw [e1] at h; cases h
  | ok hs =>
    rw [e1] at h; simp only at h
    cases e2 : bodiesM ns hs hs (1 + 2 * hs.length) with
    | error b => rw [e2] at h; cases h
    | ok z =>
      rw [e2] at h; simp only at h
      have le := bodies_le (heads_le e1) (show bodiesM ns hs hs (1 + 2 * hs.length) = .ok (z.1, z.2) from e2)
      by_cases c : z.2 < ns.length
      · rw [if_pos c] at h; cases h
      · rw [if_neg c] at h
        cases h
        refine ⟨rfl, ?_, le.2⟩
        show bodiesM ns hs hs (1 + 2 * hs.length) = _
        have : ns.length = z.2 := by (first | lia | omega)
        rw [e2, this]
noncomputable def tableM : List Int := [0, 0, 1, 0, 0, 2, 0, 1, 2, 2, 2, 2, 2, 2, 2, 2, 2, 3, 1, 0]
theorem atI_ns {ns : List Int} {p : Nat} {n : Int} (h : ns[p]? = some n) : atI (ns.map V.int) (p : Int) = some (.int n) := atI_nat (by rw [List.getElem?_map, h]; rfl)
theorem bodies_cons {ns : List Int} {hs todo : Hds} {h : Int × Int} {p z : Nat} {nds : List Nd} (e : bodiesM ns hs (h :: todo) p = .ok (nds, z)) : ∃ nd r q, nds = nd :: r ∧ nodeM ns hs h.2 10 p = .ok (nd, q) ∧ bodiesM ns hs todo q = .ok (r, z) := by
  unfold bodiesM at e
  cases e1 : nodeM ns hs h.2 10 p with
  | error b => rw [e1] at e; cases e
  | ok y =>
    rw [e1] at e; simp only at e
    cases e2 : bodiesM ns hs todo y.2 with
    | error b => rw [e2] at e; cases e
    | ok u => rw [e2] at e; cases e; exact ⟨y.1, u.1, y.2, rfl, rfl, e2⟩
end L2

set_option Elab.async false
set_option linter.all false
set_option maxRecDepth 100000
namespace L2
open PySem PySem.Spec PyProof.Rows PySem.W
theorem ns_ok {K : Frag} {N : Addr} {c : Value} {d : Option Addr} {es : Array DictEntry} {n : Nat} {sl : Array (Option Value)} (h : K.lookup N = some ⟨c, d, .dict es n, sl⟩) (q : (es.toList.all fun e => match e.key with | .str _ _ => true | _ => false) = true) : nsOkIn K N = true := by
  unfold nsOkIn
  rw [h]
  rw [Array.all_toList] at q
  exact q
theorem exc_tail {K : Frag} {CE nsC : Addr} {c : Value} {dd : Option Addr} {cd : ClassData} {sl : Array (Option Value)} (h : K.lookup CE = some ⟨c, dd, .cls cd, sl⟩) (hn : cd.ns = nsC) (ok : nsOkIn K nsC = true) (ni : nsIn K nsC "__init__" = some none) (h' : Heap) (X : K.In h') : OwnTail h' bmValue (.ref CE :: bmValue) := by
  subst hn
  exact .own (X _ _ h) (.of_isNs (isNs_of_in X ok)) (nsMap_none_of_in X ok ni) .base
theorem exc_cd {K : Frag} {C CE N : Addr} {nm q : Str} {bs : List Value} {sn : List Str} {sub : List Value} {ab : Bool} {col : Option Bool} {dd : Option Addr} {k0 k1 k2 k3 k5 : Option Value} {newId : String} (h : K.lookup C = some (excClassObj nm q C N bs (.ref CE :: bmValue) true sn sub ab col dd k0 k1 k2 k3 k5 newId)) :
    ∃ cd, clsIn K C = some cd ∧ cd.hasDict = true ∧ ∀ self, refuseLoop self "__setattr__" cd.mro = pure () := by
  refine ⟨_, by unfold clsIn; rw [h], rfl, fun self => ?_⟩
  show refuseLoop self "__setattr__" (.ref C :: .ref CE :: bmValue) = _
  rw [refuseLoop_ref, refuseLoop_ref]
  exact F.store_ValueError.passes self
theorem fn_false {P : Program} {w : World} {K : Frag} {mg : Str → Option Value} {base : Heap} {CX : CXT} {k : Nat} {f : Addr} {fd : FuncData} {ps : List Str} : FnOk P w K mg base CX k f fd ps (fun _ _ _ _ => False) :=
  ⟨fun _ _ _ _ z => z.elim, fun _ _ _ _ _ _ _ _ _ _ _ _ _ z => z.elim⟩
theorem cxOf_K {CX : CXT} {P : Program} {w : World} {K : PySem.W.Frag} {mg : Str → Option Value} {base : Heap} {N : List Str} {qual : Str} {scope : Scope} {f : Addr} {cd : Value} {A : Around} {outer : List Env} {s : Shared} {H : Hp} {E : XK} :
    (cxOf CX P w K mg base N qual scope f cd A outer s H E).K = K := rfl
noncomputable def sAt (l : List Stmt) (k : Nat) : Stmt := l.getD k (.Pass ⟨0, 0, 0, 0⟩)
noncomputable def inBody : Stmt → List Stmt
  | .For _ _ b _ _ => b
  | .While _ b _ _ => b
  | .If _ b _ _ => b
  | _ => []
noncomputable def inElse : Stmt → List Stmt
  | .If _ _ e _ => e
  | _ => []
end L2

set_option Elab.async false
set_option linter.all false
set_option maxRecDepth 100000
namespace L2
open PySem PySem.Spec PyProof.Rows
namespace Rv
theorem owner : Manifest.owners.lookup (String.ofList ['d', 'e', 's', 'r', 'e', 'v', 'e', 'r'].reverse) = some Manifest.sig_reversed := by kernel_rfl
theorem slot_next : Slot "reversed" "__next__" "reversed.__next__" :=
  .of (owner := "reversed") (n := "__next__") (by rw [typeLookup_type, builtinLookup_eq_fast]; kernel_rfl) (by decide +kernel) (by decide +kernel) (by decide +kernel)
    (by first | exact .inl (by decide +kernel) | exact .inr (by decide +kernel)) (by rw [isSubtype_type]; kernel_rfl)
theorem entry_next : entryFor table "reversed.__next__" = some Builtin.«reversed.__next__» := entryFor_of_tree (by kernel_rfl)
theorem args_next (a : Value) : argsOk "reversed.__next__" ⟨[a], []⟩ := by
  unfold argsOk; rw [signature?_of (id := "reversed.__next__") (n := ['_', '_', 't', 'x', 'e', 'n', '_', '_']) (o := ['d', 'e', 's', 'r', 'e', 'v', 'e', 'r']) (by kernel_rfl) owner]; kernel_rfl
theorem slot_iter : Slot "reversed" "__iter__" "reversed.__iter__" :=
  .of (owner := "reversed") (n := "__iter__") (by rw [typeLookup_type, builtinLookup_eq_fast]; kernel_rfl) (by decide +kernel) (by decide +kernel) (by decide +kernel)
    (by first | exact .inl (by decide +kernel) | exact .inr (by decide +kernel)) (by rw [isSubtype_type]; kernel_rfl)
theorem args_iter (a : Value) : argsOk "reversed.__iter__" ⟨[a], []⟩ := by
  unfold argsOk; rw [signature?_of (id := "reversed.__iter__") (n := ['_', '_', 'r', 'e', 't', 'i', '_', '_']) (o := ['d', 'e', 's', 'r', 'e', 'v', 'e', 'r']) (by kernel_rfl) owner]; kernel_rfl
theorem entry_iter : entryFor table "reversed.__iter__" = some Builtin.«dict_keyiterator.__iter__» :=
  entryFor_alias (id' := "dict_keyiterator.__iter__") (by kernel_rfl) (by first | rfl | decide +kernel | (unfold String.splitOn; simp +decide [String.splitOnAux])) (by decide +kernel) (by kernel_rfl)
theorem slot_init : Slot "reversed" "__init__" "object.__init__" :=
  .of (owner := "object") (n := "__init__") (by rw [typeLookup_type, builtinLookup_eq_fast]; kernel_rfl) (by decide +kernel) (by decide +kernel) (by decide +kernel)
    (by first | exact .inl (by decide +kernel) | exact .inr (by decide +kernel)) (by rw [isSubtype_type]; kernel_rfl)
theorem called : TypeCalled "reversed" "reversed.__new__" "object.__init__" :=
  ⟨by decide +kernel, by decide +kernel, ⟨_, _, F.mro_reversed⟩, F.made_reversed, by decide +kernel, by rw [isSubtype_type]; kernel_rfl, slot_init⟩
theorem tuple_no_rev : typeLookup (.type "tuple") "__reversed__" = pure none := by rw [typeLookup_type, builtinLookup_eq_fast]; kernel_rfl
theorem tuple_no_dict : isSubtype (.type "tuple") (.type "dict") = pure false := by rw [isSubtype_type]; kernel_rfl
end Rv
end L2

set_option Elab.async false
set_option linter.all false
set_option maxRecDepth 100000
namespace L2
open PySem PySem.Spec PyProof.Rows
section
variable {prog : Program} {w : World} {A : Around} {E : Value → Shared → Prop} {s : Shared}
noncomputable def revT (l : Addr) (i : Int) : Obj := { cls := .type "reversed", data := .fields #[.ref l, rawInt i] }
noncomputable def IsRevT (h : Heap) (a l : Addr) (i : Int) : Prop := ∃ o, h.get? a = some o ∧ o.cls = .type "reversed" ∧ o.data = .fields #[.ref l, rawInt i]
theorem IsRevT.typeIs {a l : Addr} {i : Int} (x : IsRevT s.heap a l i) : s.TypeIs (.ref a) "reversed" := let ⟨o, ho, hc, _⟩ := x; ⟨o, ho, hc⟩
theorem IsRevT.at {h h' : Heap} {a l : Addr} {i : Int} (x : IsRevT h a l i) (e : ∀ o, h.get? a = some o → h'.get? a = some o) : IsRevT h' a l i := let ⟨o, ho, r⟩ := x; ⟨o, e _ ho, r⟩
theorem code_revT {l : Addr} {items : Array Value} {Q₁ : Value → Shared → Prop} (hl : s.heap.IsTuple l items) (hfit : (items.size : Int) < 2 ^ 63)
    (h : ∀ tk, Q₁ (.ref s.heap.objs.size) { s with heap := s.heap.push (revT l ((items.size : Int) - 1)), toks := tk }) :
    codeAny (model prog w) A (.call (.builtin "reversed.__new__") ⟨[.type "reversed", .ref l], []⟩) (wants Q₁ E) s := by
  have hT : s.TypeIs (.ref l) "tuple" := by obtain ⟨o, ho, hc, _⟩ := hl; exact ⟨o, ho, hc⟩
  refine codeAny_of_tree ?_
  show wpAny _ A.in1 (do checkBuiltinCall "reversed.__new__" ⟨[.type "reversed", .ref l], []⟩; again (.builtin "reversed.__new__" ⟨[.type "reversed", .ref l], []⟩)) _ _ s
  refine wpAny_bind (wpAny_of_eq (F.newCall_reversed_1 _) (wpAny_pure ⟨plainId_quiet F.plain_reversed_new _, codeAny_builtin F.entry_reversed_new ?_⟩))
  rw [Around.under_plainId F.plain_reversed_new _]
  unfold Builtin.«reversed.__new__»
  refine wpAny_bind (wpAny_of_eq (newClass_reversed _) ?_)
  try dsimp only
  refine wpAny_bind (wpAny_of_eq (a := ()) (by first | rfl | kernel_rfl) ?_)
  refine wpAny_bind (wpAny_of_eq (a := ()) (by first | rfl | kernel_rfl) ?_)
  try dsimp only
  refine wpAny_bind (wpAny_specialOf hT Rv.tuple_no_rev ?_)
  try dsimp only
  refine wpAny_bind ?_
  show wpAny _ _ (isInstance (.ref l) (.type "dict") >>= _) _ _ s
  refine wpAny_bind (wpAny_isInstance hT Rv.tuple_no_dict ?_)
  try dsimp only
  show wpAny _ _ (specialOf (.ref l) "__getitem__" >>= _) _ _ s
  refine wpAny_bind (wpAny_specialOf hT F.slot_tuple_getitem.lookup ?_)
  try dsimp only
  show wpAny _ _ (if (["tuple.__getitem__", "str.__getitem__", "bytes.__getitem__", "bytearray.__getitem__", "memoryview.__getitem__", "numpy.ndarray.__getitem__", "sqlite3.Row.__getitem__"].contains "tuple.__getitem__") = true then _ else _) _ _ s
  rw [if_pos (by decide)]
  refine wpAny_pure ?_
  try dsimp only
  rw [if_neg (show ¬ ((!true) = true) from Bool.false_ne_true)]
  refine wpAny_bind (len_tuple hl hfit ?_)
  refine wpAny_bind (wpAny_of_eq (a := some (items.size : Int)) rfl ?_)
  try dsimp only
  refine wpAny_bind ?_
  show wpAny _ _ (newObj (.type "reversed") (.fields #[.ref l, rawInt ((items.size : Int) - 1)])) _ _ _
  refine wpAny_newObj_type ?_ (by size_fits)
  exact wpAny_pure (h _)
theorem call_revT {l : Addr} {items : Array Value} {Q : Value → Shared → Prop} (hl : s.heap.IsTuple l items) (hfit : (items.size : Int) < 2 ^ 63)
    (h : ∀ tk, Q (.ref s.heap.objs.size) { s with heap := s.heap.push (revT l ((items.size : Int) - 1)), toks := tk }) : wpAny (model prog w) A (call (.type "reversed") [.ref l]) Q E s := by
  refine callType_codes (Q₁ := fun obj s₁ => obj = .ref s.heap.objs.size ∧ ∃ tk, s₁ = { s with heap := s.heap.push (revT l ((items.size : Int) - 1)), toks := tk }) Rv.called (F.typeCall_reversed_1 _) F.entry_object_init (code_revT hl hfit fun tk => ⟨rfl, tk, rfl⟩) ?_
  rintro obj s₁ ⟨rfl, tk, rfl⟩
  have hT : Shared.TypeIs { s with heap := s.heap.push (revT l ((items.size : Int) - 1)), toks := tk } (.ref s.heap.objs.size) "reversed" := ⟨_, Heap.get?_push_size _ rfl, rfl⟩
  exact ⟨hT, F.args_object_init_2 _ _, object_init_meets Rv.called.init.lookup Rv.called.made (by decide) prog w A.in1 _ _ ⟨hT, rfl, h tk⟩⟩
theorem next_revT_item {it l : Addr} {i : Nat} {items : Array Value} {x : Value} {Q : Option Value → Shared → Prop} (hit : IsRevT s.heap it l (i : Int)) (hl : s.heap.IsTuple l items) (hx : items[i]? = some x) (hfit : (items.size : Int) < 2 ^ 63)
    (hQ : ∀ h' tk, IsRevT h' it l ((i : Int) - 1) → Heap.SameBut it s.heap h' → Q (some x) { s with heap := h', toks := tk }) : wpAny (model prog w) A (pyNext (.ref it)) Q E s := by
  obtain ⟨o, ho, hc, hd⟩ := id hit
  have hT : s.TypeIs (.ref l) "tuple" := by obtain ⟨o, ho, hc, _⟩ := hl; exact ⟨o, ho, hc⟩
  have hi : i < items.size := (Array.getElem?_eq_some_iff.mp hx).1
  unfold pyNext
  refine wpAny_bind (wpAny_attempt (wpAny_callSpecial?_slot (name := Str.ofString "__next__") hit.typeIs Rv.slot_next
    (wpAny_call_entry Rv.slot_next hit.typeIs Rv.entry_next ?_ (Rv.args_next _))))
  unfold Builtin.«reversed.__next__»
  refine wpAny_bind (wpAny_of_eq (a := (Value.ref it, [])) rfl ?_)
  try dsimp only
  refine wpAny_bind (wpAny_field ho hd (x := .ref l) rfl ?_)
  refine wpAny_bind (wpAny_field ho hd (x := rawInt (i : Int)) rfl ?_)
  show wpAny _ _ (if (i : Int) < 0 then _ else _) _ _ s
  rw [if_neg (by (first | lia | omega))]
  show wpAny _ _ (specialOf (.ref l) "__getitem__" >>= _) _ _ s
  refine wpAny_bind (wpAny_specialOf hT F.slot_tuple_getitem.lookup ?_)
  try dsimp only
  rw [if_neg (show ¬ ((some (Value.builtin "tuple.__getitem__")).isNone = true) from Bool.false_ne_true)]
  refine wpAny_bind (wpAny_mkInt ?_)
  refine wpAny_bind (wpAny_attempt (getItem_tuple (j := i) hl (by (first | lia | omega)) (by (first | lia | omega)) ?_ hx ?_))
  · unfold seqIndex?
    have e : ¬ ((i : Int) < 0) := by (first | lia | omega)
    simp only [if_neg e]
    simp [hi]
  try dsimp only
  refine wpAny_bind (wpAny_field ho hd (x := rawInt (i : Int)) rfl ?_)
  show wpAny _ _ (setField (.ref it) 1 (rawInt ((i : Int) - 1)) >>= _) _ _ _
  refine wpAny_bind (wpAny_setField ho hd (by simp) (wpAny_pure ⟨x, rfl, wpAny_pure (hQ _ _ ?_ (Heap.SameBut.update ..))⟩))
  exact ⟨_, Heap.get?_update_self _ ho (Obj.isFreed_of_fields (Obj.data_mapFields hd _)), (Obj.cls_mapFields ..).trans hc, by
    rw [Obj.data_mapFields hd]; simp⟩
theorem next_revT_end {it l : Addr} {Q : Option Value → Shared → Prop} (hh : A.handled = none) (hit : IsRevT s.heap it l (-1))
    (hQ : ∀ h', Heap.ExtBut it s.heap h' → Q none { s with heap := h' }) : wpAny (model prog w) A (pyNext (.ref it)) Q E s := by
  obtain ⟨o, ho, hc, hd⟩ := id hit
  unfold pyNext
  refine wpAny_bind (wpAny_attempt (wpAny_callSpecial?_slot (name := Str.ofString "__next__") hit.typeIs Rv.slot_next
    (wpAny_call_entry Rv.slot_next hit.typeIs Rv.entry_next ?_ (Rv.args_next _))))
  unfold Builtin.«reversed.__next__»
  refine wpAny_bind (wpAny_of_eq (a := (Value.ref it, [])) rfl ?_)
  try dsimp only
  refine wpAny_bind (wpAny_field ho hd (x := .ref l) rfl ?_)
  refine wpAny_bind (wpAny_field ho hd (x := rawInt (-1)) rfl ?_)
  show wpAny _ _ (if (-1 : Int) < 0 then _ else _) _ _ s
  rw [if_pos (by decide)]
  refine wpAny_bind (wpAny_rule ?_)
  refine wpAny_bind ?_
  show wpAny _ _ (setField (.ref it) 1 (rawInt (-1)) >>= _) _ _ s
  refine wpAny_bind (wpAny_setField ho hd (by simp) ?_)
  have hd3 := Obj.data_mapFields hd (·.setIfInBounds 1 (rawInt (-1)))
  have gx3 := Heap.get?_update_self (Obj.mapFields (·.setIfInBounds 1 (rawInt (-1)))) ho (Obj.isFreed_of_fields hd3)
  refine wpAny_setField gx3 hd3 (by simp) ?_
  refine wpAny_bind ?_
  show wpAny _ _ (newExc (.type "StopIteration") [] >>= _) _ _ _
  refine wpAny_bind ?_
  simp only [newExc, newTuple]
  refine wpAny_bind (wpAny_newObj_type ?_ (by size_fits))
  refine wpAny_bind (m := firstArgMember _ _) (wpAny_of_eq (a := Value.none) (by first | rfl | (simp only [firstArgMember]; rfl)) ?_)
  refine wpAny_newObj_type ?_ (by size_fits)
  simp only [raiseNew]
  refine wpAny_bind (wpAny_handled ?_)
  first | rw [show A.in1.handled = none from hh] | rw [hh]
  refine wpAny_bind (wpAny_pure (wpAny_throw ?_))
  refine wpAny_bind (wpAny_isInstance (T := "StopIteration") (b := true) ⟨_, Heap.get?_push_size _ rfl, rfl⟩ isSubtype_stop ?_)
  refine wpAny_pure (hQ _ (fun b ob hb e => Heap.get?_push_of_some _ (Heap.get?_push_of_some _ ?_)))
  rw [Heap.get?_update_other _ _ (Ne.symm hb), Heap.get?_update_other _ _ (Ne.symm hb)]
  exact e
theorem iter_revT {it l : Addr} {i : Int} {Q : Value → Shared → Prop} (hit : IsRevT s.heap it l i) (h : Q (.ref it) s) : wpAny (model prog w) A (pyIter (.ref it)) Q E s := by
  refine wpAny_pyIter_slot hit.typeIs Rv.slot_iter (wpAny_call_entry Rv.slot_iter hit.typeIs Rv.entry_iter ?_ (Rv.args_iter _))
  show wpAny _ _ (ret (.ref it)) _ _ s
  exact wpAny_pure ⟨_, rfl, "reversed", _, hit.typeIs, Rv.slot_next.lookup, h⟩
end
noncomputable def Itv (K : PySem.W.Frag) (a : Addr) (n : Nat) : It :=
  ⟨fun i H => ∃ xs x, SqT K H a xs ∧ xs.length = n ∧ xs.reverse[i]? = some x, fun i H x H' => H' = H ∧ ∀ xs, SqT K H a xs → xs.reverse[i]? = some x, fun i H => (∃ xs, SqT K H a xs ∧ xs.length = n) ∧ n ≤ i⟩
theorem turn_rev {P : Program} {w : World} {K : PySem.W.Frag} {tg : Expr} (a it : Addr) (n : Nat) : Turn P w K tg (Itv K a n) [it] it (fun i h => i ≤ n ∧ IsRevT h it a ((n : Int) - 1 - (i : Int))) where
  mem := by simp
  obj := fun i h st b hb => by
    have e : b = it := by simpa using hb
    subst e
    obtain ⟨_, o, e, c, d⟩ := st
    exact ⟨o, e, fun v z => by rw [d] at z; cases z⟩
  keep := fun i h h' st k => ⟨st.1, st.2.at fun o e => k it (by simp) o e⟩
  item := by
    intro X hP hw hK hc i pins s σ H E I hf st hg
    subst hP hw hK
    obtain ⟨xs, x, hq, hn, hx⟩ := hg
    obtain ⟨its, rv, p, hz⟩ := I.tuple hq
    have hi : i < xs.length := by
      have := (List.getElem?_eq_some_iff.mp hx).1
      simpa using this
    have hx' : xs[n - 1 - i]? = some x := by
      rw [List.getElem?_reverse hi, hn] at hx
      exact hx
    obtain ⟨u, hu, ru⟩ := rv.get hx'
    obtain ⟨f0, f1, f2, f3, f4, f5⟩ := hf it (by simp)
    have e1 : (n : Int) - 1 - (i : Int) = ((n - 1 - i : Nat) : Int) := by (first | lia | omega)
    have hl := rv.length
    have h63 := line63
    refine next_revT_item (i := n - 1 - i) (by rw [← e1]; exact st.2) (show s.heap.IsTuple a its.toArray from p) (x := u) (by simpa using hu) (by simp only [List.size_toArray]; (first | lia | omega)) fun h' tk st' sb => ?_
    have I1 : Inv X pins σ H { s with heap := h', toks := tk } := I.turned (t' := tk) (fun b o hb e => (sb.2 b hb).trans e) f0 f1 f3 f4 f5
    obtain ⟨o, e, c, d⟩ := id st'
    have e2 : ((n - 1 - i : Nat) : Int) - 1 = (n : Int) - 1 - ((i + 1 : Nat) : Int) := by (first | lia | omega)
    rw [e2] at st'
    exact ⟨u, rfl, go_of (s := { s with heap := h', toks := tk }) e c d (by decide) ⟨x, H, I1, ru, ⟨rfl, fun ys hy => by rw [I.tuple_inj hy hq]; exact hx⟩, ⟨by (first | lia | omega), st'⟩, fun b hb => (hf b hb).1⟩⟩
  done := by
    intro X hP hw hK hc i pins s σ H E I hf st hg
    subst hP hw hK
    obtain ⟨f0, f1, f2, f3, f4, f5⟩ := hf it (by simp)
    have hi : i = n := by have := st.1; have := hg.2; (first | lia | omega)
    have e1 : (n : Int) - 1 - (i : Int) = -1 := by (first | lia | omega)
    have st2 := st.2
    rw [e1] at st2
    exact next_revT_end (I.ok.hd hc) st2 fun h' eb => ⟨rfl, I.turned (t' := s.toks) (fun b o hb e => eb b o hb e) f0 f1 f3 f4 f5⟩
  self := fun _ _ _ _ _ st h => iter_revT st.2 h
noncomputable def iRev (K : PySem.W.Frag) (ta : TA) : TI := fun σ H R => ta σ H fun vs H1 => ∃ a xs, vs = [.ref a] ∧ SqT K H1 a xs ∧ R (Itv K a xs.length) H1
theorem pi_rev {X : Cx} {tg a : Expr} {ta : TA} {p pos : Pos} (hg : Gl X "reversed") (hm : X.mg "reversed" = none) (ha : PA X [a] ta) (hs : starEach [a] X.env = [(false, eval a X.env)] := by rfl) : PI X tg (.Call (.Name "reversed" p) [a] [] pos) (iRev X.K ta) := by
  refine ⟨?_⟩
  intro pins s σ H R I h
  refine Call_ (ld_blt I hg hm bt_reversed (PyProof.Rows.callWith_type1 (thn (ha pos pins s σ H _ I h) fun us s1 ⟨vs, H1, I1, r1, q1⟩ => ?_) hs rfl))
  obtain ⟨b, xs, e, hq, q⟩ := q1
  subst e
  cases r1 with
  | cons r rr =>
    cases rr
    cases r
    obtain ⟨its, rv, pl, hz⟩ := I1.tuple hq
    have hl := rv.length
    have h63 := line63
    refine call_revT (show s1.heap.IsTuple b its.toArray from pl) (by simp only [List.size_toArray]; (first | lia | omega)) fun tk => ?_
    have I2 : Inv X pins σ H1 { s1 with heap := s1.heap.push (revT b (((its.toArray).size : Int) - 1)), toks := tk } := I1.kept fun b o e => Heap.get?_push_of_some _ e
    have st : IsRevT (s1.heap.push (revT b (((its.toArray).size : Int) - 1))) s1.heap.objs.size b ((xs.length : Int) - 1 - ((0 : Nat) : Int)) := ⟨_, Heap.get?_push_size _ rfl, rfl, by rw [List.size_toArray, hl]; simp [revT]⟩
    refine iter_revT (s := { s1 with heap := s1.heap.push (revT b (((its.toArray).size : Int) - 1)), toks := tk }) st ?_
    refine ⟨s1.heap.objs.size, [s1.heap.objs.size], _, _, H1, rfl, I2, turn_rev b _ xs.length, ⟨Nat.zero_le _, st⟩, fun c hc => ?_, q⟩
    have e : c = s1.heap.objs.size := by simpa using hc
    subst e
    exact I1.fpOk (Nat.le_refl _) (I1.hok.fresh (Nat.le_refl _))
theorem for_rev {K : PySem.W.Frag} {a : Addr} {xs : List V} {g : TG} {tb : TS} {D : Ends} {σ : St} {H : Hp} (Pv : Nat → St → Hp → Prop) (h0 : Pv 0 σ H) (hl : ∀ i σ H, i ≤ xs.length → Pv i σ H → SqT K H a xs)
    (hs : ∀ i x σ H, xs.reverse[i]? = some x → Pv i σ H → g x σ H fun σ2 H2 => tb { D with nx := Pv (i + 1), ct := Pv (i + 1), bk := D.nx } σ2 H2) (hd : ∀ σ H, Pv xs.length σ H → D.nx σ H) :
    ∃ W : Nat → Nat → St → Hp → Prop, (∃ m, W 0 m σ H) ∧ ∀ i m σ H, W i m σ H →
      ((Itv K a xs.length).stop i H ∧ D.nx σ H) ∨ ((Itv K a xs.length).go i H ∧ ∃ N : St → Hp → Prop, (∀ σ' H', N σ' H' → ∃ m', m' < m ∧ W (i + 1) m' σ' H') ∧ ∀ x H', (Itv K a xs.length).yld i H x H' → g x σ H' fun σ2 H2 => tb { D with nx := N, ct := N, bk := D.nx } σ2 H2) := by
  refine ⟨fun i m σ H => m = xs.length - i ∧ i ≤ xs.length ∧ Pv i σ H, ⟨xs.length, by simp, Nat.zero_le _, h0⟩, ?_⟩
  rintro i m σ H ⟨rfl, hi, p⟩
  have q := hl i σ H hi p
  by_cases hlt : i < xs.length
  · refine .inr ⟨⟨xs, xs.reverse[i]'(by simpa using hlt), q, rfl, by simp [hlt]⟩, Pv (i + 1), fun σ' H' p' => ⟨xs.length - (i + 1), by (first | lia | omega), rfl, hlt, p'⟩, fun x H' y => ?_⟩
    obtain ⟨e, y⟩ := y
    subst e
    exact hs i x σ _ (y xs q) p
  · have e : i = xs.length := by (first | lia | omega)
    subst e
    exact .inl ⟨⟨⟨xs, q, rfl⟩, Nat.le_refl _⟩, hd σ H p⟩
end L2

set_option Elab.async false
set_option linter.all false
set_option maxRecDepth 100000
namespace L2
open PySem
mutual
noncomputable def pre : Nd → List Nd
  | .mk k p own ps => .mk k p own ps :: preL ps
noncomputable def preL : List Nd → List Nd
  | [] => []
  | a :: r => pre a ++ preL r
end
theorem preL_append : ∀ (xs ys : List Nd), preL (xs ++ ys) = preL xs ++ preL ys
  | [], ys => by simp [preL]
  | a :: r, ys => by simp [preL, preL_append r ys]
theorem pre_pos : ∀ n : Nd, 1 ≤ (pre n).length
  | .mk k p own ps => by simp [pre]
theorem preL_len : ∀ xs : List Nd, xs.length ≤ (preL xs).length
  | [] => by simp [preL]
  | a :: r => by
    have := pre_pos a
    have := preL_len r
    simp [preL]; (first | lia | omega)
theorem preL_rev_len : ∀ xs : List Nd, (preL xs.reverse).length = (preL xs).length
  | [] => rfl
  | a :: r => by simp [preL, preL_append, preL_rev_len r]; (first | lia | omega)
theorem NodeAt.more {H : Hp} : ∀ {d : Nat} {v : V} {n : Nd}, NodeAt H d v n → NodeAt H (d + 1) v n
  | 0, _, _, z => z.elim
  | d + 1, v, .mk k p own ps, ⟨t, o, q, vs, e, h1, h2, h3, r⟩ => ⟨t, o, q, vs, e, h1, h2, h3, Paired.imp (fun _ _ z => NodeAt.more z) r⟩
theorem parts_count {f : Nat → Except Bad (Nd × Nat)} (hf : ∀ p nd z, f p = .ok (nd, z) → p + (pre nd).length ≤ z) : ∀ {n p z : Nat} {ps : List Nd}, partsM f n p = .ok (ps, z) → p + (preL ps).length ≤ z
  | 0, _, _, _, h => by cases h; simp [preL]
  | n + 1, p, z, ps, h => by
    cases ps with
    | nil => exact absurd (parts_nil h).1 (by (first | lia | omega))
    | cons a ps =>
      obtain ⟨q, e1, e2⟩ := parts_cons h
      have := hf _ _ _ e1
      have := parts_count hf e2
      simp [preL]; (first | lia | omega)
theorem node_count {ns : List Int} {hs : Hds} {boxes : Int} : ∀ {d p z : Nat} {nd : Nd}, nodeM ns hs boxes d p = .ok (nd, z) → p + (pre nd).length ≤ z
  | 0, _, _, _, h => by cases h
  | d + 1, p, z, nd, h => by
    obtain ⟨k, own, ps, rfl, k0, k1, ek, eo, ep⟩ := node_ok h
    have := parts_count (fun p nd z e => node_count (d := d) e) ep
    simp [pre]; (first | lia | omega)
theorem bodies_count {ns : List Int} {hs : Hds} : ∀ {todo : Hds} {p z : Nat} {nds : List Nd}, bodiesM ns hs todo p = .ok (nds, z) → p + (preL nds).length ≤ z
  | [], _, _, _, h => by cases h; simp [preL]
  | x :: todo, p, z, nds, h => by
    obtain ⟨nd, r, q, rfl, e1, e2⟩ := bodies_cons h
    have := node_count e1
    have := bodies_count e2
    simp [preL]; (first | lia | omega)
theorem fns_count {ns : List Int} {r : Hds × List Nd} (h : functionsM ns = .ok r) : (preL r.2).length ≤ ns.length := by
  have := bodies_count (fns_ok h).2.1
  (first | lia | omega)
noncomputable def spNodesIn : Sp := fun vs H Q _ => ∃ v nd, vs = [v] ∧ NodeAt H 10 v nd ∧ (pre nd).length ≤ 1000000 ∧ ∀ l us H', Same H H' → H l = none → H' l = some (.lst us) → Paired (NodeAt H' 10) us (pre nd) → Q (.ref l) H'
noncomputable def spNodes (CN : Addr) : Sp := fun vs H Q E => ∃ a ns, vs = [.ref a] ∧ H a = some (.lst (ns.map V.int)) ∧ ns.length ≤ 1000000 ∧
  Tells (functionsM ns) (fun r => ∀ l us H', Same H H' → H l = none → H' l = some (.lst us) → Paired (NodeAt H' 10) us (preL r.2) → Q (.ref l) H') (fun p w => ∀ d H', Same H H' → H' d = some (XdO d [("place", .int p), ("word", .str w)]) → E (.ref CN) (some d) H')
theorem Paired.append {α β : Type} {F : α → β → Prop} : ∀ {xs zs : List α} {ys ws : List β}, Paired F xs ys → Paired F zs ws → Paired F (xs ++ zs) (ys ++ ws)
  | _, _, _, _, .nil, q => q
  | _, _, _, _, .cons r t, q => .cons r (Paired.append t q)
theorem Paired.rev {α β : Type} {F : α → β → Prop} : ∀ {xs : List α} {ys : List β}, Paired F xs ys → Paired F xs.reverse ys.reverse
  | _, _, .nil => .nil
  | _, _, .cons r t => by
    rw [List.reverse_cons, List.reverse_cons]
    exact Paired.append (Paired.rev t) (.cons r .nil)
theorem Paired.take {α β : Type} {F : α → β → Prop} : ∀ {xs : List α} {ys : List β} (n : Nat), Paired F xs ys → Paired F (xs.take n) (ys.take n)
  | _, _, 0, _ => by simp; exact .nil
  | _, _, n + 1, .nil => by simp; exact .nil
  | _, _, n + 1, .cons r t => by rw [List.take_succ_cons, List.take_succ_cons]; exact .cons r (Paired.take n t)
theorem Paired.unsnoc {α β : Type} {F : α → β → Prop} : ∀ {xs : List α} {x : α} {ys : List β}, Paired F (xs ++ [x]) ys → ∃ ys' y, ys = ys' ++ [y] ∧ Paired F xs ys' ∧ F x y
  | [], x, _, .cons r .nil => ⟨[], _, rfl, .nil, r⟩
  | a :: xs, x, _, .cons r t => by
    obtain ⟨ys', y, rfl, p, f⟩ := Paired.unsnoc t
    exact ⟨_ :: ys', y, rfl, .cons r p, f⟩
theorem Same.fresh {H H' : Hp} {p : Addr} {o : HO} (s : Same H H') (h : H p = none) : Same H (upd H' p o) := fun b u e => by rw [upd_ne (ne_of_none e h)]; exact s b u e
section
open PySem.Spec PyProof.Rows
variable {X : Cx} {e : Expr} {st : Option Expr} {te : TE} {ts : TO} {p2 pos : Pos}
noncomputable def tRevL (K : PySem.W.Frag) (te : TE) (ts : TO) : TE := fun σ H Q => te σ H fun x H1 => ts σ H1 fun k H2 => k = some (-1) ∧ ∃ a xs, x = .ref a ∧ SqL K H2 a xs ∧ ∀ p, H2 p = none → Q (.ref p) (upd H2 p (.lst xs.reverse))
noncomputable def rNeNil (K : PySem.W.Frag) : R2 := fun x y H Q => ∃ a b xs, x = .ref a ∧ y = .ref b ∧ SqL K H a xs ∧ SqL K H b [] ∧ Q (.bl (!xs.isEmpty)) H
theorem op_neNil {k : Nat} (hr : Room k X.A) : OpR X (compareOp .NotEq) (rNeNil X.K) := by
  intro pins s σ H x y v u Q I rx ry h
  obtain ⟨a, b, xs, rfl, rfl, ha, hb, q⟩ := h
  cases rx; cases ry
  have hu := hr.un
  obtain ⟨us, r, pa, _⟩ := I.list ha
  obtain ⟨vs, q', pb, _⟩ := I.list hb
  cases q'
  cases xs with
  | nil =>
    cases r
    have := SeqAt.RcNeAt.lists (A := X.A) (s := s) (e := fun _ => true) pa.isList pb.isList rfl (by (first | lia | omega)) (fun j h1 h2 => absurd h1 (by simp))
    exact this _ _ _ _ ⟨.bl false, H, I, rfl, q⟩
  | cons z zs =>
    cases r with
    | cons r1 r2 =>
      have := SeqAt.RcNeAt.lists_lengths (A := X.A) (s := s) pa.isList pb.isList (by simp) (by (first | lia | omega))
      exact this _ _ _ _ ⟨.bl true, H, I, rfl, q⟩
end
noncomputable def Cov (ns : List Int) : Nat → List Nd → Nat → Prop
  | p, [], z => p = z
  | p, .mk k q own _ :: r, z => q = p ∧ ns[p]? = some k ∧ Sub ns (p + 1) own ∧ Cov ns (p + 1 + own.length) r z
theorem own_sub {ns : List Int} {hs : Hds} {boxes k : Int} {p : Nat} {own : List Int} (k0 : 0 ≤ k) (h : ownM ns hs boxes k p = .ok own) : Sub ns p own := by
  rcases own_at k0 h with ⟨_, n, rfl, e⟩ | ⟨_, rfl⟩
  · exact ⟨e, trivial⟩
  · exact trivial
theorem take_sub {ns : List Int} : ∀ {zs : List Int} {p : Nat}, Sub ns p zs → ns.take (p + zs.length) = ns.take p ++ zs
  | [], p, _ => by simp
  | z :: zs, p, h => by
    have := take_sub h.2
    rw [show p + (z :: zs).length = p + 1 + zs.length by simp; (first | lia | omega), this, List.take_add_one, h.1]
    simp
end L2

set_option Elab.async false
set_option linter.all false
set_option maxRecDepth 100000
namespace L2
open PySem PySem.Spec PyProof.Rows
section
variable {X : Cx}
noncomputable def rEqNil (K : PySem.W.Frag) : R2 := fun x y H Q => ∃ a b xs, x = .ref a ∧ y = .ref b ∧ SqL K H a xs ∧ SqL K H b [] ∧ Q (.bl xs.isEmpty) H
theorem op_eqNil {k : Nat} (hr : Room k X.A) : OpR X (compareOp .Eq) (rEqNil X.K) := by
  intro pins s σ H x y v u Q I rx ry h
  obtain ⟨a, b, xs, rfl, rfl, ha, hb, q⟩ := h
  cases xs with
  | nil => exact op_eqD hr pins s σ H _ _ _ _ Q I rx ry ⟨a, b, [], [], 0, rfl, rfl, .inl ⟨ha, hb⟩, .nil, by decide, q⟩
  | cons z zs =>
    cases rx; cases ry
    have hu := hr.un
    obtain ⟨us, r, pa, _⟩ := I.list ha
    obtain ⟨vs, q', pb, _⟩ := I.list hb
    cases q'
    cases r with
    | cons r1 r2 => exact SeqAt.RcAt.lists_lengths (A := X.A) pa.isList pb.isList (by simp) (by (first | lia | omega)) _ _ _ _ ⟨.bl false, H, I, rfl, q⟩
end
end L2

set_option Elab.async false
set_option linter.all false
set_option maxRecDepth 100000
namespace L2
open PySem
noncomputable def stackM (ns : List Int) (hs : Hds) : List (Nat × Int) → Nat → Except Bad Nat
  | [], p => .ok p
  | x :: r, p => match nodeM ns hs x.2 x.1 p with
    | .error b => .error b
    | .ok a => stackM ns hs r a.2
theorem stack_parts {ns : List Int} {hs : Hds} {d : Nat} {b : Int} {r : List (Nat × Int)} : ∀ (n p : Nat), stackM ns hs (List.replicate n (d, b) ++ r) p = match partsM (nodeM ns hs b d) n p with
    | .error e => .error e
    | .ok x => stackM ns hs r x.2
  | 0, p => rfl
  | n + 1, p => by
    rw [List.replicate_succ, List.cons_append]
    conv => lhs; unfold stackM
    conv => rhs; unfold partsM
    simp only
    cases nodeM ns hs b d p with
    | error e => rfl
    | ok a =>
      simp only
      rw [stack_parts n a.2]
      cases partsM (nodeM ns hs b d) n a.2 with
      | error e => rfl
      | ok x => rfl
theorem stack_deep {ns : List Int} {hs : Hds} {b : Int} {r : List (Nat × Int)} {p : Nat} : stackM ns hs ((0, b) :: r) p = .error (p, "deep") := rfl
theorem stack_step {ns : List Int} {hs : Hds} {d : Nat} {b k : Int} {r : List (Nat × Int)} {p : Nat} {own : List Int} (h : withinM ns p 0 19 = .ok k) (h2 : ownM ns hs b k (p + 1) = .ok own) :
    stackM ns hs ((d + 1, b) :: r) p = stackM ns hs (List.replicate (dueM hs k own).toNat (d, b) ++ r) (p + 1 + own.length) := by
  rw [stack_parts]
  conv => lhs; unfold stackM nodeM
  simp only
  rw [h]; simp only
  rw [h2]; simp only
  cases partsM (nodeM ns hs b d) (dueM hs k own).toNat (p + 1 + own.length) with
  | error e => rfl
  | ok x => rfl
theorem stack_bodies {ns : List Int} {hs : Hds} : ∀ (todo : Hds) (p : Nat), stackM ns hs (todo.map fun h => (10, h.2)) p = match bodiesM ns hs todo p with
    | .error e => .error e
    | .ok x => .ok x.2
  | [], p => rfl
  | h :: r, p => by
    rw [List.map_cons]
    unfold stackM bodiesM
    simp only
    cases nodeM ns hs h.2 10 p with
    | error e => rfl
    | ok a =>
      simp only
      rw [stack_bodies r a.2]
      cases bodiesM ns hs r a.2 with
      | error e => rfl
      | ok x => rfl
noncomputable def wrongM (ns : List Int) : Option Bad := match functionsM ns with
  | .error b => some b
  | .ok _ => none
noncomputable def Lim (hs : Hds) (boxes k lo hi : Int) : Prop := (k = 1 ∨ k = 2) ∧ lo = 0 ∧ hi = boxes - 1 ∨ (k = 3 ∨ k = 4) ∧ lo = k - 2 ∧ hi = 12 ∨ ¬ (k = 1 ∨ k = 2 ∨ k = 3 ∨ k = 4) ∧ lo = 0 ∧ hi = (hs.length : Int) - 1
end L2

set_option Elab.async false
set_option linter.all false
set_option maxRecDepth 100000
namespace L2
open PySem
noncomputable abbrev Hn := Int × List Int
noncomputable abbrev Stk := List (Nat × Int)
noncomputable def hnOf : Nd → Hn
  | .mk k _ own _ => (k, own)
noncomputable def plOf : Nd → Nat
  | .mk _ p _ _ => p
noncomputable def flatH (xs : List Hn) : List Int := xs.flatMap fun x => x.1 :: x.2
noncomputable def hns (n : Nd) : List Hn := (pre n).map hnOf
noncomputable def hnsL (ns : List Nd) : List Hn := (preL ns).map hnOf
theorem hns_mk (k : Int) (p : Nat) (own : List Int) (ps : List Nd) : hns (.mk k p own ps) = (k, own) :: hnsL ps := by
  unfold hns hnsL
  rw [pre, List.map_cons] <;> rfl
theorem hnsL_cons (a : Nd) (r : List Nd) : hnsL (a :: r) = hns a ++ hnsL r := by
  unfold hns hnsL
  rw [preL, List.map_append]
theorem flatH_append (xs ys : List Hn) : flatH (xs ++ ys) = flatH xs ++ flatH ys := List.flatMap_append
theorem flatH_cons (x : Hn) (ys : List Hn) : flatH (x :: ys) = (x.1 :: x.2) ++ flatH ys := List.flatMap_cons
theorem Sub.join {ns : List Int} : ∀ {xs ys : List Int} {p : Nat}, Sub ns p xs → Sub ns (p + xs.length) ys → Sub ns p (xs ++ ys)
  | [], _, _, _, h => h
  | x :: xs, ys, p, h, g => ⟨h.1, Sub.join h.2 (by rw [show p + 1 + xs.length = p + (x :: xs).length by simp; (first | lia | omega)]; exact g)⟩
inductive Run (hs : Hds) : Stk → List Hn → Stk → Prop where
  | nil {S : Stk} : Run hs S [] S
  | cons {d : Nat} {b k : Int} {own : List Int} {r : Stk} {xs : List Hn} {S : Stk} (k0 : 0 ≤ k) (k1 : k ≤ 19) (f : OwnFit hs b k own) (h : Run hs (List.replicate (dueM hs k own).toNat (d, b) ++ r) xs S) : Run hs ((d + 1, b) :: r) ((k, own) :: xs) S
theorem Run.append {hs : Hds} {S S1 S2 : Stk} {xs ys : List Hn} (h : Run hs S xs S1) (g : Run hs S1 ys S2) : Run hs S (xs ++ ys) S2 := by
  induction h with
  | nil => exact g
  | cons k0 k1 f _ ih => exact .cons k0 k1 f (ih g)
theorem Run.stack {ns : List Int} {hs : Hds} {S S1 : Stk} {xs : List Hn} (h : Run hs S xs S1) : ∀ {p : Nat}, Sub ns p (flatH xs) → stackM ns hs S p = stackM ns hs S1 (p + (flatH xs).length) := by
  induction h with
  | nil => intro p _; rfl
  | @cons d b k own r xs S k0 k1 f _ ih =>
    intro p s
    rw [flatH_cons] at s
    obtain ⟨s1, s2⟩ := Sub.append (xs := k :: own) s
    rw [stack_step (withinM_at s1.1 k0 k1) (own_fit f s1.2)]
    rw [show p + ((k, own).1 :: (k, own).2).length = p + 1 + own.length by simp; (first | lia | omega)] at s2
    rw [ih s2, flatH_cons, List.length_append]
    congr 1
    simp
    (first | lia | omega)
theorem own_fits {ns : List Int} {hs : Hds} {b k : Int} {p : Nat} {own : List Int} (k0 : 0 ≤ k) (h : ownM ns hs b k p = .ok own) : OwnFit hs b k own := by
  unfold ownM at h
  by_cases c0 : k = 0
  · rw [if_pos c0] at h; obtain ⟨n, e, rfl⟩ := oneM_ok h; exact .inl ⟨c0, n, rfl⟩
  rw [if_neg c0] at h
  by_cases c1 : k = 1 ∨ k = 2
  · rw [if_pos c1] at h; obtain ⟨n, e, rfl⟩ := oneM_ok h; exact .inr (.inl ⟨c1, n, rfl, (withinM_ok e).2⟩)
  rw [if_neg c1] at h
  by_cases c3 : k = 3
  · rw [if_pos c3] at h; obtain ⟨n, e, rfl⟩ := oneM_ok h; exact .inr (.inr (.inl ⟨c3, n, rfl, (withinM_ok e).2⟩))
  rw [if_neg c3] at h
  by_cases c4 : k = 4
  · rw [if_pos c4] at h; obtain ⟨n, e, rfl⟩ := oneM_ok h; exact .inr (.inr (.inr (.inl ⟨c4, n, rfl, (withinM_ok e).2⟩)))
  rw [if_neg c4] at h
  by_cases c6 : k = 6
  · rw [if_pos c6] at h; obtain ⟨n, e, rfl⟩ := oneM_ok h; exact .inr (.inr (.inr (.inr (.inl ⟨c6, n, rfl, (withinM_ok e).2⟩))))
  rw [if_neg c6] at h
  cases h
  exact .inr (.inr (.inr (.inr (.inr ⟨by (first | lia | omega), rfl⟩))))
mutual
noncomputable def depN : Nd → Nat
  | .mk _ _ _ ps => 1 + depL ps
noncomputable def depL : List Nd → Nat
  | [] => 0
  | a :: r => max (depN a) (depL r)
end
mutual
noncomputable def FitN (hs : Hds) (b : Int) : Nd → Prop
  | .mk k _ own ps => 0 ≤ k ∧ k ≤ 19 ∧ OwnFit hs b k own ∧ ps.length = (dueM hs k own).toNat ∧ FitL hs b ps
noncomputable def FitL (hs : Hds) (b : Int) : List Nd → Prop
  | [] => True
  | a :: r => FitN hs b a ∧ FitL hs b r
end
mutual
noncomputable def PlN : Nat → Nd → Prop
  | p, .mk k q own ps => q = p ∧ PlL (p + 1 + own.length) ps
noncomputable def PlL : Nat → List Nd → Prop
  | _, [] => True
  | p, a :: r => PlN p a ∧ PlL (p + (flatH (hns a)).length) r
end
theorem parts_fit {ns : List Int} {hs : Hds} {b : Int} {d : Nat} {f : Nat → Except Bad (Nd × Nat)} (hf : ∀ p nd z, f p = .ok (nd, z) → FitN hs b nd ∧ depN nd ≤ d ∧ PlN p nd ∧ Sub ns p (flatH (hns nd)) ∧ z = p + (flatH (hns nd)).length) :
    ∀ {n p z : Nat} {ps : List Nd}, partsM f n p = .ok (ps, z) → ps.length = n ∧ FitL hs b ps ∧ depL ps ≤ d ∧ PlL p ps ∧ Sub ns p (flatH (hnsL ps)) ∧ z = p + (flatH (hnsL ps)).length
  | 0, p, z, ps, h => by cases h; exact ⟨rfl, trivial, Nat.zero_le _, trivial, trivial, rfl⟩
  | n + 1, p, z, ps, h => by
    cases ps with
    | nil => exact absurd (parts_nil h).1 (by (first | lia | omega))
    | cons a ps =>
      obtain ⟨q, e1, e2⟩ := parts_cons h
      obtain ⟨a1, a2, a3, a4, a5⟩ := hf _ _ _ e1
      obtain ⟨b0, b1, b2, b3, b4, b5⟩ := parts_fit hf e2
      subst a5
      refine ⟨by simp [b0], ⟨a1, b1⟩, by simp only [depL]; (first | lia | omega), ⟨a3, b3⟩, ?_, ?_⟩
      · rw [hnsL_cons, flatH_append]
        exact Sub.join a4 b4
      · rw [b5, hnsL_cons, flatH_append, List.length_append]; (first | lia | omega)
theorem node_fit {ns : List Int} {hs : Hds} {b : Int} : ∀ {d p z : Nat} {nd : Nd}, nodeM ns hs b d p = .ok (nd, z) → FitN hs b nd ∧ depN nd ≤ d ∧ PlN p nd ∧ Sub ns p (flatH (hns nd)) ∧ z = p + (flatH (hns nd)).length
  | 0, _, _, _, h => by cases h
  | d + 1, p, z, nd, h => by
    obtain ⟨k, own, ps, rfl, k0, k1, ek, eo, ep⟩ := node_ok h
    obtain ⟨b0, b1, b2, b3, b4, b5⟩ := parts_fit (fun p nd z e => node_fit (d := d) e) ep
    refine ⟨⟨k0, k1, own_fits k0 eo, b0, b1⟩, by simp only [depN]; (first | lia | omega), ⟨rfl, b3⟩, ?_, ?_⟩
    · rw [hns_mk, flatH_cons]
      exact Sub.join (xs := k :: own) ⟨ek, own_sub k0 eo⟩ (by rw [show p + (k :: own).length = p + 1 + own.length by simp; (first | lia | omega)]; exact b4)
    · rw [b5, hns_mk, flatH_cons, List.length_append]
      simp only [List.length_cons]
      (first | lia | omega)
theorem rep_due {ps : List Nd} {n d : Nat} {b : Int} (h : ps.length = n) : List.replicate n (d, b) = ps.map fun _ => (d, b) := by
  rw [← h, List.map_const']
mutual
theorem fit_run {hs : Hds} {b : Int} : ∀ {nd : Nd} {D : Nat} {r : Stk}, FitN hs b nd → depN nd ≤ D → Run hs ((D, b) :: r) (hns nd) r
  | .mk k p own ps, 0, r, _, h => absurd h (by simp only [depN]; (first | lia | omega))
  | .mk k p own ps, D + 1, r, ⟨k0, k1, f, l, g⟩, h => by
    rw [hns_mk]
    exact .cons k0 k1 f (by rw [rep_due l]; exact fit_runL g (by simp only [depN] at h; (first | lia | omega)))
theorem fit_runL {hs : Hds} {b : Int} : ∀ {ps : List Nd} {D : Nat} {r : Stk}, FitL hs b ps → depL ps ≤ D → Run hs ((ps.map fun _ => (D, b)) ++ r) (hnsL ps) r
  | [], D, r, _, _ => .nil
  | a :: ps, D, r, ⟨ga, gs⟩, h => by
    simp only [depL] at h
    rw [hnsL_cons]
    exact (fit_run (nd := a) ga (by (first | lia | omega))).append (fit_runL gs (by (first | lia | omega)))
end
mutual
theorem fit_deep {hs : Hds} {b : Int} : ∀ {nd : Nd} {D : Nat} {r : Stk}, FitN hs b nd → D < depN nd → ∃ U V r', hns nd = U ++ V ∧ Run hs ((D, b) :: r) U ((0, b) :: r')
  | .mk k p own ps, 0, r, _, h => ⟨[], _, r, rfl, .nil⟩
  | .mk k p own ps, D + 1, r, ⟨k0, k1, f, l, g⟩, h => by
    obtain ⟨U, V, r', e, h'⟩ := fit_deepL (r := r) g (show D < depL ps by simp only [depN] at h; (first | lia | omega))
    exact ⟨(k, own) :: U, V, r', by rw [hns_mk, e] <;> rfl, .cons k0 k1 f (by rw [rep_due l]; exact h')⟩
theorem fit_deepL {hs : Hds} {b : Int} : ∀ {ps : List Nd} {D : Nat} {r : Stk}, FitL hs b ps → D < depL ps → ∃ U V r', hnsL ps = U ++ V ∧ Run hs ((ps.map fun _ => (D, b)) ++ r) U ((0, b) :: r')
  | [], D, r, _, h => absurd h (Nat.not_lt_zero _)
  | a :: ps, D, r, ⟨ga, gs⟩, h => by
    simp only [depL] at h
    by_cases c : D < depN a
    · obtain ⟨U, V, r', e, h'⟩ := fit_deep (r := (ps.map fun _ => (D, b)) ++ r) ga c
      exact ⟨U, V ++ hnsL ps, r', by rw [hnsL_cons, e, List.append_assoc], h'⟩
    · obtain ⟨U, V, r', e, h'⟩ := fit_deepL (r := r) gs (show D < depL ps by (first | lia | omega))
      exact ⟨hns a ++ U, V, r', by rw [hnsL_cons, e, List.append_assoc], (fit_run ga (by (first | lia | omega))).append h'⟩
end
theorem own_len {hs : Hds} {b b' k : Int} {own own' : List Int} (f : OwnFit hs b k own) (g : OwnFit hs b' k own') : own.length = own'.length := by
  unfold OwnFit at f g
  rcases f with ⟨a, n, rfl⟩ | ⟨a, n, rfl, _⟩ | ⟨a, n, rfl, _⟩ | ⟨a, n, rfl, _⟩ | ⟨a, n, rfl, _⟩ | ⟨a, rfl⟩ <;> rcases g with ⟨a', m, rfl⟩ | ⟨a', m, rfl, _⟩ | ⟨a', m, rfl, _⟩ | ⟨a', m, rfl, _⟩ | ⟨a', m, rfl, _⟩ | ⟨a', rfl⟩ <;> first | rfl | (exfalso; (first | lia | omega))
theorem Run.uniq {hs : Hds} {S S1 : Stk} {xs : List Hn} (h : Run hs S xs S1) : ∀ {ys : List Hn} {S2 : Stk}, Run hs S ys S2 → flatH xs = flatH ys → xs = ys := by
  induction h with
  | nil =>
    intro ys S2 g e
    cases g with
    | nil => rfl
    | cons => rw [flatH_cons] at e; cases e
  | @cons d b k own r xs S k0 k1 f _ ih =>
    intro ys S2 g e
    cases g with
    | nil => rw [flatH_cons] at e; cases e
    | @cons _ _ k' own' _ ys _ k0' k1' f' h' =>
      rw [flatH_cons, flatH_cons] at e
      simp only [List.cons_append] at e
      injection e with e1 e2
      subst e1
      obtain ⟨e3, e4⟩ := List.append_inj e2 (own_len f f')
      subst e3
      rw [ih h' e4]
noncomputable def stk0 (todo : Hds) : Stk := todo.map fun h => (10, h.2)
noncomputable def PlB : Nat → List Nd → Prop
  | _, [] => True
  | p, a :: r => PlN p a ∧ PlB (p + (flatH (hns a)).length) r
noncomputable def FitB (hs : Hds) : Hds → List Nd → Prop
  | [], [] => True
  | h :: todo, a :: r => FitN hs h.2 a ∧ depN a ≤ 10 ∧ FitB hs todo r
  | _, _ => False
theorem bodies_fit {ns : List Int} {hs : Hds} : ∀ {todo : Hds} {p z : Nat} {nds : List Nd}, bodiesM ns hs todo p = .ok (nds, z) → FitB hs todo nds ∧ PlB p nds ∧ Sub ns p (flatH (hnsL nds)) ∧ z = p + (flatH (hnsL nds)).length
  | [], p, z, nds, h => by cases h; exact ⟨trivial, trivial, trivial, rfl⟩
  | x :: todo, p, z, nds, h => by
    obtain ⟨nd, r, q, rfl, e1, e2⟩ := bodies_cons h
    obtain ⟨a1, a2, a3, a4, a5⟩ := node_fit e1
    subst a5
    obtain ⟨b1, b2, b3, b4⟩ := bodies_fit e2
    refine ⟨⟨a1, a2, b1⟩, ⟨a3, b2⟩, ?_, ?_⟩
    · rw [hnsL_cons, flatH_append]
      exact Sub.join a4 b3
    · rw [b4, hnsL_cons, flatH_append, List.length_append]; (first | lia | omega)
theorem fitB_run {hs : Hds} : ∀ {todo : Hds} {nds : List Nd}, FitB hs todo nds → Run hs (stk0 todo) (hnsL nds) []
  | [], [], _ => .nil
  | h :: todo, a :: r, ⟨f, d, g⟩ => by
    rw [hnsL_cons]
    exact (fit_run f d).append (fitB_run g)
noncomputable def sheetL (hs : Hds) (xs : List Hn) : List Int := (hs.length : Int) :: (flat hs ++ flatH xs)
theorem sheetL_len (hs : Hds) (xs : List Hn) : (sheetL hs xs).length = 1 + 2 * hs.length + (flatH xs).length := by
  unfold sheetL
  rw [List.length_cons, List.length_append, flat_len]; (first | lia | omega)
theorem sheetL_sub (hs : Hds) (xs : List Hn) : Sub (sheetL hs xs) (1 + 2 * hs.length) (flatH xs) := by
  have := Sub.behind (flatH xs) ((hs.length : Int) :: flat hs)
  rw [List.length_cons, flat_len, Nat.add_comm, List.cons_append] at this
  exact this
noncomputable def HdsRead (hs : Hds) : Prop := ∀ zs : List Int, headsAllM ((hs.length : Int) :: (flat hs ++ zs)) = .ok hs
theorem fns_of_run {hs : Hds} {xs : List Hn} (g : HdsRead hs) (h : Run hs (stk0 hs) xs []) : ∃ nds, functionsM (sheetL hs xs) = .ok (hs, nds) ∧ hnsL nds = xs := by
  have hh := g (flatH xs)
  have e1 := h.stack (sheetL_sub hs xs)
  have e2 : stackM (sheetL hs xs) hs [] (1 + 2 * hs.length + (flatH xs).length) = .ok (1 + 2 * hs.length + (flatH xs).length) := rfl
  rw [e2] at e1
  have e3 := stack_bodies (ns := sheetL hs xs) (hs := hs) hs (1 + 2 * hs.length)
  have e4 : stackM (sheetL hs xs) hs (hs.map fun h => (10, h.2)) (1 + 2 * hs.length) = stackM (sheetL hs xs) hs (stk0 hs) (1 + 2 * hs.length) := rfl
  rw [e4, e1] at e3
  cases eb : bodiesM (sheetL hs xs) hs hs (1 + 2 * hs.length) with
  | error c => rw [eb] at e3; cases e3
  | ok x =>
    rw [eb] at e3
    injection e3 with e3
    obtain ⟨nds, z⟩ := x
    simp only at e3
    subst e3
    obtain ⟨f, _, s, ez⟩ := bodies_fit eb
    refine ⟨nds, ?_, ?_⟩
    · unfold functionsM
      rw [show headsAllM (sheetL hs xs) = .ok hs from hh]
      simp only
      rw [eb]
      simp only
      rw [if_neg (by rw [sheetL_len]; (first | lia | omega))]
    · have el : (flatH (hnsL nds)).length = (flatH xs).length := by (first | lia | omega)
      have t1 := take_sub s
      have t2 := take_sub (sheetL_sub hs xs)
      rw [el, t2] at t1
      exact ((h.uniq (fitB_run f) (List.append_cancel_left t1))).symm
theorem fns_of_deep {hs : Hds} {xs ys : List Hn} {b : Int} {r : Stk} (g : HdsRead hs) (h : Run hs (stk0 hs) xs ((0, b) :: r)) : ∃ q, functionsM (sheetL hs (xs ++ ys)) = .error (q, "deep") := by
  have hh := g (flatH (xs ++ ys))
  have s := sheetL_sub hs (xs ++ ys)
  rw [flatH_append] at s
  have e1 := h.stack (Sub.append s).1
  rw [stack_deep] at e1
  have e3 := stack_bodies (ns := sheetL hs (xs ++ ys)) (hs := hs) hs (1 + 2 * hs.length)
  have e4 : stackM (sheetL hs (xs ++ ys)) hs (hs.map fun h => (10, h.2)) (1 + 2 * hs.length) = stackM (sheetL hs (xs ++ ys)) hs (stk0 hs) (1 + 2 * hs.length) := rfl
  rw [e4, e1] at e3
  refine ⟨1 + 2 * hs.length + (flatH xs).length, ?_⟩
  unfold functionsM
  rw [show headsAllM (sheetL hs (xs ++ ys)) = .ok hs from hh]
  simp only
  cases eb : bodiesM (sheetL hs (xs ++ ys)) hs hs (1 + 2 * hs.length) with
  | error c => rw [eb] at e3; simp only; injection e3 with e3; rw [← e3]
  | ok x => rw [eb] at e3; cases e3
noncomputable abbrev An := Nd × Nat × Nat
mutual
noncomputable def annN (dep f : Nat) : Nd → List An
  | .mk k p own ps => (.mk k p own ps, dep, f) :: annL (dep + 1) f ps
noncomputable def annL (dep f : Nat) : List Nd → List An
  | [] => []
  | a :: r => annN dep f a ++ annL dep f r
end
noncomputable def annB (f : Nat) : List Nd → List An
  | [] => []
  | a :: r => annN 1 f a ++ annB (f + 1) r
mutual
theorem annN_pre : ∀ (nd : Nd) (dep f : Nat), (annN dep f nd).map (·.1) = pre nd
  | .mk k p own ps, dep, f => by rw [annN, List.map_cons, annL_pre ps, pre]
theorem annL_pre : ∀ (ps : List Nd) (dep f : Nat), (annL dep f ps).map (·.1) = preL ps
  | [], _, _ => by simp [annL, preL]
  | a :: r, dep, f => by rw [annL, List.map_append, annN_pre a, annL_pre r, preL]
end
theorem annB_pre : ∀ (ps : List Nd) (f : Nat), (annB f ps).map (·.1) = preL ps
  | [], _ => by simp [annB, preL]
  | a :: r, f => by rw [annB, List.map_append, annN_pre a, annB_pre r, preL]
theorem annN_len (nd : Nd) (dep f : Nat) : (annN dep f nd).length = (hns nd).length := by
  unfold hns
  rw [← annN_pre nd dep f, List.length_map, List.length_map]
structure Ctx (hs : Hds) (S0 R : Stk) (all : List Hn) (p0 i : Nat) (m : Nd) (e : Nat) (b : Int) : Prop where
  ex : ∃ X Y r, all = X ++ (hns m ++ Y) ∧ X.length = i ∧ Run hs S0 X ((e, b) :: r) ∧ Run hs r Y R ∧ plOf m = p0 + (flatH X).length
  fit : FitN hs b m
  dep : depN m ≤ e
theorem Ctx.after {hs : Hds} {S0 S1 R : Stk} {X0 all : List Hn} {p0 p1 i : Nat} {m : Nd} {e : Nat} {b : Int} (h : Run hs S0 X0 S1) (c : Ctx hs S1 R all p1 i m e b) (hp : p1 = p0 + (flatH X0).length) : Ctx hs S0 R (X0 ++ all) p0 (X0.length + i) m e b := by
  obtain ⟨⟨X, Y, r, e1, e2, e3, e4, e5⟩, f, d⟩ := c
  exact ⟨⟨X0 ++ X, Y, r, by rw [e1, List.append_assoc], by rw [List.length_append, e2], h.append e3, e4, by rw [e5, hp, flatH_append, List.length_append]; (first | lia | omega)⟩, f, d⟩
theorem Ctx.before {hs : Hds} {S0 R1 R : Stk} {Z all : List Hn} {p0 i : Nat} {m : Nd} {e : Nat} {b : Int} (c : Ctx hs S0 R1 all p0 i m e b) (h : Run hs R1 Z R) : Ctx hs S0 R (all ++ Z) p0 i m e b := by
  obtain ⟨⟨X, Y, r, e1, e2, e3, e4, e5⟩, f, d⟩ := c
  exact ⟨⟨X, Y ++ Z, r, by rw [e1, List.append_assoc, List.append_assoc], e2, e3, e4.append h, e5⟩, f, d⟩
mutual
theorem ctxN {hs : Hds} {b : Int} : ∀ {nd : Nd} {d dep f p i : Nat} {R : Stk} {m : Nd} {dm fm : Nat}, FitN hs b nd → depN nd ≤ d → PlN p nd → (annN dep f nd)[i]? = some (m, dm, fm) → fm = f ∧ ∃ e, e + dm = d + dep ∧ Ctx hs ((d, b) :: R) R (hns nd) p i m e b
  | .mk k q own ps, d, dep, f, p, 0, R, m, dm, fm, ft, hd, pl, h => by
    rw [annN] at h
    cases h
    refine ⟨rfl, d, rfl, ⟨⟨[], [], R, by rw [List.append_nil, List.nil_append], rfl, .nil, .nil, ?_⟩, ft, hd⟩⟩
    exact pl.1
  | .mk k q own ps, 0, dep, f, p, i + 1, R, m, dm, fm, ft, hd, pl, h => absurd hd (by simp only [depN]; (first | lia | omega))
  | .mk k q own ps, d + 1, dep, f, p, i + 1, R, m, dm, fm, ⟨k0, k1, fo, l, g⟩, hd, pl, h => by
    rw [annN, List.getElem?_cons_succ] at h
    obtain ⟨e0, e, e1, c⟩ := ctxL (R := R) g (show depL ps ≤ d by simp only [depN] at hd; (first | lia | omega)) pl.2 h
    refine ⟨e0, e, by (first | lia | omega), ?_⟩
    rw [hns_mk, Nat.add_comm i 1]
    rw [← rep_due l] at c
    refine Ctx.after (X0 := [(k, own)]) (.cons k0 k1 fo .nil) c ?_
    show p + 1 + own.length = p + ((k :: own) ++ []).length
    rw [List.append_nil, List.length_cons]; (first | lia | omega)
theorem ctxL {hs : Hds} {b : Int} : ∀ {ps : List Nd} {d dep f p i : Nat} {R : Stk} {m : Nd} {dm fm : Nat}, FitL hs b ps → depL ps ≤ d → PlL p ps → (annL dep f ps)[i]? = some (m, dm, fm) → fm = f ∧ ∃ e, e + dm = d + dep ∧ Ctx hs ((ps.map fun _ => (d, b)) ++ R) R (hnsL ps) p i m e b
  | [], _, _, _, _, _, _, _, _, _, _, _, _, h => by rw [annL] at h; simp at h
  | a :: ps, d, dep, f, p, i, R, m, dm, fm, ⟨fa, fs⟩, hd, ⟨pa, pl⟩, h => by
    rw [annL] at h
    simp only [depL] at hd
    rw [hnsL_cons]
    by_cases c : i < (annN dep f a).length
    · rw [List.getElem?_append_left c] at h
      obtain ⟨e0, e, e1, x⟩ := ctxN (R := (ps.map fun _ => (d, b)) ++ R) fa (show depN a ≤ d by (first | lia | omega)) pa h
      exact ⟨e0, e, e1, x.before (fit_runL fs (by (first | lia | omega)))⟩
    · rw [List.getElem?_append_right (by (first | lia | omega)), annN_len] at h
      rw [annN_len] at c
      obtain ⟨e0, e, e1, x⟩ := ctxL (R := R) fs (show depL ps ≤ d by (first | lia | omega)) pl h
      refine ⟨e0, e, e1, ?_⟩
      have y := Ctx.after (fit_run fa (show depN a ≤ d by (first | lia | omega))) x rfl
      rw [show (hns a).length + (i - (hns a).length) = i by (first | lia | omega)] at y
      exact y
end
theorem ctxB {hs : Hds} : ∀ {todo : Hds} {nds : List Nd} {f p i : Nat} {m : Nd} {dm fm : Nat}, FitB hs todo nds → PlB p nds → (annB f nds)[i]? = some (m, dm, fm) → f ≤ fm ∧ ∃ h e, todo[fm - f]? = some h ∧ e + dm = 11 ∧ Ctx hs (stk0 todo) [] (hnsL nds) p i m e h.2
  | [], [], _, _, _, _, _, _, _, _, h => by rw [annB] at h; simp at h
  | x :: todo, [], _, _, _, _, _, _, z, _, _ => z.elim
  | [], a :: ps, _, _, _, _, _, _, z, _, _ => z.elim
  | x :: todo, a :: ps, f, p, i, m, dm, fm, ⟨fa, da, fs⟩, ⟨pa, pl⟩, h => by
    rw [annB] at h
    rw [hnsL_cons]
    by_cases c : i < (annN 1 f a).length
    · rw [List.getElem?_append_left c] at h
      obtain ⟨e0, e, e1, y⟩ := ctxN (R := stk0 todo) fa da pa h
      subst e0
      exact ⟨Nat.le_refl _, x, e, by rw [Nat.sub_self] <;> rfl, by (first | lia | omega), y.before (fitB_run fs)⟩
    · rw [List.getElem?_append_right (by (first | lia | omega)), annN_len] at h
      rw [annN_len] at c
      obtain ⟨e0, hh, e, e1, e2, y⟩ := ctxB fs pl h
      refine ⟨by (first | lia | omega), hh, e, ?_, e2, ?_⟩
      · rw [show fm - f = (fm - (f + 1)) + 1 by (first | lia | omega), List.getElem?_cons_succ]; exact e1
      · have z := Ctx.after (fit_run fa da) y rfl
        rw [show (hns a).length + (i - (hns a).length) = i by (first | lia | omega)] at z
        exact z
end L2

set_option Elab.async false
set_option linter.all false
set_option maxRecDepth 100000
namespace L2
open PySem
noncomputable def lenN (n : Nd) : Nat := (flatH (hns n)).length
noncomputable def lenL (ps : List Nd) : Nat := (flatH (hnsL ps)).length
theorem lenN_mk (k : Int) (p : Nat) (own : List Int) (ps : List Nd) : lenN (.mk k p own ps) = 1 + own.length + lenL ps := by
  unfold lenN lenL
  rw [hns_mk, flatH_cons, List.length_append]
  show (k :: own).length + _ = _
  rw [List.length_cons]; (first | lia | omega)
theorem lenL_cons (a : Nd) (r : List Nd) : lenL (a :: r) = lenN a + lenL r := by
  unfold lenN lenL
  rw [hnsL_cons, flatH_append, List.length_append]
theorem lenN_pos : ∀ n : Nd, 1 ≤ lenN n
  | .mk k p own ps => by rw [lenN_mk]; (first | lia | omega)
noncomputable abbrev popE (p : Nat) (B : List Nat) : List Nat := B.dropWhile fun e => decide (e ≤ p)
noncomputable def depF : List Nd → List Nat → Int → List (Nat × Int)
  | [], _, _ => []
  | nd :: r, B, f =>
    ((popE (plOf nd) B).length + 1, if (popE (plOf nd) B).isEmpty = true then f + 1 else f) :: depF r ((plOf nd + lenN nd) :: popE (plOf nd) B) (if (popE (plOf nd) B).isEmpty = true then f + 1 else f)
theorem depF_mk (k : Int) (q : Nat) (own : List Int) (ps r : List Nd) (B : List Nat) (f : Int) : depF (.mk k q own ps :: r) B f =
    ((popE q B).length + 1, if (popE q B).isEmpty = true then f + 1 else f) :: depF r ((q + lenN (.mk k q own ps)) :: popE q B) (if (popE q B).isEmpty = true then f + 1 else f) := rfl
noncomputable def outA (x : An) : Nat × Int := (x.2.1, (x.2.2 : Int))
theorem popE_cons_le {e p : Nat} {C : List Nat} (h : e ≤ p) : popE p (e :: C) = popE p C := by
  simp [popE, List.dropWhile_cons, h]
theorem popE_cons_gt {e p : Nat} {C : List Nat} (h : p < e) : popE p (e :: C) = e :: C := by
  simp [popE, List.dropWhile_cons, show ¬ e ≤ p by (first | lia | omega)]
theorem popE_all {p : Nat} {D : List Nat} (h : ∀ e ∈ D, p < e) : popE p D = D := by
  cases D with
  | nil => rfl
  | cons e D => exact popE_cons_gt (h e List.mem_cons_self)
mutual
theorem depF_N : ∀ {nd : Nd} {p : Nat} {B : List Nat} {f : Int} {g : Nat} {rest : List Nd}, PlN p nd → (∀ e ∈ popE p B, p + lenN nd ≤ e) → ((g : Nat) : Int) = (if (popE p B).isEmpty = true then f + 1 else f) →
    ∃ E, depF (pre nd ++ rest) B f = (annN ((popE p B).length + 1) g nd).map outA ++ depF rest E g ∧ ∀ p', p + lenN nd ≤ p' → popE p' E = popE p' (popE p B)
  | .mk k q own ps, p, B, f, g, rest, pl, hb, hg => by
    obtain ⟨e0, pl2⟩ := pl
    subst e0
    rw [lenN_mk] at hb
    obtain ⟨E, e1, e2⟩ := depF_L (p := q + 1 + own.length) (D := (q + lenN (.mk k q own ps)) :: popE q B) (B := (q + lenN (.mk k q own ps)) :: popE q B) (g := g) (rest := rest) pl2 (fun p' _ => rfl)
      (fun e he => by
        rw [lenN_mk] at he
        rcases List.mem_cons.mp he with z | z
        · (first | lia | omega)
        · have := hb e z; (first | lia | omega)) (fun z => nomatch z)
    refine ⟨E, ?_, fun p' hp => ?_⟩
    · rw [pre, annN, List.cons_append, List.map_cons, List.cons_append]
      rw [depF_mk, ← hg, e1] <;> rfl
    · rw [lenN_mk] at hp
      rw [e2 p' (by (first | lia | omega)), popE_cons_le (by rw [lenN_mk]; (first | lia | omega))]
theorem depF_L : ∀ {ps : List Nd} {p : Nat} {B D : List Nat} {g : Nat} {rest : List Nd}, PlL p ps → (∀ p', p ≤ p' → popE p' B = popE p' D) → (∀ e ∈ D, p + lenL ps ≤ e) → D ≠ [] →
    ∃ E, depF (preL ps ++ rest) B (g : Nat) = (annL (D.length + 1) g ps).map outA ++ depF rest E g ∧ ∀ p', p + lenL ps ≤ p' → popE p' E = popE p' D
  | [], p, B, D, g, rest, _, hB, _, _ => ⟨B, by rw [preL, annL] <;> rfl, fun p' hp => hB p' (by (first | lia | omega))⟩
  | a :: r, p, B, D, g, rest, pl, hB, hD, ne => by
    have la := lenN_pos a
    rw [lenL_cons] at hD
    have eD : popE p D = D := popE_all fun e he => by have := hD e he; (first | lia | omega)
    have eB : popE p B = D := (hB p (Nat.le_refl _)).trans eD
    obtain ⟨E1, e1, e2⟩ := depF_N (nd := a) (B := B) (f := (g : Int)) (g := g) (rest := preL r ++ rest) pl.1 (fun e he => by rw [eB] at he; have := hD e he; (first | lia | omega)) (by rw [eB, if_neg (fun z => ne (List.isEmpty_iff.mp z))])
    rw [eB] at e1 e2
    obtain ⟨E2, e3, e4⟩ := depF_L (ps := r) (p := p + lenN a) (B := E1) (D := D) (g := g) (rest := rest) pl.2 (fun p' hp => by rw [e2 p' hp, eD.symm.trans eD]) (fun e he => by have := hD e he; (first | lia | omega)) ne
    refine ⟨E2, ?_, fun p' hp => ?_⟩
    · rw [preL, annL, List.append_assoc, e1, e3, List.map_append, List.append_assoc]
    · rw [lenL_cons] at hp
      exact e4 p' (by (first | lia | omega))
end
theorem depF_B : ∀ {nds : List Nd} {p : Nat} {B : List Nat} {f : Int} {g : Nat}, PlB p nds → (∀ p', p ≤ p' → popE p' B = []) → ((g : Nat) : Int) = f + 1 → depF (preL nds) B f = (annB g nds).map outA
  | [], _, _, _, _, _, _, _ => by rw [preL, annB] <;> rfl
  | a :: r, p, B, f, g, pl, hB, hg => by
    have eB := hB p (Nat.le_refl _)
    obtain ⟨E, e1, e2⟩ := depF_N (nd := a) (B := B) (f := f) (g := g) (rest := preL r) pl.1 (fun e he => by rw [eB] at he; cases he) (by rw [eB]; exact hg)
    rw [eB] at e1 e2
    rw [preL, annB, e1, List.map_append, depF_B (nds := r) (g := g + 1) pl.2 (fun p' hp => e2 p' hp) (by (first | lia | omega))]
    rfl
theorem heads_good : ∀ {ns : List Int} {n : Nat} {most : Int} {p : Nat} {hs : Hds}, most ≤ 4 → headsM ns n most p = .ok hs → hs.length = n ∧ Sub ns p (flat hs) ∧ ∀ (i : Nat) (h : Int × Int), hs[i]? = some h → 0 ≤ h.1 ∧ h.1 ≤ 4 ∧ h.1 ≤ h.2 ∧ h.2 ≤ 12 ∧ (i = 0 → h.1 ≤ most)
  | ns, 0, _, _, _, _, e => by cases e; exact ⟨rfl, trivial, fun i h q => by simp at q⟩
  | ns, n + 1, most, p, hs, hm, e => by
    unfold headsM at e
    cases e1 : withinM ns p 0 most with
    | error b => rw [e1] at e; cases e
    | ok a =>
      rw [e1] at e; simp only at e
      cases e2 : withinM ns (p + 1) a 12 with
      | error b => rw [e2] at e; cases e
      | ok c =>
        rw [e2] at e; simp only at e
        cases e3 : headsM ns n 4 (p + 2) with
        | error b => rw [e3] at e; cases e
        | ok r =>
          rw [e3] at e; cases e
          obtain ⟨a1, a2, a3⟩ := withinM_ok e1
          obtain ⟨c1, c2, c3⟩ := withinM_ok e2
          obtain ⟨l, s, g⟩ := heads_good (Int.le_refl 4) e3
          refine ⟨by simp [l], ⟨a1, c1, s⟩, fun i h q => ?_⟩
          cases i with
          | zero => cases q; simp only; (first | lia | omega)
          | succ i =>
            have := g i h (by simpa using q)
            (first | lia | omega)
theorem sheet_shape {ns : List Int} {hs : Hds} {nds : List Nd} (h : functionsM ns = .ok (hs, nds)) : HdsGood hs ∧ HdsRead hs ∧ ns = sheetL hs (hnsL nds) ∧ FitB hs hs nds ∧ PlB (1 + 2 * hs.length) nds := by
  obtain ⟨h1, h2, h3⟩ := fns_ok h
  simp only at h1 h2 h3
  obtain ⟨f, pl, s, ez⟩ := bodies_fit h2
  have hh := h1
  unfold headsAllM at hh
  cases e1 : withinM ns 0 1 16 with
  | error b => rw [e1] at hh; cases hh
  | ok n =>
    rw [e1] at hh; simp only at hh
    obtain ⟨n1, n2, n3⟩ := withinM_ok e1
    obtain ⟨l, s0, g⟩ := heads_good (by decide) hh
    have good : HdsGood hs := ⟨by (first | lia | omega), by (first | lia | omega), fun i x q => by have := g i x q; (first | lia | omega)⟩
    have el : (hs.length : Int) = n := by (first | lia | omega)
    refine ⟨good, fun zs => ?_, ?_, f, pl⟩
    · have s1 := Sub.self ((hs.length : Int) :: (flat hs ++ zs))
      unfold headsAllM
      rw [withinM_at s1.1 (by (first | lia | omega)) (by (first | lia | omega))]
      simp only
      rw [Int.toNat_natCast]
      exact good.heads (Sub.append s1.2).1
    · have t1 := take_sub (Sub.join (xs := n :: flat hs) (ys := flatH (hnsL nds)) (p := 0) ⟨n1, s0⟩ (by rw [List.length_cons, flat_len, Nat.zero_add, Nat.add_comm]; exact s))
      rw [List.take_zero, List.nil_append, List.take_of_length_le (by rw [List.length_append, List.length_cons, flat_len]; (first | lia | omega))] at t1
      rw [t1]
      unfold sheetL
      rw [el, List.cons_append]
end L2

set_option Elab.async false
set_option linter.all false
set_option maxRecDepth 100000
namespace L2
open PySem
theorem Run.det {hs : Hds} {S S1 : Stk} {xs : List Hn} (h : Run hs S xs S1) : ∀ {S2 : Stk}, Run hs S xs S2 → S1 = S2 := by
  induction h with
  | nil => intro S2 g; cases g; rfl
  | cons k0 k1 f _ ih =>
    intro S2 g
    cases g with
    | cons _ _ _ g => exact ih g
theorem Run.split {hs : Hds} : ∀ {xs ys : List Hn} {S S2 : Stk}, Run hs S (xs ++ ys) S2 → ∃ S1, Run hs S xs S1 ∧ Run hs S1 ys S2
  | [], ys, S, S2, h => ⟨S, .nil, h⟩
  | x :: xs, ys, S, S2, h => by
    cases h with
    | cons k0 k1 f h =>
      obtain ⟨S1, a, b⟩ := Run.split h
      exact ⟨S1, .cons k0 k1 f a, b⟩
theorem hns_ne (n : Nd) : hns n ≠ [] := by
  cases n with
  | mk k p own ps => rw [hns_mk]; exact fun z => nomatch z
mutual
theorem prefN {hs : Hds} {b : Int} : ∀ {nd : Nd} {D : Nat} {r S : Stk} {P P' : List Hn}, FitN hs b nd → depN nd ≤ D → hns nd = P ++ P' → P' ≠ [] → Run hs ((D, b) :: r) P S → ∃ S', S' ≠ [] ∧ S = S' ++ r
  | .mk k p own ps, D, r, S, [], P', _, _, _, _, h => by
    cases h
    exact ⟨[(D, b)], (fun z => nomatch z), rfl⟩
  | .mk k p own ps, 0, r, S, x :: P, P', _, hd, _, _, _ => absurd hd (by simp only [depN]; (first | lia | omega))
  | .mk k p own ps, D + 1, r, S, x :: P, P', ⟨k0, k1, f, l, g⟩, hd, e, ne, h => by
    rw [hns_mk, List.cons_append] at e
    injection e with e1 e2
    subst e1
    cases h with
    | cons _ _ _ h =>
      rw [rep_due l] at h
      exact prefL g (show depL ps ≤ D by simp only [depN] at hd; (first | lia | omega)) e2 ne h
theorem prefL {hs : Hds} {b : Int} : ∀ {ps : List Nd} {D : Nat} {r S : Stk} {P P' : List Hn}, FitL hs b ps → depL ps ≤ D → hnsL ps = P ++ P' → P' ≠ [] → Run hs ((ps.map fun _ => (D, b)) ++ r) P S → ∃ S', S' ≠ [] ∧ S = S' ++ r
  | [], D, r, S, P, P', _, _, e, ne, _ => by
    have : P ++ P' = [] := e.symm
    exact absurd (List.append_eq_nil_iff.mp this).2 ne
  | a :: ps, D, r, S, P, P', ⟨fa, fs⟩, hd, e, ne, h => by
    simp only [depL] at hd
    rw [hnsL_cons] at e
    rcases List.append_eq_append_iff.mp e with ⟨c, e1, e2⟩ | ⟨c, e1, e2⟩
    · subst e1
      obtain ⟨S1, r1, r2⟩ := Run.split h
      have := r1.det (fit_run (r := (ps.map fun _ => (D, b)) ++ r) fa (show depN a ≤ D by (first | lia | omega)))
      subst this
      exact prefL fs (by (first | lia | omega)) e2 ne r2
    · by_cases z : c = []
      · subst z
        rw [List.append_nil] at e1
        rw [List.nil_append] at e2
        subst e1
        have := h.det (fit_run (r := (ps.map fun _ => (D, b)) ++ r) fa (show depN a ≤ D by (first | lia | omega)))
        subst this
        cases ps with
        | nil => exact absurd e2 (by rw [show hnsL [] = ([] : List Hn) from rfl]; exact ne)
        | cons q ps => exact ⟨((q :: ps).map fun _ => (D, b)), (fun z => nomatch z), rfl⟩
      · obtain ⟨S', s1, s2⟩ := prefN (r := (ps.map fun _ => (D, b)) ++ r) fa (show depN a ≤ D by (first | lia | omega)) e1 z h
        exact ⟨S' ++ ps.map fun _ => (D, b), (fun q => s1 (List.append_eq_nil_iff.mp q).1), by rw [s2, List.append_assoc]⟩
end
theorem one_node {hs : Hds} {b : Int} {e : Nat} {r : Stk} {m m2 : Nd} {Y Y2 : List Hn} (f : FitN hs b m) (d : depN m ≤ e) (f2 : FitN hs b m2) (d2 : depN m2 ≤ e) (h : hns m ++ Y = hns m2 ++ Y2) : hns m = hns m2 ∧ Y = Y2 := by
  have key : ∀ {m m2 : Nd} {Y Y2 : List Hn}, FitN hs b m → depN m ≤ e → FitN hs b m2 → depN m2 ≤ e → hns m ++ Y = hns m2 ++ Y2 → ¬ (hns m2).length < (hns m).length := fun {m m2 Y Y2} f d f2 d2 h lt => by
    rcases List.append_eq_append_iff.mp h with ⟨c, e1, e2⟩ | ⟨c, e1, e2⟩
    · have := congrArg List.length e1
      rw [List.length_append] at this
      (first | lia | omega)
    · have nc : c ≠ [] := fun z => by
        rw [z, List.append_nil] at e1
        rw [e1] at lt
        (first | lia | omega)
      obtain ⟨S', s1, s2⟩ := prefN (r := r) f d e1 nc (fit_run (r := r) f2 d2)
      have := congrArg List.length s2
      rw [List.length_append] at this
      have : S'.length = 0 := by (first | lia | omega)
      exact s1 (List.eq_nil_of_length_eq_zero this)
  have l : (hns m).length = (hns m2).length := by
    have a := key f d f2 d2 h
    have b := key f2 d2 f d h.symm
    (first | lia | omega)
  exact List.append_inj h l
theorem take_hns {X Z : List Hn} {i : Nat} (h : X.length = i) : (X ++ Z).take i = X := by rw [← h, List.take_left']; rfl
structure Swapped (hs : Hds) (nds : List Nd) (i : Nat) (m m' : Nd) (e : Nat) (X Y : List Hn) : Prop where
  was : hnsL nds = X ++ (hns m ++ Y)
  len : X.length = i
  place : plOf m = 1 + 2 * hs.length + (flatH X).length
  res : (depN m' ≤ e ∧ ∃ nds', functionsM (sheetL hs (X ++ (hns m' ++ Y))) = .ok (hs, nds') ∧ hnsL nds' = X ++ (hns m' ++ Y) ∧ ∃ m2, (preL nds')[i]? = some m2 ∧ hns m2 = hns m' ∧ plOf m2 = plOf m) ∨ (e < depN m' ∧ ∃ q, functionsM (sheetL hs (X ++ (hns m' ++ Y))) = .error (q, "deep"))
theorem swapped {ns : List Int} {hs : Hds} {nds : List Nd} {i dm fm : Nat} {m m' : Nd} {h : Int × Int} (ok : functionsM ns = .ok (hs, nds)) (an : (annB 0 nds)[i]? = some (m, dm, fm)) (hh : hs[fm]? = some h) (f : FitN hs h.2 m') :
    ∃ e X Y, e + dm = 11 ∧ FitN hs h.2 m ∧ Swapped hs nds i m m' e X Y := by
  obtain ⟨g, gr, en, fb, pb⟩ := sheet_shape ok
  obtain ⟨_, h0, e, e1, e2, c⟩ := ctxB fb pb an
  rw [Nat.sub_zero, hh] at e1
  cases e1
  obtain ⟨X, Y, r, w1, w2, w3, w4, w5⟩ := c.ex
  refine ⟨e, X, Y, e2, c.fit, ⟨w1, w2, w5, ?_⟩⟩
  by_cases hd : depN m' ≤ e
  · refine .inl ⟨hd, ?_⟩
    obtain ⟨nds', ok', hn'⟩ := fns_of_run gr (w3.append ((fit_run f hd).append w4))
    refine ⟨nds', ok', hn', ?_⟩
    have li : i < (annB 0 nds').length := by
      have l1 : (annB 0 nds').length = (hnsL nds').length := by
        unfold hnsL
        rw [← annB_pre nds' 0, List.length_map, List.length_map]
      rw [l1, hn', List.length_append, List.length_append, w2]
      have := List.length_pos_iff.mpr (hns_ne m')
      (first | lia | omega)
    obtain ⟨⟨m2, d2, f2⟩, a2⟩ : ∃ x, (annB 0 nds')[i]? = some x := ⟨_, List.getElem?_eq_getElem li⟩
    obtain ⟨_, _, _, fb', pb'⟩ := sheet_shape ok'
    obtain ⟨_, h2, e3, q1, q2, c2⟩ := ctxB fb' pb' a2
    obtain ⟨X2, Y2, r2, x1, x2, x3, x4, x5⟩ := c2.ex
    have ex : X2 = X := by
      have t1 := congrArg (List.take i) (hn'.symm.trans x1)
      rw [take_hns w2, take_hns x2] at t1
      exact t1.symm
    subst ex
    have es := w3.det x3
    injection es with es1 es2
    injection es1 with es3 es4
    have fit2 := c2.fit
    have dep2 := c2.dep
    rw [← es4] at fit2
    rw [← es3] at dep2
    have eq := List.append_cancel_left (hn'.symm.trans x1)
    obtain ⟨u1, u2⟩ := one_node (r := r) f hd fit2 dep2 eq
    refine ⟨m2, ?_, u1.symm, by rw [x5, w5]⟩
    rw [← annB_pre nds' 0, List.getElem?_map, a2] <;> rfl
  · obtain ⟨U, V, r', eu, hu⟩ := fit_deep (r := r) f (show e < depN m' by (first | lia | omega))
    refine .inr ⟨by (first | lia | omega), ?_⟩
    rw [eu, List.append_assoc, ← List.append_assoc]
    exact fns_of_deep gr (w3.append hu)
theorem put_list {hs : Hds} {X Y : List Hn} {A B : List Hn} {p : Nat} (hp : p = 1 + 2 * hs.length + (flatH X).length) : (sheetL hs (X ++ (A ++ Y))).take p ++ flatH B ++ (sheetL hs (X ++ (A ++ Y))).drop (p + (flatH A).length) = sheetL hs (X ++ (B ++ Y)) := by
  have e : ∀ C : List Hn, sheetL hs (X ++ (C ++ Y)) = ((hs.length : Int) :: (flat hs ++ flatH X)) ++ (flatH C ++ flatH Y) := fun C => by
    unfold sheetL
    rw [flatH_append, flatH_append, List.cons_append, List.append_assoc]
  have l : ((hs.length : Int) :: (flat hs ++ flatH X)).length = p := by
    rw [List.length_cons, List.length_append, flat_len, hp]; (first | lia | omega)
  rw [e A, e B, ← l, List.take_left', List.append_assoc, List.drop_append]
  · have : ((hs.length : Int) :: (flat hs ++ flatH X)).length + (flatH A).length - ((hs.length : Int) :: (flat hs ++ flatH X)).length = (flatH A).length := by (first | lia | omega)
    rw [this, List.drop_of_length_le (by (first | lia | omega)), List.nil_append, List.drop_left']
    rfl
  · rfl
theorem cut_list {hs : Hds} {X Y A : List Hn} {p : Nat} (hp : p = 1 + 2 * hs.length + (flatH X).length) : ((sheetL hs (X ++ (A ++ Y))).drop p).take (flatH A).length = flatH A := by
  have e : sheetL hs (X ++ (A ++ Y)) = ((hs.length : Int) :: (flat hs ++ flatH X)) ++ (flatH A ++ flatH Y) := by
    unfold sheetL
    rw [flatH_append, flatH_append, List.cons_append, List.append_assoc]
  have l : ((hs.length : Int) :: (flat hs ++ flatH X)).length = p := by
    rw [List.length_cons, List.length_append, flat_len, hp]; (first | lia | omega)
  rw [e, ← l, List.drop_left', List.take_left']
  · rfl
  · rfl
theorem flatH_ge : ∀ xs : List Hn, xs.length ≤ (flatH xs).length
  | [] => Nat.zero_le _
  | x :: xs => by
    have := flatH_ge xs
    rw [flatH_cons, List.length_append, List.length_cons, List.length_cons]; (first | lia | omega)
theorem place_at {ns : List Int} {hs : Hds} {nds : List Nd} (ok : functionsM ns = .ok (hs, nds)) {j : Nat} {n : Nd} (h : (preL nds)[j]? = some n) : plOf n = 1 + 2 * hs.length + (flatH ((hnsL nds).take j)).length := by
  obtain ⟨_, _, _, fb, pb⟩ := sheet_shape ok
  rw [← annB_pre nds 0, List.getElem?_map] at h
  cases e : (annB 0 nds)[j]? with
  | none => rw [e] at h; cases h
  | some x =>
    obtain ⟨n', d, f⟩ := x
    rw [e] at h
    cases h
    obtain ⟨_, _, _, _, _, c⟩ := ctxB fb pb e
    obtain ⟨X, Y, r, w1, w2, _, _, w5⟩ := c.ex
    rw [w5, w1, take_hns w2]
theorem inner_count {ns : List Int} {hs : Hds} {nds : List Nd} {i : Nat} {m : Nd} {X Y : List Hn} (ok : functionsM ns = .ok (hs, nds)) (w1 : hnsL nds = X ++ (hns m ++ Y)) (w2 : X.length = i) (w5 : plOf m = 1 + 2 * hs.length + (flatH X).length) :
    (preL nds).countP (fun n => decide (plOf m ≤ plOf n) && decide (plOf n < plOf m + lenN m)) = (hns m).length := by
  have lp : (preL nds).length = i + (hns m).length + Y.length := by
    have : (hnsL nds).length = (preL nds).length := by unfold hnsL; rw [List.length_map]
    rw [← this, w1, List.length_append, List.length_append, w2]; (first | lia | omega)
  have spl : preL nds = (preL nds).take i ++ (((preL nds).drop i).take (hns m).length ++ ((preL nds).drop i).drop (hns m).length) := by
    rw [List.take_append_drop, List.take_append_drop]
  have c1 : ((preL nds).take i).countP (fun n => decide (plOf m ≤ plOf n) && decide (plOf n < plOf m + lenN m)) = 0 := by
    rw [List.countP_eq_zero]
    intro n hn
    obtain ⟨j, hj⟩ := List.mem_iff_getElem?.mp hn
    have lj : j < i := by
      have := (List.getElem?_eq_some_iff.mp hj).1
      rw [List.length_take] at this; (first | lia | omega)
    rw [List.getElem?_take_of_lt lj] at hj
    have pl := place_at ok hj
    rw [w1] at pl
    have e : (X ++ (hns m ++ Y)).take j = X.take j := by rw [List.take_append_of_le_length (by (first | lia | omega))]
    rw [e] at pl
    have : (flatH X).length = (flatH (X.take j)).length + (flatH (X.drop j)).length := by
      rw [← List.length_append, ← flatH_append, List.take_append_drop]
    have g := flatH_ge (X.drop j)
    rw [List.length_drop] at g
    rw [decide_eq_false (by (first | lia | omega))]
    exact Bool.false_ne_true
  have c2 : (((preL nds).drop i).take (hns m).length).countP (fun n => decide (plOf m ≤ plOf n) && decide (plOf n < plOf m + lenN m)) = (hns m).length := by
    have ll : (((preL nds).drop i).take (hns m).length).length = (hns m).length := by
      rw [List.length_take, List.length_drop, lp]; (first | lia | omega)
    refine (List.countP_eq_length.mpr ?_).trans ll
    intro n hn
    obtain ⟨j, hj⟩ := List.mem_iff_getElem?.mp hn
    have lj : j < (hns m).length := by
      have := (List.getElem?_eq_some_iff.mp hj).1
      rw [ll] at this; exact this
    rw [List.getElem?_take_of_lt lj, List.getElem?_drop] at hj
    have pl := place_at ok hj
    have e : (X ++ (hns m ++ Y)).take (i + j) = X ++ (hns m).take j := by
      rw [← w2, List.take_length_add_append, List.take_append_of_le_length (by (first | lia | omega))]
    rw [w1, e, flatH_append, List.length_append] at pl
    have : lenN m = (flatH ((hns m).take j)).length + (flatH ((hns m).drop j)).length := by
      unfold lenN
      rw [← List.length_append, ← flatH_append, List.take_append_drop]
    have g := flatH_ge ((hns m).drop j)
    rw [List.length_drop] at g
    rw [decide_eq_true (by (first | lia | omega)), decide_eq_true (by (first | lia | omega))]
    rfl
  have c3 : (((preL nds).drop i).drop (hns m).length).countP (fun n => decide (plOf m ≤ plOf n) && decide (plOf n < plOf m + lenN m)) = 0 := by
    rw [List.countP_eq_zero]
    intro n hn
    obtain ⟨j, hj⟩ := List.mem_iff_getElem?.mp hn
    rw [List.getElem?_drop, List.getElem?_drop] at hj
    have pl := place_at ok hj
    have e : (X ++ (hns m ++ Y)).take (i + ((hns m).length + j)) = X ++ (hns m ++ Y.take j) := by
      rw [← w2, List.take_length_add_append, List.take_length_add_append]
    rw [w1, e, flatH_append, flatH_append, List.length_append, List.length_append] at pl
    have : lenN m = (flatH (hns m)).length := rfl
    rw [decide_eq_false (show ¬ plOf n < plOf m + lenN m by (first | lia | omega)), Bool.and_false]
    exact Bool.false_ne_true
  rw [spl, List.countP_append, List.countP_append, c1, c2, c3]
  (first | lia | omega)
end L2









set_option Elab.async false
set_option linter.all false
set_option maxRecDepth 100000
namespace OcL
open PySem L2
noncomputable def top (i : Nat) : Stmt := PySem.Challenge.pw_ownchain_k07_whole_parts_exchanged.main.body.getD i (.Pass ⟨0, 0, 0, 0⟩)
noncomputable abbrev s_NoSheet___init__ : Stmt := inClass (top 2) 0
theorem sc_NoSheet___init__ : FnScope ["self", "place", "word"] ["self", "place", "word"] (defScope s_NoSheet___init__) := ⟨rfl, rfl, rfl, by decide +kernel, rfl, by decide +kernel, by decide +kernel⟩
noncomputable abbrev s_parts_of : Stmt := top 14
theorem sc_parts_of : FnScope ["kind"] ["kind"] (defScope s_parts_of) := ⟨rfl, rfl, rfl, by decide +kernel, rfl, by decide +kernel, by decide +kernel⟩
noncomputable abbrev s_is_whole : Stmt := top 23
theorem sc_is_whole : FnScope ["thing"] ["thing"] (defScope s_is_whole) := ⟨rfl, rfl, rfl, by decide +kernel, rfl, by decide +kernel, by decide +kernel⟩
noncomputable abbrev s_Look___init__ : Stmt := inClass (top 24) 0
theorem sc_Look___init__ : FnScope ["self", "numbers"] ["self", "numbers"] (defScope s_Look___init__) := ⟨rfl, rfl, rfl, by decide +kernel, rfl, by decide +kernel, by decide +kernel⟩
noncomputable abbrev s_Look_take : Stmt := inClass (top 24) 1
theorem sc_Look_take : FnScope ["self", "number"] ["self"] (defScope s_Look_take) := ⟨rfl, rfl, rfl, by decide +kernel, rfl, by decide +kernel, by decide +kernel⟩
noncomputable abbrev s_Look_take_within : Stmt := inClass (top 24) 2
theorem sc_Look_take_within : FnScope ["self", "least", "most", "place", "number"] ["self", "least", "most"] (defScope s_Look_take_within) := ⟨rfl, rfl, rfl, by decide +kernel, rfl, by decide +kernel, by decide +kernel⟩
noncomputable abbrev s_take_heads : Stmt := top 25
theorem sc_take_heads : FnScope ["look", "heads", "most_params", "function", "params"] ["look"] (defScope s_take_heads) := ⟨rfl, rfl, rfl, by decide +kernel, rfl, by decide +kernel, by decide +kernel⟩
noncomputable abbrev s_take_own : Stmt := top 26
theorem sc_take_own : FnScope ["look", "kind", "heads", "boxes"] ["look", "kind", "heads", "boxes"] (defScope s_take_own) := ⟨rfl, rfl, rfl, by decide +kernel, rfl, by decide +kernel, by decide +kernel⟩
noncomputable abbrev s_parts_due : Stmt := top 27
theorem sc_parts_due : FnScope ["kind", "numbers", "heads"] ["kind", "numbers", "heads"] (defScope s_parts_due) := ⟨rfl, rfl, rfl, by decide +kernel, rfl, by decide +kernel, by decide +kernel⟩
noncomputable abbrev s_take_node : Stmt := top 28
theorem sc_take_node : FnScope ["look", "heads", "boxes", "deep", "place", "kind", "numbers", "parts", "part"] ["look", "heads", "boxes", "deep"] (defScope s_take_node) := ⟨rfl, rfl, rfl, by decide +kernel, rfl, by decide +kernel, by decide +kernel⟩
noncomputable abbrev s_functions : Stmt := top 29
theorem sc_functions : FnScope ["sheet", "look", "heads", "told", "params", "boxes"] ["sheet"] (defScope s_functions) := ⟨rfl, rfl, rfl, by decide +kernel, rfl, by decide +kernel, by decide +kernel⟩
noncomputable abbrev s_wrong : Stmt := top 30
theorem sc_wrong : FnScope ["numbers", "e"] ["numbers"] (defScope s_wrong) := ⟨rfl, rfl, rfl, by decide +kernel, rfl, by decide +kernel, by decide +kernel⟩
noncomputable abbrev s_nodes_in : Stmt := top 31
theorem sc_nodes_in : FnScope ["body", "told", "waiting", "node", "part"] ["body"] (defScope s_nodes_in) := ⟨rfl, rfl, rfl, by decide +kernel, rfl, by decide +kernel, by decide +kernel⟩
noncomputable abbrev s_nodes : Stmt := top 32
theorem sc_nodes : FnScope ["sheet", "told", "params", "boxes", "body"] ["sheet"] (defScope s_nodes) := ⟨rfl, rfl, rfl, by decide +kernel, rfl, by decide +kernel, by decide +kernel⟩
noncomputable abbrev s__law_mixed : Stmt := top 34
theorem sc__law_mixed : FnScope ["_law_cell", "_law_k", "_law_one", "_law_two"] ["_law_cell", "_law_k"] (defScope s__law_mixed) := ⟨rfl, rfl, rfl, by decide +kernel, rfl, by decide +kernel, by decide +kernel⟩
noncomputable abbrev s__law_take : Stmt := top 35
theorem sc__law_take : FnScope ["_law_state", "_law_many_here", "_law_script", "_law_k", "_law_cell", "_law_found"] ["_law_state", "_law_many_here"] (defScope s__law_take) := ⟨rfl, rfl, rfl, by decide +kernel, rfl, by decide +kernel, by decide +kernel⟩
noncomputable abbrev s__law_heads : Stmt := top 36
theorem sc__law_heads : FnScope ["_law_state", "_law_many_here", "_law_heads_here", "_law_k", "_law_params"] ["_law_state"] (defScope s__law_heads) := ⟨rfl, rfl, rfl, by decide +kernel, rfl, by decide +kernel, by decide +kernel⟩
noncomputable abbrev s__law_number : Stmt := top 37
theorem sc__law_number : FnScope ["_law_state", "_law_way"] ["_law_state"] (defScope s__law_number) := ⟨rfl, rfl, rfl, by decide +kernel, rfl, by decide +kernel, by decide +kernel⟩
noncomputable abbrev s__law_leaf : Stmt := top 38
theorem sc__law_leaf : FnScope ["_law_state", "_law_boxes", "_law_way"] ["_law_state", "_law_boxes"] (defScope s__law_leaf) := ⟨rfl, rfl, rfl, by decide +kernel, rfl, by decide +kernel, by decide +kernel⟩
noncomputable abbrev s__law_head : Stmt := top 39
theorem sc__law_head : FnScope ["_law_state", "_law_heads_here", "_law_boxes", "_law_kind", "_law_many_here", "_law_function"] ["_law_state", "_law_heads_here", "_law_boxes"] (defScope s__law_head) := ⟨rfl, rfl, rfl, by decide +kernel, rfl, by decide +kernel, by decide +kernel⟩
noncomputable abbrev s__law_node : Stmt := top 40
theorem sc__law_node : FnScope ["_law_state", "_law_heads_here", "_law_boxes", "_law_deep", "_law_room", "_law_found", "_law_many_here", "_law_part"] ["_law_state", "_law_heads_here", "_law_boxes", "_law_deep", "_law_room"] (defScope s__law_node) := ⟨rfl, rfl, rfl, by decide +kernel, rfl, by decide +kernel, by decide +kernel⟩
noncomputable abbrev s__law_sheet : Stmt := top 41
theorem sc__law_sheet : FnScope ["_law_state", "_law_most", "_law_heads_here", "_law_found", "_law_params", "_law_boxes"] ["_law_state", "_law_most"] (defScope s__law_sheet) := ⟨rfl, rfl, rfl, by decide +kernel, rfl, by decide +kernel, by decide +kernel⟩
noncomputable abbrev s__law_sheet_with : Stmt := top 42
theorem sc__law_sheet_with : FnScope ["_law_state", "_law_heads_here", "_law_most", "_law_found", "_law_params", "_law_boxes"] ["_law_state", "_law_heads_here", "_law_most"] (defScope s__law_sheet_with) := ⟨rfl, rfl, rfl, by decide +kernel, rfl, by decide +kernel, by decide +kernel⟩
noncomputable abbrev s__law_many : Stmt := top 43
theorem sc__law_many : FnScope ["_law_node_here", "_law_found", "_law_wait", "_law_one"] ["_law_node_here"] (defScope s__law_many) := ⟨rfl, rfl, rfl, by decide +kernel, rfl, by decide +kernel, by decide +kernel⟩
noncomputable abbrev s__law_depth : Stmt := top 44
theorem sc__law_depth : FnScope ["_law_node_here", "_law_deep", "_law_wait", "_law_one", "_law_here"] ["_law_node_here"] (defScope s__law_depth) := ⟨rfl, rfl, rfl, by decide +kernel, rfl, by decide +kernel, by decide +kernel⟩
noncomputable abbrev s__law_depths : Stmt := top 45
theorem sc__law_depths : FnScope ["_law_some", "_law_found", "_law_behind", "_law_function", "_law_node_here"] ["_law_some"] (defScope s__law_depths) := ⟨rfl, rfl, rfl, by decide +kernel, rfl, by decide +kernel, by decide +kernel⟩
noncomputable abbrev s__law_in_function : Stmt := top 46
theorem sc__law_in_function : FnScope ["_law_depths_here", "_law_function"] ["_law_depths_here", "_law_function"] (defScope s__law_in_function) := ⟨rfl, rfl, rfl, by decide +kernel, rfl, by decide +kernel, by decide +kernel⟩
noncomputable abbrev s__law_heads_of : Stmt := top 47
theorem sc__law_heads_of : FnScope ["_law_sheet_here"] ["_law_sheet_here"] (defScope s__law_heads_of) := ⟨rfl, rfl, rfl, by decide +kernel, rfl, by decide +kernel, by decide +kernel⟩
noncomputable abbrev s__law_put : Stmt := top 48
theorem sc__law_put : FnScope ["_law_sheet_here", "_law_node_here", "_law_numbers", "_law_behind"] ["_law_sheet_here", "_law_node_here", "_law_numbers"] (defScope s__law_put) := ⟨rfl, rfl, rfl, by decide +kernel, rfl, by decide +kernel, by decide +kernel⟩
noncomputable abbrev s__law_all_bare : Stmt := top 49
theorem sc__law_all_bare : FnScope ["_law_some"] ["_law_some"] (defScope s__law_all_bare) := ⟨rfl, rfl, rfl, by decide +kernel, rfl, by decide +kernel, by decide +kernel⟩
noncomputable abbrev s__law_exchanged : Stmt := top 50
theorem sc__law_exchanged : FnScope ["_law_sheet_here", "_law_some", "_law_at", "_law_numbers", "_law_deep", "_law_node_here", "_law_here", "_law_new", "_law_found", "_law_end", "_law_inner", "_law_told", "_law_left", "_law_later", "_law_before"] ["_law_sheet_here", "_law_some", "_law_at", "_law_numbers", "_law_deep"] (defScope s__law_exchanged) := ⟨rfl, rfl, rfl, by decide +kernel, rfl, by decide +kernel, by decide +kernel⟩
noncomputable abbrev s_law : Stmt := top 51
theorem sc_law : FnScope ["_law_script", "_law_state", "_law_sheet_here", "_law_heads_here", "_law_other", "_law_some", "_law_others", "_law_mine", "_law_yours", "_law_turn", "_law_at", "_law_fitting", "_law_node_here", "_law_numbers", "_law_own", "_law_deep"] ["_law_script"] (defScope s_law) := ⟨rfl, rfl, rfl, by decide +kernel, rfl, by decide +kernel, by decide +kernel⟩
structure Txt (K : PySem.W.Frag) (mg : Str → Option Value) (aP CL CN : Addr) : Prop where
  n_len : mg "len" = none
  n_abs : mg "abs" = none
  n_range : mg "range" = none
  n_isinstance : mg "isinstance" = none
  n_int : mg "int" = none
  n_bool : mg "bool" = none
  n_list : mg "list" = none
  n_tuple : mg "tuple" = none
  m_NUMBER : GInt mg "NUMBER" 0
  m_GET : GInt mg "GET" 1
  m_SET : GInt mg "SET" 2
  m_ALL : GInt mg "ALL" 3
  m_PICK : GInt mg "PICK" 4
  m_LOOP : GInt mg "LOOP" 5
  m_CALL : GInt mg "CALL" 6
  m_FAIL : GInt mg "FAIL" 7
  m_NEW : GInt mg "NEW" 19
  m_MOST_FUNCTIONS : GInt mg "MOST_FUNCTIONS" 16
  m_MOST_PARAMS : GInt mg "MOST_PARAMS" 4
  m_MOST_BOXES : GInt mg "MOST_BOXES" 12
  m_MOST_DEEP : GInt mg "MOST_DEEP" 10
  m_MOST_MANY : GInt mg "MOST_MANY" 12
  m_LEAST_ALL : GInt mg "LEAST_ALL" 1
  m_LEAST_PICK : GInt mg "LEAST_PICK" 2
  m_PARTS : mg "PARTS" = some (.ref aP)
  m_NoSheet : mg "NoSheet" = some (.ref CN)
  parts : ∀ H, SqT K H aP (partsN.map V.int)
  kint : PySem.W.kitOne K (.type "int") (.type "int") = some true
  kbool : PySem.W.kitOne K (.type "int") (.type "bool") = some false
  klist : PySem.W.kitOne K (.type "list") (.type "list") = some true
  ktup : PySem.W.kitOne K (.type "tuple") (.type "tuple") = some true
  look : Cls K CL
  lnum : NoAttr K CL "numbers"
  lplace : NoAttr K CL "place"
  exc : ExCls K CN
  xplace : NoAttr K CN "place"
  xword : NoAttr K CN "word"
  mch : Mch K CN CN

section
variable {P : Program} {w : World} {K : PySem.W.Frag} {mg : Str → Option Value} {base : Heap} {f : Addr} {fd : FuncData} {aP CL CN : Addr}
set_option maxHeartbeats 4000000

theorem ok_initX (T : Txt K mg aP CL CN) (F : Fun K "__init__" "NoSheet.__init__" s_NoSheet___init__ f fd) : FnOk P w K mg base (CXE P w) 1 f fd ["self", "place", "word"] (spInitX CN) := by
  refine F.okN sc_NoSheet___init__ (fun vs H Q E h => ?_) (fun cdv A outer s H vs Q E hr h => ?_)
  · obtain ⟨x, y, z, rfl, _⟩ := h
    rfl
  obtain ⟨x, y, z, rfl, hx, q⟩ := h
  refine ⟨_, (pss_cons (ps_fldX (pv 0) (pv 1))
      (pss_one (ps_fldX (pv 0) (pv 2)))), ?_⟩
  try dsimp only [Cx.nox, Cx.exc, Cx.wish, cxOf_K]
  refine ⟨_, rfl, _, rfl, x, CN, none, rfl, hx, T.exc, T.xplace, .inl ⟨rfl, fun d hd => ?_⟩⟩
  have nd : d ≠ x := fun e => by rw [e, hx] at hd; cases hd
  refine ⟨_, rfl, _, rfl, x, CN, some d, rfl, upd_same, T.exc, T.xword, .inr ⟨d, [("place", y)], rfl, by rw [upd_ne nd]; exact upd_same, (show 1 < 1000 by decide), ?_⟩⟩
  refine q d _ nd hd (fun b o nb e => ?_) ?_ upd_same
  · rw [upd_ne (ne_of_none e hd), upd_ne nb, upd_ne (ne_of_none e hd)]; exact e
  · rw [upd_ne (Ne.symm nd)]; exact upd_same
theorem ok_initL (T : Txt K mg aP CL CN) (F : Fun K "__init__" "Look.__init__" s_Look___init__ f fd) : FnOk P w K mg base (CXE P w) 1 f fd ["self", "numbers"] (spInitL CL) := by
  refine F.okN sc_Look___init__ (fun vs H Q E h => ?_) (fun cdv A outer s H vs Q E hr h => ?_)
  · obtain ⟨x, dx, a, rfl, _⟩ := h
    rfl
  obtain ⟨x, dx, a, rfl, hx, q⟩ := h
  refine ⟨_, (pss_cons (ps_fld (pv 0) (pv 1) rfl)
      (pss_one (ps_fld (pv 0) pe_int rfl))), ?_⟩
  try dsimp only [Cx.nox, Cx.exc, Cx.wish, cxOf_K]
  refine ⟨_, rfl, _, rfl, x, CL, dx, _, rfl, hx, T.look, T.lnum, (show 0 < 1000 by decide), ?_⟩
  refine ⟨_, rfl, x, CL, dx, _, rfl, upd_same, T.look, T.lplace, (show 1 < 1000 by decide), ?_⟩
  refine q _ (fun b o nb e => ?_) upd_same
  rw [upd_ne nb, upd_ne nb]; exact e
theorem ok_whole (T : Txt K mg aP CL CN) (F : Fun K "is_whole" "is_whole" s_is_whole f fd) : FnOk P w K mg base (CXE P w) 1 f fd ["thing"] spWhole := by
  refine F.okN sc_is_whole (fun vs H Q E h => ?_) (fun cdv A outer s H vs Q E hr h => ?_)
  · obtain ⟨i, rfl, _⟩ := h
    rfl
  obtain ⟨i, rfl, q⟩ := h
  refine ⟨_, (pss_one (ps_ret (pe_and (pe_callB call_isi rfl T.n_isinstance bt_isinstance (pa_cons (pv 0) (pa_cons (pe_bltn (v := .ty "int") rfl T.n_int bt_int rfl) pa_nil))) (pe_one (pe_not (pe_callB call_isi rfl T.n_isinstance bt_isinstance (pa_cons (pv 0) (pa_cons (pe_bltn (v := .ty "bool") rfl T.n_bool bt_bool rfl) pa_nil)))))))), ?_⟩
  try dsimp only [Cx.nox, Cx.exc, Cx.wish, cxOf_K]
  refine ⟨_, rfl, .inl ⟨_, _, _, true, rfl, .int i, T.kint, _, rfl, iteT ?_⟩⟩
  exact ⟨_, rfl, .inl ⟨_, _, _, false, rfl, .int i, T.kbool, _, rfl, q⟩⟩
noncomputable def LookP (p : Nat) (a : Addr) : List (Str × V) := [("numbers", .ref a), ("place", .int p)]
theorem ok_tk (T : Txt K mg aP CL CN) (F : Fun K "take" "Look.take" s_Look_take f fd) (Cis_whole : Cal P w K mg base (CXE P w) 1 "is_whole" ["thing"] spWhole) (CNoSheet : CalX P w K mg base 1 "NoSheet" CN ["self", "place", "word"] (spInitX CN)) :
    FnOk P w K mg base (CXE P w) 3 f fd ["self"] (spTk CL CN) := by
  refine F.okX sc_Look_take (fun vs H Q E h => ?_) (fun cdv A outer s H vs Q E hr h => ?_)
  · obtain ⟨lk, dx, a, p, ns, rfl, _⟩ := h
    rfl
  obtain ⟨lk, dx, a, p, ns, rfl, ⟨hl, ha⟩, t1, t2⟩ := h
  refine ⟨_, (pss_cons (ps_if (pt_cmpR op_ge (pe_fld (pv 0) rfl) (pe_callB call_len_seq rfl T.n_len bt_len (pa_cons (pe_fld (pv 0) rfl) pa_nil)) (nomark _)) (pss_one (ps_raiseC CNoSheet hr rfl (pa_cons (pe_fld (pv 0) rfl) (pa_cons pe_str pa_nil)))) pss_nil)
      (pss_cons (ps_set (i := 1) sc_Look_take.nd rfl (Or.inl rfl) (pe_ix ix_list (pe_fld (pv 0) rfl) (pe_fld (pv 0) rfl) (fun _ _ => rfl)))
      (pss_cons (ps_if (pt_not (pt_val (pe_callC Cis_whole hr rfl (pa_cons (pv 1) pa_nil) passX))) (pss_one (ps_raiseC CNoSheet hr rfl (pa_cons (pe_fld (pv 0) rfl) (pa_cons pe_str pa_nil)))) pss_nil)
      (pss_cons (ps_fldaug (pv 0) pe_int in_add)
      (pss_one (ps_ret (pv 1))))))), ?_⟩
  try dsimp only [Cx.nox, Cx.exc, Cx.wish, cxOf_K]
  refine ⟨_, rfl, lk, CL, dx, _, _, rfl, hl, T.look, T.lplace, rfl, _, rfl, lk, CL, dx, _, _, rfl, hl, T.look, T.lnum, rfl, a, _, rfl, .inl (.of ha), _, _, rfl, rfl, _, rfl, ?_⟩
  have hz : (ns.map V.int).length = ns.length := List.length_map ..
  refine ite2 (fun c => ?_) (fun c => ?_)
  · have c' := of_decide_eq_true c
    have e : takeM ns p = .error (p, "end") := by
      unfold takeM
      rw [List.getElem?_eq_none (by (first | lia | omega))]
    exact ⟨_, rfl, lk, CL, dx, _, _, rfl, hl, T.look, T.lplace, rfl, small (show 2 ≤ 1000 by decide), raised (t2 _ _ e) (Keep.refl _ _)⟩
  · have hp : p < ns.length := by
      refine Nat.lt_of_not_le fun z => c (decide_eq_true ?_)
      (first | lia | omega)
    have ep : ns[p]? = some ns[p] := List.getElem?_eq_getElem hp
    generalize ns[p] = n at ep
    have at_ : atI (ns.map V.int) (p : Int) = some (.int n) := atI_nat (by rw [List.getElem?_map, ep]; rfl)
    have e : takeM ns p = .ok n := by unfold takeM; rw [ep]
    refine ⟨_, rfl, lk, CL, dx, _, _, rfl, hl, T.look, T.lnum, rfl, _, rfl, lk, CL, dx, _, _, rfl, hl, T.look, T.lplace, rfl, a, _, _, _, rfl, rfl, .of ha, at_, ?_⟩
    refine ⟨_, rfl, n, rfl, _, rfl, iteF ?_⟩
    refine ⟨_, rfl, lk, CL, dx, _, _, rfl, hl, T.look, T.lplace, rfl, _, _, rfl, rfl, dx, _, hl, (show 2 < 1000 by decide), ?_⟩
    exact ⟨_, rfl, t1 n e⟩
theorem ok_within (T : Txt K mg aP CL CN) (F : Fun K "take_within" "Look.take_within" s_Look_take_within f fd) (Mtake : CalM P w K mg base (CXE P w) 3 CL "take" ["self"] (spTk CL CN)) (CNoSheet : CalX P w K mg base 1 "NoSheet" CN ["self", "place", "word"] (spInitX CN)) :
    FnOk P w K mg base (CXE P w) 4 f fd ["self", "least", "most"] (spWithin CL CN) := by
  refine F.okX sc_Look_take_within (fun vs H Q E h => ?_) (fun cdv A outer s H vs Q E hr h => ?_)
  · obtain ⟨lk, dx, a, p, ns, lo, hi, rfl, _⟩ := h
    rfl
  obtain ⟨lk, dx, a, p, ns, lo, hi, rfl, ⟨hl, ha⟩, t1, t2⟩ := h
  refine ⟨_, (pss_cons (ps_set (i := 3) sc_Look_take_within.nd rfl (Or.inl rfl) (pe_fld (pv 0) rfl))
      (pss_cons (ps_set (i := 4) sc_Look_take_within.nd rfl (Or.inl rfl) (pe_methC0 (pv 0) Mtake hr passX))
      (pss_cons (ps_if (PW.pt (pw_or (pt_cmpR op_lt (pv 4) (pv 1) (nomark _)) (pw_or1 (pt_cmpR op_gt (pv 4) (pv 2) (nomark _))))) (pss_one (ps_raiseC CNoSheet hr rfl (pa_cons (pv 3) (pa_cons pe_str pa_nil)))) pss_nil)
      (pss_one (ps_ret (pv 4)))))), ?_⟩
  try dsimp only [Cx.nox, Cx.exc, Cx.wish, cxOf_K]
  refine ⟨_, rfl, lk, CL, dx, _, _, rfl, hl, T.look, T.lplace, rfl, ?_⟩
  refine ⟨_, rfl, lk, dx, _, rfl, hl, rfl, lk, dx, a, p, ns, rfl, ⟨hl, ha⟩, fun n e => ?_, fun pl wd e => ?_⟩
  · have ep : ns[p]? = some n := by
      unfold takeM at e
      cases q : ns[p]? with
      | none => rw [q] at e; cases e
      | some m => rw [q] at e; cases e; rfl
    have bad : n < lo ∨ hi < n → withinM ns p lo hi = .error (p, "range") := fun c => by unfold withinM; rw [ep]; exact if_pos c
    have k1 : Keep lk H (upd H lk (LookO CL dx a (p + 1))) := Keep.upd
    refine ⟨_, rfl, _, rfl, _, _, rfl, rfl, _, rfl, ite2 (fun c => ?_) (fun c => ?_)⟩
    · exact iteT ⟨_, rfl, small (show 2 ≤ 1000 by decide), raised (t2 _ _ (bad (.inl (of_decide_eq_true c)))) k1⟩
    · refine ⟨_, rfl, _, rfl, _, _, rfl, rfl, _, rfl, ite2 (fun c2 => ?_) (fun c2 => ?_)⟩
      · exact ⟨_, rfl, small (show 2 ≤ 1000 by decide), raised (t2 _ _ (bad (.inr (of_decide_eq_true c2)))) k1⟩
      · refine ⟨_, rfl, t1 n ?_⟩
        unfold withinM; rw [ep]
        exact if_neg (fun z => z.elim (fun z => c (decide_eq_true z)) fun z => c2 (decide_eq_true z))
  · refine t2 pl wd ?_
    unfold takeM at e
    unfold withinM
    cases q : ns[p]? with
    | none => rw [q] at e; exact e
    | some m => rw [q] at e; cases e
noncomputable def InvHeads (lk hd dx a : Addr) (H : Hp) (ns : List Int) (n : Int) (i : Nat) (σ' : St) (H' : Hp) : Prop := ∃ (done : Hds) (rs : List V) (most : Int) (v3 v4 : Option V), σ' = [some (.ref lk), some (.ref hd), some (.int most), v3, v4] ∧ most ≤ 4 ∧ done.length = i ∧ Keep lk H H' ∧
      H' lk = some (LookO CL dx a (1 + 2 * i)) ∧ H' hd = some (.lst rs) ∧ Paired (HeadAt H') rs done ∧ headsM ns n.toNat 0 1 = joinM done (headsM ns (n.toNat - i) most (1 + 2 * i))
theorem ok_heads (T : Txt K mg aP CL CN) (F : Fun K "take_heads" "take_heads" s_take_heads f fd) (Mtake_within : CalM P w K mg base (CXE P w) 4 CL "take_within" ["self", "least", "most"] (spWithin CL CN)) :
    FnOk P w K mg base (CXE P w) 5 f fd ["look"] (spHeads CL CN) := by
  refine F.okX sc_take_heads (fun vs H Q E h => ?_) (fun cdv A outer s H vs Q E hr h => ?_)
  · obtain ⟨lk, dx, a, ns, rfl, _⟩ := h
    rfl
  obtain ⟨lk, dx, a, ns, rfl, ⟨hl, ha⟩, t1, t2⟩ := h
  refine ⟨_, (pss_cons (ps_set (i := 1) sc_take_heads.nd rfl (Or.inl rfl) (pe_lst pa_nil))
      (pss_cons (ps_set (i := 2) sc_take_heads.nd rfl (Or.inl rfl) pe_int)
      (pss_cons (ps_for (own_fly rfl rfl) rfl (pi_range1 rfl T.n_range (pa_cons (pe_methC (pv 0) Mtake_within hr (pa_cons pe_int (pa_cons (pe_gint rfl T.m_MOST_FUNCTIONS) pa_nil)) passX) pa_nil)) (pg_name (i := 3) sc_take_heads.nd rfl (Or.inl rfl)) (pss_cons (ps_set (i := 4) sc_take_heads.nd rfl (Or.inl rfl) (pe_methC (pv 0) Mtake_within hr (pa_cons pe_int (pa_cons (pv 2) pa_nil)) passX))
      (pss_cons (ps_expr (pe_bm PySem.F.plainAttrs_list PySem.F.slot_list_append PySem.F.type_list_append mt_append (pv 1) (pa_cons (pe_tup (pa_cons (pv 4) (pa_cons (pe_methC (pv 0) Mtake_within hr (pa_cons (pv 4) (pa_cons (pe_gint rfl T.m_MOST_BOXES) pa_nil)) passX) pa_nil))) pa_nil)))
      (pss_one (ps_set (i := 2) sc_take_heads.nd rfl (Or.inl rfl) (pe_gint rfl T.m_MOST_PARAMS))))))
      (pss_one (ps_ret (pv 1)))))), ?_⟩
  try dsimp only [Cx.nox, Cx.exc, Cx.wish, cxOf_K]
  refine ⟨small (show 0 ≤ 1000 by decide), fun hd hhd => ?_⟩
  have nlh : lk ≠ hd := ne_of_none hl hhd
  have k1 : Keep lk H (upd H hd (.lst [])) := Keep.new _ hhd
  have l1 : Looks CL (upd H hd (.lst [])) lk dx a 0 ns := Looks.go ⟨hl, ha⟩ k1 (by rw [upd_ne nlh]; exact hl)
  refine ⟨_, rfl, lk, dx, _, rfl, l1.1, rfl, lk, dx, a, 0, ns, 1, 16, rfl, l1, fun n e => ?_, fun p wd e => ?_⟩
  · obtain ⟨_, n1, n16⟩ := withinM_ok e
    have eh : headsAllM ns = headsM ns n.toNat 0 1 := by unfold headsAllM; rw [e]
    refine ⟨n, rfl, by (first | lia | omega), by (first | lia | omega), for_range (lo := 0) (n := n.toNat) (InvHeads (CL := CL) lk hd dx a H ns n) ⟨[], [], 0, _, _, rfl, by decide, rfl, k1.trans Keep.upd, upd_same, ?_, .nil, (joinM_nil _).symm⟩ ?_ ?_⟩
    · rw [upd_ne (Ne.symm nlh)]; exact upd_same
    · rintro i σ' H' hi ⟨done, rs, most, v3, v4, rfl, hm, hn, kp, el, eh', pr, eq⟩
      obtain ⟨m, em⟩ : ∃ m, n.toNat - i = m + 1 := ⟨n.toNat - i - 1, by (first | lia | omega)⟩
      have L1 : Looks CL H' lk dx a (1 + 2 * i) ns := Looks.go ⟨hl, ha⟩ kp el
      refine ⟨_, rfl, lk, dx, _, rfl, el, rfl, _, rfl, lk, dx, a, _, ns, 0, most, rfl, L1, fun x ex => ?_, fun p wd ex => ?_⟩
      · have L2' : Looks CL (upd H' lk (LookO CL dx a (1 + 2 * i + 1))) lk dx a (1 + 2 * i + 1) ns := L1.go Keep.upd upd_same
        have eh2 : (upd H' lk (LookO CL dx a (1 + 2 * i + 1))) hd = some (.lst rs) := by rw [upd_ne (Ne.symm nlh)]; exact eh'
        refine ⟨_, rfl, .inl ⟨rfl, _, .of eh2⟩, _, rfl, _, rfl, lk, dx, _, rfl, upd_same, rfl, _, rfl, lk, dx, a, _, ns, x, 12, rfl, L2', fun y ey => ?_, fun p wd ey => ?_⟩
        · refine ⟨small (show 2 ≤ 1000 by decide), fun q hq => ?_⟩
          generalize hH2 : upd (upd H' lk (LookO CL dx a (1 + 2 * i + 1))) lk (LookO CL dx a (1 + 2 * i + 1 + 1)) = H2 at hq
          have k2 : Keep lk H' H2 := by rw [← hH2]; exact Keep.trans Keep.upd Keep.upd
          have e2 : H2 lk = some (LookO CL dx a (1 + 2 * i + 1 + 1)) := by rw [← hH2]; exact upd_same
          have h2 : H2 hd = some (.lst rs) := k2 hd _ (Ne.symm nlh) eh'
          have nq : hd ≠ q := ne_of_none h2 hq
          have ql : lk ≠ q := ne_of_none e2 hq
          have h3 : upd H2 q (.tup [.int x, .int y]) hd = some (.lst rs) := by rw [upd_ne nq]; exact h2
          have len : rs.length ≤ 16 := by have := Paired.len pr; (first | lia | omega)
          refine ⟨hd, rs, _, rfl, rfl, h3, small1000 (by (first | lia | omega)), ?_⟩
          have tp : Tups H' (upd (upd H2 q (.tup [.int x, .int y])) hd (.lst (rs ++ [.ref q]))) := .trans (.keep el k2) (.trans (.new hq) (.upd h3))
          refine ⟨done ++ [(x, y)], _, 4, _, _, rfl, by decide, by simp [hn], (kp.trans (k2.trans (Keep.new _ hq))).fresh hhd, ?_, upd_same, Paired.snoc (Paired.imp (fun _ _ z => z.tups tp) pr) ⟨q, rfl, ?_⟩, ?_⟩
          · rw [upd_ne nlh, upd_ne ql]; exact e2
          · rw [upd_ne (Ne.symm nq)]; exact upd_same
          · rw [eq, em, show n.toNat - (i + 1) = m by (first | lia | omega), show 1 + 2 * (i + 1) = 1 + 2 * i + 2 by (first | lia | omega)]
            conv => lhs; unfold headsM
            rw [ex]; simp only; rw [ey]; simp only
            cases headsM ns m 4 (1 + 2 * i + 2) with
            | error b => rfl
            | ok r => show Except.ok _ = Except.ok _; rw [List.append_assoc]; rfl
        · refine (t2 p wd ?_).keep (kp.trans Keep.upd)
          rw [eh, eq, em]
          unfold headsM
          rw [ex]; simp only; rw [ey]; rfl
      · refine (t2 p wd ?_).keep kp
        rw [eh, eq, em]
        unfold headsM
        rw [ex]; rfl
    · rintro σ' H' ⟨done, rs, most, v3, v4, rfl, hm, hn, kp, el, eh', pr, eq⟩
      refine ⟨_, rfl, t1 done ?_ hd H' kp (by rw [hn]; exact el) ⟨rs, eh', pr⟩⟩
      rw [eh, eq, Nat.sub_self]
      show Except.ok (done ++ []) = _
      rw [List.append_nil]
  · exact (t2 p wd (by unfold headsAllM; rw [e])).keep k1
theorem vt {i j : Int} (c : decide (V.int i = V.int j) = true) : i = j := by
  have := of_decide_eq_true c
  injection this
theorem vf {i j : Int} (c : ¬ decide (V.int i = V.int j) = true) : i ≠ j := fun z => c (decide_eq_true (congrArg V.int z))
theorem ok_own (T : Txt K mg aP CL CN) (F : Fun K "take_own" "take_own" s_take_own f fd) (Mtake : CalM P w K mg base (CXE P w) 3 CL "take" ["self"] (spTk CL CN)) (Mtake_within : CalM P w K mg base (CXE P w) 4 CL "take_within" ["self", "least", "most"] (spWithin CL CN)) :
    FnOk P w K mg base (CXE P w) 5 f fd ["look", "kind", "heads", "boxes"] (spOwn CL CN) := by
  refine F.okX sc_take_own (fun vs H Q E h => ?_) (fun cdv A outer s H vs Q E hr h => ?_)
  · obtain ⟨lk, dx, a, p, ns, hd, hs, boxes, k, rfl, _⟩ := h
    rfl
  obtain ⟨lk, dx, a, p, ns, hd, hs, boxes, k, rfl, L1, hh, t1, t2⟩ := h
  refine ⟨_, (pss_cons (ps_if (pt_cmpR op_eq (pv 1) (pe_gint rfl T.m_NUMBER) (nomark _)) (pss_one (ps_ret (pe_tup (pa_cons (pe_methC0 (pv 0) Mtake hr passX) pa_nil)))) pss_nil)
      (pss_cons (ps_if (PW.pt (pw_or (pt_cmpR op_eq (pv 1) (pe_gint rfl T.m_GET) (nomark _)) (pw_or1 (pt_cmpR op_eq (pv 1) (pe_gint rfl T.m_SET) (nomark _))))) (pss_one (ps_ret (pe_tup (pa_cons (pe_methC (pv 0) Mtake_within hr (pa_cons pe_int (pa_cons (pe_op op_sub (pv 3) pe_int) pa_nil)) passX) pa_nil)))) pss_nil)
      (pss_cons (ps_if (pt_cmpR op_eq (pv 1) (pe_gint rfl T.m_ALL) (nomark _)) (pss_one (ps_ret (pe_tup (pa_cons (pe_methC (pv 0) Mtake_within hr (pa_cons (pe_gint rfl T.m_LEAST_ALL) (pa_cons (pe_gint rfl T.m_MOST_MANY) pa_nil)) passX) pa_nil)))) pss_nil)
      (pss_cons (ps_if (pt_cmpR op_eq (pv 1) (pe_gint rfl T.m_PICK) (nomark _)) (pss_one (ps_ret (pe_tup (pa_cons (pe_methC (pv 0) Mtake_within hr (pa_cons (pe_gint rfl T.m_LEAST_PICK) (pa_cons (pe_gint rfl T.m_MOST_MANY) pa_nil)) passX) pa_nil)))) pss_nil)
      (pss_cons (ps_if (pt_cmpR op_eq (pv 1) (pe_gint rfl T.m_CALL) (nomark _)) (pss_one (ps_ret (pe_tup (pa_cons (pe_methC (pv 0) Mtake_within hr (pa_cons pe_int (pa_cons (pe_op op_sub (pe_callB call_len_seq rfl T.n_len bt_len (pa_cons (pv 2) pa_nil)) pe_int) pa_nil)) passX) pa_nil)))) pss_nil)
      (pss_one (ps_ret (pe_tup pa_nil)))))))), ?_⟩
  try dsimp only [Cx.nox, Cx.exc, Cx.wish, cxOf_K]
  have hl := L1.1
  have fin : ∀ n, ownM ns hs boxes k p = .ok [n] → 1 ≤ sizeLine ∧ ∀ t, upd H lk (LookO CL dx a (p + 1)) t = none → Q (.ref t) (upd (upd H lk (LookO CL dx a (p + 1))) t (.tup [.int n])) := fun n e => by
    refine ⟨small (by decide), fun t ht => t1 [n] e t _ (Keep.trans Keep.upd (Keep.new _ ht)) ?_ upd_same⟩
    rw [upd_ne (ne_of_none (upd_same (H := H) (a := lk) (o := LookO CL dx a (p + 1))) ht)]
    exact upd_same
  refine ⟨_, rfl, rfl, _, rfl, ite2 (fun c => ?_) (fun c0 => ?_)⟩
  · have o : ownM ns hs boxes k p = oneM (takeM ns p) := if_pos (vt c)
    exact ⟨_, rfl, lk, dx, _, rfl, hl, rfl, lk, dx, a, p, ns, rfl, L1, fun n e => fin n (by rw [o, e]; rfl), fun pl wd e => t2 _ _ (by rw [o, e]; rfl)⟩
  have n0 := vf c0
  have one : ∀ lo hi, (∀ r, withinM ns p lo hi = r → ownM ns hs boxes k p = oneM r) → Looks CL H lk dx a p ns ∧ Tells (withinM ns p lo hi) (fun n => 1 ≤ sizeLine ∧ ∀ t, upd H lk (LookO CL dx a (p + 1)) t = none → Q (.ref t) (upd (upd H lk (LookO CL dx a (p + 1))) t (.tup [.int n]))) (Fails CN lk H E) :=
    fun lo hi o => ⟨L1, fun n e => fin n (o _ e), fun pl wd e => t2 _ _ (o _ e)⟩
  have br12 : k = 1 ∨ k = 2 → ∀ r, withinM ns p 0 (boxes - 1) = r → ownM ns hs boxes k p = oneM r := fun z r e => by unfold ownM; rw [if_neg n0, if_pos z, e]
  refine ⟨_, rfl, rfl, _, rfl, ite2 (fun c => iteT ?_) (fun c1 => ?_)⟩
  · exact ⟨_, rfl, lk, dx, _, rfl, hl, rfl, _, rfl, _, _, rfl, rfl, lk, dx, a, p, ns, 0, boxes - 1, rfl, one _ _ (br12 (.inl (vt c)))⟩
  refine ⟨_, rfl, rfl, _, rfl, ite2 (fun c => ?_) (fun c2 => ?_)⟩
  · exact ⟨_, rfl, lk, dx, _, rfl, hl, rfl, _, rfl, _, _, rfl, rfl, lk, dx, a, p, ns, 0, boxes - 1, rfl, one _ _ (br12 (.inr (vt c)))⟩
  have n12 : ¬ (k = 1 ∨ k = 2) := fun z => z.elim (vf c1) (vf c2)
  refine ⟨_, rfl, rfl, _, rfl, ite2 (fun c => ?_) (fun c3 => ?_)⟩
  · exact ⟨_, rfl, lk, dx, _, rfl, hl, rfl, lk, dx, a, p, ns, 1, 12, rfl, one _ _ fun r e => by unfold ownM; rw [if_neg n0, if_neg n12, if_pos (vt c), e]⟩
  refine ⟨_, rfl, rfl, _, rfl, ite2 (fun c => ?_) (fun c4 => ?_)⟩
  · exact ⟨_, rfl, lk, dx, _, rfl, hl, rfl, lk, dx, a, p, ns, 2, 12, rfl, one _ _ fun r e => by unfold ownM; rw [if_neg n0, if_neg n12, if_neg (vf c3), if_pos (vt c), e]⟩
  refine ⟨_, rfl, rfl, _, rfl, ite2 (fun c => ?_) (fun c6 => ?_)⟩
  · obtain ⟨rs, eh, pr⟩ := id hh
    have ln : rs.length = hs.length := Paired.len pr
    exact ⟨_, rfl, lk, dx, _, rfl, hl, rfl, _, rfl, hd, _, rfl, .inl (.of eh), _, _, rfl, rfl, lk, dx, a, p, ns, 0, _, rfl, one _ _ fun r e => by unfold ownM; rw [if_neg n0, if_neg n12, if_neg (vf c3), if_neg (vf c4), if_pos (vt c), ← ln, e]⟩
  · refine ⟨small (show 0 ≤ 1000 by decide), fun t ht => t1 [] ?_ t _ (Keep.new _ ht) ?_ upd_same⟩
    · unfold ownM; rw [if_neg n0, if_neg n12, if_neg (vf c3), if_neg (vf c4), if_neg (vf c6)]
    · rw [upd_ne (ne_of_none hl ht)]; exact hl
noncomputable def spParts : Sp := fun vs H Q _ => ∃ (k : Nat) (v : Int), vs = [.int (7 + (k : Int))] ∧ partsN[k]? = some v ∧ Q (.int v) H
theorem ok_parts (T : Txt K mg aP CL CN) (F : Fun K "parts_of" "parts_of" s_parts_of f fd) : FnOk P w K mg base (CXE P w) 1 f fd ["kind"] spParts := by
  refine F.okN sc_parts_of (fun vs H Q E h => ?_) (fun cdv A outer s H vs Q E hr h => ?_)
  · obtain ⟨k, v, rfl, _⟩ := h
    rfl
  obtain ⟨k, v, rfl, hk, q⟩ := h
  refine ⟨_, (pss_one (ps_ret (pe_ix ix_tup (pe_gref rfl T.m_PARTS) (pe_op op_sub (pv 0) (pe_gint rfl T.m_FAIL)) (fun _ _ => rfl)))), ?_⟩
  try dsimp only [Cx.nox, Cx.exc, Cx.wish, cxOf_K]
  refine ⟨_, rfl, _, _, rfl, rfl, aP, _, _, _, rfl, rfl, T.parts _, ?_, q⟩
  rw [show (7 : Int) + (k : Int) - 7 = (k : Int) by (first | lia | omega)]
  exact atI_nat (by rw [List.getElem?_map, hk]; rfl)
theorem ok_due (T : Txt K mg aP CL CN) (F : Fun K "parts_due" "parts_due" s_parts_due f fd) (Cparts_of : Cal P w K mg base (CXE P w) 1 "parts_of" ["kind"] spParts) :
    FnOk P w K mg base (CXE P w) 2 f fd ["kind", "numbers", "heads"] spDue := by
  refine F.okN sc_parts_due (fun vs H Q E h => ?_) (fun cdv A outer s H vs Q E hr h => ?_)
  · obtain ⟨k, t, own, hd, hs, rfl, _⟩ := h
    rfl
  obtain ⟨k, t, own, hd, hs, rfl, ht, ⟨rs, eh, pr⟩, ⟨h0, h1, hk⟩, q⟩ := h
  refine ⟨_, (pss_cons (ps_if (PW.pt (pw_or (pt_cmpR op_eq (pv 0) (pe_gint rfl T.m_NUMBER) (nomark _)) (pw_or1 (pt_cmpR op_eq (pv 0) (pe_gint rfl T.m_GET) (nomark _))))) (pss_one (ps_ret pe_int)) pss_nil)
      (pss_cons (ps_if (pt_cmpR op_eq (pv 0) (pe_gint rfl T.m_SET) (nomark _)) (pss_one (ps_ret pe_int)) pss_nil)
      (pss_cons (ps_if (pt_cmpR op_eq (pv 0) (pe_gint rfl T.m_ALL) (nomark _)) (pss_one (ps_ret (pe_ix ix_tup (pv 1) pe_int (fun _ _ => rfl)))) pss_nil)
      (pss_cons (ps_if (pt_cmpR op_eq (pv 0) (pe_gint rfl T.m_PICK) (nomark _)) (pss_one (ps_ret (pe_op op_add pe_int (pe_ix ix_tup (pv 1) pe_int (fun _ _ => rfl))))) pss_nil)
      (pss_cons (ps_if (pt_cmpR op_eq (pv 0) (pe_gint rfl T.m_LOOP) (nomark _)) (pss_one (ps_ret pe_int)) pss_nil)
      (pss_cons (ps_if (pt_cmpR op_eq (pv 0) (pe_gint rfl T.m_CALL) (nomark _)) (pss_one (ps_ret (pe_ix ix_tup (pe_ix ix_list (pv 2) (pe_ix ix_tup (pv 1) pe_int (fun _ _ => rfl)) (fun _ _ => rfl)) pe_int (fun _ _ => rfl)))) pss_nil)
      (pss_one (ps_ret (pe_callC Cparts_of hr rfl (pa_cons (pv 0) pa_nil) passN))))))))), ?_⟩
  try dsimp only [Cx.nox, Cx.exc, Cx.wish, cxOf_K]
  have due0 : k = 0 ∨ k = 1 → dueM hs k own = 0 := fun z => if_pos z
  refine ⟨_, rfl, rfl, _, rfl, ite2 (fun c => iteT ?_) (fun c0 => ?_)⟩
  · rw [due0 (.inl (vt c))] at q; exact q
  refine ⟨_, rfl, rfl, _, rfl, ite2 (fun c => ?_) (fun c1 => ?_)⟩
  · rw [due0 (.inr (vt c))] at q; exact q
  have n01 : ¬ (k = 0 ∨ k = 1) := fun z => z.elim (vf c0) (vf c1)
  unfold dueM at q
  rw [if_neg n01] at q
  refine ⟨_, rfl, rfl, _, rfl, ite2 (fun c => ?_) (fun c2 => ?_)⟩
  · rw [if_pos (vt c)] at q; exact q
  rw [if_neg (vf c2)] at q
  refine ⟨_, rfl, rfl, _, rfl, ite2 (fun c => ?_) (fun c3 => ?_)⟩
  · rw [if_pos (vt c)] at q
    obtain ⟨n, rfl, _⟩ := hk (.inl (vt c))
    exact ⟨_, rfl, t, _, _, _, rfl, rfl, .of ht, rfl, q⟩
  rw [if_neg (vf c3)] at q
  refine ⟨_, rfl, rfl, _, rfl, ite2 (fun c => ?_) (fun c4 => ?_)⟩
  · rw [if_pos (vt c)] at q
    obtain ⟨n, rfl, _⟩ := hk (.inr (.inl (vt c)))
    exact ⟨_, rfl, t, _, _, _, rfl, rfl, .of ht, rfl, _, _, rfl, rfl, q⟩
  rw [if_neg (vf c4)] at q
  refine ⟨_, rfl, rfl, _, rfl, ite2 (fun c => ?_) (fun c5 => ?_)⟩
  · rw [if_pos (vt c)] at q; exact q
  rw [if_neg (vf c5)] at q
  refine ⟨_, rfl, rfl, _, rfl, ite2 (fun c => ?_) (fun c6 => ?_)⟩
  · rw [if_pos (vt c)] at q
    obtain ⟨n, rfl, n0, n1, _⟩ := hk (.inr (.inr (vt c)))
    have hn : n.toNat < hs.length := by have := n1 (vt c); (first | lia | omega)
    have ln : rs.length = hs.length := Paired.len pr
    have e1 : hs[n.toNat]? = some hs[n.toNat] := List.getElem?_eq_getElem hn
    have e2 : rs[n.toNat]? = some rs[n.toNat] := List.getElem?_eq_getElem (by (first | lia | omega))
    obtain ⟨tt, er, et⟩ := Paired.get pr _ _ _ e2 e1
    have av : atI rs n = some (.ref tt) := by
      have := atI_nat (xs := rs) e2
      rw [show ((n.toNat : Nat) : Int) = n by (first | lia | omega), er] at this
      exact this
    refine ⟨_, rfl, _, rfl, t, _, _, _, rfl, rfl, .of ht, rfl, hd, rs, n, _, rfl, rfl, .of eh, av, tt, _, _, _, rfl, rfl, .of et, rfl, ?_⟩
    have : (hs.getD ([n].headD 0).toNat (0, 0)).1 = hs[n.toNat].1 := by
      show (hs.getD n.toNat (0, 0)).1 = _
      rw [List.getD_eq_getElem?_getD, e1]; rfl
    rw [this] at q
    exact q
  · rw [if_neg (vf c6)] at q
    have n0 := vf c0; have n1 := vf c1; have n2 := vf c2; have n3 := vf c3; have n4 := vf c4; have n5 := vf c5; have n6 := vf c6
    have hk7 : (k - 7).toNat < 13 := by (first | lia | omega)
    have e1 : partsN[(k - 7).toNat]? = some (partsN.getD (k - 7).toNat 0) := by
      rw [List.getD_eq_getElem?_getD, List.getElem?_eq_getElem (by exact hk7)]; rfl
    exact ⟨_, rfl, (k - 7).toNat, _, (by rw [show (7 : Int) + ((k - 7).toNat : Int) = k by (first | lia | omega)]; rfl), e1, q⟩
noncomputable def spPrev (CL CN : Addr) : Nat → Sp
  | 0 => fun _ _ _ _ => False
  | d + 1 => spNode CL CN d
noncomputable def InvNode (lk hd dx a t ps : Addr) (boxes k N : Int) (d p : Nat) (own : List Int) (H : Hp) (ns : List Int) (hs : Hds) (i : Nat) (σ' : St) (H' : Hp) : Prop := ∃ (done : List Nd) (vs : List V) (p' : Nat) (v8 : Option V), σ' = [some (.ref lk), some (.ref hd), some (.int boxes), some (.int (11 - ((d + 1 : Nat) : Int))), some (.int (p : Int)), some (.int k), some (.ref t), some (.ref ps), v8] ∧ done.length = i ∧ Keep lk H H' ∧
      H' lk = some (LookO CL dx a p') ∧ H' t = some (.tup (own.map V.int)) ∧ H' ps = some (.lst vs) ∧ Paired (NodeAt H' d) vs done ∧ partsM (nodeM ns hs boxes d) N.toNat (p + 1 + own.length) = joinP done (partsM (nodeM ns hs boxes d) (N.toNat - i) p')
theorem ok_node (d : Nat) (hd10 : d ≤ 10) (T : Txt K mg aP CL CN) (F : Fun K "take_node" "take_node" s_take_node f fd) (CNoSheet : CalX P w K mg base 1 "NoSheet" CN ["self", "place", "word"] (spInitX CN)) (Mtake_within : CalM P w K mg base (CXE P w) 4 CL "take_within" ["self", "least", "most"] (spWithin CL CN))
    (Ctake_own : Cal P w K mg base (CXE P w) 5 "take_own" ["look", "kind", "heads", "boxes"] (spOwn CL CN)) (Cparts_due : Cal P w K mg base (CXE P w) 2 "parts_due" ["kind", "numbers", "heads"] spDue)
    (Ctake_node : Cal P w K mg base (CXE P w) (5 + d) "take_node" ["look", "heads", "boxes", "deep"] (spPrev CL CN d)) : FnOk P w K mg base (CXE P w) (5 + d + 1) f fd ["look", "heads", "boxes", "deep"] (spNode CL CN d) := by
  refine F.okX sc_take_node (fun vs H Q E h => ?_) (fun cdv A outer s H vs Q E hr h => ?_)
  · obtain ⟨lk, dx, a, p, ns, hd, hs, boxes, rfl, _⟩ := h
    rfl
  obtain ⟨lk, dx, a, p, ns, hd, hs, boxes, rfl, L1, hh, ho, t1, t2⟩ := h
  refine ⟨_, (pss_cons (ps_set (i := 4) sc_take_node.nd rfl (Or.inl rfl) (pe_fld (pv 0) rfl))
      (pss_cons (ps_if (pt_cmpR op_gt (pv 3) (pe_gint rfl T.m_MOST_DEEP) (nomark _)) (pss_one (ps_raiseC CNoSheet hr rfl (pa_cons (pv 4) (pa_cons pe_str pa_nil)))) pss_nil)
      (pss_cons (ps_set (i := 5) sc_take_node.nd rfl (Or.inl rfl) (pe_methC (pv 0) Mtake_within hr (pa_cons (pe_gint rfl T.m_NUMBER) (pa_cons (pe_gint rfl T.m_NEW) pa_nil)) passX))
      (pss_cons (ps_set (i := 6) sc_take_node.nd rfl (Or.inl rfl) (pe_callC Ctake_own hr rfl (pa_cons (pv 0) (pa_cons (pv 5) (pa_cons (pv 1) (pa_cons (pv 2) pa_nil)))) passX))
      (pss_cons (ps_set (i := 7) sc_take_node.nd rfl (Or.inl rfl) (pe_lst pa_nil))
      (pss_cons (ps_for (own_fly rfl rfl) rfl (pi_range1 rfl T.n_range (pa_cons (pe_callC Cparts_due hr rfl (pa_cons (pv 5) (pa_cons (pv 6) (pa_cons (pv 1) pa_nil))) passX) pa_nil)) (pg_name (i := 8) sc_take_node.nd rfl (Or.inl rfl)) (pss_one (ps_expr (pe_bm PySem.F.plainAttrs_list PySem.F.slot_list_append PySem.F.type_list_append mt_append (pv 7) (pa_cons (pe_callC Ctake_node hr rfl (pa_cons (pv 0) (pa_cons (pv 1) (pa_cons (pv 2) (pa_cons (pe_op op_add (pv 3) pe_int) pa_nil)))) passX) pa_nil)))))
      (pss_one (ps_ret (pe_tup (pa_cons (pv 5) (pa_cons (pv 4) (pa_cons (pv 6) (pa_cons (pe_callTy call_tuple_of rfl T.n_tuple bt_tuple (pa_cons (pv 7) pa_nil)) pa_nil))))))))))))), ?_⟩
  try dsimp only [Cx.nox, Cx.exc, Cx.wish, cxOf_K]
  have hl := L1.1
  refine ⟨_, rfl, lk, CL, dx, _, _, rfl, hl, T.look, T.lplace, rfl, ?_⟩
  refine ⟨_, rfl, _, _, rfl, rfl, _, rfl, ite2 (fun c => ?_) (fun c => ?_)⟩
  · have d0 : d = 0 := by have := of_decide_eq_true c; (first | lia | omega)
    subst d0
    exact ⟨_, rfl, small (show 2 ≤ 1000 by decide), raised (t2 p "deep" rfl) (Keep.refl _ _)⟩
  cases d with
  | zero => exact absurd (decide_eq_true (by decide)) c
  | succ d =>
  refine ⟨_, rfl, lk, dx, _, rfl, hl, rfl, lk, dx, a, p, ns, 0, 19, rfl, L1, fun k ek => ?_, fun pl wd ek => t2 pl wd (by unfold nodeM; rw [ek])⟩
  obtain ⟨_, k0, k19⟩ := withinM_ok ek
  have ka : Keep lk H (upd H lk (LookO CL dx a (p + 1))) := Keep.upd
  have La := L1.go ka upd_same
  refine ⟨_, rfl, _, rfl, _, rfl, _, rfl, lk, dx, a, p + 1, ns, hd, hs, boxes, k, rfl, La, hh.keep hl ka, fun own eo t H2 k2 el2 et2 => ?_, fun pl wd eo => ?_⟩
  rotate_left
  · exact (t2 pl wd (by unfold nodeM; rw [ek]; simp only; rw [eo])).keep ka
  have oo := own_ok k0 k19 eo
  have kb := ka.trans k2
  refine ⟨small (show 0 ≤ 1000 by decide), fun ps hps => ?_⟩
  have g3 := same_new hps (.lst [])
  have nps : lk ≠ ps := ne_of_none el2 hps
  have ntp : t ≠ ps := ne_of_none et2 hps
  have kc : Keep lk H (upd H2 ps (.lst [])) := kb.trans (Keep.same g3)
  have elc := g3 _ _ el2
  obtain ⟨j0, j13⟩ := due_ok oo ho
  generalize hN : dueM hs k own = N at j0 j13
  have nHp : H ps = none := by
    cases e : H ps with
    | none => rfl
    | some o => rw [kb ps o (Ne.symm nps) e] at hps; cases hps
  refine ⟨_, rfl, _, rfl, _, rfl, k, t, own, hd, hs, rfl, g3 _ _ et2, hh.keep hl kc, oo, N, by rw [hN], by (first | lia | omega), by (first | lia | omega), ?_⟩
  have en : nodeM ns hs boxes (d + 1) p = match partsM (nodeM ns hs boxes d) N.toNat (p + 1 + own.length) with
      | .error b => .error b
      | .ok r => .ok (.mk k p own r.1, r.2) := by
    conv => lhs; unfold nodeM
    rw [ek]; simp only; rw [eo]; simp only; rw [hN] <;> rfl
  refine for_range (lo := 0) (n := N.toNat) (InvNode (CL := CL) lk hd dx a t ps boxes k N d p own H ns hs)
      ⟨[], [], _, _, rfl, rfl, kc, elc, g3 _ _ et2, upd_same, .nil, (joinP_nil _).symm⟩ ?_ ?_
  · rintro i σ' H' hi ⟨done, vs, p', v8, rfl, hn, kp, el, et, ep, pr, eq⟩
    obtain ⟨m, em⟩ : ∃ m, N.toNat - i = m + 1 := ⟨N.toNat - i - 1, by (first | lia | omega)⟩
    have L2' : Looks CL H' lk dx a p' ns := L1.go kp el
    have ed : (11 - ((d + 1 : Nat) : Int)) + 1 = 11 - (d : Int) := by (first | lia | omega)
    refine ⟨_, rfl, .inl ⟨rfl, _, .of ep⟩, _, rfl, _, rfl, _, rfl, _, rfl, _, _, rfl, rfl, lk, dx, a, p', ns, hd, hs, boxes, congrArg (fun z => [V.ref lk, V.ref hd, V.int boxes, V.int z]) ed, L2', hh.keep hl kp, ho, fun r er v H3 k3 el3 nv => ?_, fun pl wd er => ?_⟩
    · have ep3 : H3 ps = some (.lst vs) := k3 ps _ (Ne.symm nps) ep
      have len : vs.length ≤ 13 := by have := Paired.len pr; (first | lia | omega)
      refine ⟨ps, vs, _, rfl, rfl, ep3, small1000 (by (first | lia | omega)), ?_⟩
      have tp : Tups H' (upd H3 ps (.lst (vs ++ [v]))) := .trans (.keep el k3) (.upd ep3)
      have ntl : t ≠ lk := fun z => by rw [z, el] at et; cases et
      refine ⟨done ++ [r.1], _, r.2, _, rfl, by simp [hn], (kp.trans k3).fresh nHp, ?_, ?_, upd_same, Paired.snoc (Paired.imp (fun _ _ z => z.tups tp) pr) (nv.tups (.upd ep3)), ?_⟩
      · rw [upd_ne nps]; exact el3
      · rw [upd_ne ntp]; exact k3 t _ ntl et
      · rw [eq, em, show N.toNat - (i + 1) = m by (first | lia | omega)]
        conv => lhs; unfold partsM
        rw [er]; simp only
        cases partsM (nodeM ns hs boxes d) m r.2 with
        | error b => rfl
        | ok r => show Except.ok _ = Except.ok _; rw [List.append_assoc]; rfl
    · refine (t2 pl wd ?_).keep kp
      rw [en, eq, em]
      conv => lhs; unfold partsM
      rw [er]; rfl
  · rintro σ' H' ⟨done, vs, p', v8, rfl, hn, kp, el, et, ep, pr, eq⟩
    rw [Nat.sub_self] at eq
    have eq' : partsM (nodeM ns hs boxes d) N.toNat (p + 1 + own.length) = .ok (done, p') := by rw [eq]; show Except.ok (done ++ [], p') = _; rw [List.append_nil]
    refine ⟨_, rfl, _, rfl, _, rfl, _, rfl, ps, vs, rfl, .inl ⟨.of ep, fun q hq => ?_⟩⟩
    refine ⟨small (show 4 ≤ 1000 by decide), fun u hu => ?_⟩
    have s1 := same_new hq (.tup vs)
    have s2 := same_new hu (.tup [.int k, .int (p : Int), .ref t, .ref q])
    refine t1 (.mk k p own done, p') (by rw [en, eq']) (.ref u) _ (kp.trans (Keep.same (s1.trans s2))) (s2 _ _ (s1 _ _ el)) ?_
    exact ⟨u, t, q, vs, rfl, upd_same, s2 _ _ (s1 _ _ et), s2 _ _ upd_same, Paired.imp (fun _ _ z => z.tups (.same (s1.trans s2))) pr⟩
theorem ok_nodes (T : Txt K mg aP CL CN) (F : Fun K "take_node" "take_node" s_take_node f fd) (CNoSheet : CalX P w K mg base 1 "NoSheet" CN ["self", "place", "word"] (spInitX CN)) (Mtake_within : CalM P w K mg base (CXE P w) 4 CL "take_within" ["self", "least", "most"] (spWithin CL CN))
    (Ctake_own : Cal P w K mg base (CXE P w) 5 "take_own" ["look", "kind", "heads", "boxes"] (spOwn CL CN)) (Cparts_due : Cal P w K mg base (CXE P w) 2 "parts_due" ["kind", "numbers", "heads"] spDue)
    (hm : mg "take_node" = some (.ref f)) (hk : PySem.W.keepIn K (.ref f) = true) (hb : Binds K fd ["look", "heads", "boxes", "deep"] []) : ∀ d, d ≤ 10 → FnOk P w K mg base (CXE P w) (5 + d + 1) f fd ["look", "heads", "boxes", "deep"] (spNode CL CN d) := by
  intro d
  induction d with
  | zero => exact fun h => ok_node 0 h T F CNoSheet Mtake_within Ctake_own Cparts_due ⟨⟨_, _, fn_false, hm, hk, hb⟩⟩
  | succ d ih => exact fun h => ok_node (d + 1) h T F CNoSheet Mtake_within Ctake_own Cparts_due ⟨⟨_, _, ih (by (first | lia | omega)), hm, hk, hb⟩⟩
noncomputable def InvFns (a lk hd tl dx : Addr) (rs : List V) (hs : Hds) (ns : List Int) (H1 : Hp) (i : Nat) (σ' : St) (H' : Hp) : Prop := ∃ (done : List Nd) (vs : List V) (p' : Nat) (v4 v5 : Option V), σ' = [some (.ref a), some (.ref lk), some (.ref hd), some (.ref tl), v4, v5] ∧ i ≤ rs.length ∧ done.length = i ∧ Keep lk H1 H' ∧ H' lk = some (LookO CL dx a p') ∧
      H' hd = some (.lst rs) ∧ Paired (HeadAt H') rs hs ∧ H' tl = some (.lst vs) ∧ Paired (FnAt H') vs ((hs.take i).zip done) ∧ bodiesM ns hs hs (1 + 2 * hs.length) = joinP done (bodiesM ns hs (hs.drop i) p')
theorem ok_fns (T : Txt K mg aP CL CN) (F : Fun K "functions" "functions" s_functions f fd) (CNoSheet : CalX P w K mg base 1 "NoSheet" CN ["self", "place", "word"] (spInitX CN)) (CLook : CalK P w K mg base (CXE P w) 1 "Look" CL ["self", "numbers"] (spInitL CL))
    (Ctake_heads : Cal P w K mg base (CXE P w) 5 "take_heads" ["look"] (spHeads CL CN)) (Ctake_node : Cal P w K mg base (CXE P w) 16 "take_node" ["look", "heads", "boxes", "deep"] (spNode CL CN 10)) :
    FnOk P w K mg base (CXE P w) 17 f fd ["sheet"] (spFns CN) := by
  refine F.okX sc_functions (fun vs H Q E h => ?_) (fun cdv A outer s H vs Q E hr h => ?_)
  · obtain ⟨a, ns, rfl, _⟩ := h
    rfl
  obtain ⟨a, ns, rfl, ha, t1, t2⟩ := h
  refine ⟨_, (pss_cons (ps_set (i := 1) sc_functions.nd rfl (Or.inl rfl) (pe_makeC CLook hr rfl (pa_cons (pv 0) pa_nil) passX))
      (pss_cons (ps_set (i := 2) sc_functions.nd rfl (Or.inl rfl) (pe_callC Ctake_heads hr rfl (pa_cons (pv 1) pa_nil) passX))
      (pss_cons (ps_set (i := 3) sc_functions.nd rfl (Or.inl rfl) (pe_lst pa_nil))
      (pss_cons (ps_for (own_fly rfl rfl) rfl (pi_list (pv 2)) (pg_tup rfl (pgs_cons (pg_name (i := 4) sc_functions.nd rfl (Or.inl rfl)) (pgs_cons (pg_name (i := 5) sc_functions.nd rfl (Or.inl rfl)) pgs_nil))) (pss_one (ps_expr (pe_bm PySem.F.plainAttrs_list PySem.F.slot_list_append PySem.F.type_list_append mt_append (pv 3) (pa_cons (pe_tup (pa_cons (pv 4) (pa_cons (pv 5) (pa_cons (pe_callC Ctake_node hr rfl (pa_cons (pv 1) (pa_cons (pv 2) (pa_cons (pv 5) (pa_cons pe_int pa_nil)))) passX) pa_nil)))) pa_nil)))))
      (pss_cons (ps_if (pt_cmpR op_lt (pe_fld (pv 1) rfl) (pe_callB call_len_seq rfl T.n_len bt_len (pa_cons (pv 0) pa_nil)) (nomark _)) (pss_one (ps_raiseC CNoSheet hr rfl (pa_cons (pe_fld (pv 1) rfl) (pa_cons pe_str pa_nil)))) pss_nil)
      (pss_one (ps_ret (pv 3)))))))), ?_⟩
  try dsimp only [Cx.nox, Cx.exc, Cx.wish, cxOf_K]
  refine ⟨_, rfl, fun lk dx hlk hdx ndx => ⟨lk, dx, a, rfl, upd_same, fun H1 k1 el1 => ⟨rfl, ?_⟩⟩⟩
  have nla : a ≠ lk := ne_of_none ha hlk
  have same0 : ∀ {H' : Hp}, Keep lk (upd (upd H dx (.own lk)) lk (.ins CL dx [])) H' → Same H H' := fun {H'} k b o e => by
    refine k b o (ne_of_none e hlk) ?_
    rw [upd_ne (ne_of_none e hlk), upd_ne (ne_of_none e hdx)]; exact e
  have L1 : Looks CL H1 lk dx a 0 ns := ⟨el1, same0 k1 _ _ ha⟩
  have bad : ∀ {H' : Hp} {p : Nat} {wd : Str}, Keep lk H1 H' → functionsM ns = .error (p, wd) → Fails CN lk H' E p wd := fun {H' p wd} k e d H'' k' ed => t2 p wd e d H'' (same0 (k1.trans (k.trans k'))) ed
  refine ⟨_, rfl, lk, dx, a, ns, rfl, L1, fun hs eh hd H2 k2 el2 hh => ?_, fun p wd e => bad (Keep.refl _ _) (by unfold functionsM; rw [e])⟩
  obtain ⟨ho, _, l1, l16, _⟩ := headsAllM_ok eh
  refine ⟨small (show 0 ≤ 1000 by decide), fun tl htl => ?_⟩
  have g3 := same_new htl (.lst [])
  have nlt : lk ≠ tl := ne_of_none el2 htl
  have kc : Keep lk H1 (upd H2 tl (.lst [])) := k2.trans (Keep.same g3)
  obtain ⟨rs, ehd, pr⟩ := id hh
  have nht : hd ≠ tl := ne_of_none ehd htl
  have nhl : hd ≠ lk := fun z => by rw [z, el2] at ehd; cases ehd
  have lr : rs.length = hs.length := Paired.len pr
  have ef : functionsM ns = match bodiesM ns hs hs (1 + 2 * hs.length) with
      | .error b => .error b
      | .ok r => if r.2 < ns.length then .error (r.2, "over") else .ok (hs, r.1) := by unfold functionsM; rw [eh] <;> rfl
  have nHt : H1 tl = none := by
    cases e : H1 tl with
    | none => rfl
    | some o => rw [k2 tl o (Ne.symm nlt) e] at htl; cases htl
  have nH0 : H tl = none := (same0 k1).free nHt
  refine ⟨_, rfl, hd, rfl, ⟨rs, .of (g3 _ _ ehd)⟩, for_list (xs := rs) (InvFns (CL := CL) a lk hd tl dx rs hs ns H1)
      ⟨[], [], _, _, _, rfl, Nat.zero_le _, rfl, kc, g3 _ _ el2, g3 _ _ ehd, Paired.imp (fun _ _ z => z.tups (.same g3)) pr, upd_same, .nil, (joinP_nil _).symm⟩ ?_ ?_ ?_⟩
  · rintro i σ' H' _ ⟨done, vs, p', v4, v5, rfl, hi, hn, kp, el, eh', pr', et, pf, eq⟩
    exact .of eh'
  · rintro i x σ' H' hx ⟨done, vs, p', v4, v5, rfl, _, hn, kp, el, eh', pr', et, pf, eq⟩
    have hi : i < rs.length := (List.getElem?_eq_some_iff.mp hx).1
    have e1 : hs[i]? = some hs[i] := List.getElem?_eq_getElem (by (first | lia | omega))
    generalize hs[i] = hx1 at e1
    obtain ⟨u, rfl, eu⟩ := Paired.get pr' i _ _ hx e1
    have dr : hs.drop i = hx1 :: hs.drop (i + 1) := by
      have := List.drop_eq_getElem_cons (l := hs) (i := i) (by (first | lia | omega))
      rw [this]; congr 1
      exact Option.some.inj ((List.getElem?_eq_getElem (by (first | lia | omega))).symm.trans e1)
    have tk : hs.take (i + 1) = hs.take i ++ [hx1] := by rw [List.take_add_one, e1]; rfl
    refine ⟨u, _, rfl, .of eu, rfl, _, _, rfl, _, _, rfl, rfl, ?_⟩
    have L2' : Looks CL H' lk dx a p' ns := L1.go kp el
    refine ⟨_, rfl, .inl ⟨rfl, _, .of et⟩, _, rfl, _, rfl, _, rfl, _, rfl, _, rfl, lk, dx, a, p', ns, hd, hs, hx1.2, rfl, L2', ⟨rs, eh', pr'⟩, ho, fun r er v H3 k3 el3 nv => ?_, fun pl wd er => ?_⟩
    · refine ⟨small (show 3 ≤ 1000 by decide), fun q hq => ?_⟩
      have s1 := same_new hq (.tup [.int hx1.1, .int hx1.2, v])
      have et3 := s1 _ _ (k3 tl _ (Ne.symm nlt) et)
      have len : vs.length ≤ 16 := by
        have := Paired.len pf
        rw [List.length_zip, List.length_take] at this
        (first | lia | omega)
      refine ⟨tl, vs, _, rfl, rfl, et3, small1000 (by (first | lia | omega)), ?_⟩
      have tq : Tups H3 (upd (upd H3 q (.tup [.int hx1.1, .int hx1.2, v])) tl (.lst (vs ++ [.ref q]))) := .trans (.same s1) (.upd et3)
      have tp := Tups.trans (.keep el k3) tq
      have ntq : tl ≠ q := ne_of_none (k3 tl _ (Ne.symm nlt) et) hq
      have nql : lk ≠ q := ne_of_none el3 hq
      refine ⟨done ++ [r.1], _, r.2, _, _, rfl, hi, by simp [hn], (kp.trans (k3.trans (Keep.same s1))).fresh nHt, ?_, ?_, Paired.imp (fun _ _ z => z.tups tp) pr', upd_same, ?_, ?_⟩
      · rw [upd_ne nlt]; exact s1 _ _ el3
      · rw [upd_ne nht]; exact s1 _ _ (k3 hd _ nhl eh')
      · rw [tk, List.zip_append (by rw [List.length_take]; (first | lia | omega))]
        exact Paired.snoc (Paired.imp (fun _ _ z => z.tups tp) pf) ⟨q, v, rfl, by rw [upd_ne (Ne.symm ntq)]; exact upd_same, nv.tups tq⟩
      · rw [eq, dr]
        conv => lhs; unfold bodiesM
        rw [er]; simp only
        cases bodiesM ns hs (hs.drop (i + 1)) r.2 with
        | error b => rfl
        | ok r => show Except.ok _ = Except.ok _; rw [List.append_assoc]; rfl
    · refine bad kp ?_
      rw [ef, eq, dr]
      conv => lhs; unfold bodiesM
      rw [er]; rfl
  · rintro σ' H' ⟨done, vs, p', v4, v5, rfl, _, hn, kp, el, eh', pr', et, pf, eq⟩
    rw [lr, List.drop_length] at eq
    have eq' : bodiesM ns hs hs (1 + 2 * hs.length) = .ok (done, p') := by rw [eq]; show Except.ok (done ++ [], p') = _; rw [List.append_nil]
    have ea : H' a = some (.lst (ns.map V.int)) := kp a _ nla L1.2
    have hz : (ns.map V.int).length = ns.length := List.length_map ..
    refine ⟨_, rfl, lk, CL, dx, _, _, rfl, el, T.look, T.lplace, rfl, _, rfl, a, _, rfl, .inl (.of ea), _, _, rfl, rfl, _, rfl, ite2 (fun c => ?_) (fun c => ?_)⟩
    · have c' : p' < ns.length := by have := of_decide_eq_true c; (first | lia | omega)
      refine ⟨_, rfl, lk, CL, dx, _, _, rfl, el, T.look, T.lplace, rfl, small (show 2 ≤ 1000 by decide), raised (bad (p := p') (wd := "over") kp ?_) (Keep.refl _ _)⟩
      rw [ef, eq']; exact if_pos c'
    · refine ⟨_, rfl, t1 (hs, done) ?_ tl H' (same0 (k1.trans kp)) nH0 ⟨vs, et, by show hs.length = done.length; (first | lia | omega), ?_⟩⟩
      · rw [ef, eq']
        exact if_neg fun z => c (decide_eq_true (by (first | lia | omega)))
      · rw [lr, List.take_length] at pf; exact pf

theorem ok_wrong (T : Txt K mg aP CL CN) (F : Fun K "wrong" "wrong" s_wrong f fd) (Cfunctions : Cal P w K mg base (CXE P w) 17 "functions" ["sheet"] (spFns CN)) :
    FnOk P w K mg base (CXE P w) 18 f fd ["numbers"] spWrong := by
  refine F.okN sc_wrong (fun vs H Q E h => ?_) (fun cdv A outer s H vs Q E hr h => ?_)
  · obtain ⟨a, ns, rfl, _⟩ := h
    rfl
  obtain ⟨a, ns, rfl, ha, t1, t2⟩ := h
  refine ⟨_, (pss_cons (ps_try (i := 1) sc_wrong.nd rfl rfl rfl T.m_NoSheet (fun _ _ => (pss_one (ps_expr (pe_callC Cfunctions hr rfl (pa_cons (pv 0) pa_nil) passX)))) (fun _ => (pss_one (ps_ret (pe_tup (pa_cons (pe_fldXK K rfl (pv 1)) (pa_cons (pe_fldXK K rfl (pv 1)) pa_nil)))))))
      (pss_one (ps_ret pe_non))), ?_⟩
  try dsimp only [Cx.nox, Cx.exc, Cx.wish, cxOf_K]
  refine ⟨_, rfl, a, ns, rfl, ha, fun r er l H1 s1 _ _ => t1 r er H1 s1, fun p wd er d H1 s1 ed => ⟨CN, d, rfl, rfl, T.mch, fun x σ1 ex hn => ?_⟩⟩
  match σ1, hn with
  | [y0, y1], _ =>
    refine ⟨_, rfl, x, CN, d, _, _, rfl, ex, ed, T.exc, T.xplace, rfl, _, rfl, x, CN, d, _, _, rfl, ex, ed, T.exc, T.xword, rfl, small (show 2 ≤ 1000 by decide), fun t ht => ?_⟩
    exact t2 p wd er t _ (s1.trans (same_new ht _)) upd_same

theorem ok_mixed (F : Fun K "_law_mixed" "_law_mixed" s__law_mixed f fd) : FnOk P w K mg base (CXE P w) 1 f fd ["_law_cell", "_law_k"] spMixed := by
  refine F.okN sc__law_mixed (fun vs H Q E h => ?_) (fun cdv A outer s H vs Q E hr h => ?_)
  · obtain ⟨c, k, rfl, _⟩ := h
    rfl
  obtain ⟨c, k, rfl, q⟩ := h
  refine ⟨_, (pss_cons (ps_set (i := 2) sc__law_mixed.nd rfl (Or.inl rfl) (pe_op op_mod (pe_op op_mul (pe_op op_add (pe_op op_add (pe_op op_mod (pv 0) pe_int) (pe_op op_mul pe_int (pv 1))) pe_int) pe_int) pe_int))
      (pss_cons (ps_set (i := 3) sc__law_mixed.nd rfl (Or.inl rfl) (pe_op op_mod (pe_op op_add (pe_op op_add (pe_op op_mul (pv 2) (pv 2)) (pe_op op_mul pe_int (pv 2))) (pe_op op_mul pe_int (pv 1))) pe_int))
      (pss_one (ps_ret (pe_op op_fdivB (pe_op op_mod (pe_op op_mul (pv 3) (pe_op op_add (pv 3) pe_int)) pe_int) pe_int))))), ?_⟩
  try dsimp only [Cx.nox, Cx.exc, Cx.wish, cxOf_K]
  have p1 : (0 : Int) < 2147483587 := by decide
  have p2 : (0 : Int) < 2147483647 := by decide
  have p3 : (0 : Int) < 2147483563 := by decide
  have p4 : (0 : Int) < 1073741783 := by decide
  refine ⟨_, rfl, _, _, rfl, rfl, p1, _, rfl, _, _, rfl, rfl, .inl ⟨by decide, by decide⟩, _, _, rfl, rfl, _, _, rfl, rfl, _, _, rfl, rfl, .inr ⟨by decide, by decide⟩, _, _, rfl, rfl, p2, ?_⟩
  generalize (c % 2147483587 + 30011 * k + 4711) * 39373 = A1
  have a1 := Int.emod_nonneg A1 (show (2147483647 : Int) ≠ 0 by decide)
  have a2 := Int.emod_lt_of_pos A1 p2
  generalize A1 % 2147483647 = A2 at *
  refine ⟨_, rfl, _, rfl, _, _, rfl, rfl, .inl ⟨by (first | lia | omega), by (first | lia | omega)⟩, _, rfl, _, _, rfl, rfl, .inl ⟨by decide, by decide⟩, _, _, rfl, rfl, _, rfl, _, _, rfl, rfl, .inl ⟨by decide, by decide⟩, _, _, rfl, rfl, _, _, rfl, rfl, p3, ?_⟩
  generalize A2 * A2 + 40014 * A2 + 7 * k = A3
  have a3 := Int.emod_nonneg A3 (show (2147483563 : Int) ≠ 0 by decide)
  have a4 := Int.emod_lt_of_pos A3 p3
  generalize A3 % 2147483563 = A4 at *
  refine ⟨_, rfl, _, rfl, _, _, rfl, rfl, _, _, rfl, rfl, .inl ⟨by (first | lia | omega), by (first | lia | omega)⟩, _, _, rfl, rfl, p4, _, _, rfl, rfl, ⟨by decide, by decide⟩, ?_⟩
  exact q _ (Int.ediv_nonneg (Int.emod_nonneg _ (by decide)) (by decide))
theorem ok_take (T : Txt K mg aP CL CN) (F : Fun K "_law_take" "_law_take" s__law_take f fd) (C_law_mixed : Cal P w K mg base (CXE P w) 1 "_law_mixed" ["_law_cell", "_law_k"] spMixed) : FnOk P w K mg base (CXE P w) 2 f fd ["_law_state", "_law_many_here"] (spTakeB K) := by
  refine F.okN sc__law_take (fun vs H Q E h => ?_) (fun cdv A outer s H vs Q E hr h => ?_)
  · obtain ⟨st, m, rfl, _⟩ := h
    rfl
  obtain ⟨st, m, rfl, hm0, hm1, D, q⟩ := h
  refine ⟨_, (pss_cons (ps_if (pt_cmpR op_eq (pe_ix ix_list (pv 0) pe_int (fun _ _ => rfl)) pe_int (nomark _)) (pss_cons (ps_set (i := 2) sc__law_take.nd rfl (Or.inl rfl) (pe_ix ix_list (pv 0) pe_int (fun _ _ => rfl)))
      (pss_cons (ps_set (i := 3) sc__law_take.nd rfl (Or.inl rfl) (pe_ix ix_list (pv 0) pe_int (fun _ _ => rfl)))
      (pss_cons (ps_asg (pe_op op_add (pv 3) pe_int) (pg_sub (pv 0) pe_int set_list))
      (pss_cons (ps_set (i := 4) sc__law_take.nd rfl (Or.inl rfl) pe_int)
      (pss_cons (ps_if (pt_cmpR op_lt (pv 3) (pe_callB call_len_seq rfl T.n_len bt_len (pa_cons (pv 2) pa_nil)) (nomark _)) (pss_one (ps_set (i := 4) sc__law_take.nd rfl (Or.inl rfl) (pe_ix ix_list (pv 2) (pv 3) (fun _ _ => rfl)))) (pss_one (ps_if (pt_cmpR op_gt (pe_callB call_len_seq rfl T.n_len bt_len (pa_cons (pv 2) pa_nil)) pe_int (nomark _)) (pss_one (ps_set (i := 4) sc__law_take.nd rfl (Or.inl rfl) (pe_op op_mod (pe_ix ix_list (pv 2) (pe_op op_mod (pv 3) (pe_callB call_len_seq rfl T.n_len bt_len (pa_cons (pv 2) pa_nil))) (fun _ _ => rfl)) (pe_op op_pow pe_int pe_int)))) pss_nil)))
      (pss_cons (ps_if (pt_cmpR op_lt (pe_callB call_abs rfl T.n_abs bt_abs (pa_cons (pv 4) pa_nil)) (pe_op op_pow pe_int pe_int) (nomark _)) (pss_one (ps_ret (pe_op op_mod (pe_callC C_law_mixed hr rfl (pa_cons (pv 4) (pa_cons (pv 3) pa_nil)) passN) (pv 1)))) pss_nil)
      (pss_one (ps_asg (pe_callB call_abs rfl T.n_abs bt_abs (pa_cons (pv 4) pa_nil)) (pg_sub (pv 0) pe_int set_list))))))))) pss_nil)
      (pss_cons (ps_set (i := 5) sc__law_take.nd rfl (Or.inl rfl) (pe_op op_mod (pe_ix ix_list (pv 0) pe_int (fun _ _ => rfl)) (pv 1)))
      (pss_cons (ps_asg (pe_op op_fdivB (pe_ix ix_list (pv 0) pe_int (fun _ _ => rfl)) (pv 1)) (pg_sub (pv 0) pe_int set_list))
      (pss_one (ps_ret (pv 5)))))), ?_⟩
  try dsimp only [Cx.nox, Cx.exc, Cx.wish, cxOf_K]
  obtain ⟨a, ns, k, c, hst, hs, hl, hk, hc⟩ := D
  refine ⟨_, rfl, st, _, _, _, rfl, rfl, SqL.of hst, rfl, rfl, _, rfl, ?_⟩
  have last : ∀ (H2 : Hp) (c2 : Int) (k2 : Int) (σ : St), H2 st = some (.lst [.ref a, .int k2, .int c2]) → Keep st H H2 → 0 ≤ k2 → 0 ≤ c2 → σ[0]? = some (some (.ref st)) → σ[1]? = some (some (.int m)) → 5 < σ.length →
      (tSeq (tAsg (tOp (rI (fun x j => 0 < j) fun i j => V.int (i % j)) (tOp (rIxL K) (tVar 0) (tC (V.int 2))) (tVar 1)) (gName 5))
        (tSeq (tAsg (tOp (rI CDivB fun i j => V.int (i / j)) (tOp (rIxL K) (tVar 0) (tC (V.int 2))) (tVar 1)) (gSub (tVar 0) (tC (V.int 2)) rSetL)) (tRet (tVar 5)))) { nx := fun _ H' => Q V.non H', rt := Q } σ H2 := by
    intro H2 c2 k2 σ e2 kp hk2 hc2 s0 s1 sl
    refine ⟨_, s0, st, _, _, _, rfl, rfl, SqL.of e2, rfl, _, s1, _, _, rfl, rfl, hm0, ?_⟩
    refine ⟨_, (List.getElem?_set_ne (by decide)).trans s0, st, _, _, _, rfl, rfl, SqL.of e2, rfl, _, (List.getElem?_set_ne (by decide)).trans s1, _, _, rfl, rfl, divB hm0 hm1, ?_⟩
    refine ⟨_, (List.getElem?_set_ne (by decide)).trans s0, st, _, _, _, rfl, rfl, e2, rfl, ?_⟩
    refine ⟨_, List.getElem?_set_self sl, ?_⟩
    refine q _ _ (Int.emod_nonneg _ (by (first | lia | omega))) (Int.emod_lt_of_pos _ hm0) ⟨⟨a, ns, k2, c2 / m, upd_same, (hs.keep hst kp).keep e2 Keep.upd, hl, hk2, Int.ediv_nonneg hc2 (by (first | lia | omega))⟩, kp.trans Keep.upd⟩
  refine ite2 (fun c0 => ?_) (fun c0 => ?_)
  · refine ⟨_, rfl, st, _, _, _, rfl, rfl, SqL.of hst, rfl, ?_⟩
    refine ⟨_, rfl, st, _, _, _, rfl, rfl, SqL.of hst, rfl, ?_⟩
    refine ⟨_, rfl, _, _, rfl, rfl, _, rfl, st, _, _, _, rfl, rfl, hst, rfl, ?_⟩
    have h1 : upd H st (.lst [.ref a, .int (k + 1), .int c]) st = some (.lst [.ref a, .int (k + 1), .int c]) := upd_same
    have k1 : Keep st H (upd H st (.lst [.ref a, .int (k + 1), .int c])) := Keep.upd
    have s1 : Scr K (upd H st (.lst [.ref a, .int (k + 1), .int c])) a ns := hs.keep hst k1
    have c1 : c = 0 := by
      have := of_decide_eq_true c0
      injection this
    have after : ∀ (x : Int), (tSeq (tIfS (tTest (tOp (rI0 fun i j => V.bl (decide (i < j))) (tCB (fun xs H Q => ∃ i, xs = [V.int i] ∧ Q (V.int (if i < 0 then -i else i)) H) (tCons (tVar 4) tNil)) (tOp (rI CPow fun i j => V.int (i ^ j.toNat)) (tC (V.int 10)) (tC (V.int 18)))))
        (tRet (tOp (rI (fun x j => 0 < j) fun i j => V.int (i % j)) (tCall spMixed [] E0 (tCons (tVar 4) (tCons (tVar 3) tNil))) (tVar 1))) tNext)
        (tAsg (tCB (fun xs H Q => ∃ i, xs = [V.int i] ∧ Q (V.int (if i < 0 then -i else i)) H) (tCons (tVar 4) tNil)) (gSub (tVar 0) (tC (V.int 2)) rSetL)))
        { nx := tSeq (tAsg (tOp (rI (fun x j => 0 < j) fun i j => V.int (i % j)) (tOp (rIxL K) (tVar 0) (tC (V.int 2))) (tVar 1)) (gName 5))
            (tSeq (tAsg (tOp (rI CDivB fun i j => V.int (i / j)) (tOp (rIxL K) (tVar 0) (tC (V.int 2))) (tVar 1)) (gSub (tVar 0) (tC (V.int 2)) rSetL)) (tRet (tVar 5))) { nx := fun _ H' => Q V.non H', rt := Q }, rt := Q }
        [some (.ref st), some (.int m), some (.ref a), some (.int k), some (.int x), none] (upd H st (.lst [.ref a, .int (k + 1), .int c])) := by
      intro x
      refine ⟨_, rfl, _, rfl, _, _, rfl, rfl, ⟨by decide, by decide, by decide⟩, _, _, rfl, rfl, _, rfl, ?_⟩
      refine ite2 (fun _ => ?_) (fun _ => ?_)
      · refine ⟨_, rfl, _, rfl, _, _, rfl, fun r hr0 => ⟨_, rfl, _, _, rfl, rfl, hm0, ?_⟩⟩
        exact q _ _ (Int.emod_nonneg _ (by (first | lia | omega))) (Int.emod_lt_of_pos _ hm0) ⟨⟨a, ns, k + 1, c, h1, s1, hl, by (first | lia | omega), hc⟩, k1⟩
      · refine ⟨_, rfl, _, rfl, _, rfl, st, _, _, _, rfl, rfl, h1, rfl, ?_⟩
        refine last _ (if x < 0 then -x else x) (k + 1) _ upd_same (k1.trans Keep.upd) (by (first | lia | omega)) (by split <;> (first | lia | omega)) rfl rfl (by show 5 < 6; decide)
    have hlen : ((ns.map V.int).length : Int) = ns.length := by rw [List.length_map]
    refine ⟨_, rfl, _, rfl, a, _, rfl, .inl s1.sq, _, _, rfl, rfl, _, rfl, ?_⟩
    refine ite2 (fun ck => ?_) (fun ck => ?_)
    · have ck' := of_decide_eq_true ck
      rw [hlen] at ck'
      obtain ⟨v, hv⟩ := atI_int (ns := ns) hk ck'
      exact ⟨_, rfl, _, rfl, a, _, _, _, rfl, rfl, s1.sq, hv, after v⟩
    · refine ⟨_, rfl, a, _, rfl, .inl s1.sq, _, _, rfl, rfl, _, rfl, ?_⟩
      refine ite2 (fun cl => ?_) (fun cl => after 0)
      have cl' := of_decide_eq_true cl
      obtain ⟨v, hv⟩ := atI_int (ns := ns) (k := k % ((ns.map V.int).length : Int)) (Int.emod_nonneg _ (by (first | lia | omega))) (by rw [← hlen]; exact Int.emod_lt_of_pos _ cl')
      exact ⟨_, rfl, _, rfl, _, rfl, a, _, rfl, .inl s1.sq, _, _, rfl, rfl, cl', a, _, _, _, rfl, rfl, s1.sq, hv, _, _, rfl, rfl, ⟨by decide, by decide, by decide⟩, _, _, rfl, rfl, (show (0 : Int) < 10 ^ 17 by decide), after _⟩
  · exact last H c k _ hst (Keep.refl _ _) hk hc rfl rfl (by show 5 < 6; decide)

noncomputable def InvLHeads (st hd : Addr) (m : Int) (H : Hp) (i : Nat) (σ' : St) (H' : Hp) : Prop := ∃ (hs : Hds) (rs : List V) (v3 v4 : Option V), σ' = [some (.ref st), some (.int m), some (.ref hd), v3, v4] ∧ hs.length = i ∧ Drawn K st H H' ∧ H' hd = some (.lst rs) ∧ Paired (HeadAt H') rs hs ∧
      ∀ (i : Nat) (h : Int × Int), hs[i]? = some h → 0 ≤ h.1 ∧ h.1 ≤ 4 ∧ h.1 ≤ h.2 ∧ h.2 ≤ 12 ∧ (i = 0 → h.1 = 0)
theorem ok_lheads (T : Txt K mg aP CL CN) (F : Fun K "_law_heads" "_law_heads" s__law_heads f fd) (C_law_take : Cal P w K mg base (CXE P w) 2 "_law_take" ["_law_state", "_law_many_here"] (spTakeB K)) : FnOk P w K mg base (CXE P w) 3 f fd ["_law_state"] (spHeadsL K) := by
  refine F.okN sc__law_heads (fun vs H Q E h => ?_) (fun cdv A outer s H vs Q E hr h => ?_)
  · obtain ⟨st, rfl, _⟩ := h
    rfl
  obtain ⟨st, rfl, D, q⟩ := h
  refine ⟨_, (pss_cons (ps_set (i := 1) sc__law_heads.nd rfl (Or.inl rfl) (pe_op op_add pe_int (pe_callC C_law_take hr rfl (pa_cons (pv 0) (pa_cons pe_int pa_nil)) passN)))
      (pss_cons (ps_cut (ps_if (pt_cmpR op_eq (pe_callC C_law_take hr rfl (pa_cons (pv 0) (pa_cons pe_int pa_nil)) passN) pe_int (nomark _)) (pss_one (ps_set (i := 1) sc__law_heads.nd rfl (Or.inl rfl) (pe_op op_add pe_int (pe_callC C_law_take hr rfl (pa_cons (pv 0) (pa_cons pe_int pa_nil)) passN)))) pss_nil))
      (pss_cons (ps_set (i := 2) sc__law_heads.nd rfl (Or.inl rfl) (pe_lst pa_nil))
      (pss_cons (ps_for PassesOwn.never rfl (pi_range1 rfl T.n_range (pa_cons (pv 1) pa_nil)) (pg_name (i := 3) sc__law_heads.nd rfl (Or.inl rfl)) (pss_cons (ps_set (i := 4) sc__law_heads.nd rfl (Or.inl rfl) (pe_op op_mul (pe_callC C_law_take hr rfl (pa_cons (pv 0) (pa_cons pe_int pa_nil)) passN) (pe_callTy call_int1 rfl T.n_int bt_int (pa_cons (pe_cmpR op_gt (pv 3) pe_int (nomark _)) pa_nil))))
      (pss_one (ps_expr (pe_bm PySem.F.plainAttrs_list PySem.F.slot_list_append PySem.F.type_list_append mt_append (pv 2) (pa_cons (pe_tup (pa_cons (pv 4) (pa_cons (pe_op op_add (pv 4) (pe_callC C_law_take hr rfl (pa_cons (pv 0) (pa_cons (pe_ix ix_list (pe_lst (pa_cons (pe_op op_sub pe_int (pv 4)) (pa_cons pe_int pa_nil))) (pe_callC C_law_take hr rfl (pa_cons (pv 0) (pa_cons pe_int pa_nil)) passN) (fun _ _ => rfl)) pa_nil)) passN)) pa_nil))) pa_nil))))))
      (pss_one (ps_ret (pv 2))))))), ?_⟩
  try dsimp only [Cx.nox, Cx.exc, Cx.wish, cxOf_K]
  refine ⟨_, rfl, st, 4, rfl, by decide, by decide, D, fun r H1 r0 r1 d1 => ⟨_, _, rfl, rfl, ?_⟩⟩
  refine ⟨fun σ' H' => ∃ m : Int, 1 ≤ m ∧ m ≤ 16 ∧ Drawn K st H H' ∧ σ' = [some (.ref st), some (.int m), none, none, none], ?_, ?_⟩
  · refine ⟨_, rfl, st, 8, rfl, by decide, by decide, d1.draw, fun r2 H2 a2 b2 d2 => ⟨rfl, _, rfl, ite2 (fun _ => ?_) (fun _ => ?_)⟩⟩
    · exact ⟨_, rfl, st, 16, rfl, by decide, by decide, d2.draw, fun r3 H3 a3 b3 d3 => ⟨_, _, rfl, rfl, 1 + r3, by (first | lia | omega), by (first | lia | omega), d1.trans (d2.trans d3), rfl⟩⟩
    · exact ⟨1 + r, by (first | lia | omega), by (first | lia | omega), d1.trans d2, rfl⟩
  rintro σ' H' ⟨m, m1, m16, d3, rfl⟩
  refine ⟨small (show 0 ≤ 1000 by decide), fun hd hhd => ?_⟩
  have nsh := d3.draw.ne hhd
  have d4 := d3.trans (d3.draw.new hhd (.lst []))
  have nH : H hd = none := by
    cases e : H hd with
    | none => rfl
    | some o => rw [d3.keep hd o (Ne.symm nsh) e] at hhd; cases hhd
  refine ⟨_, rfl, _, rfl, by (first | lia | omega), by (first | lia | omega), for_range (lo := 0) (n := m.toNat) (InvLHeads (K := K) st hd m H) ⟨[], [], _, _, rfl, rfl, d4, upd_same, .nil, fun i h e => by simp at e⟩ ?_ ?_⟩
  · rintro i σ' H' hi ⟨hs, rs, v3, v4, rfl, hn, dd, eh, pr, al⟩
    refine ⟨_, rfl, st, 5, rfl, by decide, by decide, dd.draw, fun r5 H5 a5 b5 d5 => ?_⟩
    refine ⟨_, rfl, _, _, rfl, rfl, .inr ⟨_, rfl, _, _, rfl, rfl, .inl ⟨by (first | lia | omega), by (first | lia | omega)⟩, ?_⟩⟩
    obtain ⟨pa, hp⟩ : ∃ pa, r5 * (if decide (0 < (0 : Int) + (i : Int)) = true then 1 else 0) = pa := ⟨_, rfl⟩
    show gName 4 (V.int (r5 * (if decide (0 < (0 : Int) + (i : Int)) = true then 1 else 0))) _ _ _
    rw [hp]
    have p0 : 0 ≤ pa ∧ pa ≤ 4 ∧ (i = 0 → pa = 0) := by
      rw [← hp]
      by_cases c : 0 < i
      · rw [if_pos (decide_eq_true (by (first | lia | omega)))]; (first | lia | omega)
      · rw [if_neg (fun z => by have := of_decide_eq_true z; (first | lia | omega))]; (first | lia | omega)
    have eh5 := d5.keep hd _ (Ne.symm nsh) eh
    refine ⟨_, rfl, .inl ⟨rfl, _, .of eh5⟩, _, rfl, _, rfl, _, rfl, _, rfl, _, _, rfl, rfl, small (show 2 ≤ 1000 by decide), fun p6 hp6 => ?_⟩
    have d6 := d5.draw.new hp6 (.lst [.int (13 - pa), .int 4])
    have n6 := d5.draw.ne hp6
    refine ⟨_, rfl, st, 2, rfl, by decide, by decide, d6.draw, fun r7 H7 a7 b7 d7 => ?_⟩
    obtain ⟨many, am, m0, m13⟩ : ∃ many : Int, atI [V.int (13 - pa), V.int 4] r7 = some (.int many) ∧ 0 < many ∧ pa + many ≤ 13 := by
      rcases (show r7 = 0 ∨ r7 = 1 by (first | lia | omega)) with rfl | rfl
      · exact ⟨13 - pa, rfl, by (first | lia | omega), by (first | lia | omega)⟩
      · exact ⟨4, rfl, by (first | lia | omega), by (first | lia | omega)⟩
    refine ⟨p6, _, _, _, rfl, rfl, .of (d7.keep p6 _ (Ne.symm n6) upd_same), am, st, many, rfl, m0, by (first | lia | omega), d7.draw, fun r8 H8 a8 b8 d8 => ?_⟩
    refine ⟨_, _, rfl, rfl, small (show 2 ≤ 1000 by decide), fun t9 ht9 => ?_⟩
    have D8 := d5.trans (d6.trans (d7.trans d8))
    have d9 := d8.draw.new ht9 (.tup [.int pa, .int (pa + r8)])
    have D9 := D8.trans d9
    have eh9 := D9.keep hd _ (Ne.symm nsh) eh
    have len : rs.length ≤ 16 := by have := Paired.len pr; (first | lia | omega)
    refine ⟨hd, rs, _, rfl, rfl, eh9, small1000 (by (first | lia | omega)), ?_⟩
    have nt : hd ≠ t9 := ne_of_none (D8.keep hd _ (Ne.symm nsh) eh) ht9
    obtain ⟨a0, ns0, k0, c0, est, _⟩ := dd.draw
    have tp : Tups H' (upd (upd H8 t9 (.tup [.int pa, .int (pa + r8)])) hd (.lst (rs ++ [.ref t9]))) := .trans (.keepL est D9.keep) (.upd eh9)
    refine ⟨hs ++ [(pa, pa + r8)], _, _, _, rfl, by simp [hn], ⟨D9.draw.put eh9 (Ne.symm nsh), (dd.trans D9).keep.fresh nH⟩, upd_same, Paired.snoc (Paired.imp (fun _ _ z => z.tups tp) pr) ⟨t9, rfl, by rw [upd_ne (Ne.symm nt)]; exact upd_same⟩, ?_⟩
    intro j h e
    by_cases c : j < hs.length
    · rw [List.getElem?_append_left c] at e
      exact al j h e
    · rw [List.getElem?_append_right (by (first | lia | omega))] at e
      have : j - hs.length = 0 := by
        rcases Nat.eq_zero_or_pos (j - hs.length) with z | z
        · exact z
        · rw [List.getElem?_eq_none (by simp; (first | lia | omega))] at e; cases e
      rw [this] at e
      cases e
      show 0 ≤ pa ∧ pa ≤ 4 ∧ pa ≤ pa + r8 ∧ pa + r8 ≤ 12 ∧ (j = 0 → pa = 0)
      exact ⟨by (first | lia | omega), by (first | lia | omega), by (first | lia | omega), by (first | lia | omega), fun z => p0.2.2 (by (first | lia | omega))⟩
  · rintro σ' H' ⟨hs, rs, v3, v4, rfl, hn, dd, eh, pr, al⟩
    exact ⟨_, rfl, q hd H' hs dd ⟨rs, eh, pr⟩ ⟨by (first | lia | omega), by (first | lia | omega), al⟩⟩
theorem ok_number (T : Txt K mg aP CL CN) (F : Fun K "_law_number" "_law_number" s__law_number f fd) (C_law_take : Cal P w K mg base (CXE P w) 2 "_law_take" ["_law_state", "_law_many_here"] (spTakeB K)) : FnOk P w K mg base (CXE P w) 3 f fd ["_law_state"] (spNumber K) := by
  refine F.okN sc__law_number (fun vs H Q E h => ?_) (fun cdv A outer s H vs Q E hr h => ?_)
  · obtain ⟨st, rfl, _⟩ := h
    rfl
  obtain ⟨st, rfl, D, q⟩ := h
  refine ⟨_, (pss_cons (ps_set (i := 1) sc__law_number.nd rfl (Or.inl rfl) (pe_callC C_law_take hr rfl (pa_cons (pv 0) (pa_cons pe_int pa_nil)) passN))
      (pss_cons (ps_if (pt_cmpR op_lt (pv 1) pe_int (nomark _)) (pss_one (ps_ret (pe_op op_sub (pe_callC C_law_take hr rfl (pa_cons (pv 0) (pa_cons pe_int pa_nil)) passN) pe_int))) pss_nil)
      (pss_cons (ps_if (pt_cmpR op_eq (pv 1) pe_int (nomark _)) (pss_one (ps_ret (pe_op op_sub (pe_callC C_law_take hr rfl (pa_cons (pv 0) (pa_cons pe_int pa_nil)) passN) pe_int))) pss_nil)
      (pss_one (ps_ret (pe_op op_add (pe_op op_sub (pe_callC C_law_take hr rfl (pa_cons (pv 0) (pa_cons (pe_op op_sub (pe_op op_mul pe_int (pe_op op_pow pe_int pe_int)) pe_int) pa_nil)) passN) (pe_op op_pow pe_int pe_int)) pe_int)))))), ?_⟩
  try dsimp only [Cx.nox, Cx.exc, Cx.wish, cxOf_K]
  refine ⟨_, rfl, st, 6, rfl, by decide, by decide, D, fun r H1 r0 r1 d1 => ?_⟩
  refine ⟨_, rfl, _, _, rfl, rfl, _, rfl, ite2 (fun _ => ?_) (fun _ => ?_)⟩
  · exact ⟨_, rfl, st, 9, rfl, by decide, by decide, d1.draw, fun r2 H2 a2 b2 d2 => ⟨_, _, rfl, rfl, q _ _ (d1.trans d2)⟩⟩
  refine ⟨_, rfl, rfl, _, rfl, ite2 (fun _ => ?_) (fun _ => ?_)⟩
  · exact ⟨_, rfl, st, 400, rfl, by decide, by decide, d1.draw, fun r2 H2 a2 b2 d2 => ⟨_, _, rfl, rfl, q _ _ (d1.trans d2)⟩⟩
  · refine ⟨_, rfl, _, _, rfl, rfl, ⟨by decide, by decide, by decide⟩, _, _, rfl, rfl, .inl ⟨by decide, by decide⟩, _, _, rfl, rfl, st, _, rfl, by decide, by decide, d1.draw, fun r2 H2 a2 b2 d2 => ?_⟩
    exact ⟨_, _, rfl, rfl, ⟨by decide, by decide, by decide⟩, _, _, rfl, rfl, _, _, rfl, rfl, q _ _ (d1.trans d2)⟩
theorem ok_leaf (T : Txt K mg aP CL CN) (F : Fun K "_law_leaf" "_law_leaf" s__law_leaf f fd) (C_law_take : Cal P w K mg base (CXE P w) 2 "_law_take" ["_law_state", "_law_many_here"] (spTakeB K)) (C_law_number : Cal P w K mg base (CXE P w) 3 "_law_number" ["_law_state"] (spNumber K)) :
    FnOk P w K mg base (CXE P w) 4 f fd ["_law_state", "_law_boxes"] (spLeaf K) := by
  refine F.okN sc__law_leaf (fun vs H Q E h => ?_) (fun cdv A outer s H vs Q E hr h => ?_)
  · obtain ⟨st, boxes, rfl, _⟩ := h
    rfl
  obtain ⟨st, boxes, rfl, hb, D, q⟩ := h
  refine ⟨_, (pss_cons (ps_set (i := 2) sc__law_leaf.nd rfl (Or.inl rfl) (pe_callC C_law_take hr rfl (pa_cons (pv 0) (pa_cons pe_int pa_nil)) passN))
      (pss_cons (ps_if (PW.pt (pw_and (pt_cmpR op_lt (pv 2) pe_int (nomark _)) (pw_and1 (pt_cmpR op_gt (pv 1) pe_int (nomark _))))) (pss_one (ps_ret (pe_lst (pa_cons pe_int (pa_cons (pe_callC C_law_take hr rfl (pa_cons (pv 0) (pa_cons (pv 1) pa_nil)) passN) pa_nil))))) pss_nil)
      (pss_cons (ps_if (pt_cmpR op_eq (pv 2) pe_int (nomark _)) (pss_one (ps_ret (pe_lst (pa_cons pe_int pa_nil)))) pss_nil)
      (pss_one (ps_ret (pe_lst (pa_cons pe_int (pa_cons (pe_callC C_law_number hr rfl (pa_cons (pv 0) pa_nil) passN) pa_nil)))))))), ?_⟩
  try dsimp only [Cx.nox, Cx.exc, Cx.wish, cxOf_K]
  refine ⟨_, rfl, st, 5, rfl, by decide, by decide, D, fun r H1 r0 r1 d1 => ?_⟩
  have tail : ∀ (H2 : Hp), Drawn K st H H2 → ∀ (zs : List Int), Leaf boxes zs → zs.length ≤ sizeLine ∧ ∀ p, H2 p = none → Q (.ref p) (upd H2 p (.lst (zs.map V.int))) := fun H2 d2 zs lf =>
    ⟨small (by have := lf.len; (first | lia | omega)), fun p hp => q p zs _ (d2.trans (d2.draw.new hp _)) (d2.free hp) upd_same lf⟩
  have rest : ∀ (u : Prop), (u → False) → True := fun _ _ => trivial
  refine ⟨_, rfl, _, _, rfl, rfl, _, rfl, ite2 (fun _ => ?_) (fun _ => ?_)⟩
  · refine ⟨_, rfl, _, _, rfl, rfl, _, rfl, ite2 (fun c => ?_) (fun _ => ?_)⟩
    · have c' := of_decide_eq_true c
      exact ⟨_, rfl, _, rfl, st, boxes, rfl, c', by (first | lia | omega), d1.draw, fun x H2 a2 b2 d2 => tail H2 (d1.trans d2) [1, x] (.inl ⟨x, rfl, a2, b2⟩)⟩
    · refine ⟨_, rfl, rfl, _, rfl, ite2 (fun _ => ?_) (fun _ => ?_)⟩
      · exact tail H1 d1 [19] (.inr (.inl rfl))
      · exact ⟨_, rfl, st, rfl, d1.draw, fun n H2 d2 => tail H2 (d1.trans d2) [0, n] (.inr (.inr ⟨n, rfl⟩))⟩
  · refine iteF ?_
    refine ⟨_, rfl, rfl, _, rfl, ite2 (fun _ => ?_) (fun _ => ?_)⟩
    · exact tail H1 d1 [19] (.inr (.inl rfl))
    · exact ⟨_, rfl, st, rfl, d1.draw, fun n H2 d2 => tail H2 (d1.trans d2) [0, n] (.inr (.inr ⟨n, rfl⟩))⟩
theorem ok_lhead (T : Txt K mg aP CL CN) (F : Fun K "_law_head" "_law_head" s__law_head f fd) (C_law_take : Cal P w K mg base (CXE P w) 2 "_law_take" ["_law_state", "_law_many_here"] (spTakeB K)) :
    FnOk P w K mg base (CXE P w) 3 f fd ["_law_state", "_law_heads_here", "_law_boxes"] (spHead K) := by
  refine F.okN sc__law_head (fun vs H Q E h => ?_) (fun cdv A outer s H vs Q E hr h => ?_)
  · obtain ⟨st, hd, hs, boxes, rfl, _⟩ := h
    rfl
  obtain ⟨st, hd, hs, boxes, rfl, hb, D, hh, hg, q⟩ := h
  refine ⟨_, (pss_cons (ps_set (i := 3) sc__law_head.nd rfl (Or.inl rfl) (pe_callC C_law_take hr rfl (pa_cons (pv 0) (pa_cons pe_int pa_nil)) passN))
      (pss_cons (ps_cut (ps_if (PW.pt (pw_and (pt_cmpR op_eq (pv 3) pe_int (nomark _)) (pw_and1 (pt_cmpR op_gt (pv 2) pe_int (nomark _))))) (pss_one (ps_ret (pe_tup (pa_cons (pe_lst (pa_cons pe_int (pa_cons (pe_callC C_law_take hr rfl (pa_cons (pv 0) (pa_cons (pv 2) pa_nil)) passN) pa_nil))) (pa_cons pe_int pa_nil))))) pss_nil))
      (pss_cons (ps_if (pt_cmpR op_eq (pv 3) pe_int (nomark _)) (pss_cons (ps_set (i := 4) sc__law_head.nd rfl (Or.inl rfl) (pe_op op_add pe_int (pe_callC C_law_take hr rfl (pa_cons (pv 0) (pa_cons (pe_ix ix_list (pe_lst (pa_consts (.int (.int (.int (.int .nil)))))) (pe_callC C_law_take hr rfl (pa_cons (pv 0) (pa_cons pe_int pa_nil)) passN) (fun _ _ => rfl)) pa_nil)) passN)))
      (pss_one (ps_ret (pe_tup (pa_cons (pe_lst (pa_cons pe_int (pa_cons (pv 4) pa_nil))) (pa_cons (pv 4) pa_nil)))))) pss_nil)
      (pss_cons (ps_if (pt_cmpR op_eq (pv 3) pe_int (nomark _)) (pss_cons (ps_set (i := 4) sc__law_head.nd rfl (Or.inl rfl) (pe_op op_add pe_int (pe_callC C_law_take hr rfl (pa_cons (pv 0) (pa_cons (pe_ix ix_list (pe_lst (pa_consts (.int (.int (.int (.int .nil)))))) (pe_callC C_law_take hr rfl (pa_cons (pv 0) (pa_cons pe_int pa_nil)) passN) (fun _ _ => rfl)) pa_nil)) passN)))
      (pss_one (ps_ret (pe_tup (pa_cons (pe_lst (pa_cons pe_int (pa_cons (pv 4) pa_nil))) (pa_cons (pe_op op_add (pv 4) pe_int) pa_nil)))))) pss_nil)
      (pss_cons (ps_if (pt_cmpR op_eq (pv 3) pe_int (nomark _)) (pss_cons (ps_set (i := 5) sc__law_head.nd rfl (Or.inl rfl) (pe_callC C_law_take hr rfl (pa_cons (pv 0) (pa_cons (pe_callB call_len_seq rfl T.n_len bt_len (pa_cons (pv 1) pa_nil)) pa_nil)) passN))
      (pss_one (ps_ret (pe_tup (pa_cons (pe_lst (pa_cons pe_int (pa_cons (pv 5) pa_nil))) (pa_cons (pe_ix ix_tup (pe_ix ix_list (pv 1) (pv 5) (fun _ _ => rfl)) pe_int (fun _ _ => rfl)) pa_nil)))))) pss_nil)
      (pss_one (ps_ret (pe_tup (pa_cons (pe_lst (pa_cons (pv 3) pa_nil)) (pa_cons (pe_ix ix_list (pe_lst (pa_consts (.int (.int (.int (.int (.int (.int (.int (.int (.int (.int (.int (.int (.int (.int (.int (.int (.int (.int (.int (.int .nil)))))))))))))))))))))) (pv 3) (fun _ _ => rfl)) pa_nil)))))))))), ?_⟩
  try dsimp only [Cx.nox, Cx.exc, Cx.wish, cxOf_K]
  have fin : ∀ (H2 : Hp) (k : Int) (own : List Int) (many : Int) (l : Addr), Drawn K st H H2 → H l = none → H2 l = some (.lst ((k :: own).map V.int)) → own.length ≤ 1 → 0 ≤ k → k ≤ 19 → (k < 3 ∧ own = [] ∨ OwnFit hs boxes k own ∧ (k < 3 → own ≠ []) ∧ many = dueM hs k own) → 0 ≤ many → many ≤ 13 →
      2 ≤ sizeLine ∧ ∀ t, H2 t = none → Q (.ref t) (upd H2 t (.tup [.ref l, .int many])) := fun H2 k own many l d fr e lo k0 k1 c m0 m1 =>
    ⟨small (by decide), fun t ht => q t l k own many _ (d.trans (d.draw.new ht _)) fr upd_same (same_new ht _ _ _ e) lo k0 k1 c m0 m1⟩
  refine ⟨_, rfl, st, 20, rfl, by decide, by decide, D, fun k H1 k0 k1 d1 => ?_⟩
  refine ⟨fun σ' H' => σ' = [some (.ref st), some (.ref hd), some (.int boxes), some (.int k), none, none] ∧ H' = H1, ?_, ?_⟩
  · refine ⟨_, rfl, rfl, _, rfl, ite2 (fun c => ?_) (fun _ => iteF ⟨rfl, rfl⟩)⟩
    have k2 := vt c
    subst k2
    refine ⟨_, rfl, _, _, rfl, rfl, _, rfl, ite2 (fun c => ?_) (fun _ => ⟨rfl, rfl⟩)⟩
    have c' := of_decide_eq_true c
    refine ⟨_, rfl, _, rfl, st, boxes, rfl, c', by (first | lia | omega), d1.draw, fun x H2 a2 b2 d2 => ⟨small (show 2 ≤ 1000 by decide), fun l hl => ?_⟩⟩
    have d3 := d1.trans (d2.trans (d2.draw.new hl (.lst [.int 2, .int x])))
    exact fin _ 2 [x] 1 l d3 ((d1.trans d2).free hl) upd_same (by simp) (by decide) (by decide) (.inr ⟨.inr (.inl ⟨.inr rfl, x, rfl, a2, by (first | lia | omega)⟩), (fun _ => List.cons_ne_nil _ _), rfl⟩) (by decide) (by decide)
  rintro σ' H' ⟨rfl, rfl⟩
  refine ⟨_, rfl, rfl, _, rfl, ite2 (fun c => ?_) (fun c3 => ?_)⟩
  · have k3 := vt c
    subst k3
    refine ⟨_, rfl, small (show 4 ≤ 1000 by decide), fun p hp => ⟨_, rfl, st, 4, rfl, by decide, by decide, (d1.draw.new hp _).draw, fun r H2 a2 b2 d2 => ?_⟩⟩
    have dp := d1.trans ((d1.draw.new hp (.lst [.int 4, .int 4, .int 4, .int 12])).trans d2)
    obtain ⟨m, am, m0, m12⟩ : ∃ m : Int, atI [V.int 4, V.int 4, V.int 4, V.int 12] r = some (.int m) ∧ 0 < m ∧ m ≤ 12 := by
      rcases (show r = 0 ∨ r = 1 ∨ r = 2 ∨ r = 3 by (first | lia | omega)) with rfl | rfl | rfl | rfl
      all_goals exact ⟨_, rfl, by decide, by decide⟩
    refine ⟨p, _, _, _, rfl, rfl, .of (d2.keep p _ (Ne.symm (d1.draw.ne hp)) upd_same), am, st, m, rfl, m0, by (first | lia | omega), dp.draw, fun x H3 a3 b3 d3 => ⟨_, _, rfl, rfl, ?_⟩⟩
    refine ⟨_, rfl, small (show 2 ≤ 1000 by decide), fun l hl => ⟨_, rfl, ?_⟩⟩
    have d4 := (dp.trans d3).trans (d3.draw.new hl (.lst [.int 3, .int (1 + x)]))
    exact fin _ 3 [1 + x] (1 + x) l d4 ((dp.trans d3).free hl) upd_same (by simp) (by decide) (by decide) (.inr ⟨.inr (.inr (.inl ⟨rfl, 1 + x, rfl, by (first | lia | omega), by (first | lia | omega)⟩)), fun z => absurd z (by decide), rfl⟩) (by (first | lia | omega)) (by (first | lia | omega))
  refine ⟨_, rfl, rfl, _, rfl, ite2 (fun c => ?_) (fun c4 => ?_)⟩
  · have k4 := vt c
    subst k4
    refine ⟨_, rfl, small (show 4 ≤ 1000 by decide), fun p hp => ⟨_, rfl, st, 4, rfl, by decide, by decide, (d1.draw.new hp _).draw, fun r H2 a2 b2 d2 => ?_⟩⟩
    have dp := d1.trans ((d1.draw.new hp (.lst [.int 3, .int 3, .int 3, .int 11])).trans d2)
    obtain ⟨m, am, m0, m12⟩ : ∃ m : Int, atI [V.int 3, V.int 3, V.int 3, V.int 11] r = some (.int m) ∧ 0 < m ∧ m ≤ 11 := by
      rcases (show r = 0 ∨ r = 1 ∨ r = 2 ∨ r = 3 by (first | lia | omega)) with rfl | rfl | rfl | rfl
      all_goals exact ⟨_, rfl, by decide, by decide⟩
    refine ⟨p, _, _, _, rfl, rfl, .of (d2.keep p _ (Ne.symm (d1.draw.ne hp)) upd_same), am, st, m, rfl, m0, by (first | lia | omega), dp.draw, fun x H3 a3 b3 d3 => ⟨_, _, rfl, rfl, ?_⟩⟩
    refine ⟨_, rfl, small (show 2 ≤ 1000 by decide), fun l hl => ⟨_, rfl, _, _, rfl, rfl, ?_⟩⟩
    have d4 := (dp.trans d3).trans (d3.draw.new hl (.lst [.int 4, .int (2 + x)]))
    have du : (2 + x) + 1 = dueM hs 4 [2 + x] := by show _ = 1 + (2 + x); (first | lia | omega)
    exact fin _ 4 [2 + x] ((2 + x) + 1) l d4 ((dp.trans d3).free hl) upd_same (by simp) (by decide) (by decide) (.inr ⟨.inr (.inr (.inr (.inl ⟨rfl, 2 + x, rfl, by (first | lia | omega), by (first | lia | omega)⟩))), fun z => absurd z (by decide), du⟩) (by (first | lia | omega)) (by (first | lia | omega))
  refine ⟨_, rfl, rfl, _, rfl, ite2 (fun c => ?_) (fun c6 => ?_)⟩
  · have k6 := vt c
    subst k6
    obtain ⟨a0, ns0, kk0, cc0, est, _⟩ := id D
    obtain ⟨rs, eh, pr⟩ := id hh
    have nhs : hd ≠ st := hh.ne D
    have eh1 := d1.keep hd _ nhs eh
    have ln : rs.length = hs.length := Paired.len pr
    have g1 := hg.lo
    have g2 := hg.hi
    refine ⟨_, rfl, _, rfl, hd, _, rfl, .inl (.of eh1), st, _, rfl, by (first | lia | omega), by (first | lia | omega), d1.draw, fun x H2 a2 b2 d2 => ?_⟩
    have hx : x.toNat < hs.length := by (first | lia | omega)
    have e1 : hs[x.toNat]? = some hs[x.toNat] := List.getElem?_eq_getElem hx
    have e2 : rs[x.toNat]? = some rs[x.toNat] := List.getElem?_eq_getElem (by (first | lia | omega))
    obtain ⟨tt, er, et⟩ := Paired.get pr _ _ _ e2 e1
    have av : atI rs x = some (.ref tt) := by
      have := atI_nat (xs := rs) e2
      rw [show ((x.toNat : Nat) : Int) = x by (first | lia | omega), er] at this
      exact this
    refine ⟨_, rfl, small (show 2 ≤ 1000 by decide), fun l hl => ?_⟩
    have d3 := (d1.trans d2).trans (d2.draw.new hl (.lst [.int 6, .int x]))
    have et3 : upd H2 l (.lst [.int 6, .int x]) tt = some (.tup [.int hs[x.toNat].1, .int hs[x.toNat].2]) := d3.keep tt _ (fun z => by rw [z, est] at et; cases et) et
    refine ⟨_, rfl, _, rfl, hd, _, _, _, rfl, rfl, .of (d3.keep hd _ nhs eh), av, tt, _, _, _, rfl, rfl, .of et3, rfl, ?_⟩
    have b1 := hg.all _ _ e1
    have du : hs[x.toNat].1 = dueM hs 6 [x] := by
      show _ = (hs.getD x.toNat (0, 0)).1
      rw [List.getD_eq_getElem?_getD, e1]; rfl
    exact fin _ 6 [x] hs[x.toNat].1 l d3 ((d1.trans d2).free hl) upd_same (by simp) (by decide) (by decide) (.inr ⟨.inr (.inr (.inr (.inr (.inl ⟨rfl, x, rfl, a2, by (first | lia | omega)⟩)))), fun z => absurd z (by decide), du⟩) (by (first | lia | omega)) (by (first | lia | omega))
  · obtain ⟨v, ev, v0, v1, cv⟩ := head_table (hs := hs) (boxes := boxes) k0 k1 (vf c3) (vf c4) (vf c6)
    refine ⟨_, rfl, small (show 1 ≤ 1000 by decide), fun l hl => ⟨small (show 20 ≤ 1000 by decide), fun p hp => ⟨_, rfl, p, _, k, _, rfl, rfl, .of upd_same, ev, ?_⟩⟩⟩
    have d2 := d1.trans (d1.draw.new hl (.lst [.int k]))
    exact fin _ k [] v l (d2.trans (d2.draw.new hp _)) (d1.free hl) (same_new hp _ _ _ upd_same) (by decide) k0 (by (first | lia | omega)) cv v0 v1

noncomputable def spPrevL (K : PySem.W.Frag) : Nat → Sp
  | 0 => fun _ _ _ _ => False
  | d + 1 => spNodeL K d
noncomputable def InvLNode (st hd rm : Addr) (boxes k : Int) (d mn r : Nat) (hs : Hds) (own : List Int) (H : Hp) (i : Nat) (σ' : St) (H2 : Hp) : Prop := ∃ (zs : List Int) (lf : Addr) (r' : Nat) (v7 : Option V), σ' = [some (.ref st), some (.ref hd), some (.int boxes), some (.int (11 - ((d + 1 : Nat) : Int))), some (.ref rm), some (.ref lf), some (.int (mn : Int)), v7] ∧ Keep2 st rm H H2 ∧ Draw K H2 st ∧
      H2 rm = some (.lst [.int (r' : Nat)]) ∧ r' ≤ r - mn ∧ H2 lf = some (.lst ((k :: own ++ zs).map V.int)) ∧ H lf = none ∧ PP hs boxes d i zs ∧ zs.length + 2 * r' ≤ 2 * i + 2 * (r - mn)
theorem ok_lnode (d : Nat) (T : Txt K mg aP CL CN) (F : Fun K "_law_node" "_law_node" s__law_node f fd) (C_law_leaf : Cal P w K mg base (CXE P w) 4 "_law_leaf" ["_law_state", "_law_boxes"] (spLeaf K))
    (C_law_head : Cal P w K mg base (CXE P w) 3 "_law_head" ["_law_state", "_law_heads_here", "_law_boxes"] (spHead K)) (C_law_node : Cal P w K mg base (CXE P w) (4 + d) "_law_node" ["_law_state", "_law_heads_here", "_law_boxes", "_law_deep", "_law_room"] (spPrevL K d)) :
    FnOk P w K mg base (CXE P w) (4 + d + 1) f fd ["_law_state", "_law_heads_here", "_law_boxes", "_law_deep", "_law_room"] (spNodeL K d) := by
  refine F.okN sc__law_node (fun vs H Q E h => ?_) (fun cdv A outer s H vs Q E hr h => ?_)
  · obtain ⟨st, hd, hs, boxes, rm, r, rfl, _⟩ := h
    rfl
  obtain ⟨st, hd, hs, boxes, rm, r, rfl, h1, h10, hb, D, hh, hg, erm, hr1, nrh, q⟩ := h
  refine ⟨_, (pss_cons (ps_asg (pe_callC C_law_head hr rfl (pa_cons (pv 0) (pa_cons (pv 1) (pa_cons (pv 2) pa_nil))) passN) (pg_tup rfl (pgs_cons (pg_name (i := 5) sc__law_node.nd rfl (Or.inl rfl)) (pgs_cons (pg_name (i := 6) sc__law_node.nd rfl (Or.inl rfl)) pgs_nil))))
      (pss_cons (ps_cut (ps_if (PW.pt (pw_or (PW.pt (pw_and (pt_cmpR op_lt (pe_ix ix_list (pv 5) pe_int (fun _ _ => rfl)) pe_int (nomark _)) (pw_and1 (pt_cmpR op_lt (pe_callB call_len_seq rfl T.n_len bt_len (pa_cons (pv 5) pa_nil)) pe_int (nomark _))))) (pw_or (pt_cmpR op_gt (pv 6) (pe_ix ix_list (pv 4) pe_int (fun _ _ => rfl)) (nomark _)) (pw_or1 (PW.pt (pw_and (pt_cmpR op_gt (pv 6) pe_int (nomark _)) (pw_and1 (pt_cmpR op_gt (pv 3) pe_int (nomark _))))))))) (pss_one (ps_ret (pe_callC C_law_leaf hr rfl (pa_cons (pv 0) (pa_cons (pv 2) pa_nil)) passN))) pss_nil))
      (pss_cons (ps_asg (pe_op op_sub (pe_ix ix_list (pv 4) pe_int (fun _ _ => rfl)) (pv 6)) (pg_sub (pv 4) pe_int set_list))
      (pss_cons (ps_for PassesOwn.never rfl (pi_range1 rfl T.n_range (pa_cons (pv 6) pa_nil)) (pg_name (i := 7) sc__law_node.nd rfl (Or.inl rfl)) (pss_one (ps_set (i := 5) sc__law_node.nd rfl (Or.inl rfl) (pe_op op_cat (pv 5) (pe_callC C_law_node hr rfl (pa_cons (pv 0) (pa_cons (pv 1) (pa_cons (pv 2) (pa_cons (pe_op op_add (pv 3) pe_int) (pa_cons (pv 4) pa_nil))))) passN)))))
      (pss_one (ps_ret (pv 5))))))), ?_⟩
  try dsimp only [Cx.nox, Cx.exc, Cx.wish, cxOf_K]
  cases d with
  | zero => exact absurd h1 (by decide)
  | succ d =>
  have nhs := hh.ne D
  obtain ⟨a0, ns0, kk0, cc0, est, hscr⟩ := id D
  have nrs : rm ≠ st := fun z => by rw [z, est] at erm; cases erm
  refine ⟨_, rfl, _, rfl, _, rfl, st, hd, hs, boxes, rfl, hb, D, hh, hg, fun t l k own many H1 d1 fr et el lo k0 k1 c m0 m1 => ⟨t, _, rfl, .of et, rfl, _, _, rfl, _, _, rfl, rfl, ?_⟩⟩
  have erm1 := d1.keep rm _ nrs erm
  have lz : spLeaf K [.ref st, .int boxes] H1 Q E0 := ⟨st, boxes, rfl, hb, d1.draw, fun l zs H2 d2 fr2 e lf => q l zs r H2 (.one (d1.trans d2).keep) d2.draw (d2.keep rm _ nrs erm1) (Nat.le_refl _) (by have := lf.len; (first | lia | omega)) e (d1.free fr2) (lf.pn d)⟩
  refine ⟨fun σ' H' => σ' = [some (.ref st), some (.ref hd), some (.int boxes), some (.int (11 - ((d + 1 : Nat) : Int))), some (.ref rm), some (.ref l), some (.int many), none] ∧ H' = H1 ∧ ¬ (k < 3 ∧ own = []) ∧ many ≤ r ∧ (0 < many → 11 - ((d + 1 : Nat) : Int) ≤ 9), ?_, ?_⟩
  · have at0 : atI ((k :: own).map V.int) 0 = some (.int k) := atI_nat (xs := (k :: own).map V.int) (j := 0) rfl
    refine ⟨_, rfl, l, _, _, _, rfl, rfl, .of el, at0, _, _, rfl, rfl, _, rfl, ite2 (fun c1 => ?_) (fun c1 => iteF ?_)⟩
    · refine ⟨_, rfl, l, _, rfl, .inl (.of el), _, _, rfl, rfl, _, rfl, ite2 (fun c2 => ?_) (fun c2 => ?_)⟩
      · exact iteT ⟨_, rfl, _, rfl, lz⟩
      · have nk : ¬ (k < 3 ∧ own = []) := fun z => c2 (decide_eq_true (by rw [z.2]; exact (show (1 : Int) < 2 by decide)))
        refine ⟨_, rfl, _, rfl, rm, _, _, _, rfl, rfl, .of erm1, rfl, _, _, rfl, rfl, _, rfl, ite2 (fun c3 => ?_) (fun c3 => ?_)⟩
        · exact iteT ⟨_, rfl, _, rfl, lz⟩
        have n3 : many ≤ r := Int.not_lt.mp fun z => c3 (decide_eq_true z)
        refine ⟨_, rfl, _, _, rfl, rfl, _, rfl, ite2 (fun c4 => ?_) (fun c4 => ?_)⟩
        · refine ⟨_, rfl, _, _, rfl, rfl, _, rfl, ite2 (fun c5 => ?_) (fun c5 => ?_)⟩
          · exact ⟨_, rfl, _, rfl, lz⟩
          · exact ⟨rfl, rfl, nk, n3, fun _ => Int.not_lt.mp fun z => c5 (decide_eq_true z)⟩
        · exact iteF ⟨rfl, rfl, nk, n3, fun z => absurd (decide_eq_true z) c4⟩
    · have nk : ¬ (k < 3 ∧ own = []) := fun z => c1 (decide_eq_true z.1)
      refine ⟨_, rfl, _, rfl, rm, _, _, _, rfl, rfl, .of erm1, rfl, _, _, rfl, rfl, _, rfl, ite2 (fun c3 => ?_) (fun c3 => ?_)⟩
      · exact iteT ⟨_, rfl, _, rfl, lz⟩
      have n3 : many ≤ r := Int.not_lt.mp fun z => c3 (decide_eq_true z)
      refine ⟨_, rfl, _, _, rfl, rfl, _, rfl, ite2 (fun c4 => ?_) (fun c4 => ?_)⟩
      · refine ⟨_, rfl, _, _, rfl, rfl, _, rfl, ite2 (fun c5 => ?_) (fun c5 => ?_)⟩
        · exact ⟨_, rfl, _, rfl, lz⟩
        · exact ⟨rfl, rfl, nk, n3, fun _ => Int.not_lt.mp fun z => c5 (decide_eq_true z)⟩
      · exact iteF ⟨rfl, rfl, nk, n3, fun z => absurd (decide_eq_true z) c4⟩
  rintro σ' H' ⟨rfl, rfl, nk, hmr, hdeep⟩
  obtain ⟨fit, _, due⟩ : OwnFit hs boxes k own ∧ (k < 3 → own ≠ []) ∧ many = dueM hs k own := c.resolve_left nk
  obtain ⟨mn, rfl⟩ : ∃ mn : Nat, many = (mn : Int) := ⟨many.toNat, by (first | lia | omega)⟩
  refine ⟨_, rfl, rm, _, _, _, rfl, rfl, .of erm1, rfl, _, rfl, _, _, rfl, rfl, _, rfl, rm, _, _, _, rfl, rfl, erm1, rfl, ?_⟩
  have er2 : (r : Int) - (mn : Int) = ((r - mn : Nat) : Int) := by (first | lia | omega)
  have k2 : Keep2 st rm H (upd H' rm (.lst [.int ((r : Int) - (mn : Int))])) := (Keep2.one d1.keep).trans .two
  have D2 : Draw K (upd H' rm (.lst [.int ((r : Int) - (mn : Int))])) st := d1.draw.put erm1 nrs
  have nlr : l ≠ rm := fun z => by rw [z, erm] at fr; cases fr
  have nls : l ≠ st := fun z => by rw [z, est] at fr; cases fr
  refine ⟨_, rfl, _, rfl, by (first | lia | omega), by (first | lia | omega), for_range (lo := 0) (n := mn) (InvLNode (K := K) st hd rm boxes k d mn r hs own H) ⟨[], l, r - mn, _, rfl, k2, D2, by rw [← er2]; exact upd_same, Nat.le_refl _, by rw [upd_ne nlr, List.append_nil]; exact el, fr, .zero, by simp⟩ ?_ ?_⟩
  · rintro i σ' H2 hi ⟨zs, lf, r', v7, rfl, kp, D3, er3, hr', elf, frf, pp, hz⟩
    obtain ⟨d', rfl⟩ : ∃ d', d = d' + 1 := ⟨d - 1, by have := hdeep (by (first | lia | omega)); (first | lia | omega)⟩
    have ed : (11 - ((d' + 1 + 1 : Nat) : Int)) + 1 = 11 - ((d' + 1 : Nat) : Int) := by (first | lia | omega)
    have nfr : lf ≠ rm := fun z => by rw [z, erm] at frf; cases frf
    have nfs : lf ≠ st := fun z => by rw [z, est] at frf; cases frf
    refine ⟨_, rfl, _, rfl, _, rfl, _, rfl, _, rfl, _, _, rfl, rfl, _, rfl, st, hd, hs, boxes, rm, r', congrArg (fun z => [V.ref st, V.ref hd, V.int boxes, V.int z, V.ref rm]) ed, by (first | lia | omega), by (first | lia | omega), hb, D3, hh.keep2 nhs (Ne.symm nrh) est erm kp, hg, er3, by (first | lia | omega), nrh, fun l2 zs2 r2 H3 k3 D4 er4 hr4 len4 el4 fr4 pn => ?_⟩
    have ef4 := k3 lf _ nfs nfr elf
    have len : ((k :: own ++ zs).map V.int).length + (zs2.map V.int).length ≤ sizeLine := by
      rw [sizeLine_eq]; simp only [List.length_map, List.length_append, List.length_cons]; (first | lia | omega)
    refine ⟨lf, l2, _, _, rfl, rfl, ef4, el4, len, fun p hp => ?_⟩
    have s5 := same_new hp (.lst ((k :: own ++ zs).map V.int ++ zs2.map V.int))
    obtain ⟨_, _, _, _, est4, _⟩ := id D4
    refine ⟨zs ++ zs2, p, r2, _, rfl, kp.trans (k3.trans (.same s5)), D4.same s5, s5 _ _ er4, by (first | lia | omega), ?_, (kp.trans k3).free est4 er4 hp, PP.snoc pp pn, ?_⟩
    · rw [upd_same, ← List.map_append, List.append_assoc]
    · rw [List.length_append]; (first | lia | omega)
  · rintro σ' H2 ⟨zs, lf, r', v7, rfl, kp, D3, er3, hr', elf, frf, pp, hz⟩
    refine ⟨_, rfl, q lf (k :: own ++ zs) r' H2 kp D3 er3 (by (first | lia | omega)) ?_ elf frf (PN.of k0 k1 fit ?_)⟩
    · simp only [List.length_append, List.length_cons]; (first | lia | omega)
    · rw [← due, Int.toNat_natCast]; exact pp
theorem ok_lnodes (T : Txt K mg aP CL CN) (F : Fun K "_law_node" "_law_node" s__law_node f fd) (C_law_leaf : Cal P w K mg base (CXE P w) 4 "_law_leaf" ["_law_state", "_law_boxes"] (spLeaf K))
    (C_law_head : Cal P w K mg base (CXE P w) 3 "_law_head" ["_law_state", "_law_heads_here", "_law_boxes"] (spHead K)) (hm : mg "_law_node" = some (.ref f)) (hk : PySem.W.keepIn K (.ref f) = true) (hb : Binds K fd ["_law_state", "_law_heads_here", "_law_boxes", "_law_deep", "_law_room"] []) :
    ∀ d, FnOk P w K mg base (CXE P w) (4 + d + 1) f fd ["_law_state", "_law_heads_here", "_law_boxes", "_law_deep", "_law_room"] (spNodeL K d) := by
  intro d
  induction d with
  | zero => exact ok_lnode 0 T F C_law_leaf C_law_head ⟨⟨_, _, fn_false, hm, hk, hb⟩⟩
  | succ d ih => exact ok_lnode (d + 1) T F C_law_leaf C_law_head ⟨⟨_, _, ih, hm, hk, hb⟩⟩
noncomputable def InvLSheet (st hd fl : Addr) (most : Int) (rs : List V) (hs : Hds) (H : Hp) (i : Nat) (σ' : St) (H' : Hp) : Prop := ∃ (v4 v5 : Option V), σ' = [some (.ref st), some (.int most), some (.ref hd), some (.ref fl), v4, v5] ∧ i ≤ rs.length ∧ Drawn K st H H' ∧ H' hd = some (.lst rs) ∧ Paired (HeadAt H') rs hs ∧ H' fl = some (.lst (((hs.length : Int) :: flat (hs.take i)).map V.int))
noncomputable def InvLSheet2 (st hd fl : Addr) (most : Int) (rs : List V) (hs : Hds) (H : Hp) (i : Nat) (σ' : St) (H' : Hp) : Prop := ∃ (zs : List Int) (v4 v5 : Option V), σ' = [some (.ref st), some (.int most), some (.ref hd), some (.ref fl), v4, v5] ∧ i ≤ rs.length ∧ Drawn K st H H' ∧ H' hd = some (.lst rs) ∧ Paired (HeadAt H') rs hs ∧ H' fl = some (.lst (((hs.length : Int) :: flat hs ++ zs).map V.int)) ∧ PB hs (hs.take i) zs ∧ zs.length ≤ i * 2002
theorem ok_lsheet (T : Txt K mg aP CL CN) (F : Fun K "_law_sheet" "_law_sheet" s__law_sheet f fd) (C_law_take : Cal P w K mg base (CXE P w) 2 "_law_take" ["_law_state", "_law_many_here"] (spTakeB K)) (C_law_heads : Cal P w K mg base (CXE P w) 3 "_law_heads" ["_law_state"] (spHeadsL K))
    (C_law_node : Cal P w K mg base (CXE P w) 15 "_law_node" ["_law_state", "_law_heads_here", "_law_boxes", "_law_deep", "_law_room"] (spNodeL K 10)) : FnOk P w K mg base (CXE P w) 16 f fd ["_law_state", "_law_most"] (spSheet K) := by
  refine F.okN sc__law_sheet (fun vs H Q E h => ?_) (fun cdv A outer s H vs Q E hr h => ?_)
  · obtain ⟨st, most, rfl, _⟩ := h
    rfl
  obtain ⟨st, most, rfl, m0, m1, D, q⟩ := h
  refine ⟨_, (pss_cons (ps_set (i := 2) sc__law_sheet.nd rfl (Or.inl rfl) (pe_callC C_law_heads hr rfl (pa_cons (pv 0) pa_nil) passN))
      (pss_cons (ps_set (i := 3) sc__law_sheet.nd rfl (Or.inl rfl) (pe_lst (pa_cons (pe_callB call_len_seq rfl T.n_len bt_len (pa_cons (pv 2) pa_nil)) pa_nil)))
      (pss_cons (ps_for PassesOwn.never rfl (pi_list (pv 2)) (pg_tup rfl (pgs_cons (pg_name (i := 4) sc__law_sheet.nd rfl (Or.inl rfl)) (pgs_cons (pg_name (i := 5) sc__law_sheet.nd rfl (Or.inl rfl)) pgs_nil))) (pss_one (ps_expr (pe_bm PySem.F.plainAttrs_list PySem.F.slot_list_extend PySem.F.type_list_extend mt_extend (pv 3) (pa_cons (pe_lst (pa_cons (pv 4) (pa_cons (pv 5) pa_nil))) pa_nil)))))
      (pss_cons (ps_for PassesOwn.never rfl (pi_list (pv 2)) (pg_tup rfl (pgs_cons (pg_name (i := 4) sc__law_sheet.nd rfl (Or.inl rfl)) (pgs_cons (pg_name (i := 5) sc__law_sheet.nd rfl (Or.inl rfl)) pgs_nil))) (pss_one (ps_expr (pe_bm PySem.F.plainAttrs_list PySem.F.slot_list_extend PySem.F.type_list_extend mt_extend (pv 3) (pa_cons (pe_callC C_law_node hr rfl (pa_cons (pv 0) (pa_cons (pv 2) (pa_cons (pv 5) (pa_cons pe_int (pa_cons (pe_lst (pa_cons (pe_callC C_law_take hr rfl (pa_cons (pv 0) (pa_cons (pv 1) pa_nil)) passN) pa_nil)) pa_nil))))) passN) pa_nil)))))
      (pss_one (ps_ret (pv 3))))))), ?_⟩
  try dsimp only [Cx.nox, Cx.exc, Cx.wish, cxOf_K]
  refine ⟨_, rfl, st, rfl, D, fun hd H1 hs d1 hh hg => ?_⟩
  obtain ⟨rs, ehd, pr⟩ := id hh
  have lr : rs.length = hs.length := Paired.len pr
  have g1 := hg.lo
  have g2 := hg.hi
  have nhs := hh.ne d1.draw
  refine ⟨_, rfl, hd, _, rfl, .inl (.of ehd), small (show 1 ≤ 1000 by decide), fun fl hfl => ?_⟩
  have frf : H fl = none := d1.free hfl
  have nfs := d1.draw.ne hfl
  have nfh : hd ≠ fl := ne_of_none ehd hfl
  have s2 := same_new hfl (.lst [.int (rs.length : Int)])
  have upf : ∀ {H' : Hp} {ys : List V} {o : HO}, Drawn K st H H' → H' fl = some (.lst ys) → Paired (HeadAt H') rs hs → H' hd = some (.lst rs) → (∃ zs, o = .lst zs) → Drawn K st H (upd H' fl o) ∧ Paired (HeadAt (upd H' fl o)) rs hs ∧ upd H' fl o hd = some (.lst rs) := fun {H' ys o} d e p eh ⟨zs, z⟩ => by
    subst z
    exact ⟨⟨d.draw.put e (Ne.symm nfs), d.keep.fresh frf⟩, Paired.imp (fun _ _ z => z.tups (.upd e)) p, by rw [upd_ne nfh]; exact eh⟩
  refine ⟨_, rfl, hd, rfl, ⟨rs, .of (s2 _ _ ehd)⟩, for_list (xs := rs) (InvLSheet (K := K) st hd fl most rs hs H)
      ⟨_, _, rfl, Nat.zero_le _, d1.trans (d1.draw.new hfl _), s2 _ _ ehd, Paired.imp (fun _ _ z => z.tups (.same s2)) pr, by rw [upd_same, lr]; rfl⟩ ?_ ?_ ?_⟩
  · rintro i σ' H' _ ⟨v4, v5, rfl, _, _, eh, _⟩
    exact .of eh
  · rintro i x σ' H' hx ⟨v4, v5, rfl, _, dd, eh, pr', ef⟩
    have hi : i < rs.length := (List.getElem?_eq_some_iff.mp hx).1
    have e1 : hs[i]? = some hs[i] := List.getElem?_eq_getElem (by (first | lia | omega))
    generalize hs[i] = hx1 at e1
    obtain ⟨u, rfl, eu⟩ := Paired.get pr' i _ _ hx e1
    have tk : hs.take (i + 1) = hs.take i ++ [hx1] := by rw [List.take_add_one, e1]; rfl
    refine ⟨u, _, rfl, .of eu, rfl, _, _, rfl, _, _, rfl, rfl, ?_⟩
    refine ⟨_, rfl, .inl ⟨rfl, _, .of ef⟩, _, rfl, _, rfl, small (show 2 ≤ 1000 by decide), fun p hp => ?_⟩
    have s3 := same_new hp (.lst [.int hx1.1, .int hx1.2])
    refine ⟨fl, p, _, _, rfl, rfl, s3 _ _ ef, upd_same, ?_, ?_⟩
    · simp only [List.length_map, List.length_cons, flat_len, List.length_take, List.length_nil]; exact small (by (first | lia | omega))
    · obtain ⟨d5, p5, h5⟩ := upf (o := .lst ((((hs.length : Int) :: flat (hs.take i)).map V.int) ++ [.int hx1.1, .int hx1.2])) (dd.trans (dd.draw.new hp _)) (s3 _ _ ef) (Paired.imp (fun _ _ z => z.tups (.same s3)) pr') (s3 _ _ eh) ⟨_, rfl⟩
      refine ⟨_, _, rfl, hi, d5, h5, p5, ?_⟩
      rw [upd_same, tk, flat_append]
      simp [flat]
  · rintro σ' H2 ⟨v4, v5, rfl, _, dd, eh, pr', ef⟩
    rw [lr, List.take_length] at ef
    refine ⟨_, rfl, hd, rfl, ⟨rs, .of eh⟩, for_list (xs := rs) (InvLSheet2 (K := K) st hd fl most rs hs H)
        ⟨[], _, _, rfl, Nat.zero_le _, dd, eh, pr', by rw [List.append_nil]; exact ef, .zero, by simp⟩ ?_ ?_ ?_⟩
    · rintro i σ' H' _ ⟨zs, v4, v5, rfl, _, _, eh, _⟩
      exact .of eh
    · rintro i x σ' H' hx ⟨zs, v4, v5, rfl, _, dd, eh, pr', ef, pb, hz⟩
      have hi : i < rs.length := (List.getElem?_eq_some_iff.mp hx).1
      have e1 : hs[i]? = some hs[i] := List.getElem?_eq_getElem (by (first | lia | omega))
      generalize hs[i] = hx1 at e1
      obtain ⟨u, rfl, eu⟩ := Paired.get pr' i _ _ hx e1
      have tk : hs.take (i + 1) = hs.take i ++ [hx1] := by rw [List.take_add_one, e1]; rfl
      have hb := hg.all _ _ e1
      refine ⟨u, _, rfl, .of eu, rfl, _, _, rfl, _, _, rfl, rfl, ?_⟩
      refine ⟨_, rfl, .inl ⟨rfl, _, .of ef⟩, _, rfl, _, rfl, _, rfl, _, rfl, _, rfl, st, most, rfl, m0, by (first | lia | omega), dd.draw, fun r H3 r0 r1 d3 => ⟨small (show 1 ≤ 1000 by decide), fun rm hrm => ?_⟩⟩
      obtain ⟨rn, rfl⟩ : ∃ rn : Nat, r = (rn : Int) := ⟨r.toNat, by (first | lia | omega)⟩
      have s4 := same_new hrm (.lst [.int (rn : Int)])
      have D4 := d3.draw.same s4
      have h4 : HeadsAt (upd H3 rm (.lst [.int (rn : Int)])) hd hs := by
        refine ⟨rs, s4 _ _ (d3.keep hd _ nhs eh), Paired.imp (fun _ _ z => z.tups ?_) pr'⟩
        obtain ⟨_, _, _, _, est, _⟩ := dd.draw
        exact .trans (.keepL est d3.keep) (.same s4)
      have nrh : rm ≠ hd := fun z => by rw [z, d3.keep hd _ nhs eh] at hrm; cases hrm
      have ef3 := d3.keep fl _ (Ne.symm nfs) ef
      have nfr : fl ≠ rm := ne_of_none ef3 hrm
      refine ⟨st, hd, hs, hx1.2, rm, rn, rfl, by decide, by decide, by (first | lia | omega), D4, h4, hg, upd_same, by (first | lia | omega), nrh, fun l zs2 r' H5 k5 D5 er5 hr5 len5 el5 fr5 pn => ?_⟩
      have ef5 := k5 fl _ (Ne.symm nfs) nfr (s4 _ _ ef3)
      have frm : H rm = none := (dd.trans d3).free hrm
      have dH5 : Drawn K st H H5 := ⟨D5, fun b o nb e => k5 b o nb (fun z => by rw [z, frm] at e; cases e) (s4 _ _ ((dd.trans d3).keep b o nb e))⟩
      have tp5 : Tups H' H5 := by
        obtain ⟨_, _, _, _, est, _⟩ := dd.draw
        obtain ⟨_, _, _, _, est4, _⟩ := D4
        refine .trans (.keepL est d3.keep) (.trans (.same s4) fun b ys e => k5 b _ ?_ ?_ e)
        · intro z; rw [z, est4] at e; cases e
        · intro z; rw [z, upd_same] at e; cases e
      refine ⟨fl, l, _, _, rfl, rfl, ef5, el5, ?_, ?_⟩
      · rw [sizeLine_eq]; simp only [List.length_map, List.length_append, List.length_cons, flat_len]
        have : i * 2002 ≤ 16 * 2002 := Nat.mul_le_mul_right _ (by (first | lia | omega))
        (first | lia | omega)
      · obtain ⟨d6, p6, h6⟩ := upf (o := .lst ((((hs.length : Int) :: flat hs ++ zs).map V.int) ++ zs2.map V.int)) dH5 ef5 (Paired.imp (fun _ _ z => z.tups tp5) pr') (k5 hd _ nhs (Ne.symm nrh) (s4 _ _ (d3.keep hd _ nhs eh))) ⟨_, rfl⟩
        refine ⟨zs ++ zs2, _, _, rfl, hi, d6, h6, p6, ?_, by rw [tk]; exact PB.snoc pb pn, ?_⟩
        · rw [upd_same, ← List.map_append, List.append_assoc]
        · rw [List.length_append, Nat.succ_mul]; (first | lia | omega)
    · rintro σ' H3 ⟨zs, v4, v5, rfl, _, dd, eh, pr', ef, pb, hz⟩
      rw [lr, List.take_length] at pb
      obtain ⟨nds, ok⟩ := sheet_of_parts hg pb
      refine ⟨_, rfl, q fl _ H3 dd ef ⟨?_, _, ok⟩⟩
      simp only [List.length_append, List.length_cons, flat_len]
      have : rs.length * 2002 ≤ 16 * 2002 := Nat.mul_le_mul_right _ (by (first | lia | omega))
      (first | lia | omega)

noncomputable def InvNodesIn (v : V) (tl wl : Addr) (H : Hp) (nd : Nd) (m : Nat) (σ' : St) (H' : Hp) : Prop := ∃ (done st : List Nd) (us ws : List V) (v3 v4 : Option V), σ' = [some v, some (.ref tl), some (.ref wl), v3, v4] ∧ m = (preL st).length ∧ Same H H' ∧ H' tl = some (.lst us) ∧ H' wl = some (.lst ws) ∧ Paired (NodeAt H' 10) us done ∧ Paired (NodeAt H' 10) ws st ∧ done ++ preL st.reverse = pre nd
theorem ok_nodes_in (T : Txt K mg aP CL CN) (n_reversed : mg "reversed" = none) (F : Fun K "nodes_in" "nodes_in" s_nodes_in f fd) : FnOk P w K mg base (CXE P w) 1 f fd ["body"] spNodesIn := by
  refine F.okN sc_nodes_in (fun vs H Q E h => ?_) (fun cdv A outer s H vs Q E hr h => ?_)
  · obtain ⟨v, nd, rfl, _⟩ := h
    rfl
  obtain ⟨v, nd, rfl, hv, hc, q⟩ := h
  refine ⟨_, (pss_cons (ps_set (i := 1) sc_nodes_in.nd rfl (Or.inl rfl) (pe_lst pa_nil))
      (pss_cons (ps_set (i := 2) sc_nodes_in.nd rfl (Or.inl rfl) (pe_lst (pa_cons (pv 0) pa_nil)))
      (pss_cons (ps_while PassesOwn.never (pt_truth (pv 2) (fun _ => rfl)) (pss_cons (ps_set (i := 3) sc_nodes_in.nd rfl (Or.inl rfl) (pe_bm0 PySem.F.plainAttrs_list PySem.F.slot_list_pop PySem.F.type_list_pop mt_pop (pv 2)))
      (pss_cons (ps_expr (pe_bm PySem.F.plainAttrs_list PySem.F.slot_list_append PySem.F.type_list_append mt_append (pv 1) (pa_cons (pv 3) pa_nil)))
      (pss_one (ps_for PassesOwn.never rfl (pi_rev rfl n_reversed (pa_cons (pe_ix ix_tup (pv 3) pe_int (fun _ _ => rfl)) pa_nil)) (pg_name (i := 4) sc_nodes_in.nd rfl (Or.inl rfl)) (pss_one (ps_expr (pe_bm PySem.F.plainAttrs_list PySem.F.slot_list_append PySem.F.type_list_append mt_append (pv 2) (pa_cons (pv 4) pa_nil)))))))))
      (pss_one (ps_ret (pv 1)))))), ?_⟩
  try dsimp only [Cx.nox, Cx.exc, Cx.wish, cxOf_K]
  refine ⟨small (show 0 ≤ 1000 by decide), fun tl htl => ?_⟩
  have s1 := same_new htl (.lst [])
  refine ⟨_, rfl, small (show 1 ≤ 1000 by decide), fun wl hwl => ?_⟩
  have s2 := same_new hwl (.lst [v])
  have hwl0 : H wl = none := s1.free hwl
  have ntw : tl ≠ wl := ne_of_none upd_same hwl
  have sl : sizeLine = 16777216 := sizeLine_eq
  refine ⟨InvNodesIn v tl wl H nd,
    ⟨_, [], [nd], [], [v], _, _, rfl, rfl, s1.trans s2, s2 _ _ upd_same, upd_same, .nil, .cons (hv.tups (.same (s1.trans s2))) .nil, by simp [preL]⟩, ?_⟩
  rintro m σ' H' ⟨done, st, us, ws, v3, v4, rfl, rfl, g, et, ew, pu, pw, eq⟩
  refine ⟨_, rfl, !ws.isEmpty, .inl ⟨ws, .of ew, rfl⟩, ?_⟩
  rcases List.eq_nil_or_concat ws with rfl | ⟨ws', x, rfl⟩
  · cases pw
    refine iteF ⟨_, rfl, q tl us H' g htl et ?_⟩
    have : done = pre nd := by simpa [preL] using eq
    rw [← this]; exact pu
  rw [List.concat_eq_append] at *
  obtain ⟨st', n, rfl, pw', nx⟩ := Paired.unsnoc pw
  have ne : (!(ws' ++ [x]).isEmpty) = true := by simp
  rw [ne]
  refine iteT ⟨fun σ'' H'' => ∃ m', m' < (preL (st' ++ [n])).length ∧ ∃ (done st : List Nd) (us ws : List V) (v3 v4 : Option V), σ'' = [some v, some (.ref tl), some (.ref wl), v3, v4] ∧ m' = (preL st).length ∧ Same H H'' ∧ H'' tl = some (.lst us) ∧ H'' wl = some (.lst ws) ∧ Paired (NodeAt H'' 10) us done ∧ Paired (NodeAt H'' 10) ws st ∧ done ++ preL st.reverse = pre nd, fun _ _ z => z, ?_⟩
  cases n with
  | mk k p own ps =>
  obtain ⟨t, o, pq, vs, rfl, etn, eo, ep, pr⟩ := nx
  have eq2 : done ++ (.mk k p own ps :: (preL ps ++ preL st'.reverse)) = pre nd := by
    rw [← eq]; simp [preL, pre, preL_append]
  have tot : done.length + 1 + (preL ps).length + (preL st').length ≤ 1000000 := by
    have := congrArg List.length eq2
    rw [← preL_rev_len st']
    simp only [List.length_append, List.length_cons] at this
    (first | lia | omega)
  have lu : us.length = done.length := Paired.len pu
  have lw : ws'.length ≤ (preL st').length := by rw [Paired.len pw']; exact preL_len st'
  have lv : vs.length ≤ (preL ps).length := by rw [Paired.len pr]; exact preL_len ps
  refine ⟨_, rfl, .inl ⟨rfl, _, .of ew⟩, wl, _, .ref t, rfl, rfl, ew, by simp, ?_⟩
  have dl : (ws' ++ [V.ref t]).dropLast = ws' := by simp
  have et1 : upd H' wl (.lst (ws' ++ [V.ref t]).dropLast) tl = some (.lst us) := by rw [upd_ne ntw]; exact et
  refine ⟨_, rfl, .inl ⟨rfl, _, .of et1⟩, _, rfl, tl, us, _, rfl, rfl, et1, by (first | lia | omega), ?_⟩
  have tp2 : Tups H' (upd (upd H' wl (.lst (ws' ++ [V.ref t]).dropLast)) tl (.lst (us ++ [V.ref t]))) := .trans (.upd ew) (.upd et1)
  have g2 : Same H (upd (upd H' wl (.lst (ws' ++ [V.ref t]).dropLast)) tl (.lst (us ++ [V.ref t]))) := (g.fresh hwl0).fresh htl
  refine ⟨_, rfl, t, _, _, _, rfl, rfl, .of (tp2 _ _ etn), rfl, pq, vs, rfl, .of (tp2 _ _ ep), for_rev (xs := vs) (fun i σ'' H'' => ∃ v4, σ'' = [some v, some (.ref tl), some (.ref wl), some (.ref t), v4] ∧ Same H H'' ∧ H'' tl = some (.lst (us ++ [.ref t])) ∧ H'' wl = some (.lst (ws' ++ vs.reverse.take i)) ∧ Tups H' H'')
    ⟨_, rfl, g2, upd_same, by rw [upd_ne (Ne.symm ntw), upd_same, dl]; simp, tp2⟩ ?_ ?_ ?_⟩
  · rintro i σ'' H'' _ ⟨v4, rfl, _, _, _, tp⟩
    exact .of (tp _ _ ep)
  · rintro i x σ'' H'' hx ⟨v4, rfl, g3, et3, ew3, tp⟩
    have hi : i < vs.length := by have := (List.getElem?_eq_some_iff.mp hx).1; simpa using this
    refine ⟨_, rfl, .inl ⟨rfl, _, .of ew3⟩, _, rfl, wl, _, _, rfl, rfl, ew3, ?_, ?_⟩
    · simp only [List.length_append, List.length_take, List.length_reverse]; (first | lia | omega)
    · refine ⟨_, rfl, g3.fresh hwl0, by rw [upd_ne ntw]; exact et3, ?_, .trans tp (.upd ew3)⟩
      rw [upd_same, List.take_add_one, hx, List.append_assoc]; rfl
  · rintro σ'' H'' ⟨v4, rfl, g3, et3, ew3, tp⟩
    have tk : vs.reverse.take vs.length = vs.reverse := by rw [← List.length_reverse (as := vs), List.take_length]
    rw [tk] at ew3
    refine ⟨_, ?_, done ++ [.mk k p own ps], st' ++ ps.reverse, _, _, _, _, rfl, rfl, g3, et3, ew3, Paired.snoc (Paired.imp (fun _ _ z => z.tups tp) pu) (NodeAt.tups (d := 10) (n := .mk k p own ps) tp ⟨t, o, pq, vs, rfl, etn, eo, ep, pr⟩), Paired.append (Paired.imp (fun _ _ z => z.tups tp) pw') (Paired.imp (fun _ _ z => (NodeAt.tups tp z).more) (Paired.rev pr)), ?_⟩
    · simp only [preL_append, preL_rev_len, List.length_append, preL, pre, List.length_cons, List.length_nil]; (first | lia | omega)
    · rw [← eq2]; simp [preL_append]
noncomputable def InvNodesP (a tl l : Addr) (rs : List V) (nds : List Nd) (H H1 : Hp) (i : Nat) (σ' : St) (H' : Hp) : Prop := ∃ (us : List V) (v2 v3 v4 : Option V), σ' = [some (.ref a), some (.ref tl), v2, v3, v4] ∧ i ≤ rs.length ∧ Same H H' ∧ H' l = some (.lst rs) ∧ Tups H1 H' ∧ H' tl = some (.lst us) ∧ Paired (NodeAt H' 10) us (preL (nds.take i))
theorem ok_nodesP (T : Txt K mg aP CL CN) (F : Fun K "nodes" "nodes" s_nodes f fd) (Cfunctions : Cal P w K mg base (CXE P w) 17 "functions" ["sheet"] (spFns CN)) (Cnodes_in : Cal P w K mg base (CXE P w) 1 "nodes_in" ["body"] spNodesIn) :
    FnOk P w K mg base (CXE P w) 18 f fd ["sheet"] (spNodes CN) := by
  refine F.okX sc_nodes (fun vs H Q E h => ?_) (fun cdv A outer s H vs Q E hr h => ?_)
  · obtain ⟨a, ns, rfl, _⟩ := h
    rfl
  obtain ⟨a, ns, rfl, ha, hz, t1, t2⟩ := h
  refine ⟨_, (pss_cons (ps_set (i := 1) sc_nodes.nd rfl (Or.inl rfl) (pe_lst pa_nil))
      (pss_cons (ps_for (own_fly rfl rfl) rfl (pi_list (pe_callC Cfunctions hr rfl (pa_cons (pv 0) pa_nil) passX)) (pg_tup rfl (pgs_cons (pg_name (i := 2) sc_nodes.nd rfl (Or.inl rfl)) (pgs_cons (pg_name (i := 3) sc_nodes.nd rfl (Or.inl rfl)) (pgs_cons (pg_name (i := 4) sc_nodes.nd rfl (Or.inl rfl)) pgs_nil)))) (pss_one (ps_expr (pe_bm PySem.F.plainAttrs_list PySem.F.slot_list_extend PySem.F.type_list_extend mt_extend (pv 1) (pa_cons (pe_callC Cnodes_in hr rfl (pa_cons (pv 4) pa_nil) passX) pa_nil)))))
      (pss_one (ps_ret (pv 1))))), ?_⟩
  try dsimp only [Cx.nox, Cx.exc, Cx.wish, cxOf_K]
  refine ⟨small (show 0 ≤ 1000 by decide), fun tl htl => ?_⟩
  have s1 := same_new htl (.lst [])
  have sl : sizeLine = 16777216 := sizeLine_eq
  refine ⟨_, rfl, a, ns, rfl, s1 _ _ ha, fun r er l H1 s2 fr fa => ?_, fun p wd er d H' s2 ed => t2 p wd er d H' (s1.trans s2) ed⟩
  obtain ⟨rs, el, ln, pr⟩ := fa
  have cnt := fns_count er
  have ntl : l ≠ tl := fun z => by rw [z] at fr; rw [upd_same] at fr; cases fr
  obtain ⟨hs, nds⟩ := r
  simp only at ln pr cnt
  have lr : rs.length = nds.length := by have := Paired.len pr; rw [List.length_zip] at this; (first | lia | omega)
  refine ⟨l, rfl, ⟨rs, .of el⟩, for_list (xs := rs) (InvNodesP a tl l rs nds H H1)
    ⟨[], _, _, _, rfl, Nat.zero_le _, s1.trans s2, el, fun _ _ e => e, s2 _ _ upd_same, .nil⟩ ?_ ?_ ?_⟩
  · rintro i σ' H' _ ⟨us, v2, v3, v4, rfl, _, _, e, _⟩
    exact .of e
  · rintro i x σ' H' hx ⟨us, v2, v3, v4, rfl, _, g, el', tp, et, pu⟩
    have hi : i < rs.length := (List.getElem?_eq_some_iff.mp hx).1
    have e2 : nds[i]? = some nds[i] := List.getElem?_eq_getElem (by (first | lia | omega))
    have e1 : hs[i]? = some (hs[i]'(by (first | lia | omega))) := List.getElem?_eq_getElem (by (first | lia | omega))
    generalize nds[i] = ni at *
    generalize hs[i]'(by (first | lia | omega)) = hx1 at *
    obtain ⟨t, b, rfl, ett, nb⟩ := Paired.get pr i _ _ hx ((List.getElem?_zip_eq_some (z := (hx1, ni))).mpr ⟨e1, e2⟩)
    have tk : nds.take (i + 1) = nds.take i ++ [ni] := by rw [List.take_add_one, e2]; rfl
    have c1 : (preL (nds.take (i + 1))).length ≤ (preL nds).length := by
      conv => rhs; rw [← List.take_append_drop (i + 1) nds]
      rw [preL_append, List.length_append]; (first | lia | omega)
    rw [tk, preL_append, List.length_append] at c1
    simp only [preL, List.append_nil] at c1
    refine ⟨t, _, rfl, .of (tp _ _ ett), rfl, _, _, rfl, _, _, rfl, _, _, rfl, rfl, ?_⟩
    refine ⟨_, rfl, .inl ⟨rfl, _, .of et⟩, _, rfl, b, ni, rfl, nb.tups tp, by (first | lia | omega), fun l2 us2 H2 g2 fr2 el2 pu2 => ?_⟩
    have lu : us.length = (preL (nds.take i)).length := Paired.len pu
    have lu2 : us2.length = (pre ni).length := Paired.len pu2
    refine ⟨tl, l2, us, us2, rfl, rfl, g2 _ _ et, el2, by (first | lia | omega), ?_⟩
    have et2 := g2 _ _ et
    refine ⟨_, _, _, _, rfl, hi, (g.trans g2).fresh htl, by rw [upd_ne ntl]; exact g2 _ _ el', .trans tp (.trans (.same g2) (.upd et2)), upd_same, ?_⟩
    rw [tk, preL_append]
    simp only [preL, List.append_nil]
    exact Paired.append (Paired.imp (fun _ _ z => z.tups (.trans (.same g2) (.upd et2))) pu) (Paired.imp (fun _ _ z => z.tups (.upd et2)) pu2)
  · rintro σ' H' ⟨us, v2, v3, v4, rfl, _, g, el', tp, et, pu⟩
    rw [lr, List.take_length] at pu
    exact ⟨_, rfl, t1 (hs, nds) er tl us H' g htl et pu⟩

noncomputable def spMany7 : Sp := fun vs H Q _ => ∃ v nd, vs = [v] ∧ NodeAt H 10 v nd ∧ lenN nd ≤ 1000000 ∧ ∀ H', Same H H' → Q (.int (lenN nd : Nat)) H'
theorem lenL_append : ∀ (xs ys : List Nd), lenL (xs ++ ys) = lenL xs + lenL ys
  | [], ys => by
    rw [List.nil_append]
    show _ = 0 + _
    (first | lia | omega)
  | a :: r, ys => by rw [List.cons_append, lenL_cons, lenL_cons, lenL_append r ys]; (first | lia | omega)
theorem lenL_one (a : Nd) : lenL [a] = lenN a := by
  rw [lenL_cons]
  show _ + 0 = _
  (first | lia | omega)
theorem lenL_ge : ∀ ps : List Nd, ps.length ≤ lenL ps
  | [] => Nat.zero_le _
  | a :: r => by
    have := lenN_pos a
    have := lenL_ge r
    rw [lenL_cons, List.length_cons]; (first | lia | omega)
noncomputable def InvMany (H : Hp) (v : V) (nd : Nd) (m : Nat) (σ' : St) (H' : Hp) : Prop := ∃ (fo : Nat) (st : List Nd) (ws : List V) (wl : Addr) (v3 : Option V), σ' = [some v, some (.int (fo : Nat)), some (.ref wl), v3] ∧ m = lenL st ∧ Same H H' ∧ H' wl = some (.lst ws) ∧ H wl = none ∧ Paired (NodeAt H' 10) ws st ∧ fo + lenL st = lenN nd
theorem ok_many7 (T : Txt K mg aP CL CN) (F : Fun K "_law_many" "_law_many" s__law_many f fd) : FnOk P w K mg base (CXE P w) 1 f fd ["_law_node_here"] spMany7 := by
  refine F.okN sc__law_many (fun vs H Q E h => ?_) (fun cdv A outer s H vs Q E hr h => ?_)
  · obtain ⟨v, nd, rfl, _⟩ := h
    rfl
  obtain ⟨v, nd, rfl, na, hl, q⟩ := h
  refine ⟨_, (pss_cons (ps_set (i := 1) sc__law_many.nd rfl (Or.inl rfl) pe_int)
      (pss_cons (ps_set (i := 2) sc__law_many.nd rfl (Or.inl rfl) (pe_lst (pa_cons (pv 0) pa_nil)))
      (pss_cons (ps_while PassesOwn.never (pt_cmpR (op_neNil hr) (pv 2) (pe_lst pa_nil) (nomark _)) (pss_cons (ps_set (i := 3) sc__law_many.nd rfl (Or.inl rfl) (pe_bm0 PySem.F.plainAttrs_list PySem.F.slot_list_pop PySem.F.type_list_pop mt_pop (pv 2)))
      (pss_cons (ps_set (i := 1) sc__law_many.nd rfl (Or.inl rfl) (pe_op op_add (pe_op op_add (pv 1) pe_int) (pe_callB call_len_seq rfl T.n_len bt_len (pa_cons (pe_ix ix_tup (pv 3) pe_int (fun _ _ => rfl)) pa_nil))))
      (pss_one (ps_set (i := 2) sc__law_many.nd rfl (Or.inl rfl) (pe_op op_cat (pv 2) (pe_callTy call_list_of rfl T.n_list bt_list (pa_cons (pe_ix ix_tup (pv 3) pe_int (fun _ _ => rfl)) pa_nil))))))))
      (pss_one (ps_ret (pv 1)))))), ?_⟩
  try dsimp only [Cx.nox, Cx.exc, Cx.wish, cxOf_K]
  have sl : sizeLine = 16777216 := sizeLine_eq
  refine ⟨_, rfl, small (show 1 ≤ 1000 by decide), fun w0 hw0 => ?_⟩
  have s0 := same_new hw0 (.lst [v])
  refine ⟨InvMany H v nd, ⟨_, 0, [nd], [v], w0, _, rfl, rfl, s0, upd_same, hw0, .cons (na.tups (.same s0)) .nil, by rw [lenL_one]; (first | lia | omega)⟩, ?_⟩
  rintro m σ' H4 ⟨fo, st, ws, wl, v3, rfl, rfl, g4, ew4, frw, pw, eq⟩
  refine ⟨_, rfl, small (show 0 ≤ 1000 by decide), fun e5 he5 => ?_⟩
  have s5 := same_new he5 (.lst [])
  refine ⟨wl, e5, ws, rfl, rfl, .of (s5 _ _ ew4), .of upd_same, _, rfl, ?_⟩
  have g5 := g4.trans s5
  have ew5 := s5 _ _ ew4
  have pw5 : Paired (NodeAt (upd H4 e5 (.lst [])) 10) ws st := Paired.imp (fun _ _ z => z.tups (.same s5)) pw
  generalize upd H4 e5 (.lst []) = H5 at g5 ew5 pw5
  rcases List.eq_nil_or_concat ws with rfl | ⟨ws', x, rfl⟩
  · cases pw
    have e0 : fo = lenN nd := by
      have : lenL [] = 0 := rfl
      (first | lia | omega)
    subst e0
    exact iteF ⟨_, rfl, q H5 g5⟩
  rw [List.concat_eq_append] at *
  obtain ⟨st', n, rfl, pw', nx⟩ := Paired.unsnoc pw5
  have ne : (!(ws' ++ [x]).isEmpty) = true := by simp
  rw [ne]
  refine iteT ⟨fun σ'' H'' => ∃ m', m' < lenL (st' ++ [n]) ∧ InvMany H v nd m' σ'' H'', fun _ _ z => z, ?_⟩
  cases n with
  | mk k p own ps =>
  obtain ⟨t, o, pq, vs, rfl, etn, eo, ep', pr'⟩ := nx
  have tot : lenL st' + (1 + own.length + lenL ps) + fo ≤ 1000000 := by
    rw [lenL_append, lenL_one, lenN_mk] at eq
    (first | lia | omega)
  have lw : ws'.length ≤ lenL st' := by rw [Paired.len pw']; exact lenL_ge st'
  have lv : vs.length ≤ lenL ps := by rw [Paired.len pr']; exact lenL_ge ps
  refine ⟨_, rfl, .inl ⟨rfl, _, .of ew5⟩, wl, _, .ref t, rfl, rfl, ew5, by simp, ?_⟩
  have dl : (ws' ++ [V.ref t]).dropLast = ws' := by simp
  rw [dl]
  have tp7 : Tups H5 (upd H5 wl (.lst ws')) := .upd ew5
  have g7 : Same H (upd H5 wl (.lst ws')) := g5.fresh frw
  refine ⟨_, rfl, _, _, rfl, rfl, _, rfl, t, _, _, _, rfl, rfl, .of (tp7 _ _ etn), rfl, o, _, rfl, .inr (.of (tp7 _ _ eo)), _, _, rfl, rfl, ?_⟩
  refine ⟨_, rfl, _, rfl, t, _, _, _, rfl, rfl, .of (tp7 _ _ etn), rfl, pq, vs, rfl, .inr (.of (tp7 _ _ ep')), fun c8 hc8 => ?_⟩
  have s8 := same_new hc8 (.lst vs)
  refine ⟨wl, c8, ws', vs, rfl, rfl, s8 _ _ upd_same, upd_same, by (first | lia | omega), fun w10 hw10 => ?_⟩
  have sA := s8.trans (same_new hw10 (.lst (ws' ++ vs)))
  have tp := Tups.trans tp7 (.same sA)
  refine ⟨_, ?_, fo + 1 + own.length, st' ++ ps, _, w10, some (.ref t), ?_, rfl, g7.trans sA, upd_same, (g7.trans s8).free hw10, Paired.append (Paired.imp (fun _ _ z => z.tups tp) pw') (Paired.imp (fun _ _ z => (NodeAt.tups tp z).more) pr'), ?_⟩
  · rw [lenL_append, lenL_append, lenL_one, lenN_mk]; (first | lia | omega)
  · show [_, some (V.int ((fo : Int) + 1 + ((own.map V.int).length : Int))), _, _] = _
    rw [List.length_map, show (fo : Int) + 1 + (own.length : Int) = ((fo + 1 + own.length : Nat) : Int) by (first | lia | omega)]
  · rw [lenL_append, lenL_one, lenN_mk] at eq
    rw [lenL_append]; (first | lia | omega)

theorem yon {α β : Type} {F : α → β → Prop} : ∀ {xs : List α} {ys : List β}, Paired F xs ys → ∀ {j : Nat} {x : α}, xs[j]? = some x → ∃ y, ys[j]? = some y ∧ F x y
  | _, _, .nil, j, x, h => by cases h
  | _, _, .cons r t, 0, x, h => by cases h; exact ⟨_, rfl, r⟩
  | _, _, .cons r t, j + 1, x, h => yon t (by simpa using h)
structure TxtM (mg : Str → Option Value) : Prop where
  n_max : mg "max" = none
noncomputable def mxW : List (Nd × Nat) → Nat
  | [] => 0
  | x :: r => max (x.2 + depN x.1) (mxW r)
theorem mxW_append : ∀ (xs ys : List (Nd × Nat)), mxW (xs ++ ys) = max (mxW xs) (mxW ys)
  | [], ys => by
    rw [List.nil_append]
    show _ = max 0 _
    (first | lia | omega)
  | a :: r, ys => by
    rw [List.cons_append]
    simp only [mxW]
    rw [mxW_append r ys]; (first | lia | omega)
theorem mxW_parts : ∀ (ps : List Nd) (h : Nat), max h (mxW (ps.map fun x => (x, h))) = h + depL ps
  | [], h => by
    show max h 0 = h + 0
    (first | lia | omega)
  | a :: r, h => by
    have := mxW_parts r h
    rw [List.map_cons]
    simp only [mxW, depL]
    (first | lia | omega)
noncomputable def lenW (st : List (Nd × Nat)) : Nat := lenL (st.map (·.1))
noncomputable def WAt (H : Hp) (v : V) (x : Nd × Nat) : Prop := ∃ t nv, v = .ref t ∧ H t = some (.tup [nv, .int (x.2 + 1 : Nat)]) ∧ NodeAt H 10 nv x.1
theorem WAt.tups {H H' : Hp} (h : Tups H H') {v : V} {x : Nd × Nat} : WAt H v x → WAt H' v x := fun ⟨t, nv, e, q, z⟩ => ⟨t, nv, e, h _ _ q, z.tups h⟩
noncomputable def spDepth7 : Sp := fun vs H Q _ => ∃ v nd, vs = [v] ∧ NodeAt H 10 v nd ∧ lenN nd ≤ 100000 ∧ ∀ H', Same H H' → Q (.int (depN nd : Nat)) H'
noncomputable def InvDepth (H : Hp) (v : V) (nd : Nd) (m : Nat) (σ' : St) (H' : Hp) : Prop := ∃ (dp : Nat) (st : List (Nd × Nat)) (ws : List V) (wl : Addr) (v3 v4 : Option V), σ' = [some v, some (.int (dp : Nat)), some (.ref wl), v3, v4] ∧ m = lenW st ∧ lenW st ≤ 100000 ∧ Same H H' ∧ H' wl = some (.lst ws) ∧ H wl = none ∧ Paired (WAt H') ws st ∧ max dp (mxW st) = depN nd
theorem ok_depth7 (T : TxtM mg) (F : Fun K "_law_depth" "_law_depth" s__law_depth f fd) : FnOk P w K mg base (CXE P w) 1 f fd ["_law_node_here"] spDepth7 := by
  refine F.okN sc__law_depth (fun vs H Q E h => ?_) (fun cdv A outer s H vs Q E hr h => ?_)
  · obtain ⟨v, nd, rfl, _⟩ := h
    rfl
  obtain ⟨v, nd, rfl, na, hl, q⟩ := h
  refine ⟨_, (pss_cons (ps_set (i := 1) sc__law_depth.nd rfl (Or.inl rfl) pe_int)
      (pss_cons (ps_set (i := 2) sc__law_depth.nd rfl (Or.inl rfl) (pe_lst (pa_cons (pe_tup (pa_cons (pv 0) (pa_cons pe_int pa_nil))) pa_nil)))
      (pss_cons (ps_while PassesOwn.never (pt_cmpR (op_neNil hr) (pv 2) (pe_lst pa_nil) (nomark _)) (pss_cons (ps_asg (pe_bm0 PySem.F.plainAttrs_list PySem.F.slot_list_pop PySem.F.type_list_pop mt_pop (pv 2)) (pg_tup rfl (pgs_cons (pg_name (i := 3) sc__law_depth.nd rfl (Or.inl rfl)) (pgs_cons (pg_name (i := 4) sc__law_depth.nd rfl (Or.inr rfl)) pgs_nil))))
      (pss_cons (ps_set (i := 1) sc__law_depth.nd rfl (Or.inl rfl) (pe_callB (call_max2 rfl) rfl T.n_max bt_max (pa_cons (pv 1) (pa_cons (pv 4) pa_nil))))
      (pss_one (ps_set (i := 2) sc__law_depth.nd rfl (Or.inl rfl) (pe_op op_cat (pv 2) (pe_comp (own := ["_law_part"]) (ys := ["_law_here"]) rfl (pi_tup (pe_ix ix_tup (pv 3) pe_int (fun _ _ => rfl))) (compSc_of (sc := defScope s__law_depth) rfl (by decide +kernel)) (.cons (j := 4) rfl .nil) (fun _ _ _ _ _ => (pg_name (i := 0) (show List.Nodup [("_law_part" : Str), ("_law_here" : Str)] from (by decide +kernel)) rfl (Or.inl rfl))) (fun _ _ _ _ _ => pts_nil) (fun _ _ _ _ _ => (pe_tup (pa_cons (pv 0) (pa_cons (pe_op op_add (pv 1) pe_int) pa_nil)))))))))))
      (pss_one (ps_ret (pv 1)))))), ?_⟩
  try dsimp only [Cx.nox, Cx.exc, Cx.wish, cxOf_K]
  have sl : sizeLine = 16777216 := sizeLine_eq
  refine ⟨_, rfl, small (show 2 ≤ 1000 by decide), fun t0 ht0 => ?_⟩
  have s00 := same_new ht0 (.tup [v, .int 1])
  refine ⟨small (show 1 ≤ 1000 by decide), fun w0 hw0 => ?_⟩
  have s0 := s00.trans (same_new hw0 (.lst [.ref t0]))
  refine ⟨InvDepth H v nd, ⟨_, 0, [(nd, 0)], [.ref t0], w0, _, _, rfl, rfl, by show lenL [nd] ≤ _; rw [lenL_one]; exact hl, s0, upd_same, s00.free hw0, .cons ⟨t0, v, rfl, same_new hw0 _ _ _ upd_same, na.tups (.same s0)⟩ .nil, by simp only [mxW]; (first | lia | omega)⟩, ?_⟩
  rintro m σ' H4 ⟨dp, st, ws, wl, v3, v4, rfl, rfl, lw0, g4, ew4, frw, pw, eq⟩
  refine ⟨_, rfl, small (show 0 ≤ 1000 by decide), fun e5 he5 => ?_⟩
  have s5 := same_new he5 (.lst [])
  refine ⟨wl, e5, ws, rfl, rfl, .of (s5 _ _ ew4), .of upd_same, _, rfl, ?_⟩
  have g5 := g4.trans s5
  have ew5 := s5 _ _ ew4
  have pw5 : Paired (WAt (upd H4 e5 (.lst []))) ws st := Paired.imp (fun _ _ z => z.tups (.same s5)) pw
  generalize upd H4 e5 (.lst []) = H5 at g5 ew5 pw5
  rcases List.eq_nil_or_concat ws with rfl | ⟨ws', x, rfl⟩
  · cases pw
    have e0 : dp = depN nd := by
      have : mxW [] = 0 := rfl
      (first | lia | omega)
    subst e0
    exact iteF ⟨_, rfl, q H5 g5⟩
  rw [List.concat_eq_append] at *
  obtain ⟨st', ⟨n, h⟩, rfl, pw', nx⟩ := Paired.unsnoc pw5
  have ne : (!(ws' ++ [x]).isEmpty) = true := by simp
  rw [ne]
  refine iteT ⟨fun σ'' H'' => ∃ m', m' < lenW (st' ++ [(n, h)]) ∧ InvDepth H v nd m' σ'' H'', fun _ _ z => z, ?_⟩
  obtain ⟨tw, nv, rfl, etw, nx⟩ := nx
  cases n with
  | mk k p own ps =>
  obtain ⟨t, o, pq, vs, rfl, etn, eo, ep', pr'⟩ := nx
  have ew : lenW (st' ++ [(Nd.mk k p own ps, h)]) = lenW st' + (1 + own.length + lenL ps) := by
    unfold lenW
    rw [List.map_append, lenL_append]
    show _ + lenL [Nd.mk k p own ps] = _
    rw [lenL_one, lenN_mk]
  have lw : ws'.length ≤ lenW st' := by
    rw [Paired.len pw']
    have := lenL_ge (st'.map (·.1))
    rw [List.length_map] at this
    exact this
  have lv : vs.length ≤ lenL ps := by rw [Paired.len pr']; exact lenL_ge ps
  refine ⟨_, rfl, .inl ⟨rfl, _, .of ew5⟩, wl, _, .ref tw, rfl, rfl, ew5, by simp, ?_⟩
  have dl : (ws' ++ [V.ref tw]).dropLast = ws' := by simp
  rw [dl]
  have tp7 : Tups H5 (upd H5 wl (.lst ws')) := .upd ew5
  have g7 : Same H (upd H5 wl (.lst ws')) := g5.fresh frw
  refine ⟨tw, _, rfl, .of (tp7 _ _ etw), rfl, _, _, rfl, _, _, rfl, rfl, ?_⟩
  refine ⟨_, rfl, _, rfl, _, _, rfl, ?_⟩
  have em : (if ((h + 1 : Nat) : Int) > (dp : Int) then ((h + 1 : Nat) : Int) else (dp : Int)) = ((max dp (h + 1) : Nat) : Int) := by
    by_cases c : ((h + 1 : Nat) : Int) > (dp : Int)
    · rw [if_pos c]; (first | lia | omega)
    · rw [if_neg c]; (first | lia | omega)
  have npw : ∀ {b : Addr} {xs : List V}, H5 b = some (.tup xs) → b ≠ wl := fun e z => by rw [z, ew5] at e; cases e
  refine ⟨_, rfl, _, rfl, t, _, _, _, rfl, rfl, .of (tp7 _ _ etn), rfl, pq, rfl, ⟨vs, .of (tp7 _ _ ep')⟩, fun cp hcp => ?_⟩
  have s8 := same_new hcp (.lst [])
  refine comp_tup (xs := vs) (fun i σ' H' => ∃ ys x, σ' = [x, some (.int (h + 1 : Nat))] ∧ Same (upd H5 wl (.lst ws')) H' ∧ H' cp = some (.lst ys) ∧ i ≤ vs.length ∧ Paired (WAt H') ys ((ps.take i).map fun y => (y, h + 1))) ⟨[], _, rfl, s8, upd_same, Nat.zero_le _, .nil⟩ ?_ ?_ ?_
  · rintro i σ' H' _ ⟨ys, x, rfl, g, _⟩
    exact .of (g _ _ (tp7 _ _ ep'))
  · rintro i x σ' H' hi hx ⟨ys, y, rfl, g, ec, _, py⟩
    obtain ⟨n, hn, nn⟩ := yon pr' hx
    have tk : ps.take (i + 1) = ps.take i ++ [n] := by rw [List.take_add_one, hn]; rfl
    dsimp only [gName, tYes]
    refine iteT ⟨_, rfl, _, rfl, _, _, rfl, rfl, small (show 2 ≤ 1000 by decide), fun tu htu => ?_⟩
    have s9 := same_new htu (.tup [x, .int ((h + 1 : Nat) + 1)])
    have ly : ys.length ≤ vs.length := by
      have := Paired.len py
      rw [List.length_map, List.length_take] at this
      have := Paired.len pr'
      (first | lia | omega)
    have ec9 := s9 _ _ ec
    have tp9 : Tups H5 (upd (upd H' tu (.tup [x, .int ((h + 1 : Nat) + 1)])) cp (.lst (ys ++ [.ref tu]))) := .trans tp7 (.trans (.same (g.trans s9)) (.upd ec9))
    have tpp : Tups H' (upd (upd H' tu (.tup [x, .int ((h + 1 : Nat) + 1)])) cp (.lst (ys ++ [.ref tu]))) := .trans (.same s9) (.upd ec9)
    have frc : (upd H5 wl (.lst ws')) cp = none := hcp
    refine ⟨ys, ec9, by (first | lia | omega), CW.next hi ⟨ys ++ [.ref tu], _, rfl, (g.trans s9).fresh frc, upd_same, hi, ?_⟩⟩
    rw [tk, List.map_append]
    refine Paired.append (Paired.imp (fun _ _ z => z.tups tpp) py) (.cons ⟨tu, x, rfl, ?_, (nn.tups tp9).more⟩ .nil)
    rw [upd_ne (fun z => by rw [z, ec] at htu; cases htu), upd_same]
    rfl
  rintro σ' H9 ⟨ys, x, rfl, g, ec, _, py⟩
  have ep9 : ps.take vs.length = ps := List.take_of_length_le (by rw [Paired.len pr']; exact Nat.le_refl _)
  rw [ep9] at py
  have ly : ys.length = ps.length := by have := Paired.len py; rw [List.length_map] at this; exact this
  have lp := lenL_ge ps
  refine ⟨wl, cp, ws', ys, rfl, rfl, g _ _ upd_same, ec, by (first | lia | omega), fun w10 hw10 => ?_⟩
  have s10 := same_new hw10 (.lst (ws' ++ ys))
  have gA := g7.trans (g.trans s10)
  refine ⟨_, ?_, max dp (h + 1), st' ++ ps.map (fun y => (y, h + 1)), _, w10, some (.ref t), some (.int (h + 1 : Nat)), ?_, rfl, ?_, gA, upd_same, (g7.trans g).free hw10, Paired.append (Paired.imp (fun _ _ z => z.tups (.trans tp7 (.same (g.trans s10)))) pw') (Paired.imp (fun _ _ z => z.tups (.same s10)) py), ?_⟩
  · rw [ew]
    unfold lenW
    rw [List.map_append, lenL_append, List.map_map]
    have : (ps.map ((·.1) ∘ fun y => (y, h + 1))) = ps := List.map_id' ps
    rw [this]; (first | lia | omega)
  · rw [← em] <;> rfl
  · rw [ew] at lw0
    unfold lenW at lw0 ⊢
    rw [List.map_append, lenL_append, List.map_map]
    have : (ps.map ((·.1) ∘ fun y => (y, h + 1))) = ps := List.map_id' ps
    rw [this]; (first | lia | omega)
  · rw [mxW_append] at eq ⊢
    have := mxW_parts ps (h + 1)
    simp only [mxW, depN] at eq
    (first | lia | omega)

noncomputable def toI (x : Nat × Int) : Int × Int := ((x.1 : Int), x.2)
noncomputable def spDepths7 : Sp := fun vs H Q _ => ∃ l us xs, vs = [.ref l] ∧ H l = some (.lst us) ∧ Paired (NodeAt H 10) us xs ∧ (∀ n ∈ xs, lenN n ≤ 100000) ∧ xs.length ≤ 100000 ∧
  ∀ l' H', Same H H' → H l' = none → HeadsAt H' l' ((depF xs [] (-1)).map toI) → Q (.ref l') H'
noncomputable def natI (B : List Nat) : List V := B.map fun e => V.int (e : Nat)
noncomputable def InvDs (l fo be : Addr) (us : List V) (xs : List Nd) (H : Hp) (i : Nat) (σ' : St) (H' : Hp) : Prop :=
  ∃ (B : List Nat) (fn : Int) (done : List (Nat × Int)) (rs : List V) (v4 : Option V), σ' = [some (.ref l), some (.ref fo), some (.ref be), some (.int fn), v4] ∧ Same H H' ∧ H' be = some (.lst (natI B.reverse)) ∧ H' fo = some (.lst rs) ∧ Paired (HeadAt H') rs (done.map toI) ∧ done.length = i ∧ i ≤ xs.length ∧ B.length ≤ i ∧
    depF xs [] (-1) = done ++ depF (xs.drop i) B fn
theorem iteN7 {c : Bool} {A B : Prop} (e : c = false) (h : B) : if c = true then A else B := by
  rw [e]; exact iteF h
theorem iteY7 {c : Bool} {A B : Prop} (e : c = true) (h : A) : if c = true then A else B := by
  rw [e]; exact iteT h
theorem atI_last (xs : List V) (v : V) : atI (xs ++ [v]) (-1) = some v := by
  unfold atI ixN
  rw [if_neg (by decide), if_pos (by rw [List.length_append]; simp only [List.length_cons, List.length_nil]; (first | lia | omega))]
  have : (-1 + ((xs ++ [v]).length : Int)).toNat = xs.length := by rw [List.length_append]; simp only [List.length_cons, List.length_nil]; (first | lia | omega)
  rw [this]
  simp
noncomputable def InvPop (l fo be : Addr) (fn : Int) (nv : V) (p : Nat) (C : List Nat) (H1 : Hp) (k m : Nat) (σ' : St) (H' : Hp) : Prop :=
  ∃ B : List Nat, σ' = [some (.ref l), some (.ref fo), some (.ref be), some (.int fn), some nv] ∧ m = B.length ∧ B.length ≤ k ∧ H' be = some (.lst (natI B.reverse)) ∧ popE p B = C ∧ Keep be H1 H'
theorem ok_depths7 (T : Txt K mg aP CL CN) (F : Fun K "_law_depths" "_law_depths" s__law_depths f fd) (C_law_many : Cal P w K mg base (CXE P w) 1 "_law_many" ["_law_node_here"] spMany7) : FnOk P w K mg base (CXE P w) 2 f fd ["_law_some"] spDepths7 := by
  refine F.okN sc__law_depths (fun vs H Q E h => ?_) (fun cdv A outer s H vs Q E hr h => ?_)
  · obtain ⟨l, us, xs, rfl, _⟩ := h
    rfl
  obtain ⟨l, us, xs, rfl, el, pu, hn, hx, q⟩ := h
  refine ⟨_, (pss_cons (ps_set (i := 1) sc__law_depths.nd rfl (Or.inl rfl) (pe_lst pa_nil))
      (pss_cons (ps_set (i := 2) sc__law_depths.nd rfl (Or.inl rfl) (pe_lst pa_nil))
      (pss_cons (ps_set (i := 3) sc__law_depths.nd rfl (Or.inl rfl) (pe_un un_neg pe_int))
      (pss_cons (ps_for PassesOwn.never rfl (pi_list (pv 0)) (pg_name (i := 4) sc__law_depths.nd rfl (Or.inl rfl)) (pss_cons (ps_cut (ps_while PassesOwn.never (PW.pt (pw_and (pt_cmpR (op_neNil hr) (pv 2) (pe_lst pa_nil) (nomark _)) (pw_and1 (pt_cmpR op_ge (pe_ix ix_tup (pv 4) pe_int (fun _ _ => rfl)) (pe_ix ix_list (pv 2) (pe_un un_neg pe_int) (fun _ _ => rfl)) (nomark _))))) (pss_one (ps_expr (pe_bm0 PySem.F.plainAttrs_list PySem.F.slot_list_pop PySem.F.type_list_pop mt_pop (pv 2))))))
      (pss_cons (ps_cut (ps_if (pt_cmpR (op_eqNil hr) (pv 2) (pe_lst pa_nil) (nomark _)) (pss_one (ps_set (i := 3) sc__law_depths.nd rfl (Or.inl rfl) (pe_op op_add (pv 3) pe_int))) pss_nil))
      (pss_cons (ps_expr (pe_bm PySem.F.plainAttrs_list PySem.F.slot_list_append PySem.F.type_list_append mt_append (pv 2) (pa_cons (pe_op op_add (pe_ix ix_tup (pv 4) pe_int (fun _ _ => rfl)) (pe_callC C_law_many hr rfl (pa_cons (pv 4) pa_nil) passN)) pa_nil)))
      (pss_one (ps_expr (pe_bm PySem.F.plainAttrs_list PySem.F.slot_list_append PySem.F.type_list_append mt_append (pv 1) (pa_cons (pe_tup (pa_cons (pe_callB call_len_seq rfl T.n_len bt_len (pa_cons (pv 2) pa_nil)) (pa_cons (pv 3) pa_nil))) pa_nil))))))))
      (pss_one (ps_ret (pv 1))))))), ?_⟩
  try dsimp only [Cx.nox, Cx.exc, Cx.wish, cxOf_K]
  have sl : sizeLine = 16777216 := sizeLine_eq
  have lu := Paired.len pu
  refine ⟨small (show 0 ≤ 1000 by decide), fun fo hfo => ?_⟩
  have s1 := same_new hfo (.lst [])
  refine ⟨small (show 0 ≤ 1000 by decide), fun be hbe => ?_⟩
  have s2 := s1.trans (same_new hbe (.lst []))
  have nfb : fo ≠ be := fun z => by rw [← z, upd_same] at hbe; cases hbe
  have hbe0 : H be = none := s1.free hbe
  refine ⟨1, rfl, _, rfl, l, rfl, ⟨us, .of (s2 _ _ el)⟩, for_list (xs := us) (InvDs l fo be us xs H) ⟨[], -1, [], [], _, rfl, s2, upd_same, same_new hbe _ _ _ upd_same, .nil, rfl, Nat.zero_le _, Nat.zero_le _, by rw [List.drop_zero, List.nil_append]⟩ ?_ ?_ ?_⟩
  · rintro i σ' H' _ ⟨B, fn, done, rs, v4, _, g, _⟩
    exact .of (g _ _ el)
  · rintro i nv σ' H1 hi ⟨B, fn, done, rs, v4, rfl, g, eb, ef, pf, dl, il, bl, eq⟩
    obtain ⟨n, hnn, na⟩ := yon pu hi
    have il' : i < xs.length := (List.getElem?_eq_some_iff.mp hnn).1
    have ln := hn n (List.mem_of_getElem? hnn)
    have ed : xs.drop i = n :: xs.drop (i + 1) := by
      rw [List.drop_eq_getElem_cons il']
      have := List.getElem?_eq_getElem il'
      rw [this] at hnn
      cases hnn
      rfl
    have na1 := na.tups (.same g)
    cases n with
    | mk k p own ps =>
    have na1' := na1
    obtain ⟨t, o, pq, vs, rfl, etn, _⟩ := na1'
    rw [ed, depF_mk] at eq
    refine ⟨fun σ' H' => InvPop l fo be fn (.ref t) p (popE p B) H1 i (popE p B).length σ' H' ∧ H' be = some (.lst (natI (popE p B).reverse)), ?_, ?_⟩
    · refine ⟨InvPop l fo be fn (.ref t) p (popE p B) H1 i, ⟨_, B, rfl, rfl, bl, eb, rfl, Keep.refl _ _⟩, ?_⟩
      rintro m σ' H2 ⟨B2, rfl, rfl, bl2, eb2, ep2, k2⟩
      have ntb : t ≠ be := fun z => by rw [z, eb] at etn; cases etn
      refine ⟨_, rfl, small (show 0 ≤ 1000 by decide), fun e5 he5 => ?_⟩
      have s5 := same_new he5 (.lst [])
      refine ⟨be, e5, _, rfl, rfl, .of (s5 _ _ eb2), .of upd_same, _, rfl, ?_⟩
      have eb5 := s5 _ _ eb2
      have k5 : Keep be H1 (upd H2 e5 (.lst [])) := k2.trans (Keep.same s5)
      generalize upd H2 e5 (.lst []) = H5 at eb5 k5
      cases B2 with
      | nil =>
        have e0 : popE p B = [] := by rw [← ep2] <;> rfl
        refine iteN7 rfl (iteF ⟨⟨[], rfl, by rw [e0] <;> rfl, Nat.zero_le _, eb5, ?_, k5⟩, ?_⟩)
        · rw [e0] <;> rfl
        · rw [e0]; exact eb5
      | cons e B3 =>
        have er : natI (e :: B3).reverse = natI B3.reverse ++ [.int (e : Nat)] := by
          unfold natI
          rw [List.reverse_cons, List.map_append] <;> rfl
        have hat : atI (natI (e :: B3).reverse) (-1) = some (.int (e : Nat)) := by
          rw [er]
          exact atI_last _ _
        refine iteY7 (by rw [er]; simp) ⟨_, rfl, t, _, _, _, rfl, rfl, .of (k5 _ _ ntb etn), rfl, _, rfl, _, rfl, be, _, _, _, rfl, rfl, .of eb5, hat, _, _, rfl, rfl, _, rfl, ite2 (fun c => ?_) (fun c => ?_)⟩
        · have c' : e ≤ p := by have := of_decide_eq_true c; (first | lia | omega)
          refine ⟨fun σ'' H'' => ∃ m', m' < (e :: B3).length ∧ InvPop l fo be fn (.ref t) p (popE p B) H1 i m' σ'' H'', fun _ _ z => z, ?_⟩
          refine ⟨_, rfl, .inl ⟨rfl, _, .of eb5⟩, be, _, .int (e : Nat), rfl, rfl, eb5, by rw [er]; simp, ?_⟩
          rw [er, List.dropLast_concat]
          refine ⟨B3.length, by rw [List.length_cons]; (first | lia | omega), B3, rfl, rfl, by rw [List.length_cons] at bl2; (first | lia | omega), upd_same, ?_, k5.trans Keep.upd⟩
          rw [← ep2, popE_cons_le c']
        · have c' : p < e := by
            have : ¬ (e : Int) ≤ (p : Int) := fun z => c (decide_eq_true z)
            (first | lia | omega)
          have e0 : popE p B = e :: B3 := by rw [← ep2, popE_cons_gt c']
          refine ⟨⟨e :: B3, rfl, by rw [e0], bl2, eb5, by rw [e0, popE_cons_gt c'], k5⟩, by rw [e0]; exact eb5⟩
    rintro σ' H2 ⟨⟨B2, rfl, lb2, bl2, eb2, ep2, k2⟩, ebC⟩
    clear ep2 lb2 eb2
    have lC : (popE p B).length ≤ i := Nat.le_trans (List.dropWhile_sublist _).length_le bl
    generalize popE p B = C at eq ebC lC
    obtain ⟨fn2, efn⟩ : ∃ fn2, fn2 = (if C.isEmpty = true then fn + 1 else fn) := ⟨_, rfl⟩
    rw [← efn] at eq
    have ntb : t ≠ be := fun z => by rw [z, eb] at etn; cases etn
    have nlb : ∀ {b : Addr} {o : HO}, H b = some o → b ≠ be := fun e => ne_of_none e hbe0
    refine ⟨fun σ' H' => σ' = [some (.ref l), some (.ref fo), some (.ref be), some (.int fn2), some (.ref t)] ∧ H' be = some (.lst (natI C.reverse)) ∧ Keep be H1 H', ?_, ?_⟩
    · refine ⟨_, rfl, small (show 0 ≤ 1000 by decide), fun e5 he5 => ?_⟩
      have s5 := same_new he5 (.lst [])
      refine ⟨be, e5, _, rfl, rfl, .of (s5 _ _ ebC), .of upd_same, _, rfl, ?_⟩
      have k5 : Keep be H1 (upd H2 e5 (.lst [])) := k2.trans (Keep.same s5)
      cases C with
      | nil => exact iteY7 rfl ⟨_, rfl, _, _, rfl, rfl, by rw [efn] <;> rfl, s5 _ _ ebC, k5⟩
      | cons e C =>
        refine iteN7 ?_ ⟨by rw [efn] <;> rfl, s5 _ _ ebC, k5⟩
        unfold natI
        simp
    rintro σ' H3 ⟨rfl, eb3, k3⟩
    have tp13 : Tups H1 H3 := Tups.keepL eb k3
    have na3 := na1.tups tp13
    refine ⟨_, rfl, .inl ⟨rfl, _, .of eb3⟩, _, rfl, t, _, _, _, rfl, rfl, .of (k3 _ _ ntb etn), rfl, _, rfl, .ref t, .mk k p own ps, rfl, na3, Nat.le_trans ln (by decide), fun H6 s6 => ?_⟩
    have eb6 := s6 _ _ eb3
    refine ⟨_, _, rfl, rfl, be, _, _, rfl, rfl, eb6, ?_, ?_⟩
    · unfold natI
      rw [List.length_map, List.length_reverse]; (first | lia | omega)
    have en : natI C.reverse ++ [V.int ((p : Int) + (lenN (.mk k p own ps) : Int))] = natI ((p + lenN (.mk k p own ps)) :: C).reverse := by
      unfold natI
      rw [List.reverse_cons, List.map_append, List.map_cons, List.map_nil, Int.natCast_add]
    have ef6 : upd H6 be (.lst (natI C.reverse ++ [V.int ((p : Int) + (lenN (.mk k p own ps) : Int))])) fo = some (.lst rs) := by
      rw [upd_ne nfb]; exact s6 _ _ (k3 _ _ nfb ef)
    have eb7 : upd H6 be (.lst (natI C.reverse ++ [V.int ((p : Int) + (lenN (.mk k p own ps) : Int))])) be = some (.lst (natI ((p + lenN (.mk k p own ps)) :: C).reverse)) := by
      rw [upd_same, en]
    have g7 : Same H (upd H6 be (.lst (natI C.reverse ++ [V.int ((p : Int) + (lenN (.mk k p own ps) : Int))]))) := fun b o e => by
      rw [upd_ne (nlb e)]
      exact s6 _ _ (k3 _ _ (nlb e) (g _ _ e))
    have tp7 : Tups H1 (upd H6 be (.lst (natI C.reverse ++ [V.int ((p : Int) + (lenN (.mk k p own ps) : Int))]))) := .trans tp13 (.trans (.same s6) (.upd eb6))
    obtain ⟨H7, e7⟩ : ∃ H7, H7 = upd H6 be (.lst (natI C.reverse ++ [V.int ((p : Int) + (lenN (.mk k p own ps) : Int))])) := ⟨_, rfl⟩
    rw [← e7] at ef6 eb7 g7 tp7
    have lb : (natI ((p + lenN (.mk k p own ps)) :: C).reverse).length = C.length + 1 := by
      unfold natI
      rw [List.length_map, List.length_reverse, List.length_cons]
    have lr : rs.length = i := by have := Paired.len pf; rw [List.length_map, dl] at this; exact this
    refine ⟨_, rfl, .inl ⟨rfl, _, .of (by rw [← e7]; exact ef6)⟩, _, rfl, be, _, rfl, .inl (.of (by rw [← e7]; exact eb7)), _, rfl, small (show 2 ≤ 1000 by decide), fun tu htu => ?_⟩
    rw [lb] at *
    have htu7 : H7 tu = none := by rw [e7]; exact htu
    have s8 := same_new htu7 (.tup [.int ((C.length + 1 : Nat) : Int), .int fn2])
    have nfo0 : ∀ {b : Addr} {o : HO}, H b = some o → b ≠ fo := fun e => ne_of_none e hfo
    refine ⟨fo, rs, _, rfl, rfl, by rw [← e7]; exact s8 _ _ ef6, by (first | lia | omega), ?_⟩
    rw [← e7]
    have ef8 := s8 _ _ ef6
    refine ⟨(p + lenN (.mk k p own ps)) :: C, fn2, done ++ [(C.length + 1, fn2)], rs ++ [.ref tu], _, rfl, fun b o e => ?_, ?_, upd_same, ?_, by rw [List.length_append, dl] <;> rfl, il', by rw [List.length_cons]; (first | lia | omega), ?_⟩
    · rw [upd_ne (nfo0 e)]; exact s8 _ _ (g7 _ _ e)
    · rw [upd_ne (Ne.symm nfb)]; exact s8 _ _ eb7
    · rw [List.map_append]
      refine Paired.append (Paired.imp (fun _ _ z => HeadAt.tups (.trans tp7 (.trans (.same s8) (.upd ef8))) z) pf) (.cons ⟨tu, rfl, ?_⟩ .nil)
      rw [upd_ne (fun z => by rw [z, ef6] at htu7; cases htu7), upd_same]
      rfl
    · rw [eq, List.append_assoc] <;> rfl
  · rintro σ' H1 ⟨B, fn, done, rs, v4, rfl, g, eb, ef, pf, dl, il, bl, eq⟩
    rw [lu, List.drop_eq_nil_of_le (Nat.le_refl _)] at eq
    have e0 : depF xs [] (-1) = done := by rw [eq]; simp [depF]
    exact ⟨_, rfl, q fo H1 g hfo ⟨rs, ef, by rw [e0]; exact pf⟩⟩

theorem cut_to (ns : List V) (z : Nat) : cutV ns none (some (z : Int)) = ns.take z := by
  unfold cutV
  rw [HT.sIx_none, HT.sIx_nat, List.drop_zero]
  by_cases h : z ≤ ns.length
  · rw [Nat.min_eq_left h] <;> rfl
  · rw [Nat.min_eq_right (by (first | lia | omega)), List.take_of_length_le (by simp), List.take_of_length_le (by (first | lia | omega))]
theorem cut_from (ns : List V) (a : Nat) : cutV ns (some (a : Int)) none = ns.drop a := by
  unfold cutV
  rw [HT.sIx_nat, HT.sIx_none]
  by_cases h : a ≤ ns.length
  · rw [Nat.min_eq_left h, List.take_of_length_le (by simp)]
  · rw [Nat.min_eq_right (by (first | lia | omega)), List.drop_of_length_le (by simp), List.drop_of_length_le (by (first | lia | omega))]
    simp
theorem cut_mid (ns : List V) {a b : Nat} (h : b ≤ ns.length) (hab : a ≤ b) : cutV ns (some (a : Int)) (some (b : Int)) = (ns.drop a).take (b - a) := by
  unfold cutV
  rw [HT.sIx_nat, HT.sIx_nat, Nat.min_eq_left h, Nat.min_eq_left (by (first | lia | omega))]
noncomputable def spInF7 : Sp := fun vs H Q _ => ∃ (dl : Addr) (ds : Hds) (fi : Int), vs = [.ref dl, .int fi] ∧ HeadsAt H dl ds ∧ ds.length ≤ 100000 ∧
  ∀ l' (ks : List Nat) H', Same H H' → H l' = none → H' l' = some (.lst (natI ks)) → (∀ k ∈ ks, ∃ x, ds[k]? = some x ∧ x.2 = fi) → (∀ k x, ds[k]? = some x → x.2 = fi → k ∈ ks) → ks.length ≤ ds.length → Q (.ref l') H'
theorem ok_in_function7 (T : Txt K mg aP CL CN) (F : Fun K "_law_in_function" "_law_in_function" s__law_in_function f fd) : FnOk P w K mg base (CXE P w) 1 f fd ["_law_depths_here", "_law_function"] spInF7 := by
  refine F.okN sc__law_in_function (fun vs H Q E h => ?_) (fun cdv A outer s H vs Q E hr h => ?_)
  · obtain ⟨dl, ds, fi, rfl, _⟩ := h
    rfl
  obtain ⟨dl, ds, fi, rfl, ⟨rs, ed, pd⟩, hl, q⟩ := h
  refine ⟨_, (pss_one (ps_ret (pe_comp (own := ["_law_k"]) (ys := ["_law_function", "_law_depths_here"]) rfl (pi_range1 rfl T.n_range (pa_cons (pe_callB call_len_seq rfl T.n_len bt_len (pa_cons (pv 0) pa_nil)) pa_nil)) (compSc_of (sc := defScope s__law_in_function) rfl (by decide +kernel)) (.cons (j := 1) rfl (.cons (j := 0) rfl .nil)) (fun _ _ _ _ _ => (pg_name (i := 0) (show List.Nodup [("_law_k" : Str), ("_law_function" : Str), ("_law_depths_here" : Str)] from (by decide +kernel)) rfl (Or.inl rfl))) (fun _ _ _ _ _ => pts_one (pt_cmpR op_eq (pe_ix (ix_tupK K rfl) (pe_ix (ix_listK K rfl) (pv 2) (pv 0) (fun _ _ => rfl)) pe_int (fun _ _ => rfl)) (pv 1) (nomark _))) (fun _ _ _ _ _ => (pv 0))))), ?_⟩
  try dsimp only [Cx.nox, Cx.exc, Cx.wish, cxOf_K]
  have sl : sizeLine = 16777216 := sizeLine_eq
  have lr := Paired.len pd
  refine ⟨_, rfl, dl, _, rfl, .inl (.of ed), _, rfl, by (first | lia | omega), by (first | lia | omega), fun p hp => ?_⟩
  refine comp_rng (fun i ys H' => ∃ ks : List Nat, H' = upd H p (.lst (natI ks)) ∧ ks.length ≤ i ∧ (∀ k ∈ ks, ∃ x, ds[k]? = some x ∧ x.2 = fi) ∧ ∀ k x, k < i → ds[k]? = some x → x.2 = fi → k ∈ ks) ⟨[], rfl, Nat.zero_le _, (fun k hk => nomatch hk), fun k x hk => absurd hk (Nat.not_lt_zero _)⟩ ?_ ?_
  · rintro i ys H' hi ⟨ks, rfl, lk, a1, a2⟩
    have hi' : i < rs.length := by (first | lia | omega)
    obtain ⟨x, hx, t, et, ht⟩ := yon pd (List.getElem?_eq_getElem hi')
    have hat : atI rs (0 + (i : Int)) = some (.ref t) := by
      rw [Int.zero_add]
      exact atI_nat (by rw [List.getElem?_eq_getElem hi', et])
    have g := same_new hp (.lst (natI ks))
    refine ⟨_, rfl, _, rfl, dl, _, _, _, rfl, rfl, .of (g _ _ ed), hat, t, _, _, _, rfl, rfl, .of (g _ _ ht), rfl, _, rfl, rfl, _, rfl, ite2 (fun c => ?_) (fun c => ?_)⟩
    · have c' := vt c
      refine ⟨_, rfl, _, upd_same, ?_, CompW.next (ys := []) hi ⟨ks ++ [i], ?_, by rw [List.length_append]; show _ + 1 ≤ _; (first | lia | omega), fun k hk => ?_, fun k y hk hy e => ?_⟩⟩
      · unfold natI
        rw [List.length_map]; (first | lia | omega)
      · rw [upd_upd]
        unfold natI
        rw [List.map_append, Int.zero_add] <;> rfl
      · rcases List.mem_append.mp hk with z | z
        · exact a1 k z
        · rw [List.mem_singleton.mp z]; exact ⟨x, hx, c'⟩
      · by_cases z : k = i
        · subst z; exact List.mem_append_right _ (List.mem_singleton.mpr rfl)
        · exact List.mem_append_left _ (a2 k y (by (first | lia | omega)) hy e)
    · refine CompW.next (ys := []) hi ⟨ks, rfl, by (first | lia | omega), a1, fun k y hk hy e => ?_⟩
      by_cases z : k = i
      · subst z
        rw [hx] at hy
        cases hy
        exact absurd e (vf c)
      · exact a2 k y (by (first | lia | omega)) hy e
  · rintro ys H' ⟨ks, rfl, lk, a1, a2⟩
    have el : ((rs.length : Int)).toNat = ds.length := by (first | lia | omega)
    refine q p ks _ (same_new hp _) hp upd_same a1 (fun k x hk e => a2 k x ?_ hk e) (by (first | lia | omega))
    have := (List.getElem?_eq_some_iff.mp hk).1
    (first | lia | omega)
noncomputable def spHeadsOf7 : Sp := fun vs H Q _ => ∃ (a : Addr) (ns : List Int) (hs : Hds) (nds : List Nd), vs = [.ref a] ∧ H a = some (.lst (ns.map V.int)) ∧ functionsM ns = .ok (hs, nds) ∧ ∀ hd H', Same H H' → H hd = none → HeadsAt H' hd hs → Q (.ref hd) H'
theorem ok_heads_of7 (T : Txt K mg aP CL CN) (F : Fun K "_law_heads_of" "_law_heads_of" s__law_heads_of f fd) : FnOk P w K mg base (CXE P w) 1 f fd ["_law_sheet_here"] spHeadsOf7 := by
  refine F.okN sc__law_heads_of (fun vs H Q E h => ?_) (fun cdv A outer s H vs Q E hr h => ?_)
  · obtain ⟨a, ns, hs, nds, rfl, _⟩ := h
    rfl
  obtain ⟨a, ns, hs, nds, rfl, ea, hf, q⟩ := h
  refine ⟨_, (pss_one (ps_ret (pe_comp (own := ["_law_k"]) (ys := ["_law_sheet_here"]) rfl (pi_range1 rfl T.n_range (pa_cons (pe_ix ix_list (pv 0) pe_int (fun _ _ => rfl)) pa_nil)) (compSc_of (sc := defScope s__law_heads_of) rfl (by decide +kernel)) (.cons (j := 0) rfl .nil) (fun _ _ _ _ _ => (pg_name (i := 0) (show List.Nodup [("_law_k" : Str), ("_law_sheet_here" : Str)] from (by decide +kernel)) rfl (Or.inl rfl))) (fun _ _ _ _ _ => pts_nil) (fun _ _ _ _ _ => (pe_tup (pa_cons (pe_ix (ix_listK K rfl) (pv 1) (pe_op op_add pe_int (pe_op op_mul pe_int (pv 0))) (fun _ _ => rfl)) (pa_cons (pe_ix (ix_listK K rfl) (pv 1) (pe_op op_add pe_int (pe_op op_mul pe_int (pv 0))) (fun _ _ => rfl)) pa_nil))))))), ?_⟩
  try dsimp only [Cx.nox, Cx.exc, Cx.wish, cxOf_K]
  have sl : sizeLine = 16777216 := sizeLine_eq
  obtain ⟨hg, _, en, _, _⟩ := sheet_shape hf
  have g1 := hg.lo
  have g2 := hg.hi
  obtain ⟨_, _, _, _, hm⟩ := headsAllM_ok (fns_ok hf).1
  have at0 : atI (ns.map V.int) 0 = some (.int (hs.length : Int)) := by
    rw [en]
    exact atI_nat (xs := (sheetL hs (hnsL nds)).map V.int) (j := 0) rfl
  refine ⟨_, rfl, a, _, _, _, rfl, rfl, .of ea, at0, _, rfl, by (first | lia | omega), by (first | lia | omega), fun p hp => ?_⟩
  refine comp_rng (fun i ys H' => Same H H' ∧ H' p = some (.lst ys) ∧ i ≤ hs.length ∧ Paired (HeadAt H') ys (hs.take i)) ⟨same_new hp _, upd_same, Nat.zero_le _, .nil⟩ ?_ ?_
  · rintro i ys H' hi ⟨g, ep, _, pr⟩
    rw [Int.toNat_natCast] at hi
    have eg : hs[i]? = some hs[i] := List.getElem?_eq_getElem hi
    obtain ⟨a1, a2⟩ := headsM_at hm i _ eg
    have at1 : atI (ns.map V.int) (1 + 2 * (0 + (i : Int))) = some (.int hs[i].1) := by
      rw [show 1 + 2 * (0 + (i : Int)) = ((1 + 2 * i : Nat) : Int) by (first | lia | omega)]
      exact atI_ns a1
    have at2 : atI (ns.map V.int) (2 + 2 * (0 + (i : Int))) = some (.int hs[i].2) := by
      rw [show 2 + 2 * (0 + (i : Int)) = ((1 + 2 * i + 1 : Nat) : Int) by (first | lia | omega)]
      exact atI_ns a2
    have cm : CMul 2 (0 + (i : Int)) := .inl ⟨by decide, by decide⟩
    refine tyes ⟨_, rfl, _, rfl, _, _, rfl, rfl, cm, _, _, rfl, rfl, a, _, _, _, rfl, rfl, .of (g _ _ ea), at1, _, rfl, _, rfl, _, _, rfl, rfl, cm, _, _, rfl, rfl, a, _, _, _, rfl, rfl, .of (g _ _ ea), at2, small (show 2 ≤ 1000 by decide), fun t ht => ?_⟩
    have s2 := same_new ht (.tup [.int hs[i].1, .int hs[i].2])
    have ep2 := s2 _ _ ep
    have ly : ys.length ≤ 16 := by
      have := Paired.len pr
      rw [List.length_take] at this; (first | lia | omega)
    have tk : hs.take (i + 1) = hs.take i ++ [hs[i]] := by rw [List.take_add_one, eg]; rfl
    refine ⟨ys, ep2, by (first | lia | omega), CompW.next (ys := ys ++ [.ref t]) (by rw [Int.toNat_natCast]; exact hi) ⟨(g.trans s2).fresh hp, upd_same, hi, ?_⟩⟩
    rw [tk]
    refine Paired.append (Paired.imp (fun _ _ z => HeadAt.tups (.trans (.same s2) (.upd ep2)) z) pr) (.cons ⟨t, rfl, ?_⟩ .nil)
    rw [upd_ne (fun z => by rw [z, ep] at ht; cases ht), upd_same]
  · rintro ys H' ⟨g, ep, _, pr⟩
    rw [Int.toNat_natCast, List.take_length] at pr
    exact q p H' g hp ⟨ys, ep, pr⟩
noncomputable def spPut7 : Sp := fun vs H Q _ => ∃ (a b : Addr) (ns zs : List Int) (v : V) (nd : Nd), vs = [.ref a, v, .ref b] ∧ H a = some (.lst (ns.map V.int)) ∧ H b = some (.lst (zs.map V.int)) ∧ NodeAt H 10 v nd ∧ lenN nd ≤ 1000000 ∧ ns.length ≤ 1000000 ∧ zs.length ≤ 1000000 ∧
  ∀ l' H', Same H H' → H l' = none → H' l' = some (.lst ((ns.take (plOf nd) ++ zs ++ ns.drop (plOf nd + lenN nd)).map V.int)) → Q (.ref l') H'
theorem ok_put7 (T : Txt K mg aP CL CN) (F : Fun K "_law_put" "_law_put" s__law_put f fd) (C_law_many : Cal P w K mg base (CXE P w) 1 "_law_many" ["_law_node_here"] spMany7) : FnOk P w K mg base (CXE P w) 2 f fd ["_law_sheet_here", "_law_node_here", "_law_numbers"] spPut7 := by
  refine F.okN sc__law_put (fun vs H Q E h => ?_) (fun cdv A outer s H vs Q E hr h => ?_)
  · obtain ⟨a, b, ns, zs, v, nd, rfl, _⟩ := h
    rfl
  obtain ⟨a, b, ns, zs, v, nd, rfl, ea, eb, na, hl, ln, lz, q⟩ := h
  refine ⟨_, (pss_cons (ps_set (i := 3) sc__law_put.nd rfl (Or.inl rfl) (pe_op op_add (pe_ix ix_tup (pv 1) pe_int (fun _ _ => rfl)) (pe_callC C_law_many hr rfl (pa_cons (pv 1) pa_nil) passN)))
      (pss_one (ps_ret (pe_op op_cat (pe_op op_cat (pe_slice sl_list (pv 0) po_none (po_some (pe_ix ix_tup (pv 1) pe_int (fun _ _ => rfl)))) (pv 2)) (pe_slice sl_list (pv 0) (po_some (pv 3)) po_none))))), ?_⟩
  try dsimp only [Cx.nox, Cx.exc, Cx.wish, cxOf_K]
  have sl : sizeLine = 16777216 := sizeLine_eq
  cases nd with
  | mk k p own ps =>
  have na' := na
  obtain ⟨t, o, pq, vs, rfl, etn, _⟩ := na'
  refine ⟨_, rfl, t, _, _, _, rfl, rfl, .of etn, rfl, _, rfl, .ref t, _, rfl, na, hl, fun H1 s1 => ⟨_, _, rfl, rfl, ?_⟩⟩
  refine ⟨_, rfl, _, rfl, t, _, _, _, rfl, rfl, .of (s1 _ _ etn), rfl, _, rfl, a, _, rfl, .of (s1 _ _ ea), fun c2 hc2 => ?_⟩
  rw [cut_to]
  have s2 := same_new hc2 (.lst ((ns.map V.int).take p))
  refine ⟨_, rfl, c2, b, _, _, rfl, rfl, upd_same, s2 _ _ (s1 _ _ eb), ?_, fun c3 hc3 => ?_⟩
  · rw [List.length_take, List.length_map, List.length_map]; (first | lia | omega)
  have s3 := s2.trans (same_new hc3 (.lst ((ns.map V.int).take p ++ zs.map V.int)))
  have e3 : ((p : Int) + (lenN (.mk k p own ps) : Int)) = ((p + lenN (.mk k p own ps) : Nat) : Int) := by (first | lia | omega)
  refine ⟨_, rfl, _, rfl, _, rfl, a, _, rfl, .of (s3 _ _ (s1 _ _ ea)), fun c4 hc4 => ?_⟩
  rw [e3, cut_from]
  have s4 := same_new hc4 (.lst ((ns.map V.int).drop (p + lenN (.mk k p own ps))))
  refine ⟨c3, c4, _, _, rfl, rfl, s4 _ _ upd_same, upd_same, ?_, fun c5 hc5 => ?_⟩
  · rw [List.length_append, List.length_take, List.length_drop, List.length_map, List.length_map]; (first | lia | omega)
  have s5 := s1.trans (s3.trans (s4.trans (same_new hc5 (.lst ((ns.map V.int).take p ++ zs.map V.int ++ (ns.map V.int).drop (p + lenN (.mk k p own ps)))))))
  refine q c5 _ s5 ((s1.trans (s3.trans s4)).free hc5) ?_
  rw [upd_same]
  show _ = some (HO.lst (List.map V.int (ns.take p ++ zs ++ ns.drop (p + lenN (.mk k p own ps)))))
  rw [List.map_append, List.map_append, List.map_take, List.map_drop]
noncomputable def BareAt (H : Hp) (v : V) (x : Hn) : Prop := ∃ t o, v = .ref t ∧ H t = some (.tup [.int x.1, .ref o]) ∧ H o = some (.tup (x.2.map V.int))
theorem BareAt.tups {H H' : Hp} (h : Tups H H') {v : V} {x : Hn} : BareAt H v x → BareAt H' v x := fun ⟨t, o, e, q, z⟩ => ⟨t, o, e, h _ _ q, h _ _ z⟩
theorem BareAt.eq {K : PySem.W.Frag} {H : Hp} {v v' : V} {x : Hn} : BareAt H v x → BareAt H v' x → EqD K H 2 v v' := fun ⟨t, o, e, q, z⟩ ⟨t', o', e', q', z'⟩ =>
  .inr ⟨t, t', _, _, e, e', .inr ⟨.of q, .of q'⟩, .cons (EqD.flat rfl _) (.cons (.inr ⟨o, o', _, _, rfl, rfl, .inr ⟨.of z, .of z'⟩, EqD.intsN _⟩) .nil)⟩
noncomputable def spBare7 : Sp := fun vs H Q _ => ∃ (l : Addr) (us : List V) (xs : List Nd), vs = [.ref l] ∧ H l = some (.lst us) ∧ Paired (NodeAt H 10) us xs ∧ xs.length ≤ 100000 ∧ ∀ l' ys H', Same H H' → H l' = none → H' l' = some (.lst ys) → Paired (BareAt H') ys (xs.map hnOf) → Q (.ref l') H'
theorem ok_all_bare7 (T : Txt K mg aP CL CN) (F : Fun K "_law_all_bare" "_law_all_bare" s__law_all_bare f fd) : FnOk P w K mg base (CXE P w) 1 f fd ["_law_some"] spBare7 := by
  refine F.okN sc__law_all_bare (fun vs H Q E h => ?_) (fun cdv A outer s H vs Q E hr h => ?_)
  · obtain ⟨l, us, xs, rfl, _⟩ := h
    rfl
  obtain ⟨l, us, xs, rfl, el, pu, hl, q⟩ := h
  refine ⟨_, (pss_one (ps_ret (pe_comp (own := ["_law_one"]) (ys := []) rfl (pi_list (pv 0)) (compSc_of (sc := defScope s__law_all_bare) rfl (by decide +kernel)) .nil (fun _ _ _ _ _ => (pg_name (i := 0) (show List.Nodup [("_law_one" : Str)] from (by decide +kernel)) rfl (Or.inl rfl))) (fun _ _ _ _ _ => pts_nil) (fun _ _ _ _ _ => (pe_tup (pa_cons (pe_ix (ix_tupK K rfl) (pv 0) pe_int (fun _ _ => rfl)) (pa_cons (pe_ix (ix_tupK K rfl) (pv 0) pe_int (fun _ _ => rfl)) pa_nil))))))), ?_⟩
  try dsimp only [Cx.nox, Cx.exc, Cx.wish, cxOf_K]
  have sl : sizeLine = 16777216 := sizeLine_eq
  have lu := Paired.len pu
  refine ⟨_, rfl, l, rfl, ⟨us, .of el⟩, fun p hp => ?_⟩
  refine comp_lst (xs := us) (fun i σ' H' => ∃ ys x, σ' = [x] ∧ Same H H' ∧ H' p = some (.lst ys) ∧ i ≤ us.length ∧ Paired (BareAt H') ys ((xs.map hnOf).take i)) ⟨[], _, rfl, same_new hp _, upd_same, Nat.zero_le _, .nil⟩ ?_ ?_ ?_
  · rintro i σ' H' _ ⟨ys, x, rfl, g, _⟩
    exact .of (g _ _ el)
  · rintro i x σ' H' hi hx ⟨ys, y, rfl, g, ec, _, py⟩
    obtain ⟨n, hn, nn⟩ := yon pu hx
    cases n with
    | mk k pl own ps =>
    obtain ⟨t, o, pq, vs, rfl, etn, eo, _⟩ := nn
    have tk : (xs.map hnOf).take (i + 1) = (xs.map hnOf).take i ++ [(k, own)] := by rw [List.take_add_one, List.getElem?_map, hn]; rfl
    dsimp only [gName, tYes]
    refine iteT ⟨_, rfl, t, _, _, _, rfl, rfl, .of (g _ _ etn), rfl, _, rfl, t, _, _, _, rfl, rfl, .of (g _ _ etn), rfl, small (show 2 ≤ 1000 by decide), fun tu htu => ?_⟩
    have s9 := same_new htu (.tup [.int k, .ref o])
    have ec9 := s9 _ _ ec
    have ly : ys.length ≤ xs.length := by
      have := Paired.len py
      rw [List.length_take, List.length_map] at this; (first | lia | omega)
    refine ⟨ys, ec9, by (first | lia | omega), CW.next hi ⟨ys ++ [.ref tu], _, rfl, (g.trans s9).fresh hp, upd_same, hi, ?_⟩⟩
    rw [tk]
    refine Paired.append (Paired.imp (fun _ _ z => z.tups (.trans (.same s9) (.upd ec9))) py) (.cons ⟨tu, o, rfl, ?_, ?_⟩ .nil)
    · rw [upd_ne (fun z => by rw [z, ec] at htu; cases htu), upd_same]
    · exact (Tups.trans (.same (g.trans s9)) (.upd ec9)) _ _ eo
  rintro σ' H9 ⟨ys, x, rfl, g, ec, _, py⟩
  rw [List.take_of_length_le (by rw [List.length_map]; (first | lia | omega))] at py
  exact q p ys H9 g hp ec py

noncomputable def spSheetWith (K : PySem.W.Frag) : Sp := fun vs H Q _ => ∃ st hd most hs, vs = [.ref st, .ref hd, .int most] ∧ 0 < most ∧ most ≤ 900 ∧ Draw K H st ∧ HeadsAt H hd hs ∧ HdsGood hs ∧ ∀ l ns H', Drawn K st H H' → H l = none → H' l = some (.lst (ns.map V.int)) → ns.length ≤ 100000 → (∃ nds, functionsM ns = .ok (hs, nds)) → Q (.ref l) H'
noncomputable def InvLSheetW (st hd fl : Addr) (most : Int) (rs : List V) (hs : Hds) (H : Hp) (i : Nat) (σ' : St) (H' : Hp) : Prop := ∃ (v4 v5 : Option V), σ' = [some (.ref st), some (.ref hd), some (.int most), some (.ref fl), v4, v5] ∧ i ≤ rs.length ∧ Drawn K st H H' ∧ H' hd = some (.lst rs) ∧ Paired (HeadAt H') rs hs ∧ H' fl = some (.lst (((hs.length : Int) :: flat (hs.take i)).map V.int))
noncomputable def InvLSheetW2 (st hd fl : Addr) (most : Int) (rs : List V) (hs : Hds) (H : Hp) (i : Nat) (σ' : St) (H' : Hp) : Prop := ∃ (zs : List Int) (v4 v5 : Option V), σ' = [some (.ref st), some (.ref hd), some (.int most), some (.ref fl), v4, v5] ∧ i ≤ rs.length ∧ Drawn K st H H' ∧ H' hd = some (.lst rs) ∧ Paired (HeadAt H') rs hs ∧ H' fl = some (.lst (((hs.length : Int) :: flat hs ++ zs).map V.int)) ∧ PB hs (hs.take i) zs ∧ zs.length ≤ i * 2002
theorem ok_lsheet_with (T : Txt K mg aP CL CN) (F : Fun K "_law_sheet_with" "_law_sheet_with" s__law_sheet_with f fd) (C_law_take : Cal P w K mg base (CXE P w) 2 "_law_take" ["_law_state", "_law_many_here"] (spTakeB K))
    (C_law_node : Cal P w K mg base (CXE P w) 15 "_law_node" ["_law_state", "_law_heads_here", "_law_boxes", "_law_deep", "_law_room"] (spNodeL K 10)) : FnOk P w K mg base (CXE P w) 16 f fd ["_law_state", "_law_heads_here", "_law_most"] (spSheetWith K) := by
  refine F.okN sc__law_sheet_with (fun vs H Q E h => ?_) (fun cdv A outer s H vs Q E hr h => ?_)
  · obtain ⟨st, hd, most, hs, rfl, _⟩ := h
    rfl
  obtain ⟨st, hd, most, hs, rfl, m0, m1, D, hh, hg, q⟩ := h
  refine ⟨_, (pss_cons (ps_set (i := 3) sc__law_sheet_with.nd rfl (Or.inl rfl) (pe_lst (pa_cons (pe_callB call_len_seq rfl T.n_len bt_len (pa_cons (pv 1) pa_nil)) pa_nil)))
      (pss_cons (ps_for PassesOwn.never rfl (pi_list (pv 1)) (pg_tup rfl (pgs_cons (pg_name (i := 4) sc__law_sheet_with.nd rfl (Or.inl rfl)) (pgs_cons (pg_name (i := 5) sc__law_sheet_with.nd rfl (Or.inl rfl)) pgs_nil))) (pss_one (ps_expr (pe_bm PySem.F.plainAttrs_list PySem.F.slot_list_extend PySem.F.type_list_extend mt_extend (pv 3) (pa_cons (pe_lst (pa_cons (pv 4) (pa_cons (pv 5) pa_nil))) pa_nil)))))
      (pss_cons (ps_for PassesOwn.never rfl (pi_list (pv 1)) (pg_tup rfl (pgs_cons (pg_name (i := 4) sc__law_sheet_with.nd rfl (Or.inl rfl)) (pgs_cons (pg_name (i := 5) sc__law_sheet_with.nd rfl (Or.inl rfl)) pgs_nil))) (pss_one (ps_expr (pe_bm PySem.F.plainAttrs_list PySem.F.slot_list_extend PySem.F.type_list_extend mt_extend (pv 3) (pa_cons (pe_callC C_law_node hr rfl (pa_cons (pv 0) (pa_cons (pv 1) (pa_cons (pv 5) (pa_cons pe_int (pa_cons (pe_lst (pa_cons (pe_op op_add pe_int (pe_callC C_law_take hr rfl (pa_cons (pv 0) (pa_cons (pv 2) pa_nil)) passN)) pa_nil)) pa_nil))))) passN) pa_nil)))))
      (pss_one (ps_ret (pv 3)))))), ?_⟩
  try dsimp only [Cx.nox, Cx.exc, Cx.wish, cxOf_K]
  have d1 := D.refl
  obtain ⟨rs, ehd, pr⟩ := id hh
  have lr : rs.length = hs.length := Paired.len pr
  have g1 := hg.lo
  have g2 := hg.hi
  have nhs := hh.ne d1.draw
  refine ⟨_, rfl, hd, _, rfl, .inl (.of ehd), small (show 1 ≤ 1000 by decide), fun fl hfl => ?_⟩
  have frf : H fl = none := d1.free hfl
  have nfs := d1.draw.ne hfl
  have nfh : hd ≠ fl := ne_of_none ehd hfl
  have s2 := same_new hfl (.lst [.int (rs.length : Int)])
  have upf : ∀ {H' : Hp} {ys : List V} {o : HO}, Drawn K st H H' → H' fl = some (.lst ys) → Paired (HeadAt H') rs hs → H' hd = some (.lst rs) → (∃ zs, o = .lst zs) → Drawn K st H (upd H' fl o) ∧ Paired (HeadAt (upd H' fl o)) rs hs ∧ upd H' fl o hd = some (.lst rs) := fun {H' ys o} d e p eh ⟨zs, z⟩ => by
    subst z
    exact ⟨⟨d.draw.put e (Ne.symm nfs), d.keep.fresh frf⟩, Paired.imp (fun _ _ z => z.tups (.upd e)) p, by rw [upd_ne nfh]; exact eh⟩
  refine ⟨_, rfl, hd, rfl, ⟨rs, .of (s2 _ _ ehd)⟩, for_list (xs := rs) (InvLSheetW (K := K) st hd fl most rs hs H)
      ⟨_, _, rfl, Nat.zero_le _, d1.trans (d1.draw.new hfl _), s2 _ _ ehd, Paired.imp (fun _ _ z => z.tups (.same s2)) pr, by rw [upd_same, lr]; rfl⟩ ?_ ?_ ?_⟩
  · rintro i σ' H' _ ⟨v4, v5, rfl, _, _, eh, _⟩
    exact .of eh
  · rintro i x σ' H' hx ⟨v4, v5, rfl, _, dd, eh, pr', ef⟩
    have hi : i < rs.length := (List.getElem?_eq_some_iff.mp hx).1
    have e1 : hs[i]? = some hs[i] := List.getElem?_eq_getElem (by (first | lia | omega))
    generalize hs[i] = hx1 at e1
    obtain ⟨u, rfl, eu⟩ := Paired.get pr' i _ _ hx e1
    have tk : hs.take (i + 1) = hs.take i ++ [hx1] := by rw [List.take_add_one, e1]; rfl
    refine ⟨u, _, rfl, .of eu, rfl, _, _, rfl, _, _, rfl, rfl, ?_⟩
    refine ⟨_, rfl, .inl ⟨rfl, _, .of ef⟩, _, rfl, _, rfl, small (show 2 ≤ 1000 by decide), fun p hp => ?_⟩
    have s3 := same_new hp (.lst [.int hx1.1, .int hx1.2])
    refine ⟨fl, p, _, _, rfl, rfl, s3 _ _ ef, upd_same, ?_, ?_⟩
    · simp only [List.length_map, List.length_cons, flat_len, List.length_take, List.length_nil]; exact small (by (first | lia | omega))
    · obtain ⟨d5, p5, h5⟩ := upf (o := .lst ((((hs.length : Int) :: flat (hs.take i)).map V.int) ++ [.int hx1.1, .int hx1.2])) (dd.trans (dd.draw.new hp _)) (s3 _ _ ef) (Paired.imp (fun _ _ z => z.tups (.same s3)) pr') (s3 _ _ eh) ⟨_, rfl⟩
      refine ⟨_, _, rfl, hi, d5, h5, p5, ?_⟩
      rw [upd_same, tk, flat_append]
      simp [flat]
  · rintro σ' H2 ⟨v4, v5, rfl, _, dd, eh, pr', ef⟩
    rw [lr, List.take_length] at ef
    refine ⟨_, rfl, hd, rfl, ⟨rs, .of eh⟩, for_list (xs := rs) (InvLSheetW2 (K := K) st hd fl most rs hs H)
        ⟨[], _, _, rfl, Nat.zero_le _, dd, eh, pr', by rw [List.append_nil]; exact ef, .zero, by simp⟩ ?_ ?_ ?_⟩
    · rintro i σ' H' _ ⟨zs, v4, v5, rfl, _, _, eh, _⟩
      exact .of eh
    · rintro i x σ' H' hx ⟨zs, v4, v5, rfl, _, dd, eh, pr', ef, pb, hz⟩
      have hi : i < rs.length := (List.getElem?_eq_some_iff.mp hx).1
      have e1 : hs[i]? = some hs[i] := List.getElem?_eq_getElem (by (first | lia | omega))
      generalize hs[i] = hx1 at e1
      obtain ⟨u, rfl, eu⟩ := Paired.get pr' i _ _ hx e1
      have tk : hs.take (i + 1) = hs.take i ++ [hx1] := by rw [List.take_add_one, e1]; rfl
      have hb := hg.all _ _ e1
      refine ⟨u, _, rfl, .of eu, rfl, _, _, rfl, _, _, rfl, rfl, ?_⟩
      refine ⟨_, rfl, .inl ⟨rfl, _, .of ef⟩, _, rfl, _, rfl, _, rfl, _, rfl, _, rfl, st, most, rfl, m0, by (first | lia | omega), dd.draw, fun r H3 r0 r1 d3 => ⟨_, _, rfl, rfl, small (show 1 ≤ 1000 by decide), fun rm hrm => ?_⟩⟩
      obtain ⟨rn, ern⟩ : ∃ rn : Nat, 1 + r = (rn : Int) := ⟨(1 + r).toNat, by (first | lia | omega)⟩
      have erm : upd H3 rm (.lst [.int (1 + r)]) rm = some (.lst [.int (rn : Int)]) := by rw [ern]; exact upd_same
      have s4 := same_new hrm (.lst [.int (1 + r)])
      have D4 := d3.draw.same s4
      have h4 : HeadsAt (upd H3 rm (.lst [.int (1 + r)])) hd hs := by
        refine ⟨rs, s4 _ _ (d3.keep hd _ nhs eh), Paired.imp (fun _ _ z => z.tups ?_) pr'⟩
        obtain ⟨_, _, _, _, est, _⟩ := dd.draw
        exact .trans (.keepL est d3.keep) (.same s4)
      have nrh : rm ≠ hd := fun z => by rw [z, d3.keep hd _ nhs eh] at hrm; cases hrm
      have ef3 := d3.keep fl _ (Ne.symm nfs) ef
      have nfr : fl ≠ rm := ne_of_none ef3 hrm
      refine ⟨st, hd, hs, hx1.2, rm, rn, rfl, by decide, by decide, by (first | lia | omega), D4, h4, hg, erm, by (first | lia | omega), nrh, fun l zs2 r' H5 k5 D5 er5 hr5 len5 el5 fr5 pn => ?_⟩
      have ef5 := k5 fl _ (Ne.symm nfs) nfr (s4 _ _ ef3)
      have frm : H rm = none := (dd.trans d3).free hrm
      have dH5 : Drawn K st H H5 := ⟨D5, fun b o nb e => k5 b o nb (fun z => by rw [z, frm] at e; cases e) (s4 _ _ ((dd.trans d3).keep b o nb e))⟩
      have tp5 : Tups H' H5 := by
        obtain ⟨_, _, _, _, est, _⟩ := dd.draw
        obtain ⟨_, _, _, _, est4, _⟩ := D4
        refine .trans (.keepL est d3.keep) (.trans (.same s4) fun b ys e => k5 b _ ?_ ?_ e)
        · intro z; rw [z, est4] at e; cases e
        · intro z; rw [z, upd_same] at e; cases e
      refine ⟨fl, l, _, _, rfl, rfl, ef5, el5, ?_, ?_⟩
      · rw [sizeLine_eq]; simp only [List.length_map, List.length_append, List.length_cons, flat_len]
        have : i * 2002 ≤ 16 * 2002 := Nat.mul_le_mul_right _ (by (first | lia | omega))
        (first | lia | omega)
      · obtain ⟨d6, p6, h6⟩ := upf (o := .lst ((((hs.length : Int) :: flat hs ++ zs).map V.int) ++ zs2.map V.int)) dH5 ef5 (Paired.imp (fun _ _ z => z.tups tp5) pr') (k5 hd _ nhs (Ne.symm nrh) (s4 _ _ (d3.keep hd _ nhs eh))) ⟨_, rfl⟩
        refine ⟨zs ++ zs2, _, _, rfl, hi, d6, h6, p6, ?_, by rw [tk]; exact PB.snoc pb pn, ?_⟩
        · rw [upd_same, ← List.map_append, List.append_assoc]
        · rw [List.length_append, Nat.succ_mul]; (first | lia | omega)
    · rintro σ' H3 ⟨zs, v4, v5, rfl, _, dd, eh, pr', ef, pb, hz⟩
      rw [lr, List.take_length] at pb
      obtain ⟨nds, ok⟩ := sheet_of_parts hg pb
      refine ⟨_, rfl, q fl _ H3 dd frf ef ?_ ⟨nds, ok⟩⟩
      simp only [List.length_append, List.length_cons, flat_len]
      have : rs.length * 2002 ≤ 16 * 2002 := Nat.mul_le_mul_right _ (by (first | lia | omega))
      (first | lia | omega)

noncomputable def spExch7 : Sp := fun vs H Q _ => ∃ (a sl b : Addr) (ns : List Int) (hs : Hds) (nds : List Nd) (us : List V) (i dm fm : Nat) (m m' : Nd) (h : Int × Int), vs = [.ref a, .ref sl, .int (i : Nat), .ref b, .int (depN m' : Nat)] ∧ H a = some (.lst (ns.map V.int)) ∧ functionsM ns = .ok (hs, nds) ∧ ns.length ≤ 100000 ∧
  H sl = some (.lst us) ∧ Paired (NodeAt H 10) us (preL nds) ∧ H b = some (.lst ((flatH (hns m')).map V.int)) ∧ lenN m' ≤ 100002 ∧ (annB 0 nds)[i]? = some (m, dm, fm) ∧ hs[fm]? = some h ∧ FitN hs h.2 m' ∧ ∀ H', Same H H' → Q (.bl true) H'
theorem len_in {ns : List Int} {hs : Hds} {nds : List Nd} (ok : functionsM ns = .ok (hs, nds)) {X Y : List Hn} {m : Nd} (w : hnsL nds = X ++ (hns m ++ Y)) : lenN m ≤ ns.length := by
  obtain ⟨_, _, en, _, _⟩ := sheet_shape ok
  rw [en, sheetL_len, w, flatH_append, flatH_append, List.length_append, List.length_append]
  show (flatH (hns m)).length ≤ _
  (first | lia | omega)
theorem all_in {ns : List Int} {hs : Hds} {nds : List Nd} (ok : functionsM ns = .ok (hs, nds)) : ∀ n ∈ preL nds, lenN n ≤ ns.length := by
  intro n hn
  obtain ⟨_, _, _, fb, pb⟩ := sheet_shape ok
  rw [← annB_pre nds 0] at hn
  obtain ⟨x, hx, e⟩ := List.mem_map.mp hn
  obtain ⟨j, hj⟩ := List.mem_iff_getElem?.mp hx
  obtain ⟨n', d, f⟩ := x
  cases e
  obtain ⟨_, _, _, _, _, c⟩ := ctxB fb pb hj
  obtain ⟨X, Y, r, w1, _⟩ := c.ex
  exact len_in ok w1
theorem deps {ns : List Int} {hs : Hds} {nds : List Nd} (ok : functionsM ns = .ok (hs, nds)) : depF (preL nds) [] (-1) = (annB 0 nds).map outA := by
  obtain ⟨_, _, _, _, pb⟩ := sheet_shape ok
  exact depF_B pb (fun _ _ => rfl) rfl
theorem lnsx {a b c d p : Nat} (h : p = 1 + 2 * a + b) : p + c ≤ 1 + 2 * a + (b + (c + d)) := by (first | lia | omega)
theorem Paired.dropN {α β : Type} {F : α → β → Prop} : ∀ {xs : List α} {ys : List β} (n : Nat), Paired F xs ys → Paired F (xs.drop n) (ys.drop n)
  | _, _, 0, h => h
  | _, _, n + 1, .nil => .nil
  | _, _, n + 1, .cons r t => Paired.dropN n t
theorem ok_exchanged7 (T : Txt K mg aP CL CN) (F : Fun K "_law_exchanged" "_law_exchanged" s__law_exchanged f fd) (C_law_many : Cal P w K mg base (CXE P w) 1 "_law_many" ["_law_node_here"] spMany7) (C_law_depths : Cal P w K mg base (CXE P w) 2 "_law_depths" ["_law_some"] spDepths7)
    (C_law_put : Cal P w K mg base (CXE P w) 2 "_law_put" ["_law_sheet_here", "_law_node_here", "_law_numbers"] spPut7) (C_law_all_bare : Cal P w K mg base (CXE P w) 1 "_law_all_bare" ["_law_some"] spBare7) (Cwrong : Cal P w K mg base (CXE P w) 18 "wrong" ["numbers"] spWrong) (Cnodes : Cal P w K mg base (CXE P w) 18 "nodes" ["sheet"] (spNodes CN)) :
    FnOk P w K mg base (CXE P w) 20 f fd ["_law_sheet_here", "_law_some", "_law_at", "_law_numbers", "_law_deep"] spExch7 := by
  refine F.okN sc__law_exchanged (fun vs H Q E h => ?_) (fun cdv A outer s H vs Q E hr h => ?_)
  · obtain ⟨a, sl, b, ns, hs, nds, us, i, dm, fm, m, m', h, rfl, _⟩ := h
    rfl
  obtain ⟨a, sl, b, ns, hs, nds, us, i, dm, fm, m, m', h, rfl, ea, ok, ln, esl, pu, eb, lm', an, hh, fit', q⟩ := h
  refine ⟨_, (pss_cons (ps_set (i := 5) sc__law_exchanged.nd rfl (Or.inr rfl) (pe_ix ix_list (pv 1) (pv 2) (fun _ _ => rfl)))
      (pss_cons (ps_set (i := 6) sc__law_exchanged.nd rfl (Or.inl rfl) (pe_ix ix_tup (pe_ix ix_list (pe_callC C_law_depths hr rfl (pa_cons (pv 1) pa_nil) passN) (pv 2) (fun _ _ => rfl)) pe_int (fun _ _ => rfl)))
      (pss_cons (ps_set (i := 7) sc__law_exchanged.nd rfl (Or.inl rfl) (pe_callC C_law_put hr rfl (pa_cons (pv 0) (pa_cons (pv 5) (pa_cons (pv 3) pa_nil))) passN))
      (pss_cons (ps_set (i := 8) sc__law_exchanged.nd rfl (Or.inl rfl) (pe_callC Cwrong hr rfl (pa_cons (pv 7) pa_nil) passN))
      (pss_cons (ps_if (pt_cmpR op_gt (pe_op op_add (pe_op op_sub (pv 6) pe_int) (pv 4)) pe_int (nomark _)) (pss_one (ps_ret (pe_and (pe_callB call_isi rfl T.n_isinstance bt_isinstance (pa_cons (pv 8) (pa_cons (pe_bltn (v := .ty "tuple") rfl T.n_tuple bt_tuple rfl) pa_nil))) (pe_one (pe_cmpR op_eq (pe_ix ix_tup (pv 8) pe_int (fun _ _ => rfl)) pe_str (nomark _)))))) pss_nil)
      (pss_cons (ps_if (pt_cmpR op_notN (pv 8) pe_non (nomark _)) (pss_one (ps_ret pe_bl)) pss_nil)
      (pss_cons (ps_set (i := 9) sc__law_exchanged.nd rfl (Or.inr rfl) (pe_op op_add (pe_ix ix_tup (pv 5) pe_int (fun _ _ => rfl)) (pe_callC C_law_many hr rfl (pa_cons (pv 5) pa_nil) passN)))
      (pss_cons (ps_set (i := 10) sc__law_exchanged.nd rfl (Or.inl rfl) (pe_callB call_len_seq rfl T.n_len bt_len (pa_cons (pe_comp (own := ["_law_one"]) (ys := ["_law_end", "_law_node_here"]) rfl (pi_list (pv 1)) (compSc_of (sc := defScope s__law_exchanged) rfl (by decide +kernel)) (.cons (j := 9) rfl (.cons (j := 5) rfl .nil)) (fun _ _ _ _ _ => (pg_name (i := 0) (show List.Nodup [("_law_one" : Str), ("_law_end" : Str), ("_law_node_here" : Str)] from (by decide +kernel)) rfl (Or.inl rfl))) (fun _ _ _ _ _ => pts_one (pt_chain op_le op_lt (pe_ix (ix_tupK K rfl) (pv 2) pe_int (fun _ _ => rfl)) (pe_ix (ix_tupK K rfl) (pv 0) pe_int (fun _ _ => rfl)) (pv 1))) (fun _ _ _ _ _ => (pv 0))) pa_nil)))
      (pss_cons (ps_set (i := 11) sc__law_exchanged.nd rfl (Or.inl rfl) (pe_callC Cnodes hr rfl (pa_cons (pv 7) pa_nil) passN))
      (pss_cons (ps_set (i := 12) sc__law_exchanged.nd rfl (Or.inl rfl) (pe_op op_sub (pe_op op_sub (pe_callB call_len_seq rfl T.n_len bt_len (pa_cons (pv 1) pa_nil)) (pv 2)) (pv 10)))
      (pss_cons (ps_if (pt_cmpR (op_neD hr) (pe_callC C_law_all_bare hr rfl (pa_cons (pe_slice sl_list (pv 11) po_none (po_some (pv 2))) pa_nil) passN) (pe_callC C_law_all_bare hr rfl (pa_cons (pe_slice sl_list (pv 1) po_none (po_some (pv 2))) pa_nil) passN) (nomark _)) (pss_one (ps_ret pe_bl)) pss_nil)
      (pss_cons (ps_set (i := 13) sc__law_exchanged.nd rfl (Or.inl rfl) (pe_slice sl_list (pv 11) (po_some (pe_op op_sub (pe_callB call_len_seq rfl T.n_len bt_len (pa_cons (pv 11) pa_nil)) (pv 12))) po_none))
      (pss_cons (ps_if (pt_cmpR (op_neD hr) (pe_callC C_law_all_bare hr rfl (pa_cons (pv 13) pa_nil) passN) (pe_callC C_law_all_bare hr rfl (pa_cons (pe_slice sl_list (pv 1) (po_some (pe_op op_add (pv 2) (pv 10))) po_none) pa_nil) passN) (nomark _)) (pss_one (ps_ret pe_bl)) pss_nil)
      (pss_cons (ps_set (i := 14) sc__law_exchanged.nd rfl (Or.inl rfl) (pe_slice sl_list (pv 0) (po_some (pe_ix ix_tup (pv 5) pe_int (fun _ _ => rfl))) (po_some (pe_op op_add (pe_ix ix_tup (pv 5) pe_int (fun _ _ => rfl)) (pe_callC C_law_many hr rfl (pa_cons (pv 5) pa_nil) passN)))))
      (pss_one (ps_ret (pe_cmpR (op_eqD hr) (pe_callC C_law_put hr rfl (pa_cons (pv 7) (pa_cons (pe_ix ix_list (pv 11) (pv 2) (fun _ _ => rfl)) (pa_cons (pv 14) pa_nil))) passN) (pv 0) (nomark _)))))))))))))))))), ?_⟩
  try dsimp only [Cx.nox, Cx.exc, Cx.wish, cxOf_K]
  have szl : sizeLine = 16777216 := sizeLine_eq
  obtain ⟨e, X, Y, ede, fitm, sw⟩ := swapped ok an hh fit'
  obtain ⟨w1, w2, w5, res⟩ := sw
  obtain ⟨_, _, en, _, _⟩ := sheet_shape ok
  have lp := fns_count ok
  simp only at lp
  have lu := Paired.len pu
  have hm : (preL nds)[i]? = some m := by rw [← annB_pre nds 0, List.getElem?_map, an]; rfl
  have il : i < us.length := by have := (List.getElem?_eq_some_iff.mp hm).1; (first | lia | omega)
  obtain ⟨m0, hm0, nm⟩ := yon pu (List.getElem?_eq_getElem il)
  rw [hm] at hm0
  cases hm0
  generalize ev : us[i] = v at nm
  have hat : atI us (i : Int) = some v := atI_nat (by rw [List.getElem?_eq_getElem il, ev])
  have lnm : lenN m ≤ 1000000 := Nat.le_trans (Nat.le_trans (len_in ok w1) ln) (by decide)
  refine ⟨_, rfl, _, rfl, sl, _, _, _, rfl, rfl, .of esl, hat, ?_⟩
  have hds : ((depF (preL nds) [] (-1)).map toI)[i]? = some ((dm : Int), (fm : Int)) := by
    rw [deps ok, List.getElem?_map, List.getElem?_map, an] <;> rfl
  refine ⟨_, rfl, sl, us, preL nds, rfl, esl, pu, fun n hn => Nat.le_trans (all_in ok n hn) ln, by (first | lia | omega), fun dl H1 s1 hdl hda => ?_⟩
  obtain ⟨rs, edl, prd⟩ := hda
  have il2 : i < rs.length := by rw [Paired.len prd]; exact (List.getElem?_eq_some_iff.mp hds).1
  obtain ⟨x0, hx0, td, etd, htd⟩ := yon prd (List.getElem?_eq_getElem il2)
  rw [hds] at hx0
  cases hx0
  have hat2 : atI rs (i : Int) = some (.ref td) := atI_nat (by rw [List.getElem?_eq_getElem il2, etd])
  refine ⟨_, rfl, dl, _, _, _, rfl, rfl, .of edl, hat2, td, _, _, _, rfl, rfl, .of htd, rfl, ?_⟩
  have ln2 : (flatH (hns m')).length ≤ 100002 := lm'
  refine ⟨_, rfl, _, rfl, _, rfl, a, b, ns, flatH (hns m'), v, m, rfl, s1 _ _ ea, s1 _ _ eb, nm.tups (.same s1), lnm, by (first | lia | omega), by (first | lia | omega), fun nl H2 s2 hnl enl => ?_⟩
  have enew : ns.take (plOf m) ++ flatH (hns m') ++ ns.drop (plOf m + lenN m) = sheetL hs (X ++ (hns m' ++ Y)) := by
    have := put_list (hs := hs) (X := X) (Y := Y) (A := hns m) (B := hns m') w5
    rw [← w1, ← en] at this
    exact this
  rw [enew] at enl
  have g2 := s1.trans s2
  have lnew : (sheetL hs (X ++ (hns m' ++ Y))).length ≤ 300000 := by
    rw [← enew, List.length_append, List.length_append, List.length_take, List.length_drop]; (first | lia | omega)
  refine ⟨_, rfl, nl, _, rfl, enl, fun r hr2 => ?_, fun p wd hr2 => ?_⟩
  · rcases res with ⟨hde, nds', ok', hn', m2, hm2, h2, pl2⟩ | ⟨_, q0, er⟩
    case inr => rw [er] at hr2; cases hr2
    intro H3 s3
    have g3 := g2.trans s3
    refine ⟨_, rfl, _, _, rfl, rfl, _, rfl, _, _, rfl, rfl, _, _, rfl, rfl, _, rfl, iteN7 (decide_eq_false (show ¬ (10 : Int) < (dm : Int) - 1 + (depN m' : Int) by (first | lia | omega))) ?_⟩
    refine ⟨_, rfl, rfl, _, rfl, iteN7 (by rw [decide_eq_true rfl]; rfl) ?_⟩
    have nm3 := nm.tups (.same g3)
    have nm3' := nm3
    cases m with
    | mk k pl own ps =>
    obtain ⟨t, o, pq, vs, rfl, etn, _⟩ := nm3'
    refine ⟨_, rfl, t, _, _, _, rfl, rfl, .of etn, rfl, _, rfl, .ref t, _, rfl, nm3, lnm, fun H4 s4 => ⟨_, _, rfl, rfl, ?_⟩⟩
    have g4 := g3.trans s4
    have etn4 := s4 _ _ etn
    refine ⟨_, rfl, sl, rfl, ⟨us, .of (g4 _ _ esl)⟩, fun cp hcp => ?_⟩
    refine comp_lst (xs := us) (fun j σ' H' => ∃ ys x, σ' = [x, some (.int ((pl : Int) + (lenN (.mk k pl own ps) : Int))), some (.ref t)] ∧ Same H4 H' ∧ H' cp = some (.lst ys) ∧ j ≤ us.length ∧ ys.length = ((preL nds).take j).countP (fun n => decide (plOf (.mk k pl own ps) ≤ plOf n) && decide (plOf n < plOf (.mk k pl own ps) + lenN (.mk k pl own ps)))) ⟨[], _, rfl, same_new hcp _, upd_same, Nat.zero_le _, rfl⟩ ?_ ?_ ?_
    · rintro j σ' H' _ ⟨ys, x, rfl, g, _⟩
      exact .of (g _ _ (g4 _ _ esl))
    · rintro j x σ' H' hj hx ⟨ys, y, rfl, g, ec, _, ly⟩
      obtain ⟨n, hn, nn⟩ := yon pu hx
      cases n with
      | mk kn pn on pns =>
      obtain ⟨tn, o', pq', vs', rfl, etnn, _⟩ := nn
      have tk : (preL nds).take (j + 1) = (preL nds).take j ++ [.mk kn pn on pns] := by rw [List.take_add_one, hn]; rfl
      have cnt : ∀ bb : Bool, (decide (pl ≤ pn) && decide (pn < pl + lenN (.mk k pl own ps))) = bb → ((preL nds).take (j + 1)).countP (fun n => decide (plOf (.mk k pl own ps) ≤ plOf n) && decide (plOf n < plOf (.mk k pl own ps) + lenN (.mk k pl own ps))) = ys.length + (if bb = true then 1 else 0) := fun bb eb => by
        rw [tk, List.countP_append, ← ly, List.countP_singleton]
        show _ + (if (decide (pl ≤ pn) && decide (pn < pl + lenN (.mk k pl own ps))) = true then 1 else 0) = _
        rw [eb]
      have yb : ys.length ≤ 100000 := by
        rw [ly]
        have := List.countP_le_length (p := fun n => decide (plOf (.mk k pl own ps) ≤ plOf n) && decide (plOf n < plOf (.mk k pl own ps) + lenN (.mk k pl own ps))) (l := (preL nds).take j)
        rw [List.length_take] at this
        (first | lia | omega)
      refine ⟨_, rfl, t, _, _, _, rfl, rfl, .of (g _ _ etn4), rfl, _, rfl, tn, _, _, _, rfl, rfl, .of (g _ _ (g4 _ _ etnn)), rfl, _, _, rfl, rfl, _, rfl, ite2 (fun c1 => ?_) (fun c1 => ?_)⟩
      · have c1' : pl ≤ pn := by have := of_decide_eq_true c1; (first | lia | omega)
        refine ⟨_, rfl, _, _, rfl, rfl, _, rfl, ite2 (fun c2 => ?_) (fun c2 => ?_)⟩
        · have c2' : pn < pl + lenN (.mk k pl own ps) := by have := of_decide_eq_true c2; (first | lia | omega)
          refine ⟨_, rfl, ys, ec, by (first | lia | omega), CW.next hj ⟨ys ++ [.ref tn], _, rfl, g.fresh hcp, upd_same, hj, ?_⟩⟩
          rw [cnt true (by rw [decide_eq_true c1', decide_eq_true c2']; rfl), List.length_append] <;> rfl
        · have c2' : ¬ pn < pl + lenN (.mk k pl own ps) := fun z => c2 (decide_eq_true (by (first | lia | omega)))
          exact CW.next hj ⟨ys, _, rfl, g, ec, hj, by rw [cnt false (by rw [decide_eq_false c2', Bool.and_false])] <;> rfl⟩
      · have c1' : ¬ pl ≤ pn := fun z => c1 (decide_eq_true (by (first | lia | omega)))
        exact ⟨_, rfl, iteF (CW.next hj ⟨ys, _, rfl, g, ec, hj, by rw [cnt false (by rw [decide_eq_false c1']; rfl)] <;> rfl⟩)⟩
    rintro σ' H5 ⟨ys, x, rfl, s5, ec5, _, ly⟩
    rw [List.take_of_length_le (by (first | lia | omega)), inner_count ok w1 w2 w5] at ly
    have g5 := g4.trans s5
    have lX : (hnsL nds).length = us.length := by unfold hnsL; rw [List.length_map]; (first | lia | omega)
    have lXY : us.length = i + (hns (.mk k pl own ps)).length + Y.length := by
      rw [← lX, w1, List.length_append, List.length_append, w2]; (first | lia | omega)
    refine ⟨cp, ys, rfl, .inl (.of ec5), ?_⟩
    refine ⟨_, rfl, nl, _, rfl, (s3.trans (s4.trans s5)) _ _ enl, by (first | lia | omega), fun r2 hr3 tl us' H6 s6 htl etl pu' => ?_, fun p0 w0 z => by rw [ok'] at z; cases z⟩
    rw [ok'] at hr3
    cases hr3
    simp only at pu'
    have g6 := g5.trans s6
    have enl6 := (s3.trans (s4.trans (s5.trans s6))) _ _ enl
    have lu' : us'.length = i + (hns m').length + Y.length := by
      have l1 : (hnsL nds').length = us'.length := by unfold hnsL; rw [List.length_map]; exact (Paired.len pu').symm
      rw [← l1, hn', List.length_append, List.length_append, w2]; (first | lia | omega)
    have lsm' : (hns m').length ≤ 100002 := Nat.le_trans (flatH_ge _) ln2
    have lpn' := Paired.len pu'
    refine ⟨_, rfl, sl, _, rfl, .inl (.of (g6 _ _ esl)), _, rfl, _, _, rfl, rfl, _, rfl, _, _, rfl, rfl, ?_⟩
    refine ⟨_, rfl, _, rfl, _, rfl, tl, _, rfl, .of etl, fun c1 hc1 => ?_⟩
    rw [cut_to]
    have s7 := same_new hc1 (.lst (us'.take i))
    refine ⟨c1, _, (preL nds').take i, rfl, upd_same, Paired.take i (Paired.imp (fun _ _ z => z.tups (.same s7)) pu'), by rw [List.length_take]; (first | lia | omega), fun b1 ys1 H8 s8 hb1 eb1 pb1 => ?_⟩
    have g8 := g6.trans (s7.trans s8)
    refine ⟨_, rfl, _, rfl, _, rfl, sl, _, rfl, .of (g8 _ _ esl), fun c2 hc2 => ?_⟩
    rw [cut_to]
    have s9 := same_new hc2 (.lst (us.take i))
    refine ⟨c2, _, (preL nds).take i, rfl, upd_same, Paired.take i (Paired.imp (fun _ _ z => z.tups (.same (g8.trans s9))) pu), by rw [List.length_take]; (first | lia | omega), fun b2 ys2 H10 s10 hb2 eb2 pb2 => ?_⟩
    have e1 : ((preL nds').take i).map hnOf = X := by
      rw [List.map_take]
      show (hnsL nds').take i = X
      rw [hn', take_hns w2]
    have e2 : ((preL nds).take i).map hnOf = X := by
      rw [List.map_take]
      show (hnsL nds).take i = X
      rw [w1, take_hns w2]
    rw [e1] at pb1
    rw [e2] at pb2
    have t10 := s9.trans s10
    refine ⟨b1, b2, ys1, ys2, 2, rfl, rfl, .inl ⟨.of (t10 _ _ eb1), .of eb2⟩, pair_all (F := BareAt H10) (G := BareAt H10) (R := EqD K H10 2) (fun _ _ _ u v => BareAt.eq u v) (Paired.imp (fun _ _ z => z.tups (.same t10)) pb1) pb2, by decide, _, rfl, iteF ?_⟩
    have g10 := g8.trans t10
    have f10 := s7.trans (s8.trans t10)
    have elen : ((us'.length : Int) - ((us.length : Int) - (i : Int) - (ys.length : Int))) = ((i + (hns m').length : Nat) : Int) := by (first | lia | omega)
    refine ⟨_, rfl, _, rfl, tl, _, rfl, .inl (.of (f10 _ _ etl)), _, rfl, _, _, rfl, rfl, _, rfl, tl, _, rfl, .of (f10 _ _ etl), fun c3 hc3 => ?_⟩
    rw [elen, cut_from]
    have s11 := same_new hc3 (.lst (us'.drop (i + (hns m').length)))
    refine ⟨_, rfl, c3, _, (preL nds').drop (i + (hns m').length), rfl, upd_same, Paired.dropN _ (Paired.imp (fun _ _ z => z.tups (.same (f10.trans s11))) pu'), by rw [List.length_drop]; (first | lia | omega), fun b3 ys3 H12 s12 hb3 eb3 pb3 => ?_⟩
    have g12 := g10.trans (s11.trans s12)
    have elen2 : ((i : Int) + (ys.length : Int)) = ((i + (hns (.mk k pl own ps)).length : Nat) : Int) := by (first | lia | omega)
    refine ⟨_, rfl, _, rfl, _, rfl, _, _, rfl, rfl, _, rfl, sl, _, rfl, .of (g12 _ _ esl), fun c4 hc4 => ?_⟩
    rw [elen2, cut_from]
    have s13 := same_new hc4 (.lst (us.drop (i + (hns (.mk k pl own ps)).length)))
    refine ⟨c4, _, (preL nds).drop (i + (hns (.mk k pl own ps)).length), rfl, upd_same, Paired.dropN _ (Paired.imp (fun _ _ z => z.tups (.same (g12.trans s13))) pu), by rw [List.length_drop]; (first | lia | omega), fun b4 ys4 H14 s14 hb4 eb4 pb4 => ?_⟩
    have e3 : ((preL nds').drop (i + (hns m').length)).map hnOf = Y := by
      rw [List.map_drop]
      show (hnsL nds').drop _ = Y
      rw [hn', ← w2, ← List.length_append, ← List.append_assoc, List.drop_left']
      rfl
    have e4 : ((preL nds).drop (i + (hns (.mk k pl own ps)).length)).map hnOf = Y := by
      rw [List.map_drop]
      show (hnsL nds).drop _ = Y
      rw [w1, ← w2, ← List.length_append, ← List.append_assoc, List.drop_left']
      rfl
    rw [e3] at pb3
    rw [e4] at pb4
    have t14 := s13.trans s14
    refine ⟨b3, b4, ys3, ys4, 2, rfl, rfl, .inl ⟨.of (t14 _ _ eb3), .of eb4⟩, pair_all (F := BareAt H14) (G := BareAt H14) (R := EqD K H14 2) (fun _ _ _ u v => BareAt.eq u v) (Paired.imp (fun _ _ z => z.tups (.same t14)) pb3) pb4, by decide, _, rfl, iteF ?_⟩
    have g14 := g12.trans t14
    have f14 := f10.trans (s11.trans (s12.trans t14))
    have nm14 := nm3.tups (.same (s4.trans (s5.trans (s6.trans f14))))
    have etn14 := (s4.trans (s5.trans (s6.trans f14))) _ _ etn
    refine ⟨_, rfl, _, rfl, t, _, _, _, rfl, rfl, .of etn14, rfl, _, rfl, _, rfl, t, _, _, _, rfl, rfl, .of etn14, rfl, _, rfl, .ref t, _, rfl, nm14, lnm, fun H15 s15 => ⟨_, _, rfl, rfl, _, rfl, a, _, rfl, .of (s15 _ _ (g14 _ _ ea)), fun c5 hc5 => ?_⟩⟩
    have e5 : ((pl : Int) + (lenN (.mk k pl own ps) : Int)) = ((pl + lenN (.mk k pl own ps) : Nat) : Int) := by (first | lia | omega)
    have w5' : pl = 1 + 2 * hs.length + (flatH X).length := w5
    have lns : pl + lenN (.mk k pl own ps) ≤ ns.length := by
      have hl : lenN (.mk k pl own ps) = (flatH (hns (.mk k pl own ps))).length := rfl
      rw [en, sheetL_len, w1, flatH_append, flatH_append, List.length_append, List.length_append, hl]
      exact lnsx w5'
    have ecut : ((ns.map V.int).drop pl).take (pl + lenN (.mk k pl own ps) - pl) = (flatH (hns (.mk k pl own ps))).map V.int := by
      have := cut_list (hs := hs) (X := X) (Y := Y) (A := hns (.mk k pl own ps)) w5'
      rw [← w1, ← en] at this
      rw [Nat.add_sub_cancel_left, ← List.map_drop, ← List.map_take]
      exact congrArg (List.map V.int) this
    rw [e5, cut_mid _ (by rw [List.length_map]; exact lns) (by (first | lia | omega)), ecut]
    have s16 := s15.trans (same_new hc5 (.lst ((flatH (hns (.mk k pl own ps))).map V.int)))
    have f16 := f14.trans s16
    have il3 : i < us'.length := by
      have := List.length_pos_iff.mpr (hns_ne m')
      (first | lia | omega)
    obtain ⟨m3, hm3, nm3'⟩ := yon pu' (List.getElem?_eq_getElem il3)
    rw [hm2] at hm3
    cases hm3
    generalize ev2 : us'[i] = v2 at nm3'
    have hat3 : atI us' (i : Int) = some v2 := atI_nat (by rw [List.getElem?_eq_getElem il3, ev2])
    have lm2 : lenN m2 = (flatH (hns m')).length := by
      unfold lenN
      rw [h2]
    have lz : (flatH (hns (.mk k pl own ps))).length ≤ 1000000 := lnm
    refine ⟨_, rfl, _, rfl, _, rfl, tl, _, _, _, rfl, rfl, .of (f16 _ _ etl), hat3, _, rfl, nl, c5, _, _, v2, m2, rfl, f16 _ _ enl6, upd_same, nm3'.tups (.same f16), by (first | lia | omega), by (first | lia | omega), lz, fun l17 H17 s17 hl17 el17 => ?_⟩
    have back : (sheetL hs (X ++ (hns m' ++ Y))).take (plOf m2) ++ flatH (hns (.mk k pl own ps)) ++ (sheetL hs (X ++ (hns m' ++ Y))).drop (plOf m2 + lenN m2) = ns := by
      rw [pl2, lm2]
      have := put_list (hs := hs) (X := X) (Y := Y) (A := hns m') (B := hns (.mk k pl own ps)) w5
      rw [← w1, ← en] at this
      exact this
    rw [back] at el17
    have g17 := g14.trans (s16.trans s17)
    refine ⟨_, rfl, l17, a, _, _, 0, rfl, rfl, .inl ⟨.of el17, .of (g17 _ _ ea)⟩, EqD.ints _, by decide, ?_⟩
    exact q H17 g17
  · rcases res with ⟨_, nds', ok', _⟩ | ⟨hde, q0, er⟩
    case inl => rw [ok'] at hr2; cases hr2
    rw [er] at hr2
    injection hr2 with hr2
    injection hr2 with hr3 hr4
    subst hr3 hr4
    intro t H3 s3 et
    refine ⟨_, rfl, _, _, rfl, rfl, _, rfl, _, _, rfl, rfl, _, _, rfl, rfl, _, rfl, iteY7 (decide_eq_true (show (10 : Int) < (dm : Int) - 1 + (depN m' : Int) by (first | lia | omega))) ?_⟩
    refine ⟨_, rfl, .inl ⟨_, _, _, true, rfl, .tup et, T.ktup, _, rfl, iteT ?_⟩⟩
    refine ⟨_, rfl, t, _, _, _, rfl, rfl, .of et, rfl, rfl, ?_⟩
    have q' := q H3 (g2.trans s3)
    rw [← decide_eq_true (rfl : V.str (Str.ofString "deep") = V.str (Str.ofString "deep"))] at q'
    exact q'

theorem annB_has : ∀ {nds : List Nd} {f fm : Nat}, f ≤ fm → fm < f + nds.length → ∃ (k : Nat) (m : Nd) (d : Nat), (annB f nds)[k]? = some (m, d, fm)
  | [], f, fm, h, g => by simp at g; (first | lia | omega)
  | a :: r, f, fm, h, g => by
    by_cases e : fm = f
    · subst e
      cases a with
      | mk k p own ps => exact ⟨0, _, _, by rw [annB, annN] <;> rfl⟩
    · obtain ⟨k, m, d, q⟩ := annB_has (nds := r) (f := f + 1) (fm := fm) (by (first | lia | omega)) (by rw [List.length_cons] at g; (first | lia | omega))
      refine ⟨(annN 1 f a).length + k, m, d, ?_⟩
      rw [annB, List.getElem?_append_right (by (first | lia | omega)), Nat.add_sub_cancel_left]
      exact q
theorem neI7 {st l : Addr} {H : Hp} {zs : List Int} (D : Draw K H st) (h : H l = some (.lst (zs.map V.int))) : l ≠ st := fun z => by
  obtain ⟨a, ns, k, c, e, _⟩ := D
  rw [z, e] at h
  cases zs with
  | nil => cases h
  | cons x zs => cases h
theorem node_cut {ns : List Int} {hs : Hds} {nds : List Nd} (ok : functionsM ns = .ok (hs, nds)) {k d f : Nat} {n : Nd} (an : (annB 0 nds)[k]? = some (n, d, f)) :
    cutV (ns.map V.int) (some (plOf n : Nat)) (some ((plOf n + lenN n : Nat) : Int)) = (flatH (hns n)).map V.int ∧ lenN n ≤ ns.length ∧ ∃ h, hs[f]? = some h ∧ FitN hs h.2 n := by
  obtain ⟨_, _, en, fb, pb⟩ := sheet_shape ok
  obtain ⟨_, h, e, e1, _, c⟩ := ctxB fb pb an
  obtain ⟨X, Y, r, w1, w2, _, _, w5⟩ := c.ex
  have l : lenN n ≤ ns.length := len_in ok w1
  have hl : lenN n = (flatH (hns n)).length := rfl
  have lns : plOf n + lenN n ≤ ns.length := by
    rw [en, sheetL_len, w1, flatH_append, flatH_append, List.length_append, List.length_append, hl]
    exact lnsx w5
  refine ⟨?_, l, h, by rw [← e1, Nat.sub_zero], c.fit⟩
  rw [cut_mid _ (by rw [List.length_map]; exact lns) (by (first | lia | omega)), Nat.add_sub_cancel_left, ← List.map_drop, ← List.map_take]
  have := cut_list (hs := hs) (X := X) (Y := Y) (A := hns n) w5
  rw [← w1, ← en] at this
  exact congrArg (List.map V.int) this
theorem Tups.pen {st : Addr} {H H' : Hp} (D : Draw K H st) (k : Keep st H H') : Tups H H' := by
  obtain ⟨_, _, _, _, e, _⟩ := D
  exact Tups.keepL e k
theorem wrap_fit {hs : Hds} {b : Int} {m : Nd} (f : FitN hs b m) : FitN hs b (.mk 3 0 [1] [m]) := ⟨by decide, by decide, .inr (.inr (.inl ⟨rfl, 1, rfl, by decide, by decide⟩)), rfl, f, trivial⟩
theorem wrap_flat (m : Nd) : flatH (hns (.mk 3 0 [1] [m])) = [3, 1] ++ flatH (hns m) := by
  rw [hns_mk, flatH_cons, hnsL_cons, flatH_append]
  show ([3, 1] : List Int) ++ (flatH (hns m) ++ []) = _
  rw [List.append_nil]
theorem wrap_dep (m : Nd) : depN (.mk 3 0 [1] [m]) = 1 + depN m := by
  show 1 + max (depN m) 0 = _
  (first | lia | omega)
noncomputable def InvL7 (a st l hd c sl ol ml yl : Addr) (Hb : Hp) (i : Nat) (σ' : St) (H' : Hp) : Prop :=
  ∃ v9 v10 v11 v12 v13 v14 v15, σ' = [some (.ref a), some (.ref st), some (.ref l), some (.ref hd), some (.ref c), some (.ref sl), some (.ref ol), some (.ref ml), some (.ref yl), v9, v10, v11, v12, v13, v14, v15] ∧ Drawn K st Hb H'
theorem ok_law7 (T : Txt K mg aP CL CN) (F : Fun K "law" "law" s_law f fd) (C_law_sheet : Cal P w K mg base (CXE P w) 16 "_law_sheet" ["_law_state", "_law_most"] (spSheet K)) (C_law_heads_of : Cal P w K mg base (CXE P w) 1 "_law_heads_of" ["_law_sheet_here"] spHeadsOf7) (C_law_sheet_with : Cal P w K mg base (CXE P w) 16 "_law_sheet_with" ["_law_state", "_law_heads_here", "_law_most"] (spSheetWith K))
    (Cnodes : Cal P w K mg base (CXE P w) 18 "nodes" ["sheet"] (spNodes CN)) (C_law_depths : Cal P w K mg base (CXE P w) 2 "_law_depths" ["_law_some"] spDepths7) (C_law_take : Cal P w K mg base (CXE P w) 2 "_law_take" ["_law_state", "_law_many_here"] (spTakeB K)) (C_law_in_function : Cal P w K mg base (CXE P w) 1 "_law_in_function" ["_law_depths_here", "_law_function"] spInF7)
    (C_law_many : Cal P w K mg base (CXE P w) 1 "_law_many" ["_law_node_here"] spMany7) (C_law_depth : Cal P w K mg base (CXE P w) 1 "_law_depth" ["_law_node_here"] spDepth7) (C_law_exchanged : Cal P w K mg base (CXE P w) 20 "_law_exchanged" ["_law_sheet_here", "_law_some", "_law_at", "_law_numbers", "_law_deep"] spExch7) (Cwrong : Cal P w K mg base (CXE P w) 18 "wrong" ["numbers"] spWrong) :
    FnOk P w K mg base (CXE P w) 21 f fd ["_law_script"] (spLaw K) := by
  refine F.okN sc_law (fun vs H Q E h => ?_) (fun cdv A outer s H vs Q E hr h => ?_)
  · obtain ⟨a, ns, rfl, _⟩ := h
    rfl
  obtain ⟨a, ns, rfl, hS, h63, q⟩ := h
  refine ⟨_, (pss_cons (ps_set (i := 1) sc_law.nd rfl (Or.inl rfl) (pe_lst (pa_cons (pv 0) (pa_cons pe_int (pa_cons pe_int pa_nil)))))
      (pss_cons (ps_set (i := 2) sc_law.nd rfl (Or.inl rfl) (pe_callC C_law_sheet hr rfl (pa_cons (pv 1) (pa_cons pe_int pa_nil)) passN))
      (pss_cons (ps_set (i := 3) sc_law.nd rfl (Or.inl rfl) (pe_callC C_law_heads_of hr rfl (pa_cons (pv 2) pa_nil) passN))
      (pss_cons (ps_set (i := 4) sc_law.nd rfl (Or.inl rfl) (pe_callC C_law_sheet_with hr rfl (pa_cons (pv 1) (pa_cons (pv 3) (pa_cons pe_int pa_nil))) passN))
      (pss_cons (ps_set (i := 5) sc_law.nd rfl (Or.inl rfl) (pe_callC Cnodes hr rfl (pa_cons (pv 2) pa_nil) passN))
      (pss_cons (ps_set (i := 6) sc_law.nd rfl (Or.inl rfl) (pe_callC Cnodes hr rfl (pa_cons (pv 4) pa_nil) passN))
      (pss_cons (ps_set (i := 7) sc_law.nd rfl (Or.inl rfl) (pe_callC C_law_depths hr rfl (pa_cons (pv 5) pa_nil) passN))
      (pss_cons (ps_set (i := 8) sc_law.nd rfl (Or.inl rfl) (pe_callC C_law_depths hr rfl (pa_cons (pv 6) pa_nil) passN))
      (pss_cons (ps_for PassesOwn.never rfl (pi_range1 rfl T.n_range (pa_cons pe_int pa_nil)) (pg_name (i := 9) sc_law.nd rfl (Or.inl rfl)) (pss_cons (ps_set (i := 10) sc_law.nd rfl (Or.inl rfl) (pe_callC C_law_take hr rfl (pa_cons (pv 1) (pa_cons (pe_callB call_len_seq rfl T.n_len bt_len (pa_cons (pv 5) pa_nil)) pa_nil)) passN))
      (pss_cons (ps_set (i := 11) sc_law.nd rfl (Or.inl rfl) (pe_callC C_law_in_function hr rfl (pa_cons (pv 8) (pa_cons (pe_ix ix_tup (pe_ix ix_list (pv 7) (pv 10) (fun _ _ => rfl)) pe_int (fun _ _ => rfl)) pa_nil)) passN))
      (pss_cons (ps_set (i := 12) sc_law.nd rfl (Or.inl rfl) (pe_ix ix_list (pv 6) (pe_ix ix_list (pv 11) (pe_callC C_law_take hr rfl (pa_cons (pv 1) (pa_cons (pe_callB call_len_seq rfl T.n_len bt_len (pa_cons (pv 11) pa_nil)) pa_nil)) passN) (fun _ _ => rfl)) (fun _ _ => rfl)))
      (pss_cons (ps_set (i := 13) sc_law.nd rfl (Or.inl rfl) (pe_slice sl_list (pv 4) (po_some (pe_ix ix_tup (pv 12) pe_int (fun _ _ => rfl))) (po_some (pe_op op_add (pe_ix ix_tup (pv 12) pe_int (fun _ _ => rfl)) (pe_callC C_law_many hr rfl (pa_cons (pv 12) pa_nil) passN)))))
      (pss_cons (ps_if (pt_not (pt_val (pe_callC C_law_exchanged hr rfl (pa_cons (pv 2) (pa_cons (pv 5) (pa_cons (pv 10) (pa_cons (pv 13) (pa_cons (pe_callC C_law_depth hr rfl (pa_cons (pv 12) pa_nil) passN) pa_nil))))) passN))) (pss_one (ps_ret pe_bl)) pss_nil)
      (pss_cons (ps_set (i := 14) sc_law.nd rfl (Or.inl rfl) (pe_slice sl_list (pv 2) (po_some (pe_ix ix_tup (pe_ix ix_list (pv 5) (pv 10) (fun _ _ => rfl)) pe_int (fun _ _ => rfl))) (po_some (pe_op op_add (pe_ix ix_tup (pe_ix ix_list (pv 5) (pv 10) (fun _ _ => rfl)) pe_int (fun _ _ => rfl)) (pe_callC C_law_many hr rfl (pa_cons (pe_ix ix_list (pv 5) (pv 10) (fun _ _ => rfl)) pa_nil) passN)))))
      (pss_cons (ps_set (i := 15) sc_law.nd rfl (Or.inl rfl) (pe_op op_add pe_int (pe_callC C_law_depth hr rfl (pa_cons (pe_ix ix_list (pv 5) (pv 10) (fun _ _ => rfl)) pa_nil) passN)))
      (pss_one (ps_if (pt_not (pt_val (pe_callC C_law_exchanged hr rfl (pa_cons (pv 2) (pa_cons (pv 5) (pa_cons (pv 10) (pa_cons (pe_op op_cat (pe_lst (pa_consts (.int (.int .nil)))) (pv 14)) (pa_cons (pv 15) pa_nil))))) passN))) (pss_one (ps_ret pe_bl)) pss_nil))))))))))
      (pss_one (ps_ret (pe_cmpR op_isN (pe_callC Cwrong hr rfl (pa_cons (pv 2) pa_nil) passN) pe_non (nomark _))))))))))))), ?_⟩
  try dsimp only [Cx.nox, Cx.exc, Cx.wish, cxOf_K]
  refine ⟨_, rfl, small (show 3 ≤ 1000 by decide), fun st hst => ?_⟩
  have g1 := same_new hst (.lst [.ref a, .int 0, .int 0])
  have D1 : Draw K (upd H st (.lst [.ref a, .int 0, .int 0])) st := by
    refine ⟨a, ns, 0, 0, upd_same, ?_, h63, Int.le_refl _, Int.le_refl _⟩
    rcases hS with ⟨o, h⟩ | h
    · exact .inl ⟨o, g1 _ _ h⟩
    · exact .inr h
  have szl : sizeLine = 16777216 := sizeLine_eq
  refine ⟨_, rfl, st, 14, rfl, by decide, by decide, D1, fun l zs H2 d2 el okz => ?_⟩
  obtain ⟨lz, ⟨hs, nds⟩, ok⟩ := okz
  refine ⟨_, rfl, l, zs, hs, nds, rfl, el, ok, fun hd H3 s3 hhd hda => ?_⟩
  have D3 := d2.draw.same s3
  have el3 := s3 _ _ el
  obtain ⟨hg, hgr, enz, fb, pb⟩ := sheet_shape ok
  refine ⟨_, rfl, _, rfl, st, hd, 9, hs, rfl, by decide, by decide, D3, hda, hg, fun c ns2 H4 d4 hc0 ec lz2 ok2 => ?_⟩
  obtain ⟨nds2, ok2⟩ := ok2
  have nel := neI7 D3 el3
  have el4 := d4.keep _ _ nel el3
  have cnt := fns_count ok
  have cnt2 := fns_count ok2
  simp only at cnt cnt2
  refine ⟨_, rfl, l, zs, rfl, el4, by (first | lia | omega), ⟨fun x e => ?_, fun p w e => by rw [ok] at e; cases e⟩⟩
  rw [ok] at e
  cases e
  intro sl us H5 s5 hsl esl pu
  have D5 := d4.draw.same s5
  have ec5 := s5 _ _ ec
  refine ⟨_, rfl, c, ns2, rfl, ec5, by (first | lia | omega), ⟨fun x e => ?_, fun p w e => by rw [ok2] at e; cases e⟩⟩
  rw [ok2] at e
  cases e
  intro ol us2 H6 s6 hol eol pu2
  simp only at pu pu2
  refine ⟨_, rfl, sl, us, preL nds, rfl, s6 _ _ esl, Paired.imp (fun _ _ z => z.tups (.same s6)) pu, fun n hn => Nat.le_trans (all_in ok n hn) lz, by (first | lia | omega), fun ml H7 s7 hml hma => ?_⟩
  refine ⟨_, rfl, ol, us2, preL nds2, rfl, s7 _ _ eol, Paired.imp (fun _ _ z => z.tups (.same s7)) pu2, fun n hn => Nat.le_trans (all_in ok2 n hn) lz2, by (first | lia | omega), fun yl Hb s8 hyl hya => ?_⟩
  have t5 := s5.trans (s6.trans (s7.trans s8))
  have Db := d4.draw.same t5
  have elb := t5 _ _ el4
  have ecb := t5 _ _ ec
  have eslb := (s6.trans (s7.trans s8)) _ _ esl
  have eolb := (s7.trans s8) _ _ eol
  have pub : Paired (NodeAt Hb 10) us (preL nds) := Paired.imp (fun _ _ z => z.tups (.same (s6.trans (s7.trans s8)))) pu
  have pu2b : Paired (NodeAt Hb 10) us2 (preL nds2) := Paired.imp (fun _ _ z => z.tups (.same (s7.trans s8))) pu2
  obtain ⟨rm, eml, prm⟩ := hma
  have emlb := s8 _ _ eml
  have prmb : Paired (HeadAt Hb) rm ((depF (preL nds) [] (-1)).map toI) := Paired.imp (fun _ _ z => HeadAt.tups (.same s8) z) prm
  have nsl : sl ≠ st := Ne.symm (d4.draw.ne hsl)
  have nol : ol ≠ st := Ne.symm (D5.ne hol)
  have nml : ml ≠ st := Ne.symm ((D5.same s6).ne hml)
  have nyl : yl ≠ st := Ne.symm (((D5.same s6).same s7).ne hyl)
  have nc : c ≠ st := neI7 d4.draw ec
  have lu := Paired.len pub
  have lu2 := Paired.len pu2b
  have lh := hg.lo
  have ln := (fns_ok ok).2.2
  have ln2 := (fns_ok ok2).2.2
  simp only at ln ln2
  have lp1 := preL_len nds
  refine ⟨10, rfl, by decide, by decide, for_range (lo := 0) (n := 10) (InvL7 (K := K) a st l hd c sl ol ml yl Hb) ⟨_, _, _, _, _, _, _, rfl, Db.refl⟩ ?_ ?_⟩
  · rintro j σ' H1 hj ⟨v9, v10, v11, v12, v13, v14, v15, rfl, d⟩
    have tp1 := Tups.pen Db d.keep
    refine ⟨_, rfl, _, rfl, sl, us, rfl, .inl (.of (d.keep _ _ nsl eslb)), st, (us.length : Int), rfl, by (first | lia | omega), by (first | lia | omega), d.draw, fun r H2 r0 r1 d2' => ?_⟩
    obtain ⟨i, rfl⟩ : ∃ i : Nat, r = (i : Int) := ⟨r.toNat, by (first | lia | omega)⟩
    have dd2 := d.trans d2'
    have tp2 := Tups.pen Db dd2.keep
    have la : (annB 0 nds).length = us.length := by rw [lu, ← annB_pre nds 0, List.length_map]
    obtain ⟨⟨m, dm, fm⟩, an⟩ : ∃ x, (annB 0 nds)[i]? = some x := ⟨_, List.getElem?_eq_getElem (by (first | lia | omega))⟩
    obtain ⟨cm, lm, h, hh, fitm⟩ := node_cut ok an
    have hds : ((depF (preL nds) [] (-1)).map toI)[i]? = some ((dm : Int), (fm : Int)) := by
      rw [deps ok, List.getElem?_map, List.getElem?_map, an] <;> rfl
    have il2 : i < rm.length := by rw [Paired.len prmb]; exact (List.getElem?_eq_some_iff.mp hds).1
    obtain ⟨x0, hx0, td, etd, htd⟩ := yon prmb (List.getElem?_eq_getElem il2)
    rw [hds] at hx0
    cases hx0
    have hat2 : atI rm (i : Int) = some (.ref td) := atI_nat (by rw [List.getElem?_eq_getElem il2, etd])
    have hya2 : HeadsAt H2 yl ((depF (preL nds2) [] (-1)).map toI) := by
      obtain ⟨ry, ey, py⟩ := hya
      exact ⟨ry, dd2.keep _ _ nyl ey, Paired.imp (fun _ _ z => HeadAt.tups tp2 z) py⟩
    have ldy : ((depF (preL nds2) [] (-1)).map toI).length = us2.length := by
      rw [deps ok2, List.length_map, List.length_map, lu2, ← annB_pre nds2 0, List.length_map]
    refine ⟨_, rfl, _, rfl, _, rfl, ml, _, _, _, rfl, rfl, .of (dd2.keep _ _ nml emlb), hat2, td, _, _, _, rfl, rfl, .of (tp2 _ _ htd), rfl, yl, _, _, rfl, hya2, by (first | lia | omega), fun fl ks H3 s3' hfl efl a1 a2 lk => ?_⟩
    have dd3 : Drawn K st Hb H3 := dd2.trans ⟨dd2.draw.same s3', Keep.same s3'⟩
    have back : ∀ {k : Nat} {x : Int × Int}, ((depF (preL nds2) [] (-1)).map toI)[k]? = some x → ∃ n2 d2 f2, (annB 0 nds2)[k]? = some (n2, d2, f2) ∧ x = ((d2 : Int), (f2 : Int)) := fun {k x} hk => by
      rw [deps ok2, List.getElem?_map, List.getElem?_map] at hk
      cases e : (annB 0 nds2)[k]? with
      | none => rw [e] at hk; cases hk
      | some y =>
        obtain ⟨n2, d2, f2⟩ := y
        rw [e] at hk
        cases hk
        exact ⟨n2, d2, f2, rfl, rfl⟩
    have lfm : fm < nds2.length := by rw [ln2]; exact (List.getElem?_eq_some_iff.mp hh).1
    have kne : 0 < ks.length := by
      obtain ⟨k, n2, d2, e2⟩ := annB_has (nds := nds2) (f := 0) (fm := fm) (Nat.zero_le _) (by (first | lia | omega))
      have := a2 k ((d2 : Int), (fm : Int)) (by rw [deps ok2, List.getElem?_map, List.getElem?_map, e2] <;> rfl) rfl
      exact List.length_pos_of_mem this
    have lnat : (natI ks).length = ks.length := by unfold natI; rw [List.length_map]
    refine ⟨_, rfl, _, rfl, _, rfl, _, rfl, fl, _, rfl, .inl (.of efl), st, _, rfl, by (first | lia | omega), by (first | lia | omega), dd3.draw, fun r2 H4 r20 r21 d4' => ?_⟩
    have nfl : fl ≠ st := Ne.symm (dd2.draw.ne hfl)
    have dd4 := dd3.trans d4'
    have tp4 := Tups.pen Db dd4.keep
    have ir2 : r2.toNat < ks.length := by (first | lia | omega)
    obtain ⟨k, ek⟩ : ∃ k, ks[r2.toNat]? = some k := ⟨_, List.getElem?_eq_getElem ir2⟩
    have hat4 : atI (natI ks) r2 = some (.int (k : Nat)) := by
      rw [show r2 = ((r2.toNat : Nat) : Int) by (first | lia | omega)]
      refine atI_nat ?_
      unfold natI
      rw [List.getElem?_map, ek] <;> rfl
    obtain ⟨x1, hx1, ef1⟩ := a1 k (List.mem_of_getElem? ek)
    obtain ⟨n2, dn2, f2, an2, ex1⟩ := back hx1
    subst ex1
    have ef2 : f2 = fm := by
      have : (f2 : Int) = (fm : Int) := ef1
      (first | lia | omega)
    subst ef2
    obtain ⟨cm2, lm2, h2, hh2, fit2⟩ := node_cut ok2 an2
    rw [hh] at hh2
    cases hh2
    have hn2 : (preL nds2)[k]? = some n2 := by rw [← annB_pre nds2 0, List.getElem?_map, an2]; rfl
    have ik : k < us2.length := by have := (List.getElem?_eq_some_iff.mp hn2).1; (first | lia | omega)
    obtain ⟨m0, hm0, nn2⟩ := yon pu2b (List.getElem?_eq_getElem ik)
    rw [hn2] at hm0
    cases hm0
    generalize ev2 : us2[k] = v2 at nn2
    have hat5 : atI us2 ((k : Nat) : Int) = some v2 := atI_nat (by rw [List.getElem?_eq_getElem ik, ev2])
    refine ⟨fl, _, _, _, rfl, rfl, .of (d4'.keep _ _ nfl efl), hat4, ol, _, _, _, rfl, rfl, .of (dd4.keep _ _ nol eolb), hat5, ?_⟩
    have nn4 := nn2.tups tp4
    have nn4' := nn4
    cases n2 with
    | mk k2 p2 own2 ps2 =>
    obtain ⟨t2, o2, pq2, vs2, rfl, et2, _⟩ := nn4'
    have e5 : ((p2 : Int) + (lenN (.mk k2 p2 own2 ps2) : Int)) = ((p2 + lenN (.mk k2 p2 own2 ps2) : Nat) : Int) := by (first | lia | omega)
    have lb2 : lenN (.mk k2 p2 own2 ps2) ≤ 100000 := Nat.le_trans lm2 lz2
    refine ⟨_, rfl, _, rfl, t2, _, _, _, rfl, rfl, .of et2, rfl, _, rfl, _, rfl, t2, _, _, _, rfl, rfl, .of et2, rfl, _, rfl, .ref t2, _, rfl, nn4, by (first | lia | omega), fun H5' s5' => ⟨_, _, rfl, rfl, _, rfl, c, _, rfl, .of (s5' _ _ (dd4.keep _ _ nc ecb)), fun c5 hc5 => ?_⟩⟩
    have cm2' : cutV (ns2.map V.int) (some (p2 : Nat)) (some ((p2 + lenN (.mk k2 p2 own2 ps2) : Nat) : Int)) = (flatH (hns (.mk k2 p2 own2 ps2))).map V.int := cm2
    rw [e5, cm2']
    have s6' := s5'.trans (same_new hc5 (.lst ((flatH (hns (.mk k2 p2 own2 ps2))).map V.int)))
    have tp6 := Tups.trans tp4 (.same s6')
    have nn6 := nn2.tups tp6
    refine ⟨_, rfl, _, rfl, _, rfl, _, rfl, _, rfl, .ref t2, _, rfl, nn6, lb2, fun H7' s7' => ?_⟩
    have dd7 : Drawn K st Hb H7' := dd4.trans ⟨dd4.draw.same (s6'.trans s7'), Keep.same (s6'.trans s7')⟩
    have tp7 := Tups.pen Db dd7.keep
    have ecc := s7' _ _ (upd_same (H := H5') (a := c5) (o := .lst ((flatH (hns (.mk k2 p2 own2 ps2))).map V.int)))
    refine ⟨l, sl, c5, zs, hs, nds, us, i, dm, f2, m, .mk k2 p2 own2 ps2, h, rfl, dd7.keep _ _ nel elb, ok, lz, dd7.keep _ _ nsl eslb, Paired.imp (fun _ _ z => z.tups tp7) pub, ecc, by (first | lia | omega), an, hh, fit2, fun H8 s8' => ⟨_, rfl, iteF ?_⟩⟩
    have dd8 : Drawn K st Hb H8 := dd7.trans ⟨dd7.draw.same s8', Keep.same s8'⟩
    have tp8 := Tups.pen Db dd8.keep
    have hm : (preL nds)[i]? = some m := by rw [← annB_pre nds 0, List.getElem?_map, an]; rfl
    have iu : i < us.length := by (first | lia | omega)
    obtain ⟨m0, hm0, nm⟩ := yon pub (List.getElem?_eq_getElem iu)
    rw [hm] at hm0
    cases hm0
    generalize ev : us[i] = v at nm
    have hatm : atI us ((i : Nat) : Int) = some v := atI_nat (by rw [List.getElem?_eq_getElem iu, ev])
    have esl8 := dd8.keep _ _ nsl eslb
    have nm8 := nm.tups tp8
    have lbm : lenN m ≤ 100000 := Nat.le_trans lm lz
    have nm8' := nm8
    have wf := wrap_fit fitm
    have wfl := wrap_flat m
    have wd := wrap_dep m
    have wl : lenN (.mk 3 0 [1] [m]) ≤ 100002 := by
      unfold lenN
      rw [wfl, List.length_append]
      show 2 + lenN m ≤ _
      (first | lia | omega)
    cases m with
    | mk k1 p1 own1 ps1 =>
    obtain ⟨t1, o1, pq1, vs1, rfl, et1, _⟩ := nm8'
    have e6 : ((p1 : Int) + (lenN (.mk k1 p1 own1 ps1) : Int)) = ((p1 + lenN (.mk k1 p1 own1 ps1) : Nat) : Int) := by (first | lia | omega)
    have cm' : cutV (zs.map V.int) (some (p1 : Nat)) (some ((p1 + lenN (.mk k1 p1 own1 ps1) : Nat) : Int)) = (flatH (hns (.mk k1 p1 own1 ps1))).map V.int := cm
    refine ⟨_, rfl, _, rfl, _, rfl, sl, _, _, _, rfl, rfl, .of esl8, hatm, t1, _, _, _, rfl, rfl, .of et1, rfl, _, rfl, _, rfl, _, rfl, sl, _, _, _, rfl, rfl, .of esl8, hatm, t1, _, _, _, rfl, rfl, .of et1, rfl, _, rfl, _, rfl, sl, _, _, _, rfl, rfl, .of esl8, hatm, .ref t1, _, rfl, nm8, by (first | lia | omega), fun H9 s9 => ⟨_, _, rfl, rfl, _, rfl, l, _, rfl, .of (s9 _ _ (dd8.keep _ _ nel elb)), fun c6 hc6 => ?_⟩⟩
    rw [e6, cm']
    have s10 := s9.trans (same_new hc6 (.lst ((flatH (hns (.mk k1 p1 own1 ps1))).map V.int)))
    have nm10 := nm8.tups (.same s10)
    refine ⟨_, rfl, _, rfl, sl, _, _, _, rfl, rfl, .of (s10 _ _ esl8), hatm, .ref t1, _, rfl, nm10, lbm, fun H11 s11 => ⟨_, _, rfl, rfl, ?_⟩⟩
    have e11 := s11 _ _ (upd_same (H := H9) (a := c6) (o := .lst ((flatH (hns (.mk k1 p1 own1 ps1))).map V.int)))
    refine ⟨_, rfl, _, rfl, _, rfl, small (show 2 ≤ 1000 by decide), fun p8 hp8 => ⟨_, rfl, p8, c6, _, _, rfl, rfl, upd_same, same_new hp8 _ _ _ e11, ?_, fun p9 hp9 => ?_⟩⟩
    · rw [List.length_map]
      show 2 + lenN (.mk k1 p1 own1 ps1) ≤ _
      (first | lia | omega)
    have s12 := s10.trans (s11.trans ((same_new hp8 (.lst [.int 3, .int 1])).trans (same_new hp9 (.lst ([.int 3, .int 1] ++ (flatH (hns (.mk k1 p1 own1 ps1))).map V.int)))))
    have dd12 : Drawn K st Hb (upd (upd H11 p8 (.lst [.int 3, .int 1])) p9 (.lst ([.int 3, .int 1] ++ (flatH (hns (.mk k1 p1 own1 ps1))).map V.int))) := dd8.trans ⟨dd8.draw.same s12, Keep.same s12⟩
    have tp12 := Tups.pen Db dd12.keep
    refine ⟨_, rfl, l, sl, p9, zs, hs, nds, us, i, dm, f2, .mk k1 p1 own1 ps1, .mk 3 0 [1] [.mk k1 p1 own1 ps1], h, ?_, dd12.keep _ _ nel elb, ok, lz, dd12.keep _ _ nsl eslb, Paired.imp (fun _ _ z => z.tups tp12) pub, ?_, wl, an, hh, wf, fun H13 s13 => ⟨_, rfl, iteF ?_⟩⟩
    · rw [wd, Int.natCast_add] <;> rfl
    · rw [upd_same, wfl, List.map_append] <;> rfl
    · exact ⟨_, _, _, _, _, _, _, rfl, dd12.trans ⟨dd12.draw.same s13, Keep.same s13⟩⟩
  · rintro σ' H1 ⟨v9, v10, v11, v12, v13, v14, v15, rfl, d⟩
    refine ⟨_, rfl, l, zs, rfl, d.keep _ _ nel elb, fun r er H2 s2 => ?_, fun p w er => by rw [ok] at er; cases er⟩
    exact ⟨rfl, q H2⟩

end


theorem ln1 {α : Type} {us : List α} (h : us.length = 1) : ∃ a0, us = [a0] := match us, h with | [a0], _ => ⟨a0, rfl⟩
theorem ln2 {α : Type} {us : List α} (h : us.length = 2) : ∃ a0 a1, us = [a0, a1] := match us, h with | [a0, a1], _ => ⟨a0, a1, rfl⟩
theorem ln3 {α : Type} {us : List α} (h : us.length = 3) : ∃ a0 a1 a2, us = [a0, a1, a2] := match us, h with | [a0, a1, a2], _ => ⟨a0, a1, a2, rfl⟩
theorem ln4 {α : Type} {us : List α} (h : us.length = 4) : ∃ a0 a1 a2 a3, us = [a0, a1, a2, a3] := match us, h with | [a0, a1, a2, a3], _ => ⟨a0, a1, a2, a3, rfl⟩
theorem ln5 {α : Type} {us : List α} (h : us.length = 5) : ∃ a0 a1 a2 a3 a4, us = [a0, a1, a2, a3, a4] := match us, h with | [a0, a1, a2, a3, a4], _ => ⟨a0, a1, a2, a3, a4, rfl⟩
theorem all_mk {l : PySem.W.OpenLaw} {w : World} {K : PySem.W.Frag} {h : Heap} {mg : Str → Option Value} {fa f0 f1 f2 f3 f4 f5 f6 f7 f8 f9 f10 f11 f12 f13 f14 f15 f16 f17 f18 f19 f20 f21 f22 f23 f24 f25 f26 f27 f28 f29 f30 f31 : Addr} {nmN qN nmC qC : Str} {NN cChain nsC : Addr} {bsN subN bsC mroC subC : List Value} {snN snC : List Str} {abN hdC abC delC : Bool} {colN colC : Option Bool} {ddN ddC ddD : Option Addr} {k0N k1N k2N k3N k5N : Option Value} {ccC ccD : Value} {slC slD : Array (Option Value)} {esD : Array DictEntry} {nD : Nat} {cNoSheet cLook aP : Addr} {tNUMBER tGET tSET tALL tPICK tLOOP tCALL tFAIL tNEW tMOST_FUNCTIONS tMOST_PARAMS tMOST_BOXES tMOST_DEEP tMOST_MANY tLEAST_ALL tLEAST_PICK : Tok} {tPARTS0 tPARTS1 tPARTS2 tPARTS3 tPARTS4 tPARTS5 tPARTS6 tPARTS7 tPARTS8 tPARTS9 tPARTS10 tPARTS11 tPARTS12 : Tok} {nPARTS : Nat} {sPARTS : Array (Option Value)} (X : K.In h) (G : h.Ns mainGlobals mg) (hfa : mg "law" = some (.ref fa))
    {od0 an0 od1 an1 od2 an2 od3 an3 od4 an4 od5 an5 od6 an6 od7 an7 od8 an8 od9 an9 od10 an10 od11 an11 od12 an12 od13 an13 od14 an14 od15 an15 od16 an16 od17 an17 od18 an18 od19 an19 od20 an20 od21 an21 od22 an22 od23 an23 od24 an24 od25 an25 od26 an26 od27 an27 od28 an28 od29 an29 od30 an30 od31 an31 : Option Addr} {sl0 sl1 sl2 sl3 sl4 sl5 sl6 sl7 sl8 sl9 sl10 sl11 sl12 sl13 sl14 sl15 sl16 sl17 sl18 sl19 sl20 sl21 sl22 sl23 sl24 sl25 sl26 sl27 sl28 sl29 sl30 sl31 : Array (Option Value)} {oc0 kV0 dc0 pm0 cd0 ct0 oc1 kV1 dc1 pm1 cd1 ct1 oc2 kV2 dc2 pm2 cd2 ct2 oc3 kV3 dc3 pm3 cd3 ct3 oc4 kV4 dc4 pm4 cd4 ct4 oc5 kV5 dc5 pm5 cd5 ct5 oc6 kV6 dc6 pm6 cd6 ct6 oc7 kV7 dc7 pm7 cd7 ct7 oc8 kV8 dc8 pm8 cd8 ct8 oc9 kV9 dc9 pm9 cd9 ct9 oc10 kV10 dc10 pm10 cd10 ct10 oc11 kV11 dc11 pm11 cd11 ct11 oc12 kV12 dc12 pm12 cd12 ct12 oc13 kV13 dc13 pm13 cd13 ct13 oc14 kV14 dc14 pm14 cd14 ct14 oc15 kV15 dc15 pm15 cd15 ct15 oc16 kV16 dc16 pm16 cd16 ct16 oc17 kV17 dc17 pm17 cd17 ct17 oc18 kV18 dc18 pm18 cd18 ct18 oc19 kV19 dc19 pm19 cd19 ct19 oc20 kV20 dc20 pm20 cd20 ct20 oc21 kV21 dc21 pm21 cd21 ct21 oc22 kV22 dc22 pm22 cd22 ct22 oc23 kV23 dc23 pm23 cd23 ct23 oc24 kV24 dc24 pm24 cd24 ct24 oc25 kV25 dc25 pm25 cd25 ct25 oc26 kV26 dc26 pm26 cd26 ct26 oc27 kV27 dc27 pm27 cd27 ct27 oc28 kV28 dc28 pm28 cd28 ct28 oc29 kV29 dc29 pm29 cd29 ct29 oc30 kV30 dc30 pm30 cd30 ct30 oc31 kV31 dc31 pm31 cd31 ct31 : Value}
    (c_NoSheet : PySem.W.nsIn K mainGlobals "NoSheet" = some (some (.ref cNoSheet)))
    (c_Look : PySem.W.nsIn K mainGlobals "Look" = some (some (.ref cLook)))
    (a0 : PySem.W.findIn K (.ref cNoSheet) "__init__" = some (some (.ref f0))) (l0 : K.lookup f0 = some ⟨oc0, od0, .func (PySem.W.fnOf "__init__" "NoSheet.__init__" (defArgs s_NoSheet___init__) (defBody s_NoSheet___init__) (defScope s_NoSheet___init__) .none kV0 dc0 pm0 an0 cd0 ct0), sl0⟩) (c0 : PySem.W.codeIn K cd0 "NoSheet.__init__" = true) (k0 : PySem.W.keepIn K (.ref f0) = true)
    (a1 : PySem.W.findIn K (.ref cLook) "__init__" = some (some (.ref f1))) (l1 : K.lookup f1 = some ⟨oc1, od1, .func (PySem.W.fnOf "__init__" "Look.__init__" (defArgs s_Look___init__) (defBody s_Look___init__) (defScope s_Look___init__) .none kV1 dc1 pm1 an1 cd1 ct1), sl1⟩) (c1 : PySem.W.codeIn K cd1 "Look.__init__" = true) (k1 : PySem.W.keepIn K (.ref f1) = true)
    (a2 : PySem.W.findIn K (.ref cLook) "take" = some (some (.ref f2))) (l2 : K.lookup f2 = some ⟨oc2, od2, .func (PySem.W.fnOf "take" "Look.take" (defArgs s_Look_take) (defBody s_Look_take) (defScope s_Look_take) .none kV2 dc2 pm2 an2 cd2 ct2), sl2⟩) (c2 : PySem.W.codeIn K cd2 "Look.take" = true) (k2 : PySem.W.keepIn K (.ref f2) = true)
    (a3 : PySem.W.findIn K (.ref cLook) "take_within" = some (some (.ref f3))) (l3 : K.lookup f3 = some ⟨oc3, od3, .func (PySem.W.fnOf "take_within" "Look.take_within" (defArgs s_Look_take_within) (defBody s_Look_take_within) (defScope s_Look_take_within) .none kV3 dc3 pm3 an3 cd3 ct3), sl3⟩) (c3 : PySem.W.codeIn K cd3 "Look.take_within" = true) (k3 : PySem.W.keepIn K (.ref f3) = true)
    (a4 : PySem.W.nsIn K mainGlobals "is_whole" = some (some (.ref f4))) (l4 : K.lookup f4 = some ⟨oc4, od4, .func (PySem.W.fnOf "is_whole" "is_whole" (defArgs s_is_whole) (defBody s_is_whole) (defScope s_is_whole) .none kV4 dc4 pm4 an4 cd4 ct4), sl4⟩) (c4 : PySem.W.codeIn K cd4 "is_whole" = true) (k4 : PySem.W.keepIn K (.ref f4) = true)
    (a5 : PySem.W.nsIn K mainGlobals "take_heads" = some (some (.ref f5))) (l5 : K.lookup f5 = some ⟨oc5, od5, .func (PySem.W.fnOf "take_heads" "take_heads" (defArgs s_take_heads) (defBody s_take_heads) (defScope s_take_heads) .none kV5 dc5 pm5 an5 cd5 ct5), sl5⟩) (c5 : PySem.W.codeIn K cd5 "take_heads" = true) (k5 : PySem.W.keepIn K (.ref f5) = true)
    (a6 : PySem.W.nsIn K mainGlobals "take_own" = some (some (.ref f6))) (l6 : K.lookup f6 = some ⟨oc6, od6, .func (PySem.W.fnOf "take_own" "take_own" (defArgs s_take_own) (defBody s_take_own) (defScope s_take_own) .none kV6 dc6 pm6 an6 cd6 ct6), sl6⟩) (c6 : PySem.W.codeIn K cd6 "take_own" = true) (k6 : PySem.W.keepIn K (.ref f6) = true)
    (a7 : PySem.W.nsIn K mainGlobals "parts_of" = some (some (.ref f7))) (l7 : K.lookup f7 = some ⟨oc7, od7, .func (PySem.W.fnOf "parts_of" "parts_of" (defArgs s_parts_of) (defBody s_parts_of) (defScope s_parts_of) .none kV7 dc7 pm7 an7 cd7 ct7), sl7⟩) (c7 : PySem.W.codeIn K cd7 "parts_of" = true) (k7 : PySem.W.keepIn K (.ref f7) = true)
    (a8 : PySem.W.nsIn K mainGlobals "parts_due" = some (some (.ref f8))) (l8 : K.lookup f8 = some ⟨oc8, od8, .func (PySem.W.fnOf "parts_due" "parts_due" (defArgs s_parts_due) (defBody s_parts_due) (defScope s_parts_due) .none kV8 dc8 pm8 an8 cd8 ct8), sl8⟩) (c8 : PySem.W.codeIn K cd8 "parts_due" = true) (k8 : PySem.W.keepIn K (.ref f8) = true)
    (a9 : PySem.W.nsIn K mainGlobals "take_node" = some (some (.ref f9))) (l9 : K.lookup f9 = some ⟨oc9, od9, .func (PySem.W.fnOf "take_node" "take_node" (defArgs s_take_node) (defBody s_take_node) (defScope s_take_node) .none kV9 dc9 pm9 an9 cd9 ct9), sl9⟩) (c9 : PySem.W.codeIn K cd9 "take_node" = true) (k9 : PySem.W.keepIn K (.ref f9) = true)
    (a10 : PySem.W.nsIn K mainGlobals "functions" = some (some (.ref f10))) (l10 : K.lookup f10 = some ⟨oc10, od10, .func (PySem.W.fnOf "functions" "functions" (defArgs s_functions) (defBody s_functions) (defScope s_functions) .none kV10 dc10 pm10 an10 cd10 ct10), sl10⟩) (c10 : PySem.W.codeIn K cd10 "functions" = true) (k10 : PySem.W.keepIn K (.ref f10) = true)
    (a11 : PySem.W.nsIn K mainGlobals "wrong" = some (some (.ref f11))) (l11 : K.lookup f11 = some ⟨oc11, od11, .func (PySem.W.fnOf "wrong" "wrong" (defArgs s_wrong) (defBody s_wrong) (defScope s_wrong) .none kV11 dc11 pm11 an11 cd11 ct11), sl11⟩) (c11 : PySem.W.codeIn K cd11 "wrong" = true) (k11 : PySem.W.keepIn K (.ref f11) = true)
    (a12 : PySem.W.nsIn K mainGlobals "nodes_in" = some (some (.ref f12))) (l12 : K.lookup f12 = some ⟨oc12, od12, .func (PySem.W.fnOf "nodes_in" "nodes_in" (defArgs s_nodes_in) (defBody s_nodes_in) (defScope s_nodes_in) .none kV12 dc12 pm12 an12 cd12 ct12), sl12⟩) (c12 : PySem.W.codeIn K cd12 "nodes_in" = true) (k12 : PySem.W.keepIn K (.ref f12) = true)
    (a13 : PySem.W.nsIn K mainGlobals "nodes" = some (some (.ref f13))) (l13 : K.lookup f13 = some ⟨oc13, od13, .func (PySem.W.fnOf "nodes" "nodes" (defArgs s_nodes) (defBody s_nodes) (defScope s_nodes) .none kV13 dc13 pm13 an13 cd13 ct13), sl13⟩) (c13 : PySem.W.codeIn K cd13 "nodes" = true) (k13 : PySem.W.keepIn K (.ref f13) = true)
    (a14 : PySem.W.nsIn K mainGlobals "_law_mixed" = some (some (.ref f14))) (l14 : K.lookup f14 = some ⟨oc14, od14, .func (PySem.W.fnOf "_law_mixed" "_law_mixed" (defArgs s__law_mixed) (defBody s__law_mixed) (defScope s__law_mixed) .none kV14 dc14 pm14 an14 cd14 ct14), sl14⟩) (c14 : PySem.W.codeIn K cd14 "_law_mixed" = true) (k14 : PySem.W.keepIn K (.ref f14) = true)
    (a15 : PySem.W.nsIn K mainGlobals "_law_take" = some (some (.ref f15))) (l15 : K.lookup f15 = some ⟨oc15, od15, .func (PySem.W.fnOf "_law_take" "_law_take" (defArgs s__law_take) (defBody s__law_take) (defScope s__law_take) .none kV15 dc15 pm15 an15 cd15 ct15), sl15⟩) (c15 : PySem.W.codeIn K cd15 "_law_take" = true) (k15 : PySem.W.keepIn K (.ref f15) = true)
    (a16 : PySem.W.nsIn K mainGlobals "_law_heads" = some (some (.ref f16))) (l16 : K.lookup f16 = some ⟨oc16, od16, .func (PySem.W.fnOf "_law_heads" "_law_heads" (defArgs s__law_heads) (defBody s__law_heads) (defScope s__law_heads) .none kV16 dc16 pm16 an16 cd16 ct16), sl16⟩) (c16 : PySem.W.codeIn K cd16 "_law_heads" = true) (k16 : PySem.W.keepIn K (.ref f16) = true)
    (a17 : PySem.W.nsIn K mainGlobals "_law_number" = some (some (.ref f17))) (l17 : K.lookup f17 = some ⟨oc17, od17, .func (PySem.W.fnOf "_law_number" "_law_number" (defArgs s__law_number) (defBody s__law_number) (defScope s__law_number) .none kV17 dc17 pm17 an17 cd17 ct17), sl17⟩) (c17 : PySem.W.codeIn K cd17 "_law_number" = true) (k17 : PySem.W.keepIn K (.ref f17) = true)
    (a18 : PySem.W.nsIn K mainGlobals "_law_leaf" = some (some (.ref f18))) (l18 : K.lookup f18 = some ⟨oc18, od18, .func (PySem.W.fnOf "_law_leaf" "_law_leaf" (defArgs s__law_leaf) (defBody s__law_leaf) (defScope s__law_leaf) .none kV18 dc18 pm18 an18 cd18 ct18), sl18⟩) (c18 : PySem.W.codeIn K cd18 "_law_leaf" = true) (k18 : PySem.W.keepIn K (.ref f18) = true)
    (a19 : PySem.W.nsIn K mainGlobals "_law_head" = some (some (.ref f19))) (l19 : K.lookup f19 = some ⟨oc19, od19, .func (PySem.W.fnOf "_law_head" "_law_head" (defArgs s__law_head) (defBody s__law_head) (defScope s__law_head) .none kV19 dc19 pm19 an19 cd19 ct19), sl19⟩) (c19 : PySem.W.codeIn K cd19 "_law_head" = true) (k19 : PySem.W.keepIn K (.ref f19) = true)
    (a20 : PySem.W.nsIn K mainGlobals "_law_node" = some (some (.ref f20))) (l20 : K.lookup f20 = some ⟨oc20, od20, .func (PySem.W.fnOf "_law_node" "_law_node" (defArgs s__law_node) (defBody s__law_node) (defScope s__law_node) .none kV20 dc20 pm20 an20 cd20 ct20), sl20⟩) (c20 : PySem.W.codeIn K cd20 "_law_node" = true) (k20 : PySem.W.keepIn K (.ref f20) = true)
    (a21 : PySem.W.nsIn K mainGlobals "_law_sheet" = some (some (.ref f21))) (l21 : K.lookup f21 = some ⟨oc21, od21, .func (PySem.W.fnOf "_law_sheet" "_law_sheet" (defArgs s__law_sheet) (defBody s__law_sheet) (defScope s__law_sheet) .none kV21 dc21 pm21 an21 cd21 ct21), sl21⟩) (c21 : PySem.W.codeIn K cd21 "_law_sheet" = true) (k21 : PySem.W.keepIn K (.ref f21) = true)
    (a22 : PySem.W.nsIn K mainGlobals "_law_sheet_with" = some (some (.ref f22))) (l22 : K.lookup f22 = some ⟨oc22, od22, .func (PySem.W.fnOf "_law_sheet_with" "_law_sheet_with" (defArgs s__law_sheet_with) (defBody s__law_sheet_with) (defScope s__law_sheet_with) .none kV22 dc22 pm22 an22 cd22 ct22), sl22⟩) (c22 : PySem.W.codeIn K cd22 "_law_sheet_with" = true) (k22 : PySem.W.keepIn K (.ref f22) = true)
    (a23 : PySem.W.nsIn K mainGlobals "_law_many" = some (some (.ref f23))) (l23 : K.lookup f23 = some ⟨oc23, od23, .func (PySem.W.fnOf "_law_many" "_law_many" (defArgs s__law_many) (defBody s__law_many) (defScope s__law_many) .none kV23 dc23 pm23 an23 cd23 ct23), sl23⟩) (c23 : PySem.W.codeIn K cd23 "_law_many" = true) (k23 : PySem.W.keepIn K (.ref f23) = true)
    (a24 : PySem.W.nsIn K mainGlobals "_law_depth" = some (some (.ref f24))) (l24 : K.lookup f24 = some ⟨oc24, od24, .func (PySem.W.fnOf "_law_depth" "_law_depth" (defArgs s__law_depth) (defBody s__law_depth) (defScope s__law_depth) .none kV24 dc24 pm24 an24 cd24 ct24), sl24⟩) (c24 : PySem.W.codeIn K cd24 "_law_depth" = true) (k24 : PySem.W.keepIn K (.ref f24) = true)
    (a25 : PySem.W.nsIn K mainGlobals "_law_depths" = some (some (.ref f25))) (l25 : K.lookup f25 = some ⟨oc25, od25, .func (PySem.W.fnOf "_law_depths" "_law_depths" (defArgs s__law_depths) (defBody s__law_depths) (defScope s__law_depths) .none kV25 dc25 pm25 an25 cd25 ct25), sl25⟩) (c25 : PySem.W.codeIn K cd25 "_law_depths" = true) (k25 : PySem.W.keepIn K (.ref f25) = true)
    (a26 : PySem.W.nsIn K mainGlobals "_law_in_function" = some (some (.ref f26))) (l26 : K.lookup f26 = some ⟨oc26, od26, .func (PySem.W.fnOf "_law_in_function" "_law_in_function" (defArgs s__law_in_function) (defBody s__law_in_function) (defScope s__law_in_function) .none kV26 dc26 pm26 an26 cd26 ct26), sl26⟩) (c26 : PySem.W.codeIn K cd26 "_law_in_function" = true) (k26 : PySem.W.keepIn K (.ref f26) = true)
    (a27 : PySem.W.nsIn K mainGlobals "_law_heads_of" = some (some (.ref f27))) (l27 : K.lookup f27 = some ⟨oc27, od27, .func (PySem.W.fnOf "_law_heads_of" "_law_heads_of" (defArgs s__law_heads_of) (defBody s__law_heads_of) (defScope s__law_heads_of) .none kV27 dc27 pm27 an27 cd27 ct27), sl27⟩) (c27 : PySem.W.codeIn K cd27 "_law_heads_of" = true) (k27 : PySem.W.keepIn K (.ref f27) = true)
    (a28 : PySem.W.nsIn K mainGlobals "_law_put" = some (some (.ref f28))) (l28 : K.lookup f28 = some ⟨oc28, od28, .func (PySem.W.fnOf "_law_put" "_law_put" (defArgs s__law_put) (defBody s__law_put) (defScope s__law_put) .none kV28 dc28 pm28 an28 cd28 ct28), sl28⟩) (c28 : PySem.W.codeIn K cd28 "_law_put" = true) (k28 : PySem.W.keepIn K (.ref f28) = true)
    (a29 : PySem.W.nsIn K mainGlobals "_law_all_bare" = some (some (.ref f29))) (l29 : K.lookup f29 = some ⟨oc29, od29, .func (PySem.W.fnOf "_law_all_bare" "_law_all_bare" (defArgs s__law_all_bare) (defBody s__law_all_bare) (defScope s__law_all_bare) .none kV29 dc29 pm29 an29 cd29 ct29), sl29⟩) (c29 : PySem.W.codeIn K cd29 "_law_all_bare" = true) (k29 : PySem.W.keepIn K (.ref f29) = true)
    (a30 : PySem.W.nsIn K mainGlobals "_law_exchanged" = some (some (.ref f30))) (l30 : K.lookup f30 = some ⟨oc30, od30, .func (PySem.W.fnOf "_law_exchanged" "_law_exchanged" (defArgs s__law_exchanged) (defBody s__law_exchanged) (defScope s__law_exchanged) .none kV30 dc30 pm30 an30 cd30 ct30), sl30⟩) (c30 : PySem.W.codeIn K cd30 "_law_exchanged" = true) (k30 : PySem.W.keepIn K (.ref f30) = true)
    (a31 : PySem.W.nsIn K mainGlobals "law" = some (some (.ref f31))) (l31 : K.lookup f31 = some ⟨oc31, od31, .func (PySem.W.fnOf "law" "law" (defArgs s_law) (defBody s_law) (defScope s_law) .none kV31 dc31 pm31 an31 cd31 ct31), sl31⟩) (c31 : PySem.W.codeIn K cd31 "law" = true) (k31 : PySem.W.keepIn K (.ref f31) = true)
    (z_len : PySem.W.nsIn K mainGlobals "len" = some none)
    (z_abs : PySem.W.nsIn K mainGlobals "abs" = some none)
    (z_range : PySem.W.nsIn K mainGlobals "range" = some none)
    (z_isinstance : PySem.W.nsIn K mainGlobals "isinstance" = some none)
    (z_int : PySem.W.nsIn K mainGlobals "int" = some none)
    (z_bool : PySem.W.nsIn K mainGlobals "bool" = some none)
    (z_list : PySem.W.nsIn K mainGlobals "list" = some none)
    (z_tuple : PySem.W.nsIn K mainGlobals "tuple" = some none)
    (i_NUMBER : PySem.W.nsIn K mainGlobals "NUMBER" = some (some (.int 0 tNUMBER)))
    (i_GET : PySem.W.nsIn K mainGlobals "GET" = some (some (.int 1 tGET)))
    (i_SET : PySem.W.nsIn K mainGlobals "SET" = some (some (.int 2 tSET)))
    (i_ALL : PySem.W.nsIn K mainGlobals "ALL" = some (some (.int 3 tALL)))
    (i_PICK : PySem.W.nsIn K mainGlobals "PICK" = some (some (.int 4 tPICK)))
    (i_LOOP : PySem.W.nsIn K mainGlobals "LOOP" = some (some (.int 5 tLOOP)))
    (i_CALL : PySem.W.nsIn K mainGlobals "CALL" = some (some (.int 6 tCALL)))
    (i_FAIL : PySem.W.nsIn K mainGlobals "FAIL" = some (some (.int 7 tFAIL)))
    (i_NEW : PySem.W.nsIn K mainGlobals "NEW" = some (some (.int 19 tNEW)))
    (i_MOST_FUNCTIONS : PySem.W.nsIn K mainGlobals "MOST_FUNCTIONS" = some (some (.int 16 tMOST_FUNCTIONS)))
    (i_MOST_PARAMS : PySem.W.nsIn K mainGlobals "MOST_PARAMS" = some (some (.int 4 tMOST_PARAMS)))
    (i_MOST_BOXES : PySem.W.nsIn K mainGlobals "MOST_BOXES" = some (some (.int 12 tMOST_BOXES)))
    (i_MOST_DEEP : PySem.W.nsIn K mainGlobals "MOST_DEEP" = some (some (.int 10 tMOST_DEEP)))
    (i_MOST_MANY : PySem.W.nsIn K mainGlobals "MOST_MANY" = some (some (.int 12 tMOST_MANY)))
    (i_LEAST_ALL : PySem.W.nsIn K mainGlobals "LEAST_ALL" = some (some (.int 1 tLEAST_ALL)))
    (i_LEAST_PICK : PySem.W.nsIn K mainGlobals "LEAST_PICK" = some (some (.int 2 tLEAST_PICK)))
    (g_PARTS : PySem.W.nsIn K mainGlobals "PARTS" = some (some (.ref aP)))
    (o_PARTS : K.lookup aP = some ⟨.type "tuple", none, .seq #[.int 1 tPARTS0, .int 2 tPARTS1, .int 2 tPARTS2, .int 2 tPARTS3, .int 2 tPARTS4, .int 2 tPARTS5, .int 2 tPARTS6, .int 2 tPARTS7, .int 2 tPARTS8, .int 2 tPARTS9, .int 3 tPARTS10, .int 1 tPARTS11, .int 0 tPARTS12] nPARTS, sPARTS⟩)
    (u_bool : PySem.W.subIn K (.type "int") (.type "bool") = some false)
    (fn_NoSheet___init__ : PySem.W.isFn K (.ref f0) = true)
    (fn_Look___init__ : PySem.W.isFn K (.ref f1) = true)
    (fn_Look_take : PySem.W.isFn K (.ref f2) = true)
    (fn_Look_take_within : PySem.W.isFn K (.ref f3) = true)
    (makes : PySem.W.makesIn K cLook = true)
    (lkp : PySem.W.keepIn K (.ref cLook) = true)
    (pg : PySem.W.plainGet K cLook Str.empty = true)
    (hd : PySem.W.hasDictIn K cLook = true)
    (po : PySem.W.plainOver K cLook = true)
    (sa : PySem.W.findIn K (.ref cLook) "__setattr__" = some (some (.builtin "object.__setattr__")))
    (lnum : PySem.W.findIn K (.ref cLook) "numbers" = some none)
    (lpl : PySem.W.findIn K (.ref cLook) "place" = some none)
    (xN : K.lookup cNoSheet = some (excClassObj nmN qN cNoSheet NN bsN (.ref cChain :: bmValue) true snN subN abN colN ddN k0N k1N k2N k3N k5N "ValueError.__new__"))
    (xC : K.lookup cChain = some ⟨ccC, ddC, .cls ⟨nmC, bsC, mroC, nsC, qC, hdC, snC, subC, abC, colC, delC⟩, slC⟩)
    (xD : K.lookup nsC = some ⟨ccD, ddD, .dict esD nD, slD⟩)
    (xF : PySem.W.nsIn K nsC "__init__" = some none)
    (xkp : PySem.W.keepIn K (.ref cNoSheet) = true)
    (xty : PySem.W.typeIn K (.ref f0) = some (.type "function"))
    (xobj : PySem.W.mroIn K cNoSheet (.type "object") = some true)
    (xbase : PySem.W.mroIn K cNoSheet (.type "BaseException") = some true)
    (xsa : PySem.W.findIn K (.ref cNoSheet) "__setattr__" = some (some (.builtin "object.__setattr__")))
    (xga : PySem.W.findIn K (.ref cNoSheet) "__getattribute__" = some (some (.builtin "BaseException.__getattribute__")))
    (xnh : PySem.W.findIn K (.ref cNoSheet) "__getattr__" = some none)
    (xpl : PySem.W.findIn K (.ref cNoSheet) "place" = some none)
    (xwd : PySem.W.findIn K (.ref cNoSheet) "word" = some none)
    (xm1 : PySem.W.subIn K (.ref cNoSheet) (.ref cNoSheet) = some true)
    (xm2 : PySem.W.typeIn K (.ref cNoSheet) = some (.type "type"))
    (xm3 : PySem.W.isClsIn K cNoSheet = true)
    (xm4 : PySem.W.subIn K (.ref cNoSheet) (.type "BaseException") = some true)
    (xE : (esD.toList.all fun e => match e.key with | .str _ _ => true | _ => false) = true)
    (z_reversed : PySem.W.nsIn K mainGlobals "reversed" = some none)
    (z_max : PySem.W.nsIn K mainGlobals "max" = some none)
    : ∃ fd : FuncData, (∀ (s : Shared) (v : Value), BindsTo s fd ⟨[v], []⟩ [("_law_script", v)]) ∧ ∀ base : Heap, K.In base → base.Ns mainGlobals mg → FnOk l.prog w K mg base (CXE l.prog w) 21 fa fd ["_law_script"] (spLaw K) := by
  have e := hfa.symm.trans (PySem.W.mg_of X G a31)
  cases e
  have F0 := fun_mk (st := s_NoSheet___init__) l0 c0 k0
  have b0 := F0.binds (ps := ["self", "place", "word"]) fun _ _ _ _ _ _ us hl => by obtain ⟨_, _, _, rfl⟩ := ln3 hl; rfl
  have F1 := fun_mk (st := s_Look___init__) l1 c1 k1
  have b1 := F1.binds (ps := ["self", "numbers"]) fun _ _ _ _ _ _ us hl => by obtain ⟨_, _, rfl⟩ := ln2 hl; rfl
  have F2 := fun_mk (st := s_Look_take) l2 c2 k2
  have b2 := F2.binds (ps := ["self"]) fun _ _ _ _ _ _ us hl => by obtain ⟨_, rfl⟩ := ln1 hl; rfl
  have F3 := fun_mk (st := s_Look_take_within) l3 c3 k3
  have b3 := F3.binds (ps := ["self", "least", "most"]) fun _ _ _ _ _ _ us hl => by obtain ⟨_, _, _, rfl⟩ := ln3 hl; rfl
  have F4 := fun_mk (st := s_is_whole) l4 c4 k4
  have b4 := F4.binds (ps := ["thing"]) fun _ _ _ _ _ _ us hl => by obtain ⟨_, rfl⟩ := ln1 hl; rfl
  have m4 := PySem.W.mg_of X G a4
  have F5 := fun_mk (st := s_take_heads) l5 c5 k5
  have b5 := F5.binds (ps := ["look"]) fun _ _ _ _ _ _ us hl => by obtain ⟨_, rfl⟩ := ln1 hl; rfl
  have m5 := PySem.W.mg_of X G a5
  have F6 := fun_mk (st := s_take_own) l6 c6 k6
  have b6 := F6.binds (ps := ["look", "kind", "heads", "boxes"]) fun _ _ _ _ _ _ us hl => by obtain ⟨_, _, _, _, rfl⟩ := ln4 hl; rfl
  have m6 := PySem.W.mg_of X G a6
  have F7 := fun_mk (st := s_parts_of) l7 c7 k7
  have b7 := F7.binds (ps := ["kind"]) fun _ _ _ _ _ _ us hl => by obtain ⟨_, rfl⟩ := ln1 hl; rfl
  have m7 := PySem.W.mg_of X G a7
  have F8 := fun_mk (st := s_parts_due) l8 c8 k8
  have b8 := F8.binds (ps := ["kind", "numbers", "heads"]) fun _ _ _ _ _ _ us hl => by obtain ⟨_, _, _, rfl⟩ := ln3 hl; rfl
  have m8 := PySem.W.mg_of X G a8
  have F9 := fun_mk (st := s_take_node) l9 c9 k9
  have b9 := F9.binds (ps := ["look", "heads", "boxes", "deep"]) fun _ _ _ _ _ _ us hl => by obtain ⟨_, _, _, _, rfl⟩ := ln4 hl; rfl
  have m9 := PySem.W.mg_of X G a9
  have F10 := fun_mk (st := s_functions) l10 c10 k10
  have b10 := F10.binds (ps := ["sheet"]) fun _ _ _ _ _ _ us hl => by obtain ⟨_, rfl⟩ := ln1 hl; rfl
  have m10 := PySem.W.mg_of X G a10
  have F11 := fun_mk (st := s_wrong) l11 c11 k11
  have b11 := F11.binds (ps := ["numbers"]) fun _ _ _ _ _ _ us hl => by obtain ⟨_, rfl⟩ := ln1 hl; rfl
  have m11 := PySem.W.mg_of X G a11
  have F12 := fun_mk (st := s_nodes_in) l12 c12 k12
  have b12 := F12.binds (ps := ["body"]) fun _ _ _ _ _ _ us hl => by obtain ⟨_, rfl⟩ := ln1 hl; rfl
  have m12 := PySem.W.mg_of X G a12
  have F13 := fun_mk (st := s_nodes) l13 c13 k13
  have b13 := F13.binds (ps := ["sheet"]) fun _ _ _ _ _ _ us hl => by obtain ⟨_, rfl⟩ := ln1 hl; rfl
  have m13 := PySem.W.mg_of X G a13
  have F14 := fun_mk (st := s__law_mixed) l14 c14 k14
  have b14 := F14.binds (ps := ["_law_cell", "_law_k"]) fun _ _ _ _ _ _ us hl => by obtain ⟨_, _, rfl⟩ := ln2 hl; rfl
  have m14 := PySem.W.mg_of X G a14
  have F15 := fun_mk (st := s__law_take) l15 c15 k15
  have b15 := F15.binds (ps := ["_law_state", "_law_many_here"]) fun _ _ _ _ _ _ us hl => by obtain ⟨_, _, rfl⟩ := ln2 hl; rfl
  have m15 := PySem.W.mg_of X G a15
  have F16 := fun_mk (st := s__law_heads) l16 c16 k16
  have b16 := F16.binds (ps := ["_law_state"]) fun _ _ _ _ _ _ us hl => by obtain ⟨_, rfl⟩ := ln1 hl; rfl
  have m16 := PySem.W.mg_of X G a16
  have F17 := fun_mk (st := s__law_number) l17 c17 k17
  have b17 := F17.binds (ps := ["_law_state"]) fun _ _ _ _ _ _ us hl => by obtain ⟨_, rfl⟩ := ln1 hl; rfl
  have m17 := PySem.W.mg_of X G a17
  have F18 := fun_mk (st := s__law_leaf) l18 c18 k18
  have b18 := F18.binds (ps := ["_law_state", "_law_boxes"]) fun _ _ _ _ _ _ us hl => by obtain ⟨_, _, rfl⟩ := ln2 hl; rfl
  have m18 := PySem.W.mg_of X G a18
  have F19 := fun_mk (st := s__law_head) l19 c19 k19
  have b19 := F19.binds (ps := ["_law_state", "_law_heads_here", "_law_boxes"]) fun _ _ _ _ _ _ us hl => by obtain ⟨_, _, _, rfl⟩ := ln3 hl; rfl
  have m19 := PySem.W.mg_of X G a19
  have F20 := fun_mk (st := s__law_node) l20 c20 k20
  have b20 := F20.binds (ps := ["_law_state", "_law_heads_here", "_law_boxes", "_law_deep", "_law_room"]) fun _ _ _ _ _ _ us hl => by obtain ⟨_, _, _, _, _, rfl⟩ := ln5 hl; rfl
  have m20 := PySem.W.mg_of X G a20
  have F21 := fun_mk (st := s__law_sheet) l21 c21 k21
  have b21 := F21.binds (ps := ["_law_state", "_law_most"]) fun _ _ _ _ _ _ us hl => by obtain ⟨_, _, rfl⟩ := ln2 hl; rfl
  have m21 := PySem.W.mg_of X G a21
  have F22 := fun_mk (st := s__law_sheet_with) l22 c22 k22
  have b22 := F22.binds (ps := ["_law_state", "_law_heads_here", "_law_most"]) fun _ _ _ _ _ _ us hl => by obtain ⟨_, _, _, rfl⟩ := ln3 hl; rfl
  have m22 := PySem.W.mg_of X G a22
  have F23 := fun_mk (st := s__law_many) l23 c23 k23
  have b23 := F23.binds (ps := ["_law_node_here"]) fun _ _ _ _ _ _ us hl => by obtain ⟨_, rfl⟩ := ln1 hl; rfl
  have m23 := PySem.W.mg_of X G a23
  have F24 := fun_mk (st := s__law_depth) l24 c24 k24
  have b24 := F24.binds (ps := ["_law_node_here"]) fun _ _ _ _ _ _ us hl => by obtain ⟨_, rfl⟩ := ln1 hl; rfl
  have m24 := PySem.W.mg_of X G a24
  have F25 := fun_mk (st := s__law_depths) l25 c25 k25
  have b25 := F25.binds (ps := ["_law_some"]) fun _ _ _ _ _ _ us hl => by obtain ⟨_, rfl⟩ := ln1 hl; rfl
  have m25 := PySem.W.mg_of X G a25
  have F26 := fun_mk (st := s__law_in_function) l26 c26 k26
  have b26 := F26.binds (ps := ["_law_depths_here", "_law_function"]) fun _ _ _ _ _ _ us hl => by obtain ⟨_, _, rfl⟩ := ln2 hl; rfl
  have m26 := PySem.W.mg_of X G a26
  have F27 := fun_mk (st := s__law_heads_of) l27 c27 k27
  have b27 := F27.binds (ps := ["_law_sheet_here"]) fun _ _ _ _ _ _ us hl => by obtain ⟨_, rfl⟩ := ln1 hl; rfl
  have m27 := PySem.W.mg_of X G a27
  have F28 := fun_mk (st := s__law_put) l28 c28 k28
  have b28 := F28.binds (ps := ["_law_sheet_here", "_law_node_here", "_law_numbers"]) fun _ _ _ _ _ _ us hl => by obtain ⟨_, _, _, rfl⟩ := ln3 hl; rfl
  have m28 := PySem.W.mg_of X G a28
  have F29 := fun_mk (st := s__law_all_bare) l29 c29 k29
  have b29 := F29.binds (ps := ["_law_some"]) fun _ _ _ _ _ _ us hl => by obtain ⟨_, rfl⟩ := ln1 hl; rfl
  have m29 := PySem.W.mg_of X G a29
  have F30 := fun_mk (st := s__law_exchanged) l30 c30 k30
  have b30 := F30.binds (ps := ["_law_sheet_here", "_law_some", "_law_at", "_law_numbers", "_law_deep"]) fun _ _ _ _ _ _ us hl => by obtain ⟨_, _, _, _, _, rfl⟩ := ln5 hl; rfl
  have m30 := PySem.W.mg_of X G a30
  have F31 := fun_mk (st := s_law) l31 c31 k31
  refine ⟨PySem.W.fnOf "law" "law" (defArgs s_law) (defBody s_law) (defScope s_law) .none kV31 dc31 pm31 an31 cd31 ct31, fun s v => .of_eq rfl, fun base _ _ => ?_⟩
  have T : Txt K mg aP cLook cNoSheet := by
    refine ⟨PySem.W.mg_none_of X G z_len, PySem.W.mg_none_of X G z_abs, PySem.W.mg_none_of X G z_range, PySem.W.mg_none_of X G z_isinstance, PySem.W.mg_none_of X G z_int, PySem.W.mg_none_of X G z_bool, PySem.W.mg_none_of X G z_list, PySem.W.mg_none_of X G z_tuple, ⟨_, PySem.W.mg_of X G i_NUMBER⟩, ⟨_, PySem.W.mg_of X G i_GET⟩, ⟨_, PySem.W.mg_of X G i_SET⟩, ⟨_, PySem.W.mg_of X G i_ALL⟩, ⟨_, PySem.W.mg_of X G i_PICK⟩, ⟨_, PySem.W.mg_of X G i_LOOP⟩, ⟨_, PySem.W.mg_of X G i_CALL⟩, ⟨_, PySem.W.mg_of X G i_FAIL⟩, ⟨_, PySem.W.mg_of X G i_NEW⟩, ⟨_, PySem.W.mg_of X G i_MOST_FUNCTIONS⟩, ⟨_, PySem.W.mg_of X G i_MOST_PARAMS⟩, ⟨_, PySem.W.mg_of X G i_MOST_BOXES⟩, ⟨_, PySem.W.mg_of X G i_MOST_DEEP⟩, ⟨_, PySem.W.mg_of X G i_MOST_MANY⟩, ⟨_, PySem.W.mg_of X G i_LEAST_ALL⟩, ⟨_, PySem.W.mg_of X G i_LEAST_PICK⟩, PySem.W.mg_of X G g_PARTS, PySem.W.mg_of X G c_NoSheet, ?_, kit_self, kit_of u_bool, kit_self, kit_self, ⟨pg, hd, po, sa⟩, lnum, lpl, ⟨exc_cd xN, xobj, xbase, xsa, xga, xnh⟩, xpl, xwd, ⟨xm1, xm2, xm3, xm4⟩⟩
    exact sqT_of o_PARTS (small (show 13 ≤ 1000 by decide)) (.cons ⟨_, rfl⟩ (.cons ⟨_, rfl⟩ (.cons ⟨_, rfl⟩ (.cons ⟨_, rfl⟩ (.cons ⟨_, rfl⟩ (.cons ⟨_, rfl⟩ (.cons ⟨_, rfl⟩ (.cons ⟨_, rfl⟩ (.cons ⟨_, rfl⟩ (.cons ⟨_, rfl⟩ (.cons ⟨_, rfl⟩ (.cons ⟨_, rfl⟩ (.cons ⟨_, rfl⟩ (.nil))))))))))))))
  have n_reversed := PySem.W.mg_none_of X G z_reversed
  have TM : TxtM mg := ⟨PySem.W.mg_none_of X G z_max⟩
  have X0 : CalX l.prog w K mg base 1 "NoSheet" cNoSheet _ _ := ⟨⟨_, _, ExMk.ofValue ⟨_, _, _, _, _, _, _, _, _, _, _, _, _, _, _, _, xN, exc_tail xC rfl (ns_ok xD xE) xF⟩ a0 xty xkp T.exc, ok_initX T F0, PySem.W.mg_of X G c_NoSheet, b0⟩⟩
  have K1 : CalK l.prog w K mg base (CXE l.prog w) 1 "Look" cLook _ _ := ⟨⟨_, _, ⟨makes, a1, fn_Look___init__, lkp⟩, ok_initL T F1, PySem.W.mg_of X G c_Look, b1⟩⟩
  have C4 : Cal l.prog w K mg base (CXE l.prog w) 1 "is_whole" _ _ := ⟨⟨_, _, ok_whole T F4, m4, k4, b4⟩⟩
  have M2 : CalM l.prog w K mg base (CXE l.prog w) 3 cLook "take" _ _ := ⟨⟨_, _, ok_tk T F2 C4 X0, T.look, ⟨a2, fn_Look_take, k2⟩, b2⟩⟩
  have M3 : CalM l.prog w K mg base (CXE l.prog w) 4 cLook "take_within" _ _ := ⟨⟨_, _, ok_within T F3 M2 X0, T.look, ⟨a3, fn_Look_take_within, k3⟩, b3⟩⟩
  have C5 : Cal l.prog w K mg base (CXE l.prog w) 5 "take_heads" _ _ := ⟨⟨_, _, ok_heads T F5 M3, m5, k5, b5⟩⟩
  have C6 : Cal l.prog w K mg base (CXE l.prog w) 5 "take_own" _ _ := ⟨⟨_, _, ok_own T F6 M2 M3, m6, k6, b6⟩⟩
  have C7 : Cal l.prog w K mg base (CXE l.prog w) 1 "parts_of" _ _ := ⟨⟨_, _, ok_parts T F7, m7, k7, b7⟩⟩
  have C8 : Cal l.prog w K mg base (CXE l.prog w) 2 "parts_due" _ _ := ⟨⟨_, _, ok_due T F8 C7, m8, k8, b8⟩⟩
  have N9 := ok_nodes T F9 X0 M3 C6 C8 m9 k9 b9
  have C9 : Cal l.prog w K mg base (CXE l.prog w) 16 "take_node" _ (spNode cLook cNoSheet 10) := ⟨⟨_, _, N9 10 (Nat.le_refl _), m9, k9, b9⟩⟩
  have C10 : Cal l.prog w K mg base (CXE l.prog w) 17 "functions" _ _ := ⟨⟨_, _, ok_fns T F10 X0 K1 C5 C9, m10, k10, b10⟩⟩
  have C11 : Cal l.prog w K mg base (CXE l.prog w) 18 "wrong" _ _ := ⟨⟨_, _, ok_wrong T F11 C10, m11, k11, b11⟩⟩
  have C14 : Cal l.prog w K mg base (CXE l.prog w) 1 "_law_mixed" _ _ := ⟨⟨_, _, ok_mixed F14, m14, k14, b14⟩⟩
  have C15 : Cal l.prog w K mg base (CXE l.prog w) 2 "_law_take" _ _ := ⟨⟨_, _, ok_take T F15 C14, m15, k15, b15⟩⟩
  have C16 : Cal l.prog w K mg base (CXE l.prog w) 3 "_law_heads" _ _ := ⟨⟨_, _, ok_lheads T F16 C15, m16, k16, b16⟩⟩
  have C17 : Cal l.prog w K mg base (CXE l.prog w) 3 "_law_number" _ _ := ⟨⟨_, _, ok_number T F17 C15, m17, k17, b17⟩⟩
  have C18 : Cal l.prog w K mg base (CXE l.prog w) 4 "_law_leaf" _ _ := ⟨⟨_, _, ok_leaf T F18 C15 C17, m18, k18, b18⟩⟩
  have C19 : Cal l.prog w K mg base (CXE l.prog w) 3 "_law_head" _ _ := ⟨⟨_, _, ok_lhead T F19 C15, m19, k19, b19⟩⟩
  have N20 := ok_lnodes T F20 C18 C19 m20 k20 b20
  have C20 : Cal l.prog w K mg base (CXE l.prog w) 15 "_law_node" _ (spNodeL K 10) := ⟨⟨_, _, N20 10, m20, k20, b20⟩⟩
  have C21 : Cal l.prog w K mg base (CXE l.prog w) 16 "_law_sheet" _ _ := ⟨⟨_, _, ok_lsheet T F21 C15 C16 C20, m21, k21, b21⟩⟩
  have C12 : Cal l.prog w K mg base (CXE l.prog w) 1 "nodes_in" _ _ := ⟨⟨_, _, ok_nodes_in T n_reversed F12, m12, k12, b12⟩⟩
  have C13 : Cal l.prog w K mg base (CXE l.prog w) 18 "nodes" _ _ := ⟨⟨_, _, ok_nodesP T F13 C10 C12, m13, k13, b13⟩⟩
  have C22 : Cal l.prog w K mg base (CXE l.prog w) 16 "_law_sheet_with" _ _ := ⟨⟨_, _, ok_lsheet_with T F22 C15 C20, m22, k22, b22⟩⟩
  have C23 : Cal l.prog w K mg base (CXE l.prog w) 1 "_law_many" _ _ := ⟨⟨_, _, ok_many7 T F23, m23, k23, b23⟩⟩
  have C24 : Cal l.prog w K mg base (CXE l.prog w) 1 "_law_depth" _ _ := ⟨⟨_, _, ok_depth7 TM F24, m24, k24, b24⟩⟩
  have C25 : Cal l.prog w K mg base (CXE l.prog w) 2 "_law_depths" _ _ := ⟨⟨_, _, ok_depths7 T F25 C23, m25, k25, b25⟩⟩
  have C26 : Cal l.prog w K mg base (CXE l.prog w) 1 "_law_in_function" _ _ := ⟨⟨_, _, ok_in_function7 T F26, m26, k26, b26⟩⟩
  have C27 : Cal l.prog w K mg base (CXE l.prog w) 1 "_law_heads_of" _ _ := ⟨⟨_, _, ok_heads_of7 T F27, m27, k27, b27⟩⟩
  have C28 : Cal l.prog w K mg base (CXE l.prog w) 2 "_law_put" _ _ := ⟨⟨_, _, ok_put7 T F28 C23, m28, k28, b28⟩⟩
  have C29 : Cal l.prog w K mg base (CXE l.prog w) 1 "_law_all_bare" _ _ := ⟨⟨_, _, ok_all_bare7 T F29, m29, k29, b29⟩⟩
  have C30 : Cal l.prog w K mg base (CXE l.prog w) 20 "_law_exchanged" _ _ := ⟨⟨_, _, ok_exchanged7 T F30 C23 C25 C28 C29 C11 C13, m30, k30, b30⟩⟩
  exact ok_law7 T F31 C21 C27 C22 C13 C25 C15 C26 C23 C24 C30 C11
theorem walk {l : PySem.W.OpenLaw} {q : Program} {loose : List Str} {XP : (Str → Option Value) → Heap → Prop} {YP : World → Heap → Prop} {d : DefRec} {K : Params → PySem.W.Frag} (hn : l.most = some 63) (hdf : d.params.defaults = [])
    (hY : ∀ (w : World) (h : Heap), YP w h → (K w.params).In h)
    (F : ∀ (w : World) (mg : Str → Option Value) (fa : Addr) (h : Heap), (K w.params).In h → h.Ns mainGlobals mg → mg d.name = some (.ref fa) →
      ∃ fd : FuncData, (∀ (s : Shared) (u : Value), BindsTo s fd ⟨[u], []⟩ [("_law_script", u)]) ∧ ∀ base : Heap, (K w.params).In base → base.Ns mainGlobals mg → FnOk l.prog w (K w.params) mg base (CXE l.prog w) 21 fa fd ["_law_script"] (spLaw (K w.params))) :
    PySem.W.WalkO q loose XP YP l.row.toRowW d [] (fun f vs => PySem.call f vs) :=
  L2.walk_of (n := 63) (k := 21) (x := "_law_script") (CX := fun w => (CXE l.prog w)) (sp := fun w => spLaw (K w.params)) hn (by decide) hdf ⟨rfl, by decide, by decide⟩ hY F (fun _ _ a ns hl hO hS => ⟨a, ns, rfl, Scr.of hO hS, hl, fun _ => rfl⟩) (fun _ _ _ _ _ => cxe_none)
end OcL
open PySem PySem.W PyProof.Rows
set_option maxRecDepth 100000 in
set_option maxHeartbeats 0 in
theorem PySem.Challenge.cw_ownchain_k07_whole_parts_exchanged_holds : PySem.Challenge.rw_ownchain_k07_whole_parts_exchanged.Holds := by
  w_on; o_law; k_head; (case hw => w_witness2)
  k_fill
  refine OcL.walk (l := PySem.Challenge.rw_ownchain_k07_whole_parts_exchanged) rfl rfl (fun w h Y => PySem.W.kIn_of Y) ?F
  case F =>
    intro w mg fa h KX G hmg
    refine' OcL.all_mk KX G hmg ?c_NoSheet ?c_Look ?a0 ?l0 ?c0 ?k0 ?a1 ?l1 ?c1 ?k1 ?a2 ?l2 ?c2 ?k2 ?a3 ?l3 ?c3 ?k3 ?a4 ?l4 ?c4 ?k4 ?a5 ?l5 ?c5 ?k5 ?a6 ?l6 ?c6 ?k6 ?a7 ?l7 ?c7 ?k7 ?a8 ?l8 ?c8 ?k8 ?a9 ?l9 ?c9 ?k9 ?a10 ?l10 ?c10 ?k10 ?a11 ?l11 ?c11 ?k11 ?a12 ?l12 ?c12 ?k12 ?a13 ?l13 ?c13 ?k13 ?a14 ?l14 ?c14 ?k14 ?a15 ?l15 ?c15 ?k15 ?a16 ?l16 ?c16 ?k16 ?a17 ?l17 ?c17 ?k17 ?a18 ?l18 ?c18 ?k18 ?a19 ?l19 ?c19 ?k19 ?a20 ?l20 ?c20 ?k20 ?a21 ?l21 ?c21 ?k21 ?a22 ?l22 ?c22 ?k22 ?a23 ?l23 ?c23 ?k23 ?a24 ?l24 ?c24 ?k24 ?a25 ?l25 ?c25 ?k25 ?a26 ?l26 ?c26 ?k26 ?a27 ?l27 ?c27 ?k27 ?a28 ?l28 ?c28 ?k28 ?a29 ?l29 ?c29 ?k29 ?a30 ?l30 ?c30 ?k30 ?a31 ?l31 ?c31 ?k31 ?z_len ?z_abs ?z_range ?z_isinstance ?z_int ?z_bool ?z_list ?z_tuple ?i_NUMBER ?i_GET ?i_SET ?i_ALL ?i_PICK ?i_LOOP ?i_CALL ?i_FAIL ?i_NEW ?i_MOST_FUNCTIONS ?i_MOST_PARAMS ?i_MOST_BOXES ?i_MOST_DEEP ?i_MOST_MANY ?i_LEAST_ALL ?i_LEAST_PICK ?g_PARTS ?o_PARTS ?u_bool ?fn_NoSheet___init__ ?fn_Look___init__ ?fn_Look_take ?fn_Look_take_within ?makes ?lkp ?pg ?hd ?po ?sa ?lnum ?lpl ?xN ?xC ?xD ?xF ?xkp ?xty ?xobj ?xbase ?xsa ?xga ?xnh ?xpl ?xwd ?xm1 ?xm2 ?xm3 ?xm4 ?xE ?z_reversed ?z_max
    (case c_NoSheet => k_is)
    (case c_Look => k_is)
    (case a0 => k_is)
    (case l0 => k_is)
    (case c0 => k_is)
    (case k0 => k_is)
    (case a1 => k_is)
    (case l1 => k_is)
    (case c1 => k_is)
    (case k1 => k_is)
    (case a2 => k_is)
    (case l2 => k_is)
    (case c2 => k_is)
    (case k2 => k_is)
    (case a3 => k_is)
    (case l3 => k_is)
    (case c3 => k_is)
    (case k3 => k_is)
    (case a4 => k_is)
    (case l4 => k_is)
    (case c4 => k_is)
    (case k4 => k_is)
    (case a5 => k_is)
    (case l5 => k_is)
    (case c5 => k_is)
    (case k5 => k_is)
    (case a6 => k_is)
    (case l6 => k_is)
    (case c6 => k_is)
    (case k6 => k_is)
    (case a7 => k_is)
    (case l7 => k_is)
    (case c7 => k_is)
    (case k7 => k_is)
    (case a8 => k_is)
    (case l8 => k_is)
    (case c8 => k_is)
    (case k8 => k_is)
    (case a9 => k_is)
    (case l9 => k_is)
    (case c9 => k_is)
    (case k9 => k_is)
    (case a10 => k_is)
    (case l10 => k_is)
    (case c10 => k_is)
    (case k10 => k_is)
    (case a11 => k_is)
    (case l11 => k_is)
    (case c11 => k_is)
    (case k11 => k_is)
    (case a12 => k_is)
    (case l12 => k_is)
    (case c12 => k_is)
    (case k12 => k_is)
    (case a13 => k_is)
    (case l13 => k_is)
    (case c13 => k_is)
    (case k13 => k_is)
    (case a14 => k_is)
    (case l14 => k_is)
    (case c14 => k_is)
    (case k14 => k_is)
    (case a15 => k_is)
    (case l15 => k_is)
    (case c15 => k_is)
    (case k15 => k_is)
    (case a16 => k_is)
    (case l16 => k_is)
    (case c16 => k_is)
    (case k16 => k_is)
    (case a17 => k_is)
    (case l17 => k_is)
    (case c17 => k_is)
    (case k17 => k_is)
    (case a18 => k_is)
    (case l18 => k_is)
    (case c18 => k_is)
    (case k18 => k_is)
    (case a19 => k_is)
    (case l19 => k_is)
    (case c19 => k_is)
    (case k19 => k_is)
    (case a20 => k_is)
    (case l20 => k_is)
    (case c20 => k_is)
    (case k20 => k_is)
    (case a21 => k_is)
    (case l21 => k_is)
    (case c21 => k_is)
    (case k21 => k_is)
    (case a22 => k_is)
    (case l22 => k_is)
    (case c22 => k_is)
    (case k22 => k_is)
    (case a23 => k_is)
    (case l23 => k_is)
    (case c23 => k_is)
    (case k23 => k_is)
    (case a24 => k_is)
    (case l24 => k_is)
    (case c24 => k_is)
    (case k24 => k_is)
    (case a25 => k_is)
    (case l25 => k_is)
    (case c25 => k_is)
    (case k25 => k_is)
    (case a26 => k_is)
    (case l26 => k_is)
    (case c26 => k_is)
    (case k26 => k_is)
    (case a27 => k_is)
    (case l27 => k_is)
    (case c27 => k_is)
    (case k27 => k_is)
    (case a28 => k_is)
    (case l28 => k_is)
    (case c28 => k_is)
    (case k28 => k_is)
    (case a29 => k_is)
    (case l29 => k_is)
    (case c29 => k_is)
    (case k29 => k_is)
    (case a30 => k_is)
    (case l30 => k_is)
    (case c30 => k_is)
    (case k30 => k_is)
    (case a31 => k_is)
    (case l31 => k_is)
    (case c31 => k_is)
    (case k31 => k_is)
    (case z_len => k_is)
    (case z_abs => k_is)
    (case z_range => k_is)
    (case z_isinstance => k_is)
    (case z_int => k_is)
    (case z_bool => k_is)
    (case z_list => k_is)
    (case z_tuple => k_is)
    (case i_NUMBER => k_is)
    (case i_GET => k_is)
    (case i_SET => k_is)
    (case i_ALL => k_is)
    (case i_PICK => k_is)
    (case i_LOOP => k_is)
    (case i_CALL => k_is)
    (case i_FAIL => k_is)
    (case i_NEW => k_is)
    (case i_MOST_FUNCTIONS => k_is)
    (case i_MOST_PARAMS => k_is)
    (case i_MOST_BOXES => k_is)
    (case i_MOST_DEEP => k_is)
    (case i_MOST_MANY => k_is)
    (case i_LEAST_ALL => k_is)
    (case i_LEAST_PICK => k_is)
    (case g_PARTS => k_is)
    (case o_PARTS => k_is)
    (case u_bool => k_is)
    (case fn_NoSheet___init__ => k_is)
    (case fn_Look___init__ => k_is)
    (case fn_Look_take => k_is)
    (case fn_Look_take_within => k_is)
    (case makes => k_is)
    (case lkp => k_is)
    (case pg => k_is)
    (case hd => k_is)
    (case po => k_is)
    (case sa => k_is)
    (case lnum => k_is)
    (case lpl => k_is)
    (case xN => k_is)
    (case xC => k_is)
    (case xD => k_is)
    (case xF => k_is)
    (case xkp => k_is)
    (case xty => k_is)
    (case xobj => k_is)
    (case xbase => k_is)
    (case xsa => k_is)
    (case xga => k_is)
    (case xnh => k_is)
    (case xpl => k_is)
    (case xwd => k_is)
    (case xm1 => k_is)
    (case xm2 => k_is)
    (case xm3 => k_is)
    (case xm4 => k_is)
    (case xE => rfl)
    (case z_reversed => k_is)
    (case z_max => k_is)
