import PyProof.Rows.All
import PyProof.Rows.SumAny
import PyProof.TupleIter
import PyProof.Draws
import PyProof.Rows.TupAdd
import PyProof.SumAny
import KE.KSortTup
import PyProof.Rows.SortRunsK
import PyProof.AutoSeq1
import PyProof.LayNew
import PyProof.EnumFor
import PyProof.EnumStmt
import PyProof.EnumMake
import PyProof.ConsumeWalk
import KE.KRevSl
import KE.KRevIter
import Wide.All
import OpenK.AllK
import Wide.FinOn
import Lean
import PyProof.EqAt
import PyProof.EqKinds
import PyProof.TupleCall
import PyProof.NeKinds
import PySem.Challenge.RW_ownchain_k31_codes_and_papers_made
set_option genInjectivity false
set_option genSizeOfSpec false
set_option Elab.async false
set_option linter.all false
set_option maxRecDepth 100000
namespace L2
open PySem PySem.Spec PyProof.Rows

noncomputable abbrev Key:=Sum Int Str
noncomputable def keyIs:Key->Value->Bool
 | .inl k,v=>Value.isInt k v
 | .inr x,v=>Value.isStrOf x v
noncomputable def keyH (w:World):Key->Int
 | .inl k=>hashInt k
 | .inr x=>hashStr w x
theorem xI:∀ {k:Key} {v:Value},keyIs k v=true->(∃ i t,k=Sum.inl i/\v=Value.int i t)\/(∃ x t,k=Sum.inr x/\v=Value.str x t)
 | .inl i,v,h=>by
  obtain ⟨t,e⟩ := Value.isInt_shape (k:=i) (v:=v) h
  exact .inl ⟨i,t,rfl,e⟩
 | .inr x,v,h=>by
  obtain ⟨t,e⟩ := Value.isStrOf_shape (x:=x) (v:=v) h
  exact .inr ⟨x,t,rfl,e⟩
theorem key_ll (a b:Int):decide ((Sum.inl a:Key)=Sum.inl b)=(a == b):=by
 by_cases e:a=b
 ·subst e; simp
 ·have h:¬ (Sum.inl a:Key)=Sum.inl b:=fun q=>e (Sum.inl.inj q)
  rw [decide_eq_false h]
  exact (beq_eq_false_iff_ne.mpr e).symm
theorem key_rr (a b:Str):decide ((Sum.inr a:Key)=Sum.inr b)=decide (a=b):=by
 by_cases e:a=b
 ·subst e; simp
 ·have h:¬ (Sum.inr a:Key)=Sum.inr b:=fun q=>e (Sum.inr.inj q)
  rw [decide_eq_false h,decide_eq_false e]
theorem key_lr (a:Int) (b:Str):decide ((Sum.inl a:Key)=Sum.inr b)=false:=decide_eq_false (fun q=>nomatch q)
theorem key_rl (a:Str) (b:Int):decide ((Sum.inr a:Key)=Sum.inl b)=false:=decide_eq_false (fun q=>nomatch q)

noncomputable def mixKind (prog:Program) (w:World):PySem.KeyKind prog w Key where
 is:=keyIs
 hash:=keyH w
 inj:=fun v a b ha hb=>by
  rcases xI ha with ⟨i,t,rfl,rfl⟩ | ⟨x,t,rfl,rfl⟩
  ·rcases xI hb with ⟨j,u,rfl,e⟩ | ⟨y,u,rfl,e⟩
   ·injection e with e1 _; rw [e1]
   ·exact nomatch e
  ·rcases xI hb with ⟨j,u,rfl,e⟩ | ⟨y,u,rfl,e⟩
   ·exact nomatch e
   ·injection e with e1 _; rw [e1]
 byValue:=fun k v h=>by
  rcases xI h with ⟨i,t,rfl,rfl⟩ | ⟨x,t,rfl,rfl⟩ <;> rfl
 pyHash:=fun hv h=>by
  rcases xI hv with ⟨i,t,rfl,rfl⟩ | ⟨x,t,rfl,rfl⟩
  ·exact wpAny_pyHash_int h
  ·exact wpAny_pyHash_str h
 eqBool:=fun hu hv h=>by
  rcases xI hu with ⟨i,t,rfl,rfl⟩ | ⟨x,t,rfl,rfl⟩
  ·rcases xI hv with ⟨j,u,rfl,rfl⟩ | ⟨y,u,rfl,rfl⟩
   ·rw [key_ll] at h; exact wpAny_eqBool_int h
   ·rw [key_lr] at h; exact SeqAt.EqAt.int_str i t y u _ _ _ _ h
  ·rcases xI hv with ⟨j,u,rfl,rfl⟩ | ⟨y,u,rfl,rfl⟩
   ·rw [key_rl] at h; exact SeqAt.EqAt.str_int x t j u _ _ _ _ h
   ·rw [key_rr] at h; exact wpAny_eqBool_str h
 «strs» := fun k x t v h=>by
  rcases xI h with ⟨i,u,rfl,e⟩ | ⟨y,u,rfl,e⟩
  ·exact nomatch e
  ·injection e with e1 _
   subst e1
   cases v <;> rfl

end L2

namespace L2
open PySem PySem.Spec PyProof.Rows

inductive V where
 | non | bl (b:Bool) | int (i:Int) | str (x:Str) | byt (b:Array UInt8) | flt (b:UInt64) | ref (a:Addr) | ty (n:String)
 deriving DecidableEq

noncomputable def RelV:V->Value->Prop
 | .non,u=>u=Value.none
 | .bl b,u=>u=Value.bool b
 | .int i,u=>∃ t,u=Value.int i t
 | .str x,u=>∃ t,u=Value.str x t
 | .byt b,u=>∃ t,u=Value.bytes b t
 | .flt b,u=>∃ t,u=Value.float b t
 | .ref a,u=>u=Value.ref a
 | .ty n,u=>u=Value.type n

noncomputable abbrev Vals:List V->List Value->Prop:=Paired RelV
theorem Vals.length {xs:List V} {us:List Value} (r:Vals xs us):xs.length=us.length:=Paired.length r
theorem Vals.get:∀ {xs:List V} {us:List Value} {i:Nat} {x:V},Vals xs us->xs[i]? = some x->∃ u,us[i]? = some u/\RelV x u
 | _,_,_,_,.nil,e=>by simp at e
 | _,_,0,_,.cons r _,e=>by simp at e; subst e; exact ⟨_,rfl,r⟩
 | _,_,i+1,x,.cons _ t,e=>by
  obtain ⟨u,h1,h2⟩ := Vals.get (i:=i) (x:=x) t (by simpa using e)
  exact ⟨u,by simpa using h1,h2⟩
theorem Vals.set {x:V} {u:Value} (r:RelV x u):∀ {xs:List V} {us:List Value} (i:Nat),Vals xs us->Vals (xs.set i x) (us.set i u)
 | _,_,_,.nil => .nil
 | _,_,0,.cons _ t => .cons r t
 | _,_,i+1,.cons q t => .cons q (Vals.set r i t)
theorem Vals.append:∀ {xs ys:List V} {us ws:List Value},Vals xs us->Vals ys ws->Vals (xs++ys) (us++ws)
 | _,_,_,_,.nil,s=>s
 | _,_,_,_,.cons r t,s => .cons r (Vals.append t s)
theorem Vals.take:∀ {xs:List V} {us:List Value} (n:Nat),Vals xs us->Vals (xs.take n) (us.take n)
 | _,_,0,_ => .nil
 | _,_,_+1,.nil => .nil
 | _,_,n+1,.cons r t => .cons r (Vals.take n t)
theorem Vals.drop:∀ {xs:List V} {us:List Value} (n:Nat),Vals xs us->Vals (xs.drop n) (us.drop n)
 | _,_,0,r=>r
 | _,_,_+1,.nil => .nil
 | _,_,n+1,.cons _ t=>Vals.drop n t
noncomputable def RelO:Option V->Option Value->Prop
 | some v,some u=>RelV v u
 | none,none=>True
 | _,_=>False
noncomputable def KV {κ:Type}:List (κ × V)->List (κ × Value)->Prop:=Paired fun (p : κ × V) (q : κ × Value)=>p.1=q.1/\RelV p.2 q.2

noncomputable def kV:Key->V
 | .inl i => .int i
 | .inr x => .str x

inductive HO where
 | lst (xs:List V)
 | tup (xs:List V)
 | dK (kvs:List (Key × V)) | dT (kvs:List (List Key × V))
 | set (S:Int->Bool) (n:Nat)
 | ins (C dx:Addr) (fs:List (Str × V))
 | own (x:Addr)
 | xd (fs:List (Str × V))
 | met (f x:Addr)
 | rng (lo hi:Int)
 | frz (o:Obj) (u:HO)
 | tbl (ps:Array Value)
 | ext (φ:Heap->Prop)

noncomputable abbrev Hp:=Addr->Option HO
noncomputable def upd (H:Hp) (a:Addr) (o:HO):Hp:=fun b=>if b=a then some o else H b
theorem zB {H:Hp} {a:Addr} {o:HO}:upd H a o a=some o:=by unfold upd; rw [if_pos rfl]
theorem zK {H:Hp} {a b:Addr} {o:HO} (h:b≠a):upd H a o b=H b:=by unfold upd; rw [if_neg h]
theorem upd_upd {H:Hp} {a:Addr} {o u:HO}:upd (upd H a o) a u=upd H a u:=by
 funext b; unfold upd; split <;> rfl
theorem zO {H:Hp} {a b:Addr} {o:HO} (h:H a=some o) (h':H b=none):a≠b:=by
 intro e; subst e; rw [h] at h'; cases h'

section
variable (P:Program) (w:World)
noncomputable def ObjOk (H:Hp) (h:Heap) (a:Addr):HO->Prop
 | .lst xs=>xs.length<=sizeLine/\∃ (its:List Value) (n:Nat),Vals xs its/\h.get? a=some { cls:=.type "list",data:=.seq its.toArray n }
 | .tup xs=>xs.length<=sizeLine/\∃ its:List Value,Vals xs its/\IsTup h a its.toArray
 | .dK kvs=>kvs.length<=sizeLine/\(a == sysModules)=false/\∃ vs,KV kvs vs/\h.DictOf (mixKind P w) a vs
 | .dT kvs=>kvs.length<=sizeLine/\(a == sysModules)=false/\∃ xs:List (List Key × Addr × Value),
   Paired (fun (p:List Key × V) (q:List Key × Addr × Value)=>p.1=q.1/\H q.2.1=some (.tup (p.1.map kV))/\RelV p.2 q.2.2) kvs xs /\
   ∃ o es ep,h.get? a=some o/\o.ExactDict/\o.data = .dict es ep/\es.toList=xs.map (entryOfKey (tupleKind (mixKind P w)))/\(xs.map (·.1)).Nodup
 | .set S n=>h.SetOf (intKind P w) a S n
 | .ins C dx fs=>H dx=some (.own a)/\fs.length<=1000/\dx≠a/\h.get? a=some (PySem.W.instObj C dx) /\
   ∃ mA,h.Ns1 dx mA/\(∀ f,RelO (fs.lookup f) (mA f))/\PySem.Within mA (fs.map (·.1))
 | .own _=>∃ o,h.get? a=some o
 | .xd fs=>∃ mA,h.Ns1 a mA/\∀ f,RelO (fs.lookup f) (mA f)
 | .rng lo hi=>∃ t u v,h.get? a=some { cls:=.type "range",data:=.fields #[.int lo t,.int hi u,.int 1 v] }
 | .frz o u=>h.get? a=some o/\ObjOk H h a u
 | .tbl ps=>h.get? a=some { cls:=.none,data:=.fields ps }
 | .met f x=>h.get? a=some (PySem.W.methodObj (.ref f) (.ref x))
 | .ext φ=>φ h/\(∃ o,h.get? a=some o)/\∀ h1 h2:Heap,φ h1->(∀ o,h1.get? a=some o->h2.get? a=some o)->φ h2
noncomputable def HOk (H:Hp) (h:Heap):Prop:=∀ a o,H a=some o->ObjOk P w H h a o
end

section
variable {P:Program} {w:World} {H H':Hp} {h h':Heap} {a:Addr} {o:HO}
theorem ObjOk.lt (x:ObjOk P w H h a o):a<h.objs.size:=by
 cases o with
 | lst xs=>obtain ⟨_,_,_,_,e⟩ := x; exact Heap.lt_size e
 | tup xs=>obtain ⟨_,_,_,p⟩ := x; exact p.lt
 | dK kvs=>obtain ⟨_,_,_,_,o,_,_,e,_⟩ := x; exact Heap.lt_size e
 | dT kvs=>obtain ⟨_,_,_,_,o,_,_,e,_⟩ := x; exact Heap.lt_size e
 | set S n=>obtain ⟨o,_,_,_,e,_⟩ := x; exact Heap.lt_size e
 | ins C dx fs=>obtain ⟨_,_,_,e,_⟩ := x; exact Heap.lt_size e
 | own y=>obtain ⟨_,e⟩ := x; exact Heap.lt_size e
 | xd fs=>obtain ⟨_,⟨_,_,_,e,_⟩,_⟩ := x; exact Heap.lt_size e
 | rng lo hi=>obtain ⟨_,_,_,e⟩ := x; exact Heap.lt_size e
 | frz ob u=>obtain ⟨e,_⟩ := x; exact Heap.lt_size e
 | tbl ps=>exact Heap.lt_size (show h.get? a=some _ from x)
 | met f y=>exact Heap.lt_size (show h.get? a=some _ from x)
 | ext φ=>obtain ⟨_,⟨_,e⟩,_⟩ := x; exact Heap.lt_size e
theorem Paired.mapP {α β:Type} {F G : α->β->Prop}:∀ {l₁:List α} {l₂:List β},Paired F l₁ l₂->(∀ a b,F a b->G a b)->Paired G l₁ l₂
 | _,_,.nil,_ => .nil
 | _,_,.cons r t,f => .cons (f _ _ r) (Paired.mapP t f)
theorem ObjOk.stay (x:ObjOk P w H h a o) (k:∀ b u,(b=a\/H b=some (.own a))->h.get? b=some u->h'.get? b=some u)
  (ho:∀ b,H b=some (.own a)->H' b=some (.own a)) (ht:∀ b xs,H b=some (.tup xs)->H' b=some (.tup xs)):ObjOk P w H' h' a o:=by
 induction o with
 | lst xs=>obtain ⟨z,its,n,r,e⟩ := x; exact ⟨z,its,n,r,k _ _ (.inl rfl) e⟩
 | tup xs=>obtain ⟨z,its,r,ob,e,c⟩ := x; exact ⟨z,its,r,ob,k _ _ (.inl rfl) e,c⟩
 | dK kvs=>obtain ⟨z,y,vs,r,ob,es,ep,e,c⟩ := x; exact ⟨z,y,vs,r,ob,es,ep,k _ _ (.inl rfl) e,c⟩
 | dT kvs =>
  obtain ⟨z,y,xs,r,ob,es,ep,e,c⟩ := x
  exact ⟨z,y,xs,Paired.mapP r fun p q z=>⟨z.1,ht _ _ z.2.1,z.2.2⟩,ob,es,ep,k _ _ (.inl rfl) e,c⟩
 | set S n=>obtain ⟨ob,es,ep,t,e,c⟩ := x; exact ⟨ob,es,ep,t,k _ _ (.inl rfl) e,c⟩
 | ins C dx fs =>
  obtain ⟨d,z,ne,e,mA,⟨od,es,ep,e2,c⟩,r⟩ := x
  exact ⟨ho _ d,z,ne,k _ _ (.inl rfl) e,mA,⟨od,es,ep,k _ _ (.inr d) e2,c⟩,r⟩
 | own y=>obtain ⟨ob,e⟩ := x; exact ⟨ob,k _ _ (.inl rfl) e⟩
 | xd fs=>obtain ⟨mA,⟨od,es,ep,e,c⟩,r⟩ := x; exact ⟨mA,⟨od,es,ep,k _ _ (.inl rfl) e,c⟩,r⟩
 | rng lo hi=>obtain ⟨t,u,v,e⟩ := x; exact ⟨t,u,v,k _ _ (.inl rfl) e⟩
 | frz ob u ih=>obtain ⟨e,q⟩ := x; exact ⟨k _ _ (.inl rfl) e,ih q⟩
 | tbl ps =>
  have e:h.get? a=some { cls:=.none,data:=.fields ps }:=x
  show h'.get? a=some { cls:=.none,data:=.fields ps }
  exact k a _ (.inl rfl) e
 | met f y =>
  have e:h.get? a=some (PySem.W.methodObj (.ref f) (.ref y)):=x
  show h'.get? a=some (PySem.W.methodObj (.ref f) (.ref y))
  exact k a _ (.inl rfl) e
 | ext φ=>obtain ⟨p,⟨o,e⟩,st⟩ := x; exact ⟨st _ _ p fun o q=>k _ _ (.inl rfl) q,⟨o,k _ _ (.inl rfl) e⟩,st⟩
theorem HOk.lt (x:HOk P w H h) (e:H a=some o):a<h.objs.size:=(x a o e).lt
theorem HOk.fresh (x:HOk P w H h) (e:h.objs.size<=a):H a=none:=by
 cases q:H a with
 | none=>rfl
 | some u=>exact absurd (Nat.lt_of_lt_of_le (x.lt q) e) (Nat.lt_irrefl _)
theorem HOk.kept (x:HOk P w H h) (k:∀ b u,h.get? b=some u->h'.get? b=some u):HOk P w H h':=fun a o e =>
 (x a o e).stay (fun b u _ q=>k b u q) (fun _ q=>q) fun _ _ q=>q
theorem HOk.laid (x:HOk P w H h) (k:∀ b u,h.get? b=some u->h'.get? b=some u) (hp:h.objs.size<=a) (new:ObjOk P w (upd H a o) h' a o):HOk P w (upd H a o) h':=fun b u e=>by
 have hn:=x.fresh hp
 by_cases hb:b=a
 ·subst hb; rw [zB] at e; cases e; exact new
 ·rw [zK hb] at e
  exact (x b u e).stay (fun c v _ q=>k c v q) (fun c q=>by rw [zK (zO q hn)]; exact q) fun c xs q=>by rw [zK (zO q hn)]; exact q
end

noncomputable def Rd (H:Hp) (a:Addr) (u:HO):Prop:=H a=some u\/∃ o,H a=some (.frz o u)
theorem Rd.ok {P:Program} {w:World} {H:Hp} {h:Heap} {a:Addr} {u:HO} (r:Rd H a u) (x:HOk P w H h):ObjOk P w H h a u:=by
 rcases r with r | ⟨o,r⟩
 ·exact x a u r
 ·obtain ⟨_,q⟩ := x a _ r
  exact q
noncomputable def Mut:Option HO->Prop
 | some (.lst _)=>True
 | some (.dK _)=>True
 | some (.dT _)=>True
 | some (.set _ _)=>True
 | some (.ins _ _ _)=>True
 | some (.ext _)=>True
 | _=>False
section
variable {P:Program} {w:World} {H:Hp} {h h':Heap} {x e:Addr} {o':HO}
theorem HOk.write (ok:HOk P w H h) (mu:Mut (H x)) (he:e=x\/H e=some (.own x)) (k:∀ b u,b≠e->h.get? b=some u->h'.get? b=some u) (heo:∃ u,h'.get? e=some u)
  (new:ObjOk P w (upd H x o') h' x o'):HOk P w (upd H x o') h':=fun b u q=>by
 have nown:∀ c y,H c=some (.own y)->c≠x:=fun c y r z=>by subst z; rw [r] at mu; exact mu
 have ntup:∀ c xs,H c=some (.tup xs)->c≠x:=fun c xs r z=>by subst z; rw [r] at mu; exact mu
 by_cases hb:b=x
 ·subst hb; rw [zB] at q; cases q; exact new
 ·rw [zK hb] at q
  by_cases hbe:b=e
  ·have q':H b=some (.own x):=by
    rcases he with z | z
    ·exact absurd (hbe.trans z) hb
    ·rw [hbe]; exact z
   rw [q] at q'; cases q'
   obtain ⟨v,hv⟩ := heo
   exact ⟨v,by rw [hbe]; exact hv⟩
  ·refine (ok b u q).stay (fun c v hc r=>k c v ?_ r) (fun c r=>by rw [zK (nown c b r)]; exact r) fun c xs r=>by rw [zK (ntup c xs r)]; exact r
   rcases hc with rfl | hc
   ·exact hbe
   ·rintro rfl
    rcases he with z | z
    ·exact nown c b hc z
    ·rw [hc] at z; cases z; exact hb rfl
end

structure Un (fs ex:List Addr) (H H':Hp) (h h':Heap):Prop where
 keep:∀ b o,h.get? b=some o->H b=none->b ∉ fs->b ∉ ex->h'.get? b=some o
 slot:∀ b o,h.get? b=some o->H b=none->b∈fs->b ∉ ex->∃ sl,h'.get? b=some { o with slots:=sl }
 free:∀ b o,h.get? b=some o->H b=none->b ∉ ex->H' b=none
 there:∀ b o,h.get? b=some o->b ∉ ex->∃ o',h'.get? b=some o'
 tups:∀ b xs,H b=some (.tup xs)->H' b=some (.tup xs)
 frzs:∀ b o u,H b=some (.frz o u)->H' b=some (.frz o u)
 tbls:∀ b ps,H b=some (.tbl ps)->∃ more,H' b=some (.tbl (ps++more))
section
variable {fs fs' ex ex':List Addr} {H H1 H2:Hp} {h h1 h2 h':Heap} {a x e:Addr} {o:HO}
theorem Un.any (u:Un fs ex H H1 h h1) {b:Addr} {ob:Obj} (q:h.get? b=some ob) (n:H b=none) (hx:b ∉ ex):∃ sl,h1.get? b=some { ob with slots:=sl }:=by
 by_cases hb:b∈fs
 ·exact u.slot b ob q n hb hx
 ·exact ⟨ob.slots,u.keep b ob q n hb hx⟩
theorem Un.kept (k:∀ b u,h.get? b=some u->h'.get? b=some u):Un fs ex H H h h' :=
 ⟨fun b ob q _ _ _=>k b ob q,fun b ob q _ _ _=>⟨ob.slots,k b ob q⟩,fun _ _ _ n _=>n,fun b ob q _=>⟨ob,k b ob q⟩,fun _ _ q=>q,fun _ _ _ q=>q,fun _ ps q=>⟨#[],by rw [q]; simp⟩⟩
theorem Un.refl:Un fs ex H H h h:=Un.kept fun _ _ q=>q
theorem Un.laid (k:∀ b u,h.get? b=some u->h'.get? b=some u) (hp:h.objs.size<=a) (hn:H a=none):Un fs ex H (upd H a o) h h' where
 keep:=fun b u q _ _ _=>k b u q
 slot:=fun b u q _ _ _=>⟨u.slots,k b u q⟩
 free:=fun b u q n _=>by rw [zK (Nat.ne_of_lt (Nat.lt_of_lt_of_le (Heap.lt_size q) hp))]; exact n
 there:=fun b u q _=>⟨u,k b u q⟩
 tups:=fun b xs q=>by rw [zK (zO q hn)]; exact q
 frzs:=fun b u xs q=>by rw [zK (zO q hn)]; exact q
 tbls:=fun b ps q=>⟨#[],by rw [zK (zO q hn),q]; simp⟩
theorem Un.write (mu:Mut (H x)) (he:e=x\/H e=some (.own x)) (k:∀ b u,b≠e->h.get? b=some u->h'.get? b=some u) (heo:∃ u,h'.get? e=some u):Un fs ex H (upd H x o) h h':=by
 have hx:∀ b,H b=none->b≠x:=fun b n z=>by subst z; rw [n] at mu; exact mu
 have hb:∀ b,H b=none->b≠e:=fun b n z=>by
  subst z
  rcases he with r | r
  ·exact hx b n r
  ·rw [n] at r; cases r
 have hm:∀ b u,H b=some u->¬ Mut (some u)->b≠x:=fun b u q nm z=>by subst z; rw [q] at mu; exact nm mu
 refine ⟨fun b u q n _ _=>k b u (hb b n) q,fun b u q n _ _=>⟨u.slots,k b u (hb b n) q⟩,fun b u q n _=>by rw [zK (hx b n)]; exact n,fun b u q _ => ?_,
  fun b xs q=>by rw [zK (hm b _ q fun z=>z)]; exact q,fun b u xs q=>by rw [zK (hm b _ q fun z=>z)]; exact q,fun b ps q=>⟨#[],by rw [zK (hm b _ q fun z=>z),q]; simp⟩⟩
 by_cases hbe:b=e
 ·subst hbe; exact heo
 ·exact ⟨u,k b u hbe q⟩
end

noncomputable def trk (h:Heap) (H:Hp):List Addr:=(List.range h.objs.size).filter fun a=>(H a).isSome
noncomputable def hidT (h:Heap) (H:Hp):Heap:=PySem.W.hideAll h (trk h H)
theorem hidT_size (h:Heap) (H:Hp):(hidT h H).objs.size=h.objs.size:=PySem.W.hideAll_size _ _
theorem hidT_get {h:Heap} {H:Hp} {b:Addr} {o:Obj} (e:h.get? b=some o) (n:H b=none):(hidT h H).get? b=some o :=
 PySem.W.hideAll_get _ e fun hm=>by
  have q:(H b).isSome=true:=(List.mem_filter.mp hm).2
  rw [n] at q; simp at q
theorem of_hidT {h:Heap} {H:Hp} {b:Addr} {o:Obj} (e:(hidT h H).get? b=some o):h.get? b=some o/\H b=none:=by
 have e':h.get? b=some o:=PySem.W.of_hideAll (trk h H) e
 refine ⟨e',?_⟩
 cases q:H b with
 | none=>rfl
 | some x =>
  have hm:b∈trk h H:=List.mem_filter.mpr ⟨List.mem_range.mpr (Heap.lt_size e'),by simp [q]⟩
  have z:(hidT h H).get? b=none:=PySem.W.hideAll_none (trk h H) hm
  rw [z] at e; cases e

noncomputable def allNews (g h:Heap) (L:Addr):List (Addr × Obj):=(List.range h.objs.size).filterMap fun a=>if a=L\/(g.get? a).isSome=true then none else (h.get? a).map fun o=>(a,o)
noncomputable def rest (g h:Heap) (L d:Addr):List (Addr × Obj):=(allNews g h L).filter fun p=>decide (p.1≠d)
end L2

namespace L2
open PySem PySem.Spec PyProof.Rows

structure Mod (K:PySem.W.Frag) (mg:Str->Option Value) (base:Heap):Prop where
 kin:K.In base
 glob:base.Ns mainGlobals mg
 blt:∃ mb,base.Ns builtinsNs mb/\∀ x:Str,x ≠ "__name__" -> mb x=bootBuiltins x
 nolimit:base.NoLimit

structure Cx where
 prog:Program
 w:World
 K:PySem.W.Frag
 mg:Str->Option Value
 base:Heap
 A:Around
 N:List Str
 s₀:Shared
 H₀:Hp
 env:Env
 outer:List Env
 stack:List Env
 ex:List Addr
 fn:Str->Bool
 calm:Bool
 pn:List (Addr × Obj)
 xe:Value->Shared->Prop
noncomputable def frs (l:List Env):List Addr:=l.filterMap (·.frame)
noncomputable abbrev Cx.fs (X:Cx):List Addr:=frs X.outer

noncomputable def Vis (sc:Scope) (x:Str):Prop:=sc.names.lookup x=some .local\/sc.names.lookup x=some .cell\/sc.names.lookup x=some .free
noncomputable def Loc (sc:Scope) (x:Str):Prop:=sc.names.lookup x=some .local\/sc.names.lookup x=some .cell
noncomputable def Look (env:Env) (h:Heap) (m:Str->Option Value) (x:Str) (u:Value):Prop :=
 (env.kindOf x=some .local/\m x=some u)\/((env.kindOf x=some .cell\/env.kindOf x=some .free)/\∃ c,env.cells.lookup x=some c/\h.IsCell c (some u))

structure Cx.Ok (X:Cx):Prop where
 mod:Mod X.K X.mg X.base
 kind:X.env.scope.kind = .function
 glob:X.env.globals=mainGlobals
 blt:X.env.builtins=builtinsNs
 above:X.s₀.heap.objs.size<=X.env.locals
 inj:∀ x y c,X.env.cells.lookup x=some c->X.env.cells.lookup y=some c->x=y
 has:∀ x,(X.env.kindOf x=some .cell\/X.env.kindOf x=some .free)->∃ c,X.env.cells.lookup x=some c
 cab:∀ x c,X.fn x=true->X.env.cells.lookup x=some c->X.s₀.heap.objs.size<=c
 hd:X.calm=true->X.A.handled=none
 frames:X.A.frames=some X.stack
 stk:X.stack=X.outer\/(X.stack=X.env :: X.outer/\X.env.frame=some X.env.locals)
 exf:∀ b∈X.ex,b≠X.env.locals/\∀ x c,X.env.cells.lookup x=some c->c≠b
 bs:∀ b o,X.base.get? b=some o->X.s₀.heap.get? b=some o/\X.H₀ b=none
 bsz:X.base.objs.size<=X.s₀.heap.objs.size
 noex:∀ b o,X.base.get? b=some o->b ∉ X.ex
 exfs:∀ b∈X.ex,b ∉ X.fs
 funs:X.s₀.heap.FunFrames X.base X.outer
 frf:∀ b∈X.fs,X.H₀ b=none

structure Inv (X:Cx) (pins:List (Addr × Obj)) (σ:List (Option V)) (H:Hp) (s:Shared):Prop where
 ok:X.Ok
 os:s.os=X.s₀.os
 bare:AllBare s.gens
 base:Un X.fs X.ex X.H₀ H X.s₀.heap s.heap
 loc:∃ m,s.heap.Ns X.env.locals m/\∀ (i:Nat) (x:Str) (v:V),X.N[i]? = some x->σ[i]? = some (some v)->Vis X.env.scope x->∃ u,RelV v u/\Look X.env s.heap m x u
 cell:∀ x c,X.env.cells.lookup x=some c->∃ v,s.heap.IsCell c v
 free:H X.env.locals=none
 freeC:∀ x c,X.env.cells.lookup x=some c->H c=none
 pin:∀ p∈X.pn++pins,s.heap.get? p.1=some p.2/\H p.1=none/\p.1≠X.env.locals/\p.1 ∉ X.fs/\∀ v,p.2.data ≠ .cell v
 hok:HOk X.prog X.w H s.heap
 len : σ.length=X.N.length

section
variable {X:Cx} {pins:List (Addr × Obj)} {σ:List (Option V)} {H H':Hp} {s:Shared} {h':Heap}

theorem Cx.Ok.nofr (ok:X.Ok) {b:Addr} {o:Obj} (e:X.base.get? b=some o):b ∉ X.fs:=fun hb=>by
 have:=(ok.funs.mem hb).1
 rw [e] at this; cases this
theorem Inv.bs (I:Inv X pins σ H s):∀ b o,X.base.get? b=some o->s.heap.get? b=some o/\H b=none:=fun b o e =>
 ⟨I.base.keep b o (I.ok.bs b o e).1 (I.ok.bs b o e).2 (I.ok.nofr e) (I.ok.noex b o e),I.base.free b o (I.ok.bs b o e).1 (I.ok.bs b o e).2 (I.ok.noex b o e)⟩
theorem Inv.bk (I:Inv X pins σ H s):∀ b o,X.base.get? b=some o->s.heap.get? b=some o:=fun b o e=>(I.bs b o e).1
theorem Inv.mod (I:Inv X pins σ H s):Mod X.K X.mg X.base:=I.ok.mod
theorem Inv.kIn (I:Inv X pins σ H s):X.K.In s.heap:=I.ok.mod.kin.keeps I.bk
theorem Inv.lt (I:Inv X pins σ H s):X.env.locals<s.heap.objs.size:=let ⟨_,hn,_⟩ := I.loc; hn.lt
theorem Inv.sz (I:Inv X pins σ H s):X.s₀.heap.objs.size<=s.heap.objs.size:=Nat.le_trans I.ok.above (Nat.le_of_lt I.lt)
theorem Inv.nofs (I:Inv X pins σ H s) {a:Addr} (h:s.heap.objs.size<=a):a ∉ X.fs:=fun hb=>by
 obtain ⟨_,o,ho,_⟩ := I.ok.funs.mem hb
 exact absurd (Nat.lt_of_lt_of_le (Heap.lt_size ho) (Nat.le_trans I.sz h)) (Nat.lt_irrefl _)
theorem Inv.cne (I:Inv X pins σ H s):∀ x c,X.env.cells.lookup x=some c->c≠X.env.locals:=fun x c e z=>by
 obtain ⟨v,o,ho,hd⟩ := I.cell x c e
 obtain ⟨m,⟨o',es,ep,ho',hd',_⟩,_⟩ := I.loc
 rw [z,ho'] at ho; cases ho; rw [hd'] at hd; cases hd
theorem Inv.funs (I:Inv X pins σ H s):s.heap.FunFrames X.base X.outer:=by
 have all:∀ (l:List Env),(∀ b∈frs l,b∈X.fs)->X.s₀.heap.FunFrames X.base l->s.heap.FunFrames X.base l:=by
  intro l
  induction l with
  | nil=>intro _ _; trivial
  | cons env r ih =>
   intro hs hl
   obtain ⟨hk,⟨L,o,hf,hn,ho,hd⟩,hr⟩ := hl
   have hL:L∈X.fs:=hs L (by unfold frs; rw [List.filterMap_cons,hf]; exact List.mem_cons_self)
   obtain ⟨sl,e⟩ := I.base.slot L o ho (I.ok.frf L hL) hL fun z=>I.ok.exfs L z hL
   exact ⟨hk,⟨L,_,hf,hn,e,hd⟩,ih (fun b hb=>hs b (by unfold frs; rw [List.filterMap_cons,hf]; exact List.mem_cons_of_mem _ hb)) hr⟩
 exact all X.outer (fun _ hb=>hb) I.ok.funs

theorem Inv.stack (I:Inv X pins σ H s):s.heap.FunFrames X.base X.stack:=by
 rcases I.ok.stk with e | ⟨e,hf⟩
 ·rw [e]; exact I.funs
 ·rw [e]
  obtain ⟨m,hn,_⟩ := I.loc
  refine .cons (by rw [I.ok.kind]; decide) hf hn ?_ I.funs
  exact Heap.get?_none_of_le (Nat.le_trans I.ok.bsz I.ok.above)
theorem Inv.stkSub (I:Inv X pins σ H s):∀ b∈frs X.stack,b∈X.env.locals :: X.fs:=fun b hb=>by
 rcases I.ok.stk with e | ⟨e,hf⟩
 ·rw [e] at hb; exact List.mem_cons_of_mem _ hb
 ·rw [e] at hb
  unfold frs at hb
  rw [List.filterMap_cons,hf] at hb
  exact hb
theorem Inv.stkFree (I:Inv X pins σ H s):∀ b∈frs X.stack,H b=none:=fun b hb=>by
 rcases List.mem_cons.mp (I.stkSub b hb) with e | hb
 ·rw [e]; exact I.free
 ·obtain ⟨_,o,ho,_⟩ := I.ok.funs.mem hb
  exact I.base.free b o ho (I.ok.frf b hb) fun z=>I.ok.exfs b z hb

theorem Inv.step {g':Array GenState} {t':Nat} {d':Drawn} {ch:List Addr} (I:Inv X pins σ H s)
  (hch:∀ b∈ch,(b∈X.ex\/X.s₀.heap.objs.size<=b)/\b≠X.env.locals/\(∀ x c,X.env.cells.lookup x=some c->c≠b)/\∀ p∈X.pn++pins,p.1≠b)
  (keep:∀ b o,b≠X.env.locals->b ∉ X.fs->b ∉ ch->s.heap.get? b=some o->H b=none->h'.get? b=some o)
  (slot:∀ b o,b≠X.env.locals->b∈X.fs->b ∉ ch->s.heap.get? b=some o->H b=none->∃ sl,h'.get? b=some { o with slots:=sl }) (free:∀ b o,b ∉ ch->s.heap.get? b=some o->H b=none->H' b=none)
  (there:∀ b o,b ∉ ch->s.heap.get? b=some o->∃ o',h'.get? b=some o')
  (tups:∀ b xs,H b=some (.tup xs)->H' b=some (.tup xs)) (frzs:∀ b o u,H b=some (.frz o u)->H' b=some (.frz o u)) (tbls:∀ b ps,H b=some (.tbl ps)->∃ more,H' b=some (.tbl (ps++more)))
  (ns:∀ m,s.heap.Ns X.env.locals m->h'.Ns X.env.locals m) (hok:HOk X.prog X.w H' h') (hg:AllBare g') :
  Inv X pins σ H' { s with heap:=h',gens:=g',drawn:=d',toks:=t' }:=by
 have neL:∀ b o,X.s₀.heap.get? b=some o->b≠X.env.locals:=fun b o e=>Nat.ne_of_lt (Nat.lt_of_lt_of_le (Heap.lt_size e) I.ok.above)
 have neC:∀ b o,X.s₀.heap.get? b=some o->b ∉ X.ex->b ∉ ch:=fun b o e hx hb=>by
  rcases (hch b hb).1 with z | z
  ·exact hx z
  ·exact absurd (Nat.lt_of_lt_of_le (Heap.lt_size e) z) (Nat.lt_irrefl _)
 have cellK:∀ x c,X.env.cells.lookup x=some c->∀ v,s.heap.IsCell c v->h'.IsCell c v:=fun x c e v ⟨o,ho,hd⟩=>by
  have nch:c ∉ ch:=fun z=>(hch c z).2.2.1 x c e rfl
  by_cases hc:c∈X.fs
  ·obtain ⟨sl,q⟩ := slot c o (I.cne x c e) hc nch ho (I.freeC x c e)
   exact ⟨_,q,hd⟩
  ·exact ⟨o,keep c o (I.cne x c e) hc nch ho (I.freeC x c e),hd⟩
 refine ⟨I.ok,I.os,hg,⟨fun b o e n hb hx => ?_,fun b o e n hb hx => ?_,fun b o e n hx => ?_,fun b o e hx => ?_,fun b xs e=>tups b xs (I.base.tups b xs e),fun b o xs e=>frzs b o xs (I.base.frzs b o xs e),fun b ps e => ?_⟩,?_,fun x c e => ?_,?_,fun x c e => ?_,fun p hp => ?_,hok,I.len⟩
 ·exact keep b o (neL b o e) hb (neC b o e hx) (I.base.keep b o e n hb hx) (I.base.free b o e n hx)
 ·obtain ⟨sl,e1⟩ := I.base.slot b o e n hb hx
  obtain ⟨sl',e2⟩ := slot b _ (neL b o e) hb (neC b o e hx) e1 (I.base.free b o e n hx)
  exact ⟨sl',e2⟩
 ·obtain ⟨o',e1⟩ := I.base.there b o e hx
  exact free b o' (neC b o e hx) e1 (I.base.free b o e n hx)
 ·obtain ⟨o',e1⟩ := I.base.there b o e hx
  exact there b o' (neC b o e hx) e1
 ·obtain ⟨m1,e1⟩ := I.base.tbls b ps e
  obtain ⟨m2,e2⟩ := tbls b _ e1
  exact ⟨m1++m2,by rw [e2,Array.append_assoc]⟩
 ·obtain ⟨m,hn,hl⟩ := I.loc
  refine ⟨m,ns m hn,fun i x v e1 e2 e3 => ?_⟩
  obtain ⟨u,r,l⟩ := hl i x v e1 e2 e3
  refine ⟨u,r,?_⟩
  rcases l with l | ⟨k,c,e,z⟩
  ·exact .inl l
  ·exact .inr ⟨k,c,e,cellK x c e _ z⟩
 ·obtain ⟨v,z⟩ := I.cell x c e
  exact ⟨v,cellK x c e v z⟩
 ·obtain ⟨m,⟨o,_,_,ho,_⟩,_⟩ := I.loc
  exact free _ o (fun z=>(hch _ z).2.1 rfl) ho I.free
 ·obtain ⟨v,o,ho,hd⟩ := I.cell x c e
  exact free c o (fun z=>(hch c z).2.2.1 x c e rfl) ho (I.freeC x c e)
 ·obtain ⟨e,n,ne,nf,d⟩ := I.pin p hp
  have nch:p.1 ∉ ch:=fun z=>(hch p.1 z).2.2.2 p hp rfl
  exact ⟨keep p.1 p.2 ne nf nch e n,free p.1 p.2 nch e n,ne,nf,d⟩
theorem Inv.un {t':Nat} (I:Inv X pins σ H s) (u:Un X.fs [] H H' s.heap h') (hok:HOk X.prog X.w H' h'):Inv X pins σ H' { s with heap:=h',toks:=t' }:=by
 obtain ⟨m,⟨o,es,ep,ho,r⟩,_⟩ := id I.loc
 obtain ⟨sl,hL⟩ := u.any ho I.free (by simp)
 exact I.step (g':=s.gens) (d':=s.drawn) (ch:=[]) (fun _ z=>nomatch z) (fun b o _ hb _ e n=>u.keep b o e n hb (by simp)) (fun b o _ hb _ e n=>u.slot b o e n hb (by simp)) (fun b o _ e n=>u.free b o e n (by simp)) (fun b o _ e=>u.there b o e (by simp)) u.tups u.frzs u.tbls (fun m' hm=>by
  obtain ⟨o',es',ep',ho',r'⟩ := hm
  rw [ho] at ho'; cases ho'
  exact ⟨_,es',ep',hL,r'⟩) hok I.bare
theorem Inv.call {g':Array GenState} {t':Nat} {d':Drawn} {ch:List Addr} (I:Inv X pins σ H s) (u:Un (frs X.stack) ch H H' s.heap h') (hok:HOk X.prog X.w H' h') (hg:AllBare g')
  (hch:∀ b∈ch,(b∈X.ex\/X.s₀.heap.objs.size<=b)/\b≠X.env.locals/\(∀ x c,X.env.cells.lookup x=some c->c≠b)/\∀ p∈X.pn++pins,p.1≠b) :
  Inv X pins σ H' { s with heap:=h',gens:=g',drawn:=d',toks:=t' }:=by
 obtain ⟨m,⟨o,es,ep,ho,r⟩,_⟩ := id I.loc
 obtain ⟨sl,hL⟩ := u.any ho I.free fun z=>(hch _ z).2.1 rfl
 exact I.step (ch:=ch) hch (fun b o hL hb hc e n=>u.keep b o e n (fun z=>(List.mem_cons.mp (I.stkSub b z)).elim hL hb) hc) (fun b o _ _ hc e n=>u.any e n hc) (fun b o hc e n=>u.free b o e n hc) (fun b o hc e=>u.there b o e hc) u.tups u.frzs u.tbls (fun m' hm=>by
  obtain ⟨o',es',ep',ho',r'⟩ := hm
  rw [ho] at ho'; cases ho'
  exact ⟨_,es',ep',hL,r'⟩) hok hg
theorem Inv.turned {t':Nat} {it:Addr} (I:Inv X pins σ H s) (k:∀ b o,b≠it->s.heap.get? b=some o->h'.get? b=some o) (hn:H it=none) (hL:it≠X.env.locals)
  (h1:it∈X.ex\/X.s₀.heap.objs.size<=it) (h2:∀ x c,X.env.cells.lookup x=some c->c≠it) (h3:∀ p∈X.pn++pins,p.1≠it):Inv X pins σ H { s with heap:=h',toks:=t' }:=by
 have nit:∀ b u,H b=some u->b≠it:=fun b u e z=>by rw [z,hn] at e; cases e
 refine I.step (g':=s.gens) (d':=s.drawn) (ch:=[it]) (fun b hb => ?_) (fun b o _ _ hc e _=>k b o (fun z=>hc (by simp [z])) e) (fun b o _ _ hc e _=>⟨o.slots,k b o (fun z=>hc (by simp [z])) e⟩) (fun _ _ _ _ n=>n)
  (fun b o hc e=>⟨o,k b o (fun z=>hc (by simp [z])) e⟩) (fun _ _ e=>e) (fun _ _ _ e=>e) (fun b ps e=>⟨#[],by rw [e]; simp⟩) (fun m hm => ?_) (fun b u e => ?_) I.bare
 ·have e:b=it:=by simpa using hb
  subst e
  exact ⟨h1,hL,h2,h3⟩
 ·obtain ⟨o,es,ep,ho,r⟩ := hm
  exact ⟨o,es,ep,k _ o (Ne.symm hL) ho,r⟩
 ·refine (I.hok b u e).stay (fun c v hc q=>k c v ?_ q) (fun _ q=>q) fun _ _ q=>q
  rcases hc with z | z
  ·rw [z]; exact nit b u e
  ·exact nit c _ z
theorem Inv.tok (I:Inv X pins σ H s) (t:Nat):Inv X pins σ H { s with toks:=t }:=I.un (h':=s.heap) (t':=t) Un.refl I.hok
theorem Inv.kept {t':Nat} (I:Inv X pins σ H s) (k:∀ b u,s.heap.get? b=some u->h'.get? b=some u):Inv X pins σ H { s with heap:=h',toks:=t' }:=I.un (Un.kept k) (I.hok.kept k)
theorem Inv.laid {a:Addr} {o:HO} {t':Nat} (I:Inv X pins σ H s) (k:∀ b u,s.heap.get? b=some u->h'.get? b=some u) (hp:s.heap.objs.size<=a) (new:ObjOk X.prog X.w (upd H a o) h' a o) :
  Inv X pins σ (upd H a o) { s with heap:=h',toks:=t' }:=I.un (Un.laid k hp (I.hok.fresh hp)) (I.hok.laid k hp new)
theorem Inv.write {x e:Addr} {o:HO} {t':Nat} (I:Inv X pins σ H s) (mu:Mut (H x)) (he:e=x\/H e=some (.own x)) (k:∀ b u,b≠e->s.heap.get? b=some u->h'.get? b=some u) (heo:∃ u,h'.get? e=some u)
  (new:ObjOk X.prog X.w (upd H x o) h' x o):Inv X pins σ (upd H x o) { s with heap:=h',toks:=t' }:=I.un (Un.write mu he k heo) (I.hok.write mu he k heo new)
theorem Inv.pins_of {pins':List (Addr × Obj)} (I:Inv X pins σ H s) (h:∀ p∈pins',s.heap.get? p.1=some p.2/\H p.1=none/\p.1≠X.env.locals/\p.1 ∉ X.fs/\∀ v,p.2.data ≠ .cell v):Inv X pins' σ H s :=
 ⟨I.ok,I.os,I.bare,I.base,I.loc,I.cell,I.free,I.freeC,fun p hp=>(List.mem_append.mp hp).elim (fun z=>I.pin p (List.mem_append_left _ z)) (h p),I.hok,I.len⟩

theorem nodup_ix {N:List Str} (hN:N.Nodup) {i j:Nat} {x:Str} (a:N[i]? = some x) (b:N[j]? = some x):i=j:=by
 obtain ⟨h1,e1⟩ := List.getElem?_eq_some_iff.mp a
 obtain ⟨h2,e2⟩ := List.getElem?_eq_some_iff.mp b
 exact (List.getElem_inj hN).mp (e1.trans e2.symm)

theorem store_ok2 {M:Model} {A:Around} {E:Value->Shared->Prop} {i:Nat} {x:Str} {v:V} {u:Value} {Q:Unit->Shared->Prop} (I:Inv X pins σ H s) (hN:X.N.Nodup) (hi:X.N[i]? = some x) (hx:Loc X.env.scope x) (r:RelV v u)
  (h:∀ s',Inv X pins (σ.set i (some v)) H s'->(∃ a,Heap.SameBut a s.heap s'.heap/\(a=X.env.locals\/X.env.cells.lookup x=some a))->Q () s') (hf:X.fn x=true\/X.env.scope.names.lookup x=some .local:=by first | exact .inl rfl | exact .inr rfl | assumption):wpAny M A (storeName X.env x u) Q E s:=by
 obtain ⟨m,hn,hl⟩ := id I.loc
 have hcls:(X.env.scope.kind == .class || (X.env.scope.kind == .module && X.env.locals != X.env.globals))=false:=by rw [I.ok.kind]; rfl
 have hiσ:i<σ.length:=by rw [I.len]; exact (List.getElem?_eq_some_iff.mp hi).1
 have cne:=I.cne
 have tracked:∀ {a:Addr} {h':Heap},(∃ o,s.heap.get? a=some o/\H a=none)->Heap.SameBut a s.heap h'->HOk X.prog X.w H h':=fun {a h'} ha hs b ob e=>by
  obtain ⟨_,_,hfree⟩ := ha
  refine (I.hok b ob e).stay (fun c w' hc q=>(hs.2 c ?_).trans q) (fun _ q=>q) fun _ _ q=>q
  rintro rfl
  rcases hc with rfl | hc
  ·rw [hfree] at e; cases e
  ·rw [hfree] at hc; cases hc
 rcases hx with hk | hk
 ·refine wpAny_storeName_local hk hn (fun h' hn' hs => ?_) hcls
  obtain ⟨oL,_,_,hoL,_⟩ := id hn
  refine h _ ⟨I.ok,I.os,I.bare,⟨fun b o e n hb hx => ?_,fun b o e n hb hx => ?_,I.base.free,fun b o e hx => ?_,I.base.tups,I.base.frzs,I.base.tbls⟩,⟨_,hn',fun j y v' e1 e2 e3 => ?_⟩,fun y c e => ?_,I.free,I.freeC,fun p hp => ?_,tracked ⟨oL,hoL,I.free⟩ hs,by simpa using I.len⟩ ⟨_,hs,.inl rfl⟩
  ·exact (hs.2 b (Nat.ne_of_lt (Nat.lt_of_lt_of_le (Heap.lt_size e) I.ok.above))).trans (I.base.keep b o e n hb hx)
  ·obtain ⟨sl,e1⟩ := I.base.slot b o e n hb hx
   exact ⟨sl,(hs.2 b (Nat.ne_of_lt (Nat.lt_of_lt_of_le (Heap.lt_size e) I.ok.above))).trans e1⟩
  ·obtain ⟨o',e1⟩ := I.base.there b o e hx
   exact ⟨o',(hs.2 b (Nat.ne_of_lt (Nat.lt_of_lt_of_le (Heap.lt_size e) I.ok.above))).trans e1⟩
  ·by_cases hj:j=i
   ·subst hj
    rw [hi] at e1; cases e1
    rw [List.getElem?_set_self hiσ] at e2
    cases e2
    exact ⟨u,r,.inl ⟨hk,by simp⟩⟩
   ·rw [List.getElem?_set_ne (Ne.symm hj)] at e2
    obtain ⟨u',r',q⟩ := hl j y v' e1 e2 e3
    refine ⟨u',r',?_⟩
    rcases q with ⟨k,e⟩ | ⟨k,c,e,z⟩
    ·refine .inl ⟨k,?_⟩
     have:y≠x:=fun e=>hj (nodup_ix hN e1 (e ▸ hi))
     simp [this,e]
    ·exact .inr ⟨k,c,e,z.sameBut hs (cne y c e)⟩
  ·obtain ⟨w',z⟩ := I.cell y c e
   exact ⟨w',z.sameBut hs (cne y c e)⟩
  ·obtain ⟨e,n,ne,nf,d⟩ := I.pin p hp
   exact ⟨(hs.2 p.1 ne).trans e,n,ne,nf,d⟩
 ·have hfn:X.fn x=true:=by
   rcases hf with z | z
   ·exact z
   ·rw [z] at hk; cases hk
  obtain ⟨c,hc⟩ := I.ok.has x (.inl hk)
  obtain ⟨w',z⟩ := I.cell x c hc
  refine wpAny_storeName_cell I.ok.kind hk hc z (fun h' hc' hs => ?_)
  obtain ⟨oc,hoc,hocd⟩ := id z
  refine h { s with heap:=h' } ⟨I.ok,I.os,I.bare,⟨fun b o e n hb hx => ?_,fun b o e n hb hx => ?_,I.base.free,fun b o e hx => ?_,I.base.tups,I.base.frzs,I.base.tbls⟩,⟨m,hn.sameBut hs (Ne.symm (cne x c hc)),fun j y v' e1 e2 e3 => ?_⟩,fun y c' e => ?_,I.free,I.freeC,fun p hp => ?_,tracked ⟨oc,hoc,I.freeC x c hc⟩ hs,by simpa using I.len⟩ ⟨c,hs,.inr hc⟩
  ·exact (hs.2 b (Nat.ne_of_lt (Nat.lt_of_lt_of_le (Heap.lt_size e) (I.ok.cab x c hfn hc)))).trans (I.base.keep b o e n hb hx)
  ·obtain ⟨sl,e1⟩ := I.base.slot b o e n hb hx
   exact ⟨sl,(hs.2 b (Nat.ne_of_lt (Nat.lt_of_lt_of_le (Heap.lt_size e) (I.ok.cab x c hfn hc)))).trans e1⟩
  ·obtain ⟨o',e1⟩ := I.base.there b o e hx
   exact ⟨o',(hs.2 b (Nat.ne_of_lt (Nat.lt_of_lt_of_le (Heap.lt_size e) (I.ok.cab x c hfn hc)))).trans e1⟩
  ·by_cases hj:j=i
   ·subst hj
    rw [hi] at e1; cases e1
    rw [List.getElem?_set_self hiσ] at e2
    cases e2
    exact ⟨u,r,.inr ⟨.inl hk,c,hc,hc'⟩⟩
   ·rw [List.getElem?_set_ne (Ne.symm hj)] at e2
    obtain ⟨u',r',q⟩ := hl j y v' e1 e2 e3
    refine ⟨u',r',?_⟩
    rcases q with q | ⟨k,c',e,z'⟩
    ·exact .inl q
    ·refine .inr ⟨k,c',e,z'.sameBut hs ?_⟩
     rintro rfl
     exact hj (nodup_ix hN e1 (I.ok.inj _ _ _ e hc ▸ hi))
  ·by_cases hcc:c'=c
   ·subst hcc; exact ⟨_,hc'⟩
   ·obtain ⟨w2,z2⟩ := I.cell y c' e
    exact ⟨w2,z2.sameBut hs hcc⟩
  ·obtain ⟨e,n,ne,nf,d⟩ := I.pin p hp
   refine ⟨(hs.2 p.1 ?_).trans e,n,ne,nf,d⟩
   intro q
   rw [q,hoc] at e
   have q':oc=p.2:=Option.some.inj e
   exact d w' (by rw [<- q']; exact hocd)
theorem store_ok {M:Model} {A:Around} {E:Value->Shared->Prop} {i:Nat} {x:Str} {v:V} {u:Value} {Q:Unit->Shared->Prop} (I:Inv X pins σ H s) (hN:X.N.Nodup) (hi:X.N[i]? = some x) (hx:Loc X.env.scope x) (r:RelV v u)
  (h:∀ s',Inv X pins (σ.set i (some v)) H s'->Q () s') (hf:X.fn x=true\/X.env.scope.names.lookup x=some .local:=by first | exact .inl rfl | exact .inr rfl | assumption):wpAny M A (storeName X.env x u) Q E s :=
 store_ok2 I hN hi hx r (fun s' I' _=>h s' I') hf
theorem Inv.call' {s':Shared} {ch:List Addr} (I:Inv X pins σ H s) (ho:s'.os=s.os) (u:Un (frs X.stack) ch H H' s.heap s'.heap) (hok:HOk X.prog X.w H' s'.heap) (hg:AllBare s'.gens)
  (hch:∀ b∈ch,(b∈X.ex\/X.s₀.heap.objs.size<=b)/\b≠X.env.locals/\(∀ x c,X.env.cells.lookup x=some c->c≠b)/\∀ p∈X.pn++pins,p.1≠b):Inv X pins σ H' s':=by
 obtain ⟨h',g',d',t',o'⟩ := s'
 have e:o'=s.os:=ho
 subst e
 exact I.call (g':=g') (t':=t') (d':=d') u hok hg hch
end

noncomputable abbrev XK:=Value->Option Addr->Hp->Prop
noncomputable abbrev St:=List (Option V)
noncomputable abbrev VK:=V->Hp->Prop
noncomputable abbrev TE:=St->Hp->VK->Prop
noncomputable abbrev TT:=St->Hp->(Bool->Hp->Prop)->Prop
noncomputable abbrev TA:=St->Hp->(List V->Hp->Prop)->Prop
structure Ends where
 nx:St->Hp->Prop
 rt:VK
 bk:St->Hp->Prop:=fun _ _=>False
 ct:St->Hp->Prop:=fun _ _=>False
noncomputable abbrev TS:=Ends->St->Hp->Prop

noncomputable def EP (X:Cx) (pins:List (Addr × Obj)) (σ:St) (Q:VK) (u:Value) (s':Shared):Prop:=∃ v H',Inv X pins σ H' s'/\RelV v u/\Q v H'
noncomputable def TP (X:Cx) (pins:List (Addr × Obj)) (σ:St) (Q:Bool->Hp->Prop) (b:Bool) (s':Shared):Prop:=∃ H',Inv X pins σ H' s'/\Q b H'
noncomputable def AP (X:Cx) (pins:List (Addr × Obj)) (σ:St) (Q:List V->Hp->Prop) (us:List Value) (s':Shared):Prop:=∃ vs H',Inv X pins σ H' s'/\Vals vs us/\Q vs H'
noncomputable def SP (X:Cx) (pins:List (Addr × Obj)) (D:Ends) (f:Flow) (s':Shared):Prop :=
 match f with
 | .next=>∃ σ' H',Inv X pins σ' H' s'/\D.nx σ' H'
 | .brk=>∃ σ' H',Inv X pins σ' H' s'/\D.bk σ' H'
 | .cont=>∃ σ' H',Inv X pins σ' H' s'/\D.ct σ' H'
 | .ret u=>∃ v σ' H',Inv X pins σ' H' s'/\RelV v u/\D.rt v H'

structure PE (X:Cx) (e:Expr) (t:TE)  : Prop where
 go:∀ (pins:List (Addr × Obj)) (s:Shared) (σ:St) (H:Hp) (Q:VK),Inv X pins σ H s->t σ H Q->wpAny (model X.prog X.w) X.A (eval e X.env) (EP X pins σ Q) X.xe s
instance {X:Cx} {e:Expr} {t:TE}:CoeFun (PE X e t) (fun _=>∀ (pins:List (Addr × Obj)) (s:Shared) (σ:St) (H:Hp) (Q:VK),Inv X pins σ H s->t σ H Q->wpAny (model X.prog X.w) X.A (eval e X.env) (EP X pins σ Q) X.xe s):=⟨PE.go⟩
structure PT (X:Cx) (e:Expr) (t:TT)  : Prop where
 go:∀ (pins:List (Addr × Obj)) (s:Shared) (σ:St) (H:Hp) (Q:Bool->Hp->Prop),Inv X pins σ H s->t σ H Q->wpAny (model X.prog X.w) X.A (isTrue e X.env (eval e X.env)) (TP X pins σ Q) X.xe s
instance {X:Cx} {e:Expr} {t:TT}:CoeFun (PT X e t) (fun _=>∀ (pins:List (Addr × Obj)) (s:Shared) (σ:St) (H:Hp) (Q:Bool->Hp->Prop),Inv X pins σ H s->t σ H Q->wpAny (model X.prog X.w) X.A (isTrue e X.env (eval e X.env)) (TP X pins σ Q) X.xe s):=⟨PT.go⟩
structure PW (X:Cx) (e:Expr) (t:TT)  : Prop where
 go:∀ (whole:Sem Value) (pins:List (Addr × Obj)) (s:Shared) (σ:St) (H:Hp) (Q:Bool->Hp->Prop),Inv X pins σ H s->t σ H Q->wpAny (model X.prog X.w) X.A (isTrue e X.env whole) (TP X pins σ Q) X.xe s
instance {X:Cx} {e:Expr} {t:TT}:CoeFun (PW X e t) (fun _=>∀ (whole:Sem Value) (pins:List (Addr × Obj)) (s:Shared) (σ:St) (H:Hp) (Q:Bool->Hp->Prop),Inv X pins σ H s->t σ H Q->wpAny (model X.prog X.w) X.A (isTrue e X.env whole) (TP X pins σ Q) X.xe s):=⟨PW.go⟩
theorem PW.pt {X:Cx} {e:Expr} {t:TT} (h:PW X e t):PT X e t:=⟨h _⟩
structure PA (X:Cx) (es:List Expr) (t:TA)  : Prop where
 go:∀ (pos:Pos) (pins:List (Addr × Obj)) (s:Shared) (σ:St) (H:Hp) (Q:List V->Hp->Prop),Inv X pins σ H s->t σ H Q->wpAny (model X.prog X.w) X.A (spliced (backTo pos (starEach es X.env))) (AP X pins σ Q) X.xe s
instance {X:Cx} {es:List Expr} {t:TA}:CoeFun (PA X es t) (fun _=>∀ (pos:Pos) (pins:List (Addr × Obj)) (s:Shared) (σ:St) (H:Hp) (Q:List V->Hp->Prop),Inv X pins σ H s->t σ H Q->wpAny (model X.prog X.w) X.A (spliced (backTo pos (starEach es X.env))) (AP X pins σ Q) X.xe s):=⟨PA.go⟩
structure PS (X:Cx) (st:Stmt) (t:TS)  : Prop where
 go:∀ (pins:List (Addr × Obj)) (s:Shared) (σ:St) (H:Hp) (D:Ends),Inv X pins σ H s->t D σ H->wpAny (model X.prog X.w) X.A (exec st X.env) (SP X pins D) X.xe s
instance {X:Cx} {st:Stmt} {t:TS}:CoeFun (PS X st t) (fun _=>∀ (pins:List (Addr × Obj)) (s:Shared) (σ:St) (H:Hp) (D:Ends),Inv X pins σ H s->t D σ H->wpAny (model X.prog X.w) X.A (exec st X.env) (SP X pins D) X.xe s):=⟨PS.go⟩
structure PSs (X:Cx) (st:List Stmt) (t:TS)  : Prop where
 go:∀ (pins:List (Addr × Obj)) (s:Shared) (σ:St) (H:Hp) (D:Ends),Inv X pins σ H s->t D σ H->wpAny (model X.prog X.w) X.A (execs st X.env) (SP X pins D) X.xe s
instance {X:Cx} {st:List Stmt} {t:TS}:CoeFun (PSs X st t) (fun _=>∀ (pins:List (Addr × Obj)) (s:Shared) (σ:St) (H:Hp) (D:Ends),Inv X pins σ H s->t D σ H->wpAny (model X.prog X.w) X.A (execs st X.env) (SP X pins D) X.xe s):=⟨PSs.go⟩
theorem thn {α:Type} {t:Sem α} {Q Q' : α->Shared->Prop} {M:Model} {A:Around} {E:Value->Shared->Prop} {s:Shared} (h:wpAny M A t Q E s) (hQ:∀ a s,Q a s->Q' a s):wpAny M A t Q' E s:=wpAny_mono h hQ fun _ _ x=>x
end L2

namespace L2
open PySem PySem.Spec PyProof.Rows
section
variable {X:Cx}

inductive tVar (i:Nat) (σ:St) (H:Hp) (Q:VK):Prop
 | mk (v : _) (h0 : σ[i]? = some (some v)) (h1:Q v H):tVar i σ H Q
noncomputable def tC (v:V):TE:=fun _ H Q=>Q v H
theorem pe_var {i:Nat} {x:Str} {pos:Pos} (hN:X.N[i]? = some x) (hv:Vis X.env.scope x) (hd:(x == ("__debug__" : Str))=false:=by decide) (hcd:(x == ("__classdict__" : Str))=false:=by decide):PE X (.Name x pos) (tVar i):=by
 refine ⟨?_⟩
 intro pins s σ H Q I h
 obtain ⟨v,e,h⟩ := h
 obtain ⟨m,hn,hl⟩ := I.loc
 obtain ⟨u,r,l⟩ := hl i x v hN e hv
 have fin:EP X pins σ Q u s:=⟨v,H,I,r,h⟩
 rcases l with ⟨hk,hm⟩ | ⟨hk,c,hc,hcell⟩
 ·exact wpAny_Name (wpAny_loadName_local I.ok.kind hk hn hm fin) hd
 ·rcases hk with hk | hk
  ·exact wpAny_Name (wpAny_loadName_cell I.ok.kind hk hc hcell fin) hd
  ·exact wpAny_Name (wpAny_loadName_free I.ok.kind hk hc hcell fin hcd) hd
theorem zF {i j pos}:PE X (.Constant (.int i) j pos) (tC (.int i)):=⟨fun _ _ _ H _ I h=>wpAny_Constant_int ⟨.int i,H,I.tok _,⟨_,rfl⟩,h⟩⟩
theorem pe_bl {b j pos}:PE X (.Constant (.bool b) j pos) (tC (.bl b)):=⟨fun _ _ _ H _ I h=>Constant_bool ⟨.bl b,H,I,rfl,h⟩⟩
theorem pe_str {x j pos}:PE X (.Constant (.str x) j pos) (tC (.str x)):=⟨fun _ _ _ H _ I h=>Calls.Constant_str ⟨.str x,H,I.tok _,⟨_,rfl⟩,h⟩⟩
noncomputable def Gl (X:Cx) (x:Str):Prop:=X.env.kindOf x=some .globalImplicit
theorem ld_glob {E:Value->Shared->Prop} {pins:List (Addr × Obj)} {s:Shared} {σ:St} {H:Hp} {x:Str} {u:Value} {pos:Pos} {Q:Value->Shared->Prop} (I:Inv X pins σ H s) (hg:Gl X x) (hm:X.mg x=some u) (h:Q u s)
  (hd:(x == ("__debug__" : Str))=false:=by decide):wpAny (model X.prog X.w) X.A (eval (.Name x pos) X.env) Q E s :=
 Calls.Name_function_global I.ok.kind hg (Calls.loadGlobal_global (by rw [I.ok.glob]; exact I.mod.glob.keeps I.bk) hm h) hd
theorem ld_blt {E:Value->Shared->Prop} {pins:List (Addr × Obj)} {s:Shared} {σ:St} {H:Hp} {x:Str} {u:Value} {pos:Pos} {Q:Value->Shared->Prop} (I:Inv X pins σ H s) (hg:Gl X x) (hm:X.mg x=none) (hv:bootBuiltins x=some u) (h:Q u s)
  (hn:x ≠ "__name__" := by decide) (hd:(x == ("__debug__" : Str))=false:=by decide):wpAny (model X.prog X.w) X.A (eval (.Name x pos) X.env) Q E s:=by
 obtain ⟨mb,h1,h2⟩ := I.mod.blt
 exact Calls.Name_function_global I.ok.kind hg (Calls.loadGlobal_builtin (by rw [I.ok.glob]; exact I.mod.glob.keeps I.bk) hm (by rw [I.ok.blt]; exact h1.keeps I.bk) ((h2 x hn).trans hv) h) hd
theorem pe_glob {x:Str} {v:V} {u:Value} {pos:Pos} (hg:Gl X x) (hm:X.mg x=some u) (r:RelV v u) (hd:(x == ("__debug__" : Str))=false:=by decide):PE X (.Name x pos) (tC v):=⟨fun _ _ _ H _ I h=>ld_glob I hg hm ⟨v,H,I,r,h⟩ hd⟩
theorem xW {x:Str} {v:V} {u:Value} {pos:Pos} (hg:Gl X x) (hm:X.mg x=none) (hv:bootBuiltins x=some u) (r:RelV v u) (hn:x ≠ "__name__" := by decide) (hd:(x == ("__debug__" : Str))=false:=by decide):PE X (.Name x pos) (tC v):=⟨fun _ _ _ H _ I h=>ld_blt I hg hm hv ⟨v,H,I,r,h⟩ hn hd⟩
variable {a b:Expr} {ta tb:TE} {pos:Pos}
structure PC (X:Cx) (op:CmpOp) (a b:Expr) (t:TE)  : Prop where
 go:∀ (pins:List (Addr × Obj)) (s:Shared) (σ:St) (H:Hp) (Q:VK),Inv X pins σ H s->t σ H Q ->
  wpAny (model X.prog X.w) X.A (eval a X.env) (fun v s₁=>wpAny (model X.prog X.w) X.A (eval b X.env) (fun u s₂=>wpAny (model X.prog X.w) X.A (compareOp op v u) (EP X pins σ Q) X.xe s₂) X.xe s₁) X.xe s
instance {X:Cx} {op:CmpOp} {a b:Expr} {t:TE}:CoeFun (PC X op a b t) (fun _=>∀ (pins:List (Addr × Obj)) (s:Shared) (σ:St) (H:Hp) (Q:VK),Inv X pins σ H s->t σ H Q ->
  wpAny (model X.prog X.w) X.A (eval a X.env) (fun v s₁=>wpAny (model X.prog X.w) X.A (eval b X.env) (fun u s₂=>wpAny (model X.prog X.w) X.A (compareOp op v u) (EP X pins σ Q) X.xe s₂) X.xe s₁) X.xe s):=⟨PC.go⟩
noncomputable def tB (t:TE):TT:=fun σ H Q=>t σ H fun x H1=>∃ c,x = .bl c/\Q c H1
theorem qA {e:Expr} {t:TE} (h:PE X e t) (he:∀ whole,isTrue e X.env whole=(do let v <- whole; standAt e.pos; holding [v] (truthy v)):=by intro _; rfl):PT X e (tB t):=by
 refine ⟨?_⟩
 intro pins s σ H Q I hw
 refine isTrue_plain (thn (h pins s σ H _ I hw) fun v s1 ⟨x,H1,I1,r1,q1⟩ => ?_) (he _)
 obtain ⟨d,rfl,q⟩ := q1
 cases r1
 exact wpAny_truthy_bool ⟨H1,I1,q⟩

variable {tA tB':TT} {rest:List Expr}
noncomputable def tAnd (t u:TT):TT:=fun σ H Q=>t σ H fun c H1=>if c=true then u σ H1 Q else Q false H1
noncomputable def tOr (t u:TT):TT:=fun σ H Q=>t σ H fun c H1=>if c=true then Q true H1 else u σ H1 Q
noncomputable def tNot (t:TT):TT:=fun σ H Q=>t σ H fun c H1=>Q (!c) H1
theorem pw_and1 (ha:PT X a tA):PW X (.BoolOp .And [a] pos) tA:=by
 refine ⟨?_⟩
 intro wh pins s σ H Q I h
 refine isTrue_and (thn (ha pins s σ H Q I h) fun c s1 e => ?_)
 cases c with
 | true=>exact isTrue_and_nil e
 | false=>exact e
theorem jS (ha:PT X a tA):PW X (.BoolOp .Or [a] pos) tA:=by
 refine ⟨?_⟩
 intro wh pins s σ H Q I h
 refine isTrue_or (thn (ha pins s σ H Q I h) fun c s1 e => ?_)
 cases c with
 | false=>exact isTrue_or_nil e
 | true=>exact e
theorem pw_and (ha:PT X a tA) (hb:PW X (.BoolOp .And (b :: rest) pos) tB'):PW X (.BoolOp .And (a :: b :: rest) pos) (tAnd tA tB'):=by
 refine ⟨?_⟩
 intro wh pins s σ H Q I h
 refine isTrue_and (thn (ha pins s σ H _ I h) fun c s1 hzz => ?_)
 obtain ⟨H1,I1,q1⟩ := hzz
 cases c with
 | true=>exact hb wh pins s1 σ H1 Q I1 q1
 | false=>exact ⟨H1,I1,q1⟩
theorem kM (ha:PT X a tA) (hb:PW X (.BoolOp .Or (b :: rest) pos) tB'):PW X (.BoolOp .Or (a :: b :: rest) pos) (tOr tA tB'):=by
 refine ⟨?_⟩
 intro wh pins s σ H Q I h
 refine isTrue_or (thn (ha pins s σ H _ I h) fun c s1 hzz => ?_)
 obtain ⟨H1,I1,q1⟩ := hzz
 cases c with
 | true=>exact ⟨H1,I1,q1⟩
 | false=>exact hb wh pins s1 σ H1 Q I1 q1
theorem qB (ha:PT X a tA):PT X (.UnaryOp .Not a pos) (tNot tA):=by
 refine ⟨?_⟩
 intro pins s σ H Q I h
 exact isTrue_not (ha pins s σ H (fun c H1=>Q (!c) H1) I h)
noncomputable def tAndV (ta tb:TE):TE:=fun σ H Q=>ta σ H fun x H1=>∃ c,x = .bl c/\if c=true then tb σ H1 Q else Q (.bl false) H1
noncomputable def tNotV (ta:TE):TE:=fun σ H Q=>ta σ H fun x H1=>∃ c,x = .bl c/\Q (.bl (!c)) H1
theorem pe_one {op} {t:TE} (h:PE X a t):PE X (.BoolOp op [a] pos) t:=⟨fun pins s σ H Q I hw=>BoolOp_one (h pins s σ H Q I hw)⟩
theorem pe_and (ha:PE X a ta) (hb:PE X (.BoolOp .And (b :: rest) pos) tb):PE X (.BoolOp .And (a :: b :: rest) pos) (tAndV ta tb):=by
 refine ⟨?_⟩
 intro pins s σ H Q I h
 refine BoolOp_and (thn (ha pins s σ H _ I h) fun v s1 hzz => ?_)
 obtain ⟨x,H1,I1,r1,q1⟩ := hzz
 obtain ⟨c,rfl,q1⟩ := q1
 cases r1
 refine wpAny_truthy_bool ?_
 cases c with
 | true=>exact hb pins s1 σ H1 Q I1 q1
 | false=>exact ⟨.bl false,H1,I1,rfl,q1⟩
theorem pe_not (ha:PE X a ta):PE X (.UnaryOp .Not a pos) (tNotV ta):=by
 refine ⟨?_⟩
 intro pins s σ H Q I h
 refine UnaryOp_ (thn (ha pins s σ H _ I h) fun v s1 hzz => ?_)
 obtain ⟨x,H1,I1,r1,q1⟩ := hzz
 obtain ⟨c,rfl,q1⟩ := q1
 cases r1
 exact not_of (wpAny_truthy_bool ⟨.bl (!c),H1,I1,rfl,q1⟩)
noncomputable def tIf (t:TT) (ta tb:TE):TE:=fun σ H Q=>t σ H fun c H1=>if c=true then ta σ H1 Q else tb σ H1 Q
theorem pe_ifExp {c:Expr} (hc:PT X c tA) (ha:PE X a ta) (hb:PE X b tb):PE X (.IfExp c a b pos) (tIf tA ta tb):=by
 refine ⟨?_⟩
 intro pins s σ H Q I h
 refine wpAny_IfExp (thn (hc pins s σ H _ I h) fun d s1 hzz => ?_)
 obtain ⟨H1,I1,q1⟩ := hzz
 cases d with
 | true=>exact ha pins s1 σ H1 Q I1 q1
 | false=>exact hb pins s1 σ H1 Q I1 q1
end
end L2

namespace L2
open PySem PySem.Spec PyProof.Rows

noncomputable def SqL (K:PySem.W.Frag) (H:Hp) (a:Addr) (xs:List V):Prop :=
 Rd H a (.lst xs) \/
  ∃ (o:Obj) (its:Array Value) (n:Nat),K.lookup a=some o/\o.cls = .type "list" /\ o.dict=none/\o.data = .seq its n/\its.size<=sizeLine/\Vals xs its.toList
noncomputable def SqT (K:PySem.W.Frag) (H:Hp) (a:Addr) (xs:List V):Prop :=
 Rd H a (.tup xs) \/
  ∃ (o:Obj) (its:Array Value) (n:Nat),K.lookup a=some o/\o.cls = .type "tuple" /\ o.data = .seq its n/\its.size<=sizeLine/\Vals xs its.toList
noncomputable def absV:Value->Option V
 | .none=>some .non
 | .bool b=>some (.bl b)
 | .int i _=>some (.int i)
 | .str x _=>some (.str x)
 | .bytes b _=>some (.byt b)
 | .float b _=>some (.flt b)
 | .ref a=>some (.ref a)
 | .type n=>some (.ty n)
 | _=>none
theorem RelV.abs {x:V} {u:Value} (r:RelV x u):absV u=some x:=by
 cases x with
 | non=>cases r; rfl
 | bl _=>cases r; rfl
 | int _=>obtain ⟨t,rfl⟩ := r; rfl
 | str _=>obtain ⟨t,rfl⟩ := r; rfl
 | byt _=>obtain ⟨t,rfl⟩ := r; rfl
 | flt _=>obtain ⟨t,rfl⟩ := r; rfl
 | ref _=>cases r; rfl
 | ty _=>cases r; rfl
theorem RelV.inj {x y:V} {u:Value} (r:RelV x u) (q:RelV y u):x=y:=Option.some.inj (r.abs.symm.trans q.abs)
theorem Vals.inj:∀ {xs ys:List V} {us:List Value},Vals xs us->Vals ys us->xs=ys
 | _,_,_,.nil,.nil=>rfl
 | _,_,_,.cons r t,.cons r' t'=>by rw [r.inj r',Vals.inj t t']
section
variable {X:Cx} {pins:List (Addr × Obj)} {σ:St} {H:Hp} {s:Shared} {a:Addr} {xs ys:List V}
theorem SqL.of {K:PySem.W.Frag} (h:H a=some (.lst xs)):SqL K H a xs:=.inl (.inl h)
theorem SqT.of {K:PySem.W.Frag} (h:H a=some (.tup xs)):SqT K H a xs:=.inl (.inl h)
theorem Inv.list (I:Inv X pins σ H s) (h:SqL X.K H a xs):∃ its:List Value,Vals xs its/\PlainL s.heap a its.toArray/\xs.length<=sizeLine:=by
 rcases h with h | ⟨o,its,n,hk,hc,hd,hs,hz,r⟩
 ·obtain ⟨z,its,n,r,e⟩ := h.ok I.hok
  exact ⟨its,r,⟨_,n,e,rfl,rfl,rfl⟩,z⟩
 ·refine ⟨its.toList,r,⟨o,n,I.kIn a o hk,hc,hd,by simpa using hs⟩,?_⟩
  have e:=r.length
  simp only [Array.length_toList] at e
  (first|lia|omega)
theorem Inv.tuple (I:Inv X pins σ H s) (h:SqT X.K H a xs):∃ its:List Value,Vals xs its/\IsTup s.heap a its.toArray/\xs.length<=sizeLine:=by
 rcases h with h | ⟨o,its,n,hk,hc,hs,hz,r⟩
 ·obtain ⟨z,its,r,p⟩ := h.ok I.hok
  exact ⟨its,r,p,z⟩
 ·refine ⟨its.toList,r,⟨o,I.kIn a o hk,hc,n,by simpa using hs⟩,?_⟩
  have e:=r.length
  simp only [Array.length_toList] at e
  (first|lia|omega)
theorem Inv.list_inj (I:Inv X pins σ H s) (h:SqL X.K H a xs) (h':SqL X.K H a ys):xs=ys:=by
 obtain ⟨its,r,⟨o,n,e,_,_,d⟩,_⟩ := I.list h
 obtain ⟨its',r',⟨o',n',e',_,_,d'⟩,_⟩ := I.list h'
 rw [e] at e'; cases e'
 rw [d] at d'
 injection d' with d1 _
 have:its=its':=by simpa using congrArg Array.toList d1
 subst this
 exact r.inj r'
theorem Inv.tuple_inj (I:Inv X pins σ H s) (h:SqT X.K H a xs) (h':SqT X.K H a ys):xs=ys:=by
 obtain ⟨its,r,⟨o,e,_,n,d⟩,_⟩ := I.tuple h
 obtain ⟨its',r',⟨o',e',_,n',d'⟩,_⟩ := I.tuple h'
 rw [e] at e'; cases e'
 rw [d] at d'
 injection d' with d1 _
 have:its=its':=by simpa using congrArg Array.toList d1
 subst this
 exact r.inj r'
end

noncomputable abbrev Cx.wish (X:Cx) (E:Value->Shared->Prop):Cx:={ X with xe:=E }
noncomputable abbrev Cx.nox (X:Cx):Cx:=X.wish fun _ _=>False
theorem Cx.Ok.wish {X:Cx} (ok:X.Ok) (E:Value->Shared->Prop):(X.wish E).Ok :=
 ⟨ok.mod,ok.kind,ok.glob,ok.blt,ok.above,ok.inj,ok.has,ok.cab,ok.hd,ok.frames,ok.stk,ok.exf,ok.bs,ok.bsz,ok.noex,ok.exfs,ok.funs,ok.frf⟩
theorem Cx.Ok.unwish {X:Cx} {E:Value->Shared->Prop} (ok:(X.wish E).Ok):X.Ok :=
 ⟨ok.mod,ok.kind,ok.glob,ok.blt,ok.above,ok.inj,ok.has,ok.cab,ok.hd,ok.frames,ok.stk,ok.exf,ok.bs,ok.bsz,ok.noex,ok.exfs,ok.funs,ok.frf⟩
section
variable {X:Cx} {pins:List (Addr × Obj)} {σ:St} {H:Hp} {s:Shared} {E:Value->Shared->Prop}
theorem Inv.wish (I:Inv X pins σ H s) (E:Value->Shared->Prop):Inv (X.wish E) pins σ H s:=⟨I.ok.wish E,I.os,I.bare,I.base,I.loc,I.cell,I.free,I.freeC,I.pin,I.hok,I.len⟩
theorem Inv.unwish (I:Inv (X.wish E) pins σ H s):Inv X pins σ H s:=⟨I.ok.unwish,I.os,I.bare,I.base,I.loc,I.cell,I.free,I.freeC,I.pin,I.hok,I.len⟩
theorem SP.unwish {D:Ends} {f:Flow} {s':Shared} (h:SP (X.wish E) pins D f s'):SP X pins D f s':=by
 cases f with
 | next=>obtain ⟨σ',H',I,q⟩ := h; exact ⟨σ',H',I.unwish,q⟩
 | brk=>obtain ⟨σ',H',I,q⟩ := h; exact ⟨σ',H',I.unwish,q⟩
 | cont=>obtain ⟨σ',H',I,q⟩ := h; exact ⟨σ',H',I.unwish,q⟩
 | ret u=>obtain ⟨v,σ',H',I,r,q⟩ := h; exact ⟨v,σ',H',I.unwish,r,q⟩
theorem PSs.nox {st:List Stmt} {t:TS} (h:PSs X.nox st t):PSs X st t:=⟨fun pins s σ H D I hw =>
 wpAny_mono (h pins s σ H D (I.wish _) hw) (fun _ _ q=>q.unwish) fun _ _ z=>False.elim z⟩
end

section
variable {X:Cx} {st:Stmt} {rest:List Stmt} {t u:TS} {e:Expr} {te:TE} {pos:Pos}
noncomputable def tNext:TS:=fun D σ H=>D.nx σ H
noncomputable def tSeq (t u:TS):TS:=fun D σ H=>t { D with nx:=u D } σ H
theorem zT:PSs X [] tNext:=⟨fun _ _ σ H _ I h=>wpAny_execs_nil ⟨σ,H,I,h⟩⟩
theorem zD (h1:PS X st t) (h2:PSs X rest u):PSs X (st :: rest) (tSeq t u):=by
 refine ⟨?_⟩
 intro pins s σ H D I h
 refine wpAny_execs_cons (thn (h1 pins s σ H { D with nx:=u D } I h) fun f s1 q => ?_)
 cases f with
 | next =>
  obtain ⟨σ',H',I',q⟩ := q
  exact h2 pins s1 σ' H' D I' q
 | ret v=>exact q
 | brk=>exact q
 | cont=>exact q
theorem zG (h1:PS X st t):PSs X [st] t:=by
 refine ⟨?_⟩
 intro pins s σ H D I h
 refine wpAny_execs_cons (thn (h1 pins s σ H D I h) fun f s1 q => ?_)
 cases f with
 | next=>exact wpAny_execs_nil q
 | ret v=>exact q
 | brk=>exact q
 | cont=>exact q
theorem Inv.quiet {pins:List (Addr × Obj)} {σ:St} {H:Hp} {s:Shared} (I:Inv X pins σ H s):interactive X.env=false:=by simp [interactive,I.ok.kind]
noncomputable def tDrop (te:TE):TS:=fun D σ H=>te σ H fun _ H1=>D.nx σ H1
theorem yB (he:PE X e te) (hs:swapsWith e none pos.line X.env=pure false:=by rfl):PS X (.Expr e pos) (tDrop te):=by
 refine ⟨?_⟩
 intro pins s σ H D I h
 exact wpAny_Expr_any (thn (he pins s σ H _ I h) fun v s1 ⟨x,H1,I1,r1,q1⟩=>⟨σ,H1,I1,q1⟩) I.quiet hs
noncomputable def tRet (te:TE):TS:=fun D σ H=>te σ H D.rt
theorem zS (he:PE X e te):PS X (.Return (some e) pos) (tRet te):=by
 refine ⟨?_⟩
 intro pins s σ H D I h
 exact wpAny_Return_some (thn (he pins s σ H _ I h) fun v s1 ⟨x,H1,I1,r1,q1⟩=>⟨x,σ,H1,I1,r1,q1⟩)
noncomputable def tIfS (c:TT) (t u:TS):TS:=fun D σ H=>c σ H fun b H1=>if b=true then t D σ H1 else u D σ H1
theorem zW {c:Expr} {a b:List Stmt} {tc:TT} (hc:PT X c tc) (ha:PSs X a t) (hb:PSs X b u):PS X (.If c a b pos) (tIfS tc t u):=by
 refine ⟨?_⟩
 intro pins s σ H D I h
 refine wpAny_If (thn (hc pins s σ H _ I h) fun d s1 hzz => ?_)
 obtain ⟨H1,I1,q1⟩ := hzz
 cases d with
 | true=>exact ha pins s1 σ H1 D I1 q1
 | false=>exact hb pins s1 σ H1 D I1 q1
noncomputable def tNever:TS:=fun _ _ _=>False
theorem ps_never:PS X st tNever:=⟨fun _ _ _ _ _ _ h=>h.elim⟩
end

noncomputable abbrev TG:=V->St->Hp->(St->Hp->Prop)->Prop
noncomputable abbrev TGs:=List V->St->Hp->(St->Hp->Prop)->Prop
structure PG (X:Cx) (target:Expr) (t:TG)  : Prop where
 go:∀ (pins:List (Addr × Obj)) (s:Shared) (σ:St) (H:Hp) (v:V) (u:Value) (Q:St->Hp->Prop),Inv X pins σ H s->RelV v u->t v σ H Q ->
  wpAny (model X.prog X.w) X.A (assign target X.env u) (fun _ s'=>∃ σ' H',Inv X pins σ' H' s'/\Q σ' H') X.xe s
instance {X:Cx} {target:Expr} {t:TG}:CoeFun (PG X target t) (fun _=>∀ (pins:List (Addr × Obj)) (s:Shared) (σ:St) (H:Hp) (v:V) (u:Value) (Q:St->Hp->Prop),Inv X pins σ H s->RelV v u->t v σ H Q ->
  wpAny (model X.prog X.w) X.A (assign target X.env u) (fun _ s'=>∃ σ' H',Inv X pins σ' H' s'/\Q σ' H') X.xe s):=⟨PG.go⟩
structure PGs (X:Cx) (ts:List Expr) (t:TGs)  : Prop where
 go:∀ (pins:List (Addr × Obj)) (s:Shared) (σ:St) (H:Hp) (vs:List V) (us:List Value) (Q:St->Hp->Prop),Inv X pins σ H s->Vals vs us->t vs σ H Q ->
  wpAny (model X.prog X.w) X.A (assignInOrder ((assignEach ts X.env).map (·.2)) us) (fun _ s'=>∃ σ' H',Inv X pins σ' H' s'/\Q σ' H') X.xe s
instance {X:Cx} {ts:List Expr} {t:TGs}:CoeFun (PGs X ts t) (fun _=>∀ (pins:List (Addr × Obj)) (s:Shared) (σ:St) (H:Hp) (vs:List V) (us:List Value) (Q:St->Hp->Prop),Inv X pins σ H s->Vals vs us->t vs σ H Q ->
  wpAny (model X.prog X.w) X.A (assignInOrder ((assignEach ts X.env).map (·.2)) us) (fun _ s'=>∃ σ' H',Inv X pins σ' H' s'/\Q σ' H') X.xe s):=⟨PGs.go⟩
noncomputable abbrev TSet:=V->V->V->Hp->(Hp->Prop)->Prop
noncomputable def PSet (X:Cx) (t:TSet):Prop :=
 ∀ (pins:List (Addr × Obj)) (s:Shared) (σ:St) (H:Hp) (o i v:V) (ov iv u:Value) (Q:Hp->Prop),Inv X pins σ H s->RelV o ov->RelV i iv->RelV v u->t o i v H Q ->
  wpAny (model X.prog X.w) X.A (setItem ov iv u) (fun _ s'=>∃ H',Inv X pins σ H' s'/\Q H') X.xe s
section
variable {X:Cx} {pos:Pos}
noncomputable def gName (i:Nat):TG:=fun v σ H Q=>Q (σ.set i (some v)) H
theorem zL {i:Nat} {x:Str} (hN:X.N.Nodup) (hi:X.N[i]? = some x) (hx:Loc X.env.scope x) (hf:X.fn x=true\/X.env.scope.names.lookup x=some .local:=by first | exact .inl rfl | exact .inr rfl | assumption):PG X (.Name x pos) (gName i):=by
 refine ⟨?_⟩
 intro pins s σ H v u Q I r h
 exact wpAny_assign_Name (store_ok I hN hi hx r (fun s' I'=>⟨_,H,I',h⟩) hf)
inductive gNil (vs:List V) (σ:St) (H:Hp) (Q:St->Hp->Prop):Prop
 | mk (h0:vs=[]) (h1:Q σ H):gNil vs σ H Q
inductive gCons (t:TG) (u:TGs) (vs:List V) (σ:St) (H:Hp) (Q:St->Hp->Prop):Prop
 | mk (v r : _) (h0:vs=v :: r) (h1:t v σ H fun σ' H'=>u r σ' H' Q):gCons t u vs σ H Q
theorem yW:PGs X [] gNil:=by
 refine ⟨?_⟩
 intro pins s σ H vs us Q I r h
 obtain ⟨e,h⟩ := h
 subst e
 cases r
 exact assignInOrder_nil ⟨σ,H,I,h⟩
theorem zQ {e:Expr} {es:List Expr} {t:TG} {u:TGs} (h1:PG X e t) (h2:PGs X es u)
  (hs:(assignEach (e :: es) X.env).map (·.2)=assign e X.env :: (assignEach es X.env).map (·.2):=by rfl):PGs X (e :: es) (gCons t u):=by
 refine ⟨?_⟩
 intro pins s σ H vs us Q I r h
 obtain ⟨v,vr,e1,h⟩ := h
 subst e1
 cases r with
 | cons r rr =>
  rw [hs]
  refine assignInOrder_cons (thn (h1 pins s σ H _ _ _ I r h) fun _ s1 hzz => ?_)
  obtain ⟨σ1,H1,I1,q1⟩ := hzz
  exact h2 pins s1 σ1 H1 _ _ Q I1 rr q1
inductive gTup (K:PySem.W.Frag) (n:Nat) (t:TGs) (v:V) (σ:St) (H:Hp) (Q:St->Hp->Prop):Prop
 | mk (a xs : _) (h0:v = .ref a) (h1:SqT K H a xs) (h2:xs.length=n) (h3:t xs σ H Q):gTup K n t v σ H Q
theorem xS {es:List Expr} {k:Nat} {t:TGs} {n:Nat} (hc:X.calm=true) (h:PGs X es t)
  (hn:(assignEach es X.env).length=n:=by rfl) (hst:(assignEach es X.env).findIdx? (·.1)=none:=by rfl):PG X (.Tuple es k pos) (gTup X.K n t):=by
 refine ⟨?_⟩
 intro pins s σ H v u Q I r hw
 obtain ⟨a,xs,e1,hq,hl,hw⟩ := hw
 subst e1
 cases r
 obtain ⟨its,rv,ht,hz⟩ := I.tuple hq
 refine assign_Tuple_tuple (I.ok.hd hc) ht (by simp [hn,<- hl,rv.length]) hst fun h' hx => ?_
 have I1:Inv X pins σ H { s with heap:=h' }:=I.kept (t':=s.toks) fun b o e=>hx b o (Nat.ne_of_lt (Heap.lt_size e)) e
 exact h pins _ σ H xs _ Q I1 (by simpa using rv) hw
noncomputable def gSub (to ti:TE) (t:TSet):TG:=fun v σ H Q=>to σ H fun o H1=>ti σ H1 fun i H2=>t o i v H2 fun H3=>Q σ H3
theorem pg_sub {o i:Expr} {to ti:TE} {t:TSet} (ho:PE X o to) (hi:PE X i ti) (hs:PSet X t)
  (ha:∀ v,assign (.Subscript o i pos) X.env v=(do
   let ov <- holding [v] (eval o X.env)
   let iv <- holding [v,ov] (eval i X.env)
   standAt pos
   holding [v,ov,iv] (setItem ov iv v)
   release [v,ov,iv] []):=by intro _; rfl):PG X (.Subscript o i pos) (gSub to ti t):=by
 refine ⟨?_⟩
 intro pins s σ H v u Q I r h
 rw [ha]
 refine wpAny_bind (wpAny_holding (thn (ho pins s σ H _ I h) fun ov s1 hzz => ?_))
 obtain ⟨x,H1,I1,r1,q1⟩ := hzz
 refine wpAny_bind (wpAny_holding (thn (hi pins s1 σ H1 _ I1 q1) fun iv s2 hzz => ?_))
 obtain ⟨y,H2,I2,r2,q2⟩ := hzz
 refine wpAny_bind (wpAny_standAt (wpAny_bind (wpAny_holding (thn (hs pins s2 σ H2 x y v ov iv u _ I2 r1 r2 r q2) fun _ s3 hzz => ?_))))
 obtain ⟨H3,I3,q3⟩ := hzz
 exact wpAny_release ⟨σ,H3,I3,q3⟩
noncomputable def tAsg (te:TE) (g:TG):TS:=fun D σ H=>te σ H fun x H1=>g x σ H1 D.nx
theorem jY {tg e:Expr} {te:TE} {g:TG} (he:PE X e te) (hg:PG X tg g) (hs:swapsWithSole [tg] e pos.line X.env=pure false:=by rfl) (hw:swappedStores [tg] e X.env=pure none:=by rfl)
  (h1:(assignEach [tg] X.env).map (·.2)=[assign tg X.env]:=by rfl):PS X (.Assign [tg] e pos) (tAsg te g):=by
 refine ⟨?_⟩
 intro pins s σ H D I h
 refine wpAny_Assign_stores (thn (he pins s σ H _ I h) fun v s1 ⟨x,H1,I1,r1,q1⟩ => ?_) hs hw
 rw [h1]
 exact thn (hg pins s1 σ H1 x v _ I1 r1 q1) fun _ s2 q=>q
theorem zJ {i:Nat} {x:Str} {e:Expr} {te:TE} {pos':Pos} (hN:X.N.Nodup) (hi:X.N[i]? = some x) (hx:Loc X.env.scope x) (he:PE X e te) (hs:swapsWith e (some (.Name x pos')) pos.line X.env=pure false:=by rfl) (hf:X.fn x=true\/X.env.scope.names.lookup x=some .local:=by first | exact .inl rfl | exact .inr rfl | assumption) :
  PS X (.Assign [.Name x pos'] e pos) (tAsg te (gName i)):=by
 refine ⟨?_⟩
 intro pins s σ H D I h
 refine wpAny_Assign_Name (thn (he pins s σ H _ I h) fun v s1 ⟨y,H1,I1,r1,q1⟩ => ?_) hs
 exact store_ok I1 hN hi hx r1 (fun s2 I2=>⟨_,H1,I2,q1⟩) hf
end

section
variable {X:Cx} {pos:Pos}
end

structure It where
 go:Nat->Hp->Prop
 yld:Nat->Hp->V->Hp->Prop
 stop:Nat->Hp->Prop
noncomputable def FpOk (X:Cx) (pins:List (Addr × Obj)) (H:Hp) (b:Addr):Prop :=
 H b=none/\b≠X.env.locals/\b ∉ X.fs/\(b∈X.ex\/X.s₀.heap.objs.size<=b)/\(∀ x c,X.env.cells.lookup x=some c->c≠b)/\∀ p∈X.pn++pins,p.1≠b
theorem Inv.fpOk {X:Cx} {pins:List (Addr × Obj)} {σ:St} {H H':Hp} {s:Shared} {b:Addr} (I:Inv X pins σ H s) (hb:s.heap.objs.size<=b) (hn:H' b=none):FpOk X pins H' b:=by
 refine ⟨hn,Nat.ne_of_gt (Nat.lt_of_lt_of_le I.lt hb),I.nofs hb,.inr (Nat.le_trans I.sz hb),fun x c e z => ?_,fun p hp z => ?_⟩
 ·obtain ⟨v,q⟩ := I.cell x c e
  exact absurd (Nat.lt_of_lt_of_le q.lt (by rw [z]; exact hb)) (Nat.lt_irrefl _)
 ·exact absurd (Nat.lt_of_lt_of_le (Heap.lt_size (I.pin p hp).1) (by rw [z]; exact hb)) (Nat.lt_irrefl _)
structure Turn (P:Program) (w:World) (K:PySem.W.Frag) (tg:Expr) (J:It) (fp:List Addr) (it:Addr) (tn:Nat->Heap->Prop):Prop where
 mem:it∈fp
 obj:∀ i h,tn i h->∀ b∈fp,∃ o,h.get? b=some o/\∀ v,o.data ≠ .cell v
 keep:∀ i h h',tn i h->(∀ b∈fp,∀ o,h.get? b=some o->h'.get? b=some o)->tn i h'
 item:∀ (X:Cx),X.prog=P->X.w=w->X.K=K->X.calm=true->∀ (i:Nat) (pins:List (Addr × Obj)) (s:Shared) (σ:St) (H:Hp) (E:Value->Shared->Prop),Inv X pins σ H s->(∀ b∈fp,FpOk X pins H b)->tn i s.heap->J.go i H ->
  wpAny (model P w) X.A (pyNext (.ref it)) (fun r s1=>∃ u,r=some u /\
   wpAny (model P w) X.A (letOwnedTupleGo tg (.ref it) u) (fun _ s2=>∃ x H',Inv X pins σ H' s2/\RelV x u/\J.yld i H x H'/\tn (i+1) s2.heap/\∀ b∈fp,H' b=none) E s1) E s
 done:∀ (X:Cx),X.prog=P->X.w=w->X.K=K->X.calm=true->∀ (i:Nat) (pins:List (Addr × Obj)) (s:Shared) (σ:St) (H:Hp) (E:Value->Shared->Prop),Inv X pins σ H s->(∀ b∈fp,FpOk X pins H b)->tn i s.heap->J.stop i H ->
  wpAny (model P w) X.A (pyNext (.ref it)) (fun r s1=>r=none/\Inv X pins σ H s1) E s
 self:∀ (A:Around) (i:Nat) (s:Shared) (Q:Value->Shared->Prop) (E:Value->Shared->Prop),tn i s.heap->Q (.ref it) s->wpAny (model P w) A (pyIter (.ref it)) Q E s
noncomputable abbrev TI:=St->Hp->(It->Hp->Prop)->Prop
noncomputable def PIE (X:Cx) (pins:List (Addr × Obj)) (σ:St) (tg:Expr) (R:It->Hp->Prop) (itv:Value) (s2:Shared):Prop :=
 ∃ (it:Addr) (fp:List Addr) (tn:Nat->Heap->Prop) (J:It) (H':Hp),itv = .ref it/\Inv X pins σ H' s2/\Turn X.prog X.w X.K tg J fp it tn/\tn 0 s2.heap/\(∀ b∈fp,FpOk X pins H' b)/\R J H'
structure PI (X:Cx) (tg iter:Expr) (wi:TI)  : Prop where
 go:∀ (pins:List (Addr × Obj)) (s:Shared) (σ:St) (H:Hp) (R:It->Hp->Prop),Inv X pins σ H s->wi σ H R ->
  wpAny (model X.prog X.w) X.A (eval iter X.env) (fun v s1=>wpAny (model X.prog X.w) X.A (pyIter v) (PIE X pins σ tg R) X.xe s1) X.xe s
instance {X:Cx} {tg iter:Expr} {wi:TI}:CoeFun (PI X tg iter wi) (fun _=>∀ (pins:List (Addr × Obj)) (s:Shared) (σ:St) (H:Hp) (R:It->Hp->Prop),Inv X pins σ H s->wi σ H R ->
  wpAny (model X.prog X.w) X.A (eval iter X.env) (fun v s1=>wpAny (model X.prog X.w) X.A (pyIter v) (PIE X pins σ tg R) X.xe s1) X.xe s):=⟨PI.go⟩

theorem go_of {M:Model} {A:Around} {E:Value->Shared->Prop} {s:Shared} {tg:Expr} {it:Addr} {u:Value} {o:Obj} {n:String} {vs:Array Value} {Q:Unit->Shared->Prop} (ho:s.heap.get? it=some o) (hc:o.cls = .type n) (hd:o.data = .fields vs)
    (hn:["enumerate", "zip", "dict_itemiterator", "dict_reverseitemiterator", "odict_iterator", "itertools.zip_longest", "itertools.pairwise"].contains n=false) (hQ:Q () s):wpAny M A (letOwnedTupleGo tg (.ref it) u) Q E s:=by
  unfold letOwnedTupleGo
  cases tg <;> first
    | exact wpAny_pure hQ
    | (cases u <;> first
        | exact wpAny_pure hQ
        | (refine wpAny_bind (wpAny_load ho ?_)
           rw [hc,hd]
           show wpAny M A (if (["enumerate", "zip", "dict_itemiterator", "dict_reverseitemiterator", "odict_iterator", "itertools.zip_longest", "itertools.pairwise"].contains n && vs[0]? == some (rawInt _))=true then _ else _) Q E s
           rw [if_neg (by intro h; rw [hn,Bool.false_and] at h; cases h)]
           exact wpAny_pure hQ))

noncomputable def Itl (K:PySem.W.Frag) (a:Addr):It :=
 ⟨fun i H=>∃ xs x,SqL K H a xs/\xs[i]? = some x,fun i H x H'=>H'=H/\∀ xs,SqL K H a xs->xs[i]? = some x,fun i H=>∃ xs,SqL K H a xs/\xs.length<=i⟩
noncomputable def Itt (K:PySem.W.Frag) (a:Addr):It :=
 ⟨fun i H=>∃ xs x,SqT K H a xs/\xs[i]? = some x,fun i H x H'=>H'=H/\∀ xs,SqT K H a xs->xs[i]? = some x,fun i H=>∃ xs,SqT K H a xs/\xs.length<=i⟩
noncomputable def Itr (lo:Int) (n:Nat):It:=⟨fun i _=>i<n,fun i H x H'=>H'=H/\x = .int (lo+i),fun i _=>n<=i⟩
theorem turn_list {P:Program} {w:World} {K:PySem.W.Frag} {tg:Expr} (a it:Addr):Turn P w K tg (Itl K a) [it] it (fun i h=>h.IsListIter it a i) where
 mem:=by simp
 obj:=fun i h st b hb=>by
  have e:b=it:=by simpa using hb
  subst e
  obtain ⟨o,e,c,d⟩ := st
  exact ⟨o,e,fun v z=>by rw [d] at z; cases z⟩
 keep:=fun i h h' st k=>st.at fun o e=>k it (by simp) o e
 item:=by
  intro X hP hw hK hc i pins s σ H E I hf st hg
  subst hP hw hK
  obtain ⟨xs,x,hq,hx⟩ := hg
  obtain ⟨its,rv,p,hz⟩ := I.list hq
  obtain ⟨u,hu,ru⟩ := rv.get hx
  obtain ⟨f0,f1,f2,f3,f4,f5⟩ := hf it (by simp)
  refine wpAny_pyNext_list_item st p.isList (x:=u) (by simpa using hu) fun h' st' sb => ?_
  have I1:Inv X pins σ H { s with heap:=h' }:=I.turned (t':=s.toks) (fun b o hb e=>(sb.2 b hb).trans e) f0 f1 f3 f4 f5
  obtain ⟨o,e,c,d⟩ := id st'
  exact ⟨u,rfl,go_of (s:={ s with heap:=h' }) e c d (by decide) ⟨x,H,I1,ru,⟨rfl,fun ys hy=>by rw [I.list_inj hy hq]; exact hx⟩,st',fun b hb=>(hf b hb).1⟩⟩
 done:=by
  intro X hP hw hK hc i pins s σ H E I hf st hg
  subst hP hw hK
  obtain ⟨xs,hq,hx⟩ := hg
  obtain ⟨its,rv,p,hz⟩ := I.list hq
  obtain ⟨f0,f1,f2,f3,f4,f5⟩ := hf it (by simp)
  have hl:=rv.length
  exact wpAny_pyNext_list_end (I.ok.hd hc) st p.isList (by simp; (first|lia|omega)) fun h' eb=>⟨rfl,I.turned (t':=s.toks) (fun b o hb e=>eb b o hb e) f0 f1 f3 f4 f5⟩
 self:=fun _ _ _ _ _ st h=>wpAny_pyIter_listiter st h
theorem turn_tuple {P:Program} {w:World} {K:PySem.W.Frag} {tg:Expr} (a it:Addr):Turn P w K tg (Itt K a) [it] it (fun i h=>h.IsTupleIter it a i) where
 mem:=by simp
 obj:=fun i h st b hb=>by
  have e:b=it:=by simpa using hb
  subst e
  obtain ⟨o,e,c,d⟩ := st
  exact ⟨o,e,fun v z=>by rw [d] at z; cases z⟩
 keep:=fun i h h' st k=>st.at fun o e=>k it (by simp) o e
 item:=by
  intro X hP hw hK hc i pins s σ H E I hf st hg
  subst hP hw hK
  obtain ⟨xs,x,hq,hx⟩ := hg
  obtain ⟨its,rv,p,hz⟩ := I.tuple hq
  obtain ⟨u,hu,ru⟩ := rv.get hx
  obtain ⟨f0,f1,f2,f3,f4,f5⟩ := hf it (by simp)
  refine wpAny_pyNext_tuple_item st (show s.heap.IsTuple a its.toArray from p) (x:=u) (by simpa using hu) fun h' st' sb => ?_
  have I1:Inv X pins σ H { s with heap:=h' }:=I.turned (t':=s.toks) (fun b o hb e=>(sb.2 b hb).trans e) f0 f1 f3 f4 f5
  obtain ⟨o,e,c,d⟩ := id st'
  exact ⟨u,rfl,go_of (s:={ s with heap:=h' }) e c d (by decide) ⟨x,H,I1,ru,⟨rfl,fun ys hy=>by rw [I.tuple_inj hy hq]; exact hx⟩,st',fun b hb=>(hf b hb).1⟩⟩
 done:=by
  intro X hP hw hK hc i pins s σ H E I hf st hg
  subst hP hw hK
  obtain ⟨xs,hq,hx⟩ := hg
  obtain ⟨its,rv,p,hz⟩ := I.tuple hq
  obtain ⟨f0,f1,f2,f3,f4,f5⟩ := hf it (by simp)
  have hl:=rv.length
  exact wpAny_pyNext_tuple_end (I.ok.hd hc) st (show s.heap.IsTuple a its.toArray from p) (by simp; (first|lia|omega)) fun h' eb=>⟨rfl,I.turned (t':=s.toks) (fun b o hb e=>eb b o hb e) f0 f1 f3 f4 f5⟩
 self:=fun _ _ _ _ _ st h=>wpAny_pyIter_tupleiter st h
theorem turn_range {P:Program} {w:World} {K:PySem.W.Frag} {tg:Expr} (it:Addr) (lo:Int) (n:Nat):Turn P w K tg (Itr lo n) [it] it (fun i h=>IsRangeIter h it (lo+(i:Nat) * 1) ((n:Int) - (i:Nat)) 1) where
 mem:=by simp
 obj:=fun i h st b hb=>by
  have e:b=it:=by simpa using hb
  subst e
  exact ⟨_,st,fun v z=>by
   have z':Data.fields _=Data.cell v:=z
   cases z'⟩
 keep:=fun i h h' st k=>k it (by simp) _ st
 item:=by
  intro X hP hw hK hc i pins s σ H E I hf st hg
  subst hP hw hK
  obtain ⟨f0,f1,f2,f3,f4,f5⟩ := hf it (by simp)
  have W:=Walks.range (prog:=X.prog) (w:=X.w) (I.ok.hd hc) it lo 1 n
  refine W.item i s _ _ hg st fun v h' tk hv st' kk => ?_
  obtain ⟨t,rfl⟩ := hv
  have I1:Inv X pins σ H { s with heap:=h',toks:=tk }:=I.turned (fun b o hb e=>kk b o (by simpa using hb) e) f0 f1 f3 f4 f5
  refine ⟨_,rfl,go_of (s:={ s with heap:=h',toks:=tk }) (n := "range_iterator") st' rfl rfl (by decide) ⟨.int (lo+i),H,I1,⟨t,?_⟩,⟨rfl,rfl⟩,st',fun b hb=>(hf b hb).1⟩⟩
  rw [Int.mul_one]
 done:=by
  intro X hP hw hK hc i pins s σ H E I hf st hg
  subst hP hw hK
  obtain ⟨f0,f1,f2,f3,f4,f5⟩ := hf it (by simp)
  exact wpAny_pyNext_range_end (I.ok.hd hc) st (by have:n<=i:=hg; (first|lia|omega)) fun h' eb=>⟨rfl,I.turned (t':=s.toks) (fun b o hb e=>eb b o hb e) f0 f1 f3 f4 f5⟩
 self:=fun _ _ _ _ _ st h=>wpAny_pyIter_rangeiter st h
end L2

namespace L2
open PySem PySem.Spec PyProof.Rows
section
variable {X:Cx} {tg:Expr}
inductive iListR (K:PySem.W.Frag) (x:V) (H1:Hp) (R:It->Hp->Prop):Prop
 | mk (a : _) (h0:x = .ref a) (h1:(∃ xs,SqL K H1 a xs)) (h2:R (Itl K a) H1):iListR K x H1 R
noncomputable def iList (K:PySem.W.Frag) (tl:TE):TI:=fun σ H R=>tl σ H fun x H1=>iListR K x H1 R
inductive iTupR (K:PySem.W.Frag) (x:V) (H1:Hp) (R:It->Hp->Prop):Prop
 | mk (a : _) (h0:x = .ref a) (h1:(∃ xs,SqT K H1 a xs)) (h2:R (Itt K a) H1):iTupR K x H1 R
noncomputable def iTup (K:PySem.W.Frag) (tl:TE):TI:=fun σ H R=>tl σ H fun x H1=>iTupR K x H1 R
theorem xL {l:Expr} {tl:TE} (hl:PE X l tl):PI X tg l (iList X.K tl):=by
 refine ⟨?_⟩
 intro pins s σ H R I h
 refine thn (hl pins s σ H _ I h) fun v s1 hzz => ?_
 obtain ⟨x,H1,I1,r1,q1⟩ := hzz
 obtain ⟨a,e,⟨xs,hq⟩,q⟩ := q1
 subst e
 cases r1
 obtain ⟨its,rv,p,hz⟩ := I1.list hq
 refine wpAny_pyIter_list p.isList ?_
 refine ⟨s1.heap.objs.size,[s1.heap.objs.size],_,_,H1,rfl,I1.kept (t':=s1.toks) fun b o e=>Heap.get?_push_of_some _ e,turn_list a _,⟨_,Heap.get?_push_size _ rfl,rfl,rfl⟩,fun b hb => ?_,q⟩
 have e:b=s1.heap.objs.size:=by simpa using hb
 subst e
 exact I1.fpOk (Nat.le_refl _) (I1.hok.fresh (Nat.le_refl _))
theorem pi_tup {l:Expr} {tl:TE} (hl:PE X l tl):PI X tg l (iTup X.K tl):=by
 refine ⟨?_⟩
 intro pins s σ H R I h
 refine thn (hl pins s σ H _ I h) fun v s1 hzz => ?_
 obtain ⟨x,H1,I1,r1,q1⟩ := hzz
 obtain ⟨a,e,⟨xs,hq⟩,q⟩ := q1
 subst e
 cases r1
 obtain ⟨its,rv,p,hz⟩ := I1.tuple hq
 refine wpAny_pyIter_tuple (show s1.heap.IsTuple a its.toArray from p) ?_
 refine ⟨s1.heap.objs.size,[s1.heap.objs.size],_,_,H1,rfl,I1.kept (t':=s1.toks) fun b o e=>Heap.get?_push_of_some _ e,turn_tuple a _,⟨_,Heap.get?_push_size _ rfl,rfl,rfl⟩,fun b hb => ?_,q⟩
 have e:b=s1.heap.objs.size:=by simpa using hb
 subst e
 exact I1.fpOk (Nat.le_refl _) (I1.hok.fresh (Nat.le_refl _))
theorem range_it {pins:List (Addr × Obj)} {σ:St} {H:Hp} {s:Shared} {R:It->Hp->Prop} {E:Value->Shared->Prop} {lo hi:Int} {t u v:Tok} {tk:Nat} (I:Inv X pins σ H s) (h1 : -(2 ^ 62)<=lo) (h2:lo<2 ^ 62) (h3 : -(2 ^ 62)<=hi) (h4:hi<2 ^ 62)
  (q:R (Itr lo (hi - lo).toNat) H):wpAny (model X.prog X.w) X.A (pyIter (.ref s.heap.objs.size)) (PIE X pins σ tg R) E { s with heap:=s.heap.push { cls:=.type "range",data:=.fields #[.int lo t,.int hi u,.int 1 v] },toks:=tk }:=by
 refine wpAny_pyIter_range (IsRange.new ..) (small_one h1 h2 h3 h4) ?_
 have I1:Inv X pins σ H { s with heap:=s.heap.push { cls:=.type "range",data:=.fields #[.int lo t,.int hi u,.int 1 v] },toks:=tk }:=I.kept fun b o e=>Heap.get?_push_of_some _ e
 refine ⟨(s.heap.push { cls:=.type "range",data:=.fields #[.int lo t,.int hi u,.int 1 v] }).objs.size,[(s.heap.push { cls:=.type "range",data:=.fields #[.int lo t,.int hi u,.int 1 v] }).objs.size],_,_,H,rfl,
  I1.kept (t':=tk) fun b o e=>Heap.get?_push_of_some _ e,turn_range _ lo (hi - lo).toNat,?_,fun b hb => ?_,q⟩
 ·have e1:lo+((0:Nat):Int) * 1=lo:=by simp
  have e2:(((hi - lo).toNat:Nat):Int) - ((0:Nat):Int)=Builtin.Range.rangeSize lo hi 1:=by rw [rangeSize_one]; split <;> (first|lia|omega)
  show IsRangeIter _ _ (lo+((0:Nat):Int) * 1) ((((hi - lo).toNat:Nat):Int) - ((0:Nat):Int)) 1
  rw [e1,e2]
  exact Heap.get?_push_size _ rfl
 ·have e:b=(s.heap.push { cls:=.type "range",data:=.fields #[.int lo t,.int hi u,.int 1 v] }).objs.size:=by simpa using hb
  subst e
  exact I1.fpOk (Nat.le_refl _) (I1.hok.fresh (Nat.le_refl _))
inductive iRng1R  (vs:List V) (H1:Hp) (R:It->Hp->Prop):Prop
 | mk (j:Int) (h0:vs=[.int j]) (h1 : -(2 ^ 62)<=j) (h2:j<2 ^ 62) (h3:R (Itr 0 j.toNat) H1):iRng1R vs H1 R
noncomputable def iRng1 (ta:TA):TI:=fun σ H R=>ta σ H fun vs H1=>iRng1R vs H1 R
theorem jZ {a:Expr} {ta:TA} {p pos:Pos} (hg:Gl X "range") (hm:X.mg "range" = none) (ha:PA X [a] ta) (hs:starEach [a] X.env=[(false,eval a X.env)]:=by rfl):PI X tg (.Call (.Name "range" p) [a] [] pos) (iRng1 ta):=by
 refine ⟨?_⟩
 intro pins s σ H R I h
 refine Call_ (ld_blt I hg hm boot_range (PyProof.Rows.callWith_type1 (thn (ha pos pins s σ H _ I h) fun us s1 ⟨vs,H1,I1,r1,q1⟩ => ?_) hs rfl))
 obtain ⟨j,e,q1,q2,q⟩ := q1
 subst e
 cases r1 with
 | cons r rr =>
  cases rr
  obtain ⟨t,rfl⟩ := r
  exact call_range_1 (range_it I1 (by (first|lia|omega)) (by (first|lia|omega)) q1 q2 (by simpa using q))
noncomputable def tFor (wi:TI) (g:TG) (tb:TS):TS:=fun D σ H=>wi σ H fun J H1=>∃ W:Nat->Nat->St->Hp->Prop,(∃ m,W 0 m σ H1)/\∀ i m σ H,W i m σ H ->
 (J.stop i H/\D.nx σ H)\/(J.go i H/\∃ N:St->Hp->Prop,(∀ σ' H',N σ' H'->∃ m',m'<m/\W (i+1) m' σ' H')/\∀ x H',J.yld i H x H'->g x σ H' fun σ2 H2=>tb { D with nx:=N,ct:=N,bk:=D.nx } σ2 H2)
noncomputable def pinsAt (fp:List Addr) (h:Heap):List (Addr × Obj):=fp.filterMap fun b=>(h.get? b).map fun o=>(b,o)
theorem wS {fp:List Addr} {h:Heap} {b:Addr} {o:Obj} (hb:b∈fp) (e:h.get? b=some o):(b,o)∈pinsAt fp h:=List.mem_filterMap.mpr ⟨b,hb,by rw [e]; rfl⟩
theorem of_pinsAt {fp:List Addr} {h:Heap} {p:Addr × Obj} (hp:p∈pinsAt fp h):p.1∈fp/\h.get? p.1=some p.2:=by
 obtain ⟨b,hb,e⟩ := List.mem_filterMap.mp hp
 cases q:h.get? b with
 | none=>rw [q] at e; cases e
 | some o =>
  rw [q] at e
  have e':(b,o)=p:=Option.some.inj e
  subst e'
  exact ⟨hb,q⟩
theorem Inv.pinned {pins:List (Addr × Obj)} {σ:St} {H:Hp} {s:Shared} {fp:List Addr} (I:Inv X pins σ H s) (hf:∀ b∈fp,FpOk X pins H b) (ho:∀ b∈fp,∃ o,s.heap.get? b=some o/\∀ v,o.data ≠ .cell v):Inv X (pins++pinsAt fp s.heap) σ H s :=
 I.pins_of fun p hp=>(List.mem_append.mp hp).elim (fun z=>I.pin p (List.mem_append_right _ z)) fun z=>by
  obtain ⟨hb,e⟩ := of_pinsAt z
  obtain ⟨f0,f1,f2,_⟩ := hf p.1 hb
  obtain ⟨o,e',d⟩ := ho p.1 hb
  rw [e] at e'; cases e'
  exact ⟨e,f0,f1,f2,d⟩
theorem Inv.unpinned {pins pl:List (Addr × Obj)} {σ:St} {H:Hp} {s:Shared} (I:Inv X (pins++pl) σ H s):Inv X pins σ H s:=I.pins_of fun p hp=>I.pin p (List.mem_append_right _ (List.mem_append_left _ hp))
theorem yY {iter:Expr} {body:List Stmt} {wi:TI} {g:TG} {tb:TS} {pos:Pos} (hp:PassesOwn (model X.prog X.w) X.A X.env X.xe) (hc:X.calm=true) (hi:PI X tg iter wi) (hg:PG X tg g) (hb:PSs X body tb)
  (hs:∀ x,foldedSetIterable iter X.env x=pure x:=by intro _; rfl):PS X (.For tg iter body [] pos) (tFor wi g tb):=by
 refine ⟨?_⟩
 intro pins s σ H D I h
 refine wpAny_For (thn (hi pins s σ H _ I h) fun v s1 h1=>thn h1 fun itv s2 h2 => ?_) hs
 obtain ⟨it,fp,tn,J,H2,e,I2,T,st2,f2,W,⟨m0,w0⟩,turn⟩ := h2
 subst e
 have stat:∀ {H':Hp},(∀ b∈fp,H' b=none)->∀ b∈fp,FpOk X pins H' b:=fun hn b hb=>⟨hn b hb,(f2 b hb).2⟩
 refine codeAny_forLoop_any (fun n s'=>∃ i σ' H',Inv X pins σ' H' s'/\tn i s'.heap/\(∀ b∈fp,H' b=none)/\W i n σ' H') ?_ m0 ⟨0,σ,H2,I2,st2,fun b hb=>(f2 b hb).1,w0⟩
 rintro n s3 ⟨i,σ3,H3,I3,st3,fr3,w3⟩
 rcases turn i n σ3 H3 w3 with ⟨stop,qn⟩ | ⟨go,N,hN,step⟩
 ·refine wpAny_passesOwn hp (thn (T.done X rfl rfl rfl hc i pins s3 σ3 H3 X.xe I3 (stat fr3) st3 stop) fun r s4 hzz => ?_)
  obtain ⟨hr,I4⟩ := hzz
  subst hr
  exact wpAny_execs_nil ⟨σ3,H3,I4,qn⟩
 ·refine wpAny_passesOwn hp (thn (T.item X rfl rfl rfl hc i pins s3 σ3 H3 X.xe I3 (stat fr3) st3 go) fun r s4 hzz => ?_)
  obtain ⟨u,hr,h4⟩ := hzz
  subst hr
  refine wpAny_passesOwn hp (thn h4 fun _ s5 hzz => ?_)
  obtain ⟨x,H5,I5,r5,y5,st5,fr5⟩ := hzz
  have I5':=I5.pinned (stat fr5) (T.obj _ _ st5)
  refine wpAny_passesOwn hp (thn (hg _ s5 σ3 H5 x u _ I5' r5 (step x H5 y5)) fun _ s6 hzz => ?_)
  obtain ⟨σ6,H6,I6,q6⟩ := hzz
  refine wpAny_passesOwn hp (thn (hb _ s6 σ6 H6 _ I6 q6) fun f s7 q7 => ?_)
  have again:∀ {σ7:St} {H7:Hp},Inv X (pins++pinsAt fp s5.heap) σ7 H7 s7->N σ7 H7->∃ m,m<n/\∃ i σ' H',Inv X pins σ' H' s7/\tn i s7.heap/\(∀ b∈fp,H' b=none)/\W i m σ' H':=fun {σ7 H7} I7 n7=>by
   obtain ⟨m',hm,w7⟩ := hN σ7 H7 n7
   refine ⟨m',hm,i+1,σ7,H7,I7.unpinned,T.keep _ _ _ st5 fun b hb o e=>(I7.pin (b,o) (List.mem_append_right _ (List.mem_append_right _ (wS hb e)))).1,fun b hb => ?_,w7⟩
   obtain ⟨o,e,d⟩ := T.obj _ _ st5 b hb
   exact (I7.pin (b,o) (List.mem_append_right _ (List.mem_append_right _ (wS hb e)))).2.1
  cases f with
  | next=>obtain ⟨σ7,H7,I7,n7⟩ := q7; exact again I7 n7
  | cont=>obtain ⟨σ7,H7,I7,n7⟩ := q7; exact again I7 n7
  | brk=>obtain ⟨σ7,H7,I7,q7⟩ := q7; exact ⟨σ7,H7,I7.unpinned,q7⟩
  | ret v=>obtain ⟨x7,σ7,H7,I7,r7,q7⟩ := q7; exact ⟨x7,σ7,H7,I7.unpinned,r7,q7⟩
end

theorem xT {K:PySem.W.Frag} {a:Addr} {xs:List V} {g:TG} {tb:TS} {D:Ends} {σ:St} {H:Hp} (Pv:Nat->St->Hp->Prop) (h0:Pv 0 σ H) (hl:∀ i σ H,i<=xs.length->Pv i σ H->SqL K H a xs)
  (hs:∀ i x σ H,xs[i]? = some x->Pv i σ H->g x σ H fun σ2 H2=>tb { D with nx:=Pv (i+1),ct:=Pv (i+1),bk:=D.nx } σ2 H2) (hd:∀ σ H,Pv xs.length σ H->D.nx σ H) :
  ∃ W:Nat->Nat->St->Hp->Prop,(∃ m,W 0 m σ H)/\∀ i m σ H,W i m σ H ->
   ((Itl K a).stop i H/\D.nx σ H)\/((Itl K a).go i H/\∃ N:St->Hp->Prop,(∀ σ' H',N σ' H'->∃ m',m'<m/\W (i+1) m' σ' H')/\∀ x H',(Itl K a).yld i H x H'->g x σ H' fun σ2 H2=>tb { D with nx:=N,ct:=N,bk:=D.nx } σ2 H2):=by
 refine ⟨fun i m σ H=>m=xs.length - i/\i<=xs.length/\Pv i σ H,⟨xs.length,by simp,Nat.zero_le _,h0⟩,?_⟩
 rintro i m σ H ⟨rfl,hi,p⟩
 have q:=hl i σ H hi p
 by_cases hlt:i<xs.length
 ·refine .inr ⟨⟨xs,xs[i],q,by simp [hlt]⟩,Pv (i+1),fun σ' H' p'=>⟨xs.length - (i+1),by (first|lia|omega),rfl,hlt,p'⟩,fun x H' y => ?_⟩
  obtain ⟨e,y⟩ := y
  subst e
  exact hs i x σ _ (y xs q) p
 ·have e:i=xs.length:=by (first|lia|omega)
  subst e
  exact .inl ⟨⟨xs,q,Nat.le_refl _⟩,hd σ H p⟩
theorem for_tup {K:PySem.W.Frag} {a:Addr} {xs:List V} {g:TG} {tb:TS} {D:Ends} {σ:St} {H:Hp} (Pv:Nat->St->Hp->Prop) (h0:Pv 0 σ H) (hl:∀ i σ H,i<=xs.length->Pv i σ H->SqT K H a xs)
  (hs:∀ i x σ H,xs[i]? = some x->Pv i σ H->g x σ H fun σ2 H2=>tb { D with nx:=Pv (i+1),ct:=Pv (i+1),bk:=D.nx } σ2 H2) (hd:∀ σ H,Pv xs.length σ H->D.nx σ H) :
  ∃ W:Nat->Nat->St->Hp->Prop,(∃ m,W 0 m σ H)/\∀ i m σ H,W i m σ H ->
   ((Itt K a).stop i H/\D.nx σ H)\/((Itt K a).go i H/\∃ N:St->Hp->Prop,(∀ σ' H',N σ' H'->∃ m',m'<m/\W (i+1) m' σ' H')/\∀ x H',(Itt K a).yld i H x H'->g x σ H' fun σ2 H2=>tb { D with nx:=N,ct:=N,bk:=D.nx } σ2 H2):=by
 refine ⟨fun i m σ H=>m=xs.length - i/\i<=xs.length/\Pv i σ H,⟨xs.length,by simp,Nat.zero_le _,h0⟩,?_⟩
 rintro i m σ H ⟨rfl,hi,p⟩
 have q:=hl i σ H hi p
 by_cases hlt:i<xs.length
 ·refine .inr ⟨⟨xs,xs[i],q,by simp [hlt]⟩,Pv (i+1),fun σ' H' p'=>⟨xs.length - (i+1),by (first|lia|omega),rfl,hlt,p'⟩,fun x H' y => ?_⟩
  obtain ⟨e,y⟩ := y
  subst e
  exact hs i x σ _ (y xs q) p
 ·have e:i=xs.length:=by (first|lia|omega)
  subst e
  exact .inl ⟨⟨xs,q,Nat.le_refl _⟩,hd σ H p⟩
theorem kU {lo:Int} {n:Nat} {g:TG} {tb:TS} {D:Ends} {σ:St} {H:Hp} (Pv:Nat->St->Hp->Prop) (h0:Pv 0 σ H)
  (hs:∀ i σ H,i<n->Pv i σ H->g (.int (lo+i)) σ H fun σ2 H2=>tb { D with nx:=Pv (i+1),ct:=Pv (i+1),bk:=D.nx } σ2 H2) (hd:∀ σ H,Pv n σ H->D.nx σ H) :
  ∃ W:Nat->Nat->St->Hp->Prop,(∃ m,W 0 m σ H)/\∀ i m σ H,W i m σ H ->
   ((Itr lo n).stop i H/\D.nx σ H)\/((Itr lo n).go i H/\∃ N:St->Hp->Prop,(∀ σ' H',N σ' H'->∃ m',m'<m/\W (i+1) m' σ' H')/\∀ x H',(Itr lo n).yld i H x H'->g x σ H' fun σ2 H2=>tb { D with nx:=N,ct:=N,bk:=D.nx } σ2 H2):=by
 refine ⟨fun i m σ H=>m=n - i/\i<=n/\Pv i σ H,⟨n,by simp,Nat.zero_le _,h0⟩,?_⟩
 rintro i m σ H ⟨rfl,hi,p⟩
 by_cases hlt:i<n
 ·refine .inr ⟨hlt,Pv (i+1),fun σ' H' p'=>⟨n - (i+1),by (first|lia|omega),rfl,hlt,p'⟩,fun x H' y => ?_⟩
  obtain ⟨e,y⟩ := y
  subst e y
  exact hs i σ _ hlt p
 ·have e:i=n:=by (first|lia|omega)
  subst e
  exact .inl ⟨Nat.le_refl _,hd σ H p⟩
end L2

namespace L2
open PySem PySem.Spec PyProof.Rows

noncomputable abbrev R2:=V->V->Hp->VK->Prop
noncomputable def OpR (X:Cx) (f:Value->Value->Sem Value) (r:R2):Prop :=
 ∀ (pins:List (Addr × Obj)) (s:Shared) (σ:St) (H:Hp) (x y:V) (v u:Value) (Q:VK),Inv X pins σ H s->RelV x v->RelV y u->r x y H Q ->
  wpAny (model X.prog X.w) X.A (f v u) (EP X pins σ Q) X.xe s
noncomputable def CallR (X:Cx) (f:Value) (r:List V->Hp->VK->Prop):Prop :=
 ∀ (pins:List (Addr × Obj)) (s:Shared) (σ:St) (H:Hp) (xs:List V) (us:List Value) (Q:VK),Inv X pins σ H s->Vals xs us->r xs H Q ->
  wpAny (model X.prog X.w) X.A (call f us) (EP X pins σ Q) X.xe s
noncomputable def tOp (r:R2) (ta tb:TE):TE:=fun σ H Q=>ta σ H fun x H1=>tb σ H1 fun y H2=>r x y H2 Q
inductive rI (C:Int->Int->Prop) (g:Int->Int->V) (x:V) (y:V) (H:Hp) (Q:VK):Prop
 | mk (i j : _) (h0:x = .int i) (h1:y = .int j) (h2:C i j) (h3:Q (g i j) H):rI C g x y H Q
inductive rI0 (g:Int->Int->V) (x:V) (y:V) (H:Hp) (Q:VK):Prop
 | mk (i j : _) (h0:x = .int i) (h1:y = .int j) (h2:Q (g i j) H):rI0 g x y H Q
section
variable {X:Cx} {a b c:Expr} {ta tb tc:TE} {pos:Pos}

theorem binT (ha:PE X a ta) (hb:PE X b tb) {pins:List (Addr × Obj)} {s:Shared} {σ:St} {H:Hp} {R:V->V->Hp->Prop} (I:Inv X pins σ H s)
  (h:ta σ H fun x H1=>tb σ H1 fun y H2=>R x y H2) {Q:Value->Shared->Prop} {f:Value->Value->Sem Value}
  (hf:∀ v u s2 x y H2,Inv X pins σ H2 s2->RelV x v->RelV y u->R x y H2->wpAny (model X.prog X.w) X.A (f v u) Q X.xe s2) :
  wpAny (model X.prog X.w) X.A (eval a X.env) (fun v s₁=>wpAny (model X.prog X.w) X.A (eval b X.env) (fun u s₂=>wpAny (model X.prog X.w) X.A (f v u) Q X.xe s₂) X.xe s₁) X.xe s:=by
 refine thn (ha pins s σ H _ I h) fun v s1 hzz => ?_
 obtain ⟨x,H1,I1,r1,q1⟩ := hzz
 refine thn (hb pins s1 σ H1 _ I1 q1) fun u s2 hzz => ?_
 obtain ⟨y,H2,I2,r2,q2⟩ := hzz
 exact hf v u s2 x y H2 I2 r1 r2 q2

theorem zP {op:Operator} {r:R2} (ho:OpR X (binaryOp op) r) (ha:PE X a ta) (hb:PE X b tb):PE X (.BinOp a op b pos) (tOp r ta tb):=by
 refine ⟨?_⟩
 intro pins s σ H Q I h
 exact wpAny_BinOp (binT ha hb I h fun v u s2 x y H2 I2 rx ry q=>ho pins s2 σ H2 x y v u Q I2 rx ry q)
theorem opI {f:Value->Value->Sem Value} {C:Int->Int->Prop} {g:Int->Int->Int}
  (rule:∀ (i j:Int) (t u:Tok) (s:Shared) (Q:Value->Shared->Prop) (E:Value->Shared->Prop),C i j->Q (.int (g i j) s.toks) { s with toks:=s.toks+1 }->wpAny (model X.prog X.w) X.A (f (.int i t) (.int j u)) Q E s) :
  OpR X f (rI C fun i j => .int (g i j)):=by
 intro pins s σ H x y v u Q I rx ry h
 obtain ⟨i,j,rfl,rfl,hc,q⟩ := h
 obtain ⟨t,rfl⟩ := rx
 obtain ⟨t',rfl⟩ := ry
 exact rule i j t t' s _ _ hc ⟨.int (g i j),H,I.tok _,⟨_,rfl⟩,q⟩
theorem opI0 {f:Value->Value->Sem Value} {g:Int->Int->Int}
  (rule:∀ (i j:Int) (t u:Tok) (s:Shared) (Q:Value->Shared->Prop) (E:Value->Shared->Prop),Q (.int (g i j) s.toks) { s with toks:=s.toks+1 }->wpAny (model X.prog X.w) X.A (f (.int i t) (.int j u)) Q E s) :
  OpR X f (rI0 fun i j => .int (g i j)):=by
 intro pins s σ H x y v u Q I rx ry h
 obtain ⟨i,j,rfl,rfl,q⟩ := h
 obtain ⟨t,rfl⟩ := rx
 obtain ⟨t',rfl⟩ := ry
 exact rule i j t t' s _ _ ⟨.int (g i j),H,I.tok _,⟨_,rfl⟩,q⟩
theorem opB0 {f:Value->Value->Sem Value} {g:Int->Int->Bool}
  (rule:∀ (i j:Int) (t u:Tok) (s:Shared) (Q:Value->Shared->Prop) (E:Value->Shared->Prop),Q (.bool (g i j)) s->wpAny (model X.prog X.w) X.A (f (.int i t) (.int j u)) Q E s) :
  OpR X f (rI0 fun i j => .bl (g i j)):=by
 intro pins s σ H x y v u Q I rx ry h
 obtain ⟨i,j,rfl,rfl,q⟩ := h
 obtain ⟨t,rfl⟩ := rx
 obtain ⟨t',rfl⟩ := ry
 exact rule i j t t' s _ _ ⟨.bl (g i j),H,I,rfl,q⟩

noncomputable def CPow (i j:Int):Prop:=0<=j/\j<=1000000/\i.natAbs<2 ^ 64
noncomputable def CMul (i j:Int):Prop:=(-(2 ^ 64)<i/\i<2 ^ 64)\/(-(2 ^ 64)<j/\j<2 ^ 64)
theorem CMul.ok {i j:Int} (h:CMul i j):IntMulOk i j:=by
 rcases h with ⟨h1,h2⟩ | ⟨h1,h2⟩
 ·exact .of_left (intBits_le_64 h1 h2)
 ·exact .of_right (intBits_le_64 h1 h2)
theorem zY:OpR X (binaryOp .Add) (rI0 fun i j => .int (i+j)):=opI0 fun _ _ _ _ _ _ _ q=>add_int q
theorem jV:OpR X (binaryOp .Sub) (rI0 fun i j => .int (i - j)):=opI0 fun _ _ _ _ _ _ _ q=>sub_int q
theorem kL:OpR X (binaryOp .Mult) (rI CMul fun i j => .int (i * j)):=opI fun _ _ _ _ _ _ _ hc q=>mul_int q hc.ok
theorem op_mod:OpR X (binaryOp .Mod) (rI (fun _ j=>0<j) fun i j => .int (i % j)):=opI fun i j _ _ _ _ _ hc q=>by
 have h1:(0:Int)<j:=hc
 exact mod_int' (by (first|lia|omega)) (by rw [Int.fmod_eq_emod_of_nonneg i (by (first|lia|omega))]; exact q)
theorem op_pow:OpR X (binaryOp .Pow) (rI CPow fun i j => .int (i ^ j.toNat)):=opI fun _ _ _ _ _ _ _ hc q=>pow_int_small hc.1 hc.2.1 hc.2.2 q
end

noncomputable def scal:V->V->Bool
 | .non,.non=>true | .non,.int _=>true | .int _,.non=>true | .non,.bl _=>true | .bl _,.non=>true | .non,.str _=>true | .str _,.non=>true
 | .int _,.int _=>true | .bl _,.bl _=>true | .str _,.str _=>true | .byt _,.byt _=>true
 | .int _,.str _=>true | .str _,.int _=>true | .bl _,.str _=>true | .str _,.bl _=>true
 | _,_=>false
noncomputable def rEq:R2:=fun x y H Q=>scal x y=true/\Q (.bl (decide (x=y))) H
noncomputable def rNe:R2:=fun x y H Q=>scal x y=true/\Q (.bl (!decide (x=y))) H

theorem dec_int {i j:Int}:decide (V.int i=V.int j)=(i == j):=by
 rw [Bool.eq_iff_iff]
 simp
 exact ⟨fun h=>by injection h,fun h=>by rw [h]⟩
theorem dec_bl {i j:Bool}:decide (V.bl i=V.bl j)=(i == j):=by
 rw [Bool.eq_iff_iff]
 simp
 exact ⟨fun h=>by injection h,fun h=>by rw [h]⟩
theorem dec_str {i j:Str}:decide (V.str i=V.str j)=(i == j):=by
 rw [Bool.eq_iff_iff]
 simp
 exact ⟨fun h=>by injection h,fun h=>by rw [h]⟩
theorem dec_byt {i j:Array UInt8}:decide (V.byt i=V.byt j)=(i.toList == j.toList):=by
 rw [Bool.eq_iff_iff]
 cases i
 cases j
 simp
 exact ⟨fun h=>by injection h with h; injection h,fun h=>by rw [h]⟩

section
variable {X:Cx} {a b c:Expr} {ta tb tc:TE} {pos:Pos}
theorem yP {pins:List (Addr × Obj)} {σ:St} {H:Hp} {s:Shared} {Q:VK} {k k':Bool} (I:Inv X pins σ H s) (q:Q (.bl k) H) (e:k=k'):EP X pins σ Q (.bool k') s:=by
 subst e
 exact ⟨.bl k,H,I,rfl,q⟩
theorem yK:OpR X (compareOp .Eq) rEq:=by
 intro pins s σ H x y v u Q I rx ry h
 obtain ⟨hs,q⟩ := h
 cases x with
 | non =>
  cases rx
  cases y with
  | non=>cases ry; exact PySem.EqNone.eq_none_none (yP I q (by simp))
  | bl j=>cases ry; exact PySem.EqNone.eq_none_bool (yP I q (by simp))
  | int j=>obtain ⟨t',rfl⟩ := ry; exact PySem.EqNone.eq_none_int (yP I q (by simp))
  | str j=>obtain ⟨t',rfl⟩ := ry; exact PySem.EqNone.eq_none_str (yP I q (by simp))
  | _=>exact absurd (show false=true from hs) Bool.false_ne_true
 | bl i =>
  cases rx
  cases y with
  | non=>cases ry; exact PySem.EqNone.eq_bool_none (yP I q (by simp))
  | bl j=>cases ry; exact eq_bool (yP I q dec_bl)
  | str j=>obtain ⟨t',rfl⟩ := ry; exact PySem.EqMixed.eq_bool_str (yP I q (by simp))
  | _=>exact absurd (show false=true from hs) Bool.false_ne_true
 | int i =>
  obtain ⟨t,rfl⟩ := rx
  cases y with
  | non=>cases ry; exact PySem.EqNone.eq_int_none (yP I q (by simp))
  | int j=>obtain ⟨t',rfl⟩ := ry; exact eq_int (yP I q dec_int)
  | str j=>obtain ⟨t',rfl⟩ := ry; exact PySem.EqMixed.eq_int_str (yP I q (by simp))
  | _=>exact absurd (show false=true from hs) Bool.false_ne_true
 | str i =>
  obtain ⟨t,rfl⟩ := rx
  cases y with
  | non=>cases ry; exact PySem.EqNone.eq_str_none (yP I q (by simp))
  | bl j=>cases ry; exact PySem.EqMixed.eq_str_bool (yP I q (by simp))
  | int j=>obtain ⟨t',rfl⟩ := ry; exact PySem.EqMixed.eq_str_int (yP I q (by simp))
  | str j=>obtain ⟨t',rfl⟩ := ry; exact eq_str (yP I q dec_str)
  | _=>exact absurd (show false=true from hs) Bool.false_ne_true
 | byt i =>
  obtain ⟨t,rfl⟩ := rx
  cases y with
  | byt j=>obtain ⟨t',rfl⟩ := ry; exact PySem.W.eq_bytes (yP I q dec_byt)
  | _=>exact absurd (show false=true from hs) Bool.false_ne_true
 | _=>cases y <;> exact absurd (show false=true from hs) Bool.false_ne_true
theorem op_ne:OpR X (compareOp .NotEq) rNe:=by
 intro pins s σ H x y v u Q I rx ry h
 obtain ⟨hs,q⟩ := h
 cases x with
 | non =>
  cases rx
  cases y with
  | non=>cases ry; exact PySem.EqNone.ne_none_none (yP I q (by simp))
  | bl j=>cases ry; exact PySem.EqNone.ne_none_bool (yP I q (by simp))
  | int j=>obtain ⟨t',rfl⟩ := ry; exact PySem.EqNone.ne_none_int (yP I q (by simp))
  | str j=>obtain ⟨t',rfl⟩ := ry; exact PySem.EqNone.ne_none_str (yP I q (by simp))
  | _=>exact absurd (show false=true from hs) Bool.false_ne_true
 | bl i =>
  cases rx
  cases y with
  | non=>cases ry; exact PySem.EqNone.ne_bool_none (yP I q (by simp))
  | bl j=>cases ry; exact ne_bool (yP I q (congrArg not dec_bl))
  | str j=>obtain ⟨t',rfl⟩ := ry; exact PySem.EqMixed.ne_bool_str (yP I q (by simp))
  | _=>exact absurd (show false=true from hs) Bool.false_ne_true
 | int i =>
  obtain ⟨t,rfl⟩ := rx
  cases y with
  | non=>cases ry; exact PySem.EqNone.ne_int_none (yP I q (by simp))
  | int j=>obtain ⟨t',rfl⟩ := ry; exact ne_int (yP I q (congrArg not dec_int))
  | str j=>obtain ⟨t',rfl⟩ := ry; exact PySem.EqMixed.ne_int_str (yP I q (by simp))
  | _=>exact absurd (show false=true from hs) Bool.false_ne_true
 | str i =>
  obtain ⟨t,rfl⟩ := rx
  cases y with
  | non=>cases ry; exact PySem.EqNone.ne_str_none (yP I q (by simp))
  | bl j=>cases ry; exact PySem.EqMixed.ne_str_bool (yP I q (by simp))
  | int j=>obtain ⟨t',rfl⟩ := ry; exact PySem.EqMixed.ne_str_int (yP I q (by simp))
  | str j=>obtain ⟨t',rfl⟩ := ry; exact ne_str (yP I q (congrArg not dec_str))
  | _=>exact absurd (show false=true from hs) Bool.false_ne_true
 | byt i =>
  obtain ⟨t,rfl⟩ := rx
  cases y with
  | byt j=>obtain ⟨t',rfl⟩ := ry; exact PySem.W.ne_bytes (yP I q (congrArg not dec_byt))
  | _=>exact absurd (show false=true from hs) Bool.false_ne_true
 | _=>cases y <;> exact absurd (show false=true from hs) Bool.false_ne_true

theorem qQ:OpR X (compareOp .Lt) (rI0 fun i j => .bl (decide (i<j))):=opB0 fun _ _ _ _ _ _ _ q=>lt_int q
theorem op_le:OpR X (compareOp .LtE) (rI0 fun i j => .bl (decide (i<=j))):=opB0 fun _ _ _ _ _ _ _ q=>le_int q
theorem op_gt:OpR X (compareOp .Gt) (rI0 fun i j => .bl (decide (j<i))):=opB0 fun _ _ _ _ _ _ _ q=>gt_int q
theorem op_ge:OpR X (compareOp .GtE) (rI0 fun i j => .bl (decide (j<=i))):=opB0 fun _ _ _ _ _ _ _ q=>ge_int q
theorem nomark (b:Expr) {op:CmpOp} (h:op ≠ .In:=by decide) (h2:op ≠ .NotIn:=by decide):behindInMarks op b=false:=by
 have e1:(op == CmpOp.In)=false:=by cases op <;> first | rfl | exact absurd rfl h
 have e2:(op == CmpOp.NotIn)=false:=by cases op <;> first | rfl | exact absurd rfl h2
 cases b <;> simp [behindInMarks,e1,e2]
theorem qO {op:CmpOp} {r:R2} (ho:OpR X (compareOp op) r) (ha:PE X a ta) (hb:PE X b tb) (hm:behindInMarks op b=false):PE X (.Compare a [op] [b] pos) (tOp r ta tb):=by
 refine ⟨?_⟩
 intro pins s σ H Q I h
 exact wpAny_Compare1 (binT ha hb I h fun v u s2 x y H2 I2 rx ry q=>ho pins s2 σ H2 x y v u Q I2 rx ry q) hm
inductive tTestR  (x:V) (H':Hp) (Q:Bool->Hp->Prop):Prop
 | mk (k : _) (h0:x = .bl k) (h1:Q k H'):tTestR x H' Q
noncomputable def tTest (t:TE):TT:=fun σ H Q=>t σ H fun x H'=>tTestR x H' Q
theorem zN {op:CmpOp} {r:R2} (ho:OpR X (compareOp op) r) (ha:PE X a ta) (hb:PE X b tb) (hm:behindInMarks op b=false):PT X (.Compare a [op] [b] pos) (tTest (tOp r ta tb)):=by
 refine ⟨?_⟩
 intro pins s σ H Q I h
 refine wpAny_isTrue_Compare1 (thn (ha pins s σ H _ I h) fun v s1 ⟨x,H1,I1,r1,q1⟩=>thn (hb pins s1 σ H1 _ I1 q1) fun u s2 ⟨y,H2,I2,r2,q2⟩ =>
  thn (ho pins s2 σ H2 x y v u _ I2 r1 r2 q2) fun c s3 ⟨z,H3,I3,r3,k,e,q3⟩ => ?_) hm
 subst e
 cases r3
 exact wpAny_truthy_bool ⟨H3,I3,q3⟩
noncomputable def tChain (r r':R2) (ta tb tc:TE):TE:=fun σ H Q=>ta σ H fun x H1=>tb σ H1 fun y H2=>r x y H2 fun z H3=>∃ k,z = .bl k /\
 (if k=true then tc σ H3 fun w' H4=>r' y w' H4 Q else Q (.bl false) H3)
theorem qD {op op':CmpOp} {r r':R2} (ho:OpR X (compareOp op) r) (ho':OpR X (compareOp op') r') (ha:PE X a ta) (hb:PE X b tb) (hc:PE X c tc)
  (hm:lastMarks [op,op'] [b,c]=false:=by with_unfolding_all rfl):PE X (.Compare a [op,op'] [b,c] pos) (tChain r r' ta tb tc):=by
 refine ⟨?_⟩
 intro pins s σ H Q I h
 refine Compare_chain (thn (ha pins s σ H _ I h) fun v s1 ⟨x,H1,I1,r1,q1⟩=>chain_link (thn (hb pins s1 σ H1 _ I1 q1) fun u s2 ⟨y,H2,I2,r2,q2⟩ =>
  thn (ho pins s2 σ H2 x y v u _ I2 r1 r2 q2) fun d s3 ⟨z,H3,I3,r3,k,e,q3⟩ => ?_)) hm
 subst e
 cases r3
 refine wpAny_truthy_bool ?_
 cases k with
 | false=>exact ite_ff ⟨.bl false,H3,I3,rfl,q3⟩
 | true=>exact ite_tt (chain_last (thn (hc pins s3 σ H3 _ I3 q3) fun w' s4 ⟨z',H4,I4,r4,q4⟩=>ho' pins s4 σ H4 y z' u w' Q I4 r2 r4 q4))
theorem line63:(sizeLine:Nat)<2 ^ 63:=by rw [sizeLine_eq]; decide
theorem vals1 {x:V} {us:List Value} (r:Vals [x] us):∃ u,us=[u]/\RelV x u:=by
 cases r with
 | cons r1 r2=>cases r2; exact ⟨_,rfl,r1⟩
theorem vals2 {x y:V} {us:List Value} (r:Vals [x,y] us):∃ u w',us=[u,w']/\RelV x u/\RelV y w':=by
 cases r with
 | cons r1 r2 =>
  cases r2 with
  | cons r3 r4=>cases r4; exact ⟨_,_,rfl,r1,r3⟩
theorem kW:CallR X (.type "int") (fun xs H Q=>(∃ i,xs=[.int i]/\Q (.int i) H)\/∃ k,xs=[.bl k]/\Q (.int (if k then 1 else 0)) H):=by
 intro pins s σ H xs us Q I r h
 rcases h with ⟨i,rfl,q⟩ | ⟨k,rfl,q⟩
 ·obtain ⟨u,rfl,t,rfl⟩ := vals1 r
  exact call_int_int ⟨.int i,H,I,⟨_,rfl⟩,q⟩
 ·obtain ⟨u,rfl,r1⟩ := vals1 r
  cases r1
  exact call_int_bool ⟨.int (if k then 1 else 0),H,I.tok _,⟨_,rfl⟩,q⟩
end
end L2

namespace L2
open PySem PySem.Spec PyProof.Rows

structure ObjM (h:Heap) (x dx C:Addr) (mA:Str->Option Value):Prop where
 obj:h.get? x=some (PySem.W.instObj C dx)
 ns:h.Ns1 dx mA
 ne:dx≠x

theorem lookIn_ns {h:Heap} {dx:Addr} {mA:Str->Option Value} (n:h.Ns1 dx mA):∃ od,h.get? dx=some od/\∀ name,PySem.W.lookIn name od=some (mA name):=by
 obtain ⟨o,es,ep,ho,hd,hk,_,hm⟩ := n
 refine ⟨o,ho,fun name => ?_⟩
 have e:=hm name
 unfold nsFind findBy at e
 rw [<- Array.find?_toList] at e
 unfold PySem.W.lookIn
 rw [hd]
 dsimp only
 split
 ·rename_i y q
  rw [q] at e
  exact congrArg some e
 ·rename_i q
  rw [q] at e
  have a:es.toList.any (·.refKey)=false:=by
   rw [List.any_eq_false]
   intro y hy
   obtain ⟨z,t,hkey⟩ := hk y (Array.mem_toList_iff.mp hy)
   simp [DictEntry.refKey,hkey]
  have a':¬ es.toList.any (·.refKey)=true:=by rw [a]; exact Bool.false_ne_true
  rw [if_neg a']
  exact congrArg some e

theorem ObjM.look {h:Heap} {x dx C:Addr} {mA:Str->Option Value} (I:ObjM h x dx C mA):∃ od,PySem.W.InstAt h x (PySem.W.instObj C dx) C (some od)/\∀ name,PySem.W.lookIn name od=some (mA name) :=
 let ⟨od,ho,hl⟩ := lookIn_ns I.ns
 ⟨od,⟨I.obj,rfl,rfl,ho⟩,hl⟩

section
variable {prog:Program} {w:World} {A:Around} {E:Value->Shared->Prop} {s:Shared} {K:PySem.W.Frag} {x dx C f:Addr} {mA:Str->Option Value} {name:Str} {v:Value}

theorem get_map {expr:Bool} {Q:Value->Shared->Prop} (X:K.In s.heap) (I:ObjM s.heap x dx C mA) (hg:PySem.W.plainGet K C name=true) (hh:PySem.W.hasDictIn K C=true)
  (ha:PySem.W.findIn K (.ref C) name=some none) (hv:mA name=some v) (hv':PySem.W.handedIn v=true) (h:Q v { s with toks:=s.toks+1 }) :
  wpAny (model prog w) A (getAttr (.ref x) name expr) Q E s:=by
 obtain ⟨od,J,hl⟩ := I.look
 exact PySem.W.get_value X J (PySem.W.plainGet_of hg).1 (PySem.W.findObj_own hh ha rfl (by rw [hl,hv])) hv' h

theorem get_meth {pl:Sem Bool} {Q:Value × List Value->Shared->Prop} (X:K.In s.heap) (I:ObjM s.heap x dx C mA) (hg:PySem.W.plainGet K C name=true)
  (hf:PySem.W.findIn K (.ref C) name=some (some (.ref f))) (ht:PySem.W.isFn K (.ref f)=true) (hv:mA name=none) (h:Q (.ref f,[.ref x]) s) :
  wpAny (model prog w) A (getMethod (.ref x) name pl) Q E s:=by
 obtain ⟨od,J,hl⟩ := I.look
 exact PySem.W.method_fn X J (PySem.W.plainGet_of hg).1 (PySem.W.plainGet_of hg).2 hf (beq_iff_eq.mp ht) (by show (PySem.W.lookIn name od).map (·.isSome)=some false; rw [hl,hv]; rfl) h

theorem set_map {ns:List Str} {Q:Unit->Shared->Prop} (X:K.In s.heap) (I:ObjM s.heap x dx C mA)
  (hs:PySem.W.findIn K (.ref C) "__setattr__" = some (some (.builtin "object.__setattr__"))) (hp:PySem.W.plainOver K C=true) (ht:PySem.W.takerIn K C name=some none) (hh:PySem.W.hasDictIn K C=true)
  (hw:PySem.Within mA ns) (hsz:ns.length<=sizeLine)
  (h:∀ h',ObjM h' x dx C (fun y=>if y=name then some v else mA y)->Heap.SameBut dx s.heap h'->Q () { s with heap:=h',toks:=s.toks+2 }) :
  wpAny (model prog w) A (setAttr (.ref x) name v) Q E s:=by
 obtain ⟨od,J,hl⟩ := I.look
 refine PySem.W.set_plain X J hs (PySem.W.osa_open (s:={ s with toks:=s.toks+1 }) (r:=none) X J hp ht fun b => ?_)
 obtain ⟨cd,hc,hd'⟩ := PySem.W.any_some hh
 have hx:s.heap.get? x=some ⟨.ref C,some dx,.plain,#[]⟩ := I.obj
 refine wpAny_bind (wpAny_pure (wpAny_bind (wpAny_bind (wpAny_loadPart hx (wpAny_bind (PySem.W.Looks.here (s:={ s with toks:=s.toks+1 }) (PySem.W.looks_clsIn X hc) ?_))))))
 rw [hd']
 refine wpAny_pure (a:=some dx) (wpAny_bind (wpAny_pure (wpAny_bind ?_)))
 refine wpAny_nsSet1 (s:={ s with toks:=s.toks+1 }) I.ns fun h' hn2 hs2 => ?_
 obtain ⟨oD,esD,epD,hoD,hdD,hcD⟩ := hn2.count (PySem.Within.cons name v hw)
 refine wpAny_bind (wpAny_lookBehind hoD (by rw [hdD]; exact pastItsLine_dict (Nat.le_trans hcD (by rw [List.length_cons]; (first|lia|omega)))) ?_)
 exact wpAny_pure (h _ ⟨(hs2.2 _ (Ne.symm I.ne)).trans I.obj,hn2,I.ne⟩ hs2)

theorem make_map {R:Result->Shared->Prop} {vs:List Value} {kw:List (Str × Value)} (X:K.In s.heap) (hm:PySem.W.makesIn K C=true)
  (hi:PySem.W.findIn K (.ref C) "__init__" = some (some (.ref f))) (hf:PySem.W.typeIn K (.ref f)=some (.type "function"))
  (h:codeAny (model prog w) (A.under (.builtin "type.__call__" ⟨.ref C :: vs,kw⟩)) (.call (.ref f) ⟨.ref (s.heap.objs.size+1) :: vs,kw⟩) (PySem.W.InitBack (s.heap.objs.size+1) R)
   { s with heap:=(s.heap.push PySem.W.emptyDict).push (PySem.W.instObj C s.heap.objs.size) }) :
  codeAny (model prog w) A (.call (.ref C) ⟨vs,kw⟩) R s:=by
 obtain ⟨hh,g,d,t,os⟩ := s
 exact PySem.W.make_core (PySem.W.makes_of X hm) (PySem.W.looks_findIn X hi) (fun self=>PySem.W.bind_fn X self hf) (.inl rfl) h
end

noncomputable def putF (f:Str) (v:V):List (Str × V)->List (Str × V)
 | []=>[(f,v)]
 | (g,x) :: r=>if g=f then (g,v) :: r else (g,x) :: putF f v r
theorem lookup_putF (f g:Str) (v:V):∀ fs:List (Str × V),(putF f v fs).lookup g=if g=f then some v else fs.lookup g
 | []=>by
  show List.lookup g [(f,v)]=_
  by_cases h:g=f
  ·have hb:(g == f)=true:=beq_iff_eq.mpr h
   simp only [List.lookup,hb,if_pos h]
  ·have hb:(g == f)=false:=beq_eq_false_iff_ne.mpr h
   simp only [List.lookup,hb,if_neg h]
 | (k,x) :: r=>by
  have ih:=lookup_putF f g v r
  rw [show putF f v ((k,x) :: r)=(if k=f then (k,v) :: r else (k,x) :: putF f v r) from rfl]
  by_cases hk:k=f
  ·rw [if_pos hk]
   by_cases h:g=k
   ·have hb:(g == k)=true:=beq_iff_eq.mpr h
    simp only [List.lookup,hb,if_pos (h.trans hk)]
   ·have hb:(g == k)=false:=beq_eq_false_iff_ne.mpr h
    simp only [List.lookup,hb,if_neg (fun e:g=f=>h (e.trans hk.symm))]
  ·rw [if_neg hk]
   by_cases h:g=k
   ·have hb:(g == k)=true:=beq_iff_eq.mpr h
    simp only [List.lookup,hb,if_neg (fun e:g=f=>hk (h.symm.trans e))]
   ·have hb:(g == k)=false:=beq_eq_false_iff_ne.mpr h
    simp only [List.lookup,hb]
    exact ih
theorem wC (f:Str) (v:V):∀ fs:List (Str × V),f∈(putF f v fs).map (·.1)/\∀ g,g∈fs.map (·.1)->g∈(putF f v fs).map (·.1)
 | []=>⟨by simp [putF],fun g h=>by simp at h⟩
 | (k,x) :: r=>by
  obtain ⟨i1,i2⟩ := wC f v r
  rw [show putF f v ((k,x) :: r)=(if k=f then (k,v) :: r else (k,x) :: putF f v r) from rfl]
  by_cases hk:k=f
  ·rw [if_pos hk]
   subst hk
   exact ⟨by simp,fun g h=>by simpa using h⟩
  ·rw [if_neg hk]
   refine ⟨?_,fun g h => ?_⟩
   ·rw [List.map_cons]
    exact List.mem_cons_of_mem _ i1
   ·rw [List.map_cons] at h ⊢
    rcases List.mem_cons.mp h with e | e
    ·exact List.mem_cons.mpr (.inl e)
    ·exact List.mem_cons_of_mem _ (i2 g e)
theorem length_putF (f:Str) (v:V):∀ fs:List (Str × V),(putF f v fs).length<=fs.length+1
 | []=>by simp [putF]
 | (k,x) :: r=>by
  have ih:=length_putF f v r
  rw [show putF f v ((k,x) :: r)=(if k=f then (k,v) :: r else (k,x) :: putF f v r) from rfl]
  by_cases hk:k=f
  ·rw [if_pos hk,List.length_cons,List.length_cons]; (first|lia|omega)
  ·rw [if_neg hk,List.length_cons,List.length_cons]; (first|lia|omega)

theorem RelO.some_of {v:V} {o:Option Value} (r:RelO (some v) o):∃ u,o=some u/\RelV v u:=by
 cases o with
 | none=>exact (show False from r).elim
 | some u=>exact ⟨u,rfl,r⟩
theorem RelO.none_of {o:Option Value} (r:RelO none o):o=none:=by
 cases o with
 | none=>rfl
 | some u=>exact (show False from r).elim
theorem handed_of {v:V} {u:Value} (r:RelV v u):PySem.W.handedIn u=true:=by
 cases v with
 | non=>cases (show u=Value.none from r); rfl
 | bl b=>cases (show u=Value.bool b from r); rfl
 | int i=>obtain ⟨t,e⟩ := (show ∃ t,u=Value.int i t from r); cases e; rfl
 | str x=>obtain ⟨t,e⟩ := (show ∃ t,u=Value.str x t from r); cases e; rfl
 | byt b=>obtain ⟨t,e⟩ := (show ∃ t,u=Value.bytes b t from r); cases e; rfl
 | flt b=>obtain ⟨t,e⟩ := (show ∃ t,u=Value.float b t from r); cases e; rfl
 | ref a=>cases (show u=Value.ref a from r); rfl
 | ty n=>cases (show u=Value.type n from r); rfl

section
variable {P:Program} {w:World} {H H':Hp} {h h':Heap} {a C dx:Addr} {fs fs':List (Str × V)}
theorem ins_get (hok:HOk P w H h) (e:H a=some (.ins C dx fs)):∃ mA,ObjM h a dx C mA/\(∀ f,RelO (fs.lookup f) (mA f))/\PySem.Within mA (fs.map (·.1))/\fs.length<=1000/\H dx=some (.own a):=by
 obtain ⟨d,z,ne,ob,mA,n,r,q⟩ := (show ObjOk P w H h a (.ins C dx fs) from hok a _ e)
 exact ⟨mA,⟨ob,n,ne⟩,r,q,z,d⟩
end

structure Cls (K:PySem.W.Frag) (C:Addr):Prop where
 pg:PySem.W.plainGet K C Str.empty=true
 hd:PySem.W.hasDictIn K C=true
 po:PySem.W.plainOver K C=true
 sa:PySem.W.findIn K (.ref C) "__setattr__" = some (some (.builtin "object.__setattr__"))
theorem Cls.get {K:PySem.W.Frag} {C:Addr} (c:Cls K C) (f:Str):PySem.W.plainGet K C f=true:=c.pg
noncomputable def NoAttr (K:PySem.W.Frag) (C:Addr) (f:Str):Prop:=PySem.W.findIn K (.ref C) f=some none
theorem NoAttr.taker {K:PySem.W.Frag} {C:Addr} {f:Str} (n:NoAttr K C f):PySem.W.takerIn K C f=some none:=by
 unfold PySem.W.takerIn
 rw [show PySem.W.findIn K (.ref C) f=some none from n]
 rfl
structure Meth (K:PySem.W.Frag) (C:Addr) (m:Str) (f:Addr):Prop where
 at_:PySem.W.findIn K (.ref C) m=some (some (.ref f))
 fn:PySem.W.isFn K (.ref f)=true
 kp:PySem.W.keepIn K (.ref f)=true

section
variable {X:Cx} {pins:List (Addr × Obj)} {σ:St} {H:Hp} {s:Shared} {a C dx:Addr} {fs:List (Str × V)} {f:Str} {v:V} {A:Around} {E:Value->Shared->Prop}

theorem getattr_ok {b:Bool} {Q:Value->Shared->Prop} (I:Inv X pins σ H s) (e:H a=some (.ins C dx fs)) (c:Cls X.K C) (n:NoAttr X.K C f) (l:fs.lookup f=some v)
  (h:∀ u s',Inv X pins σ H s'->RelV v u->Q u s'):wpAny (model X.prog X.w) A (getAttr (.ref a) f b) Q E s:=by
 obtain ⟨mA,O,r,_,_,_⟩ := ins_get I.hok e
 obtain ⟨u,hu,ru⟩ := RelO.some_of (v:=v) (o:=mA f) (by rw [<- l]; exact r f)
 exact get_map I.kIn O (c.get f) c.hd n hu (handed_of ru) (h u _ (I.tok _) ru)

theorem getmeth_ok {m:Str} {g:Addr} {pl:Sem Bool} {Q:Value × List Value->Shared->Prop} (I:Inv X pins σ H s) (e:H a=some (.ins C dx fs)) (c:Cls X.K C) (k:Meth X.K C m g) (l:fs.lookup m=none)
  (h:Q (.ref g,[.ref a]) s):wpAny (model X.prog X.w) A (getMethod (.ref a) m pl) Q E s:=by
 obtain ⟨mA,O,r,_,_,_⟩ := ins_get I.hok e
 have hn:mA m=none:=RelO.none_of (by rw [<- l]; exact r m)
 exact get_meth I.kIn O (c.get m) k.at_ k.fn hn h

theorem setattr_ok {y:V} {u:Value} {Q:Unit->Shared->Prop} (I:Inv X pins σ H s) (e:H a=some (.ins C dx fs)) (c:Cls X.K C) (n:NoAttr X.K C f) (hl:fs.length<1000) (ry:RelV y u)
  (h:∀ s',Inv X pins σ (upd H a (.ins C dx (putF f y fs))) s'->Q () s'):wpAny (model X.prog X.w) A (setAttr (.ref a) f u) Q E s:=by
 obtain ⟨mA,O,r,wi,_,ho⟩ := ins_get I.hok e
 have hz:(fs.map (·.1)).length<=sizeLine:=by rw [List.length_map,sizeLine_eq]; (first|lia|omega)
 refine set_map I.kIn O c.sa c.po n.taker c.hd wi hz fun h' O' sb=>h _ ?_
 have hd:∃ o,h'.get? dx=some o:=let ⟨o,_,_,e',_⟩ := O'.ns; ⟨o,e'⟩
 refine I.write (x:=a) (e:=dx) (by rw [e]; exact True.intro) (.inr ho) (fun b q hb z=>(sb.2 b hb).trans z) hd ?_
 refine ⟨by rw [zK O.ne]; exact ho,?_,O.ne,O'.obj,_,O'.ns,fun g => ?_,fun g hg => ?_⟩
 ·have:=length_putF f y fs; (first|lia|omega)
 ·show RelO ((putF f y fs).lookup g) (if g=f then some u else mA g)
  rw [lookup_putF]
  by_cases q:g=f
  ·rw [if_pos q,if_pos q]; exact ry
  ·rw [if_neg q,if_neg q]; exact r g
 ·by_cases q:g=f
  ·rw [q]; exact (wC f y fs).1
  ·refine (wC f y fs).2 g (wi g fun z=>hg ?_)
   show (if g=f then some u else mA g)=none
   rw [if_neg q]; exact z

theorem Inv.made (I:Inv X pins σ H s):Inv X pins σ (upd (upd H s.heap.objs.size (.own (s.heap.objs.size+1))) (s.heap.objs.size+1) (.ins C s.heap.objs.size []))
  { s with heap:=(s.heap.push PySem.W.emptyDict).push (PySem.W.instObj C s.heap.objs.size) }:=by
 have e1:(s.heap.push PySem.W.emptyDict).get? s.heap.objs.size=some PySem.W.emptyDict:=Heap.get?_push_size s.heap rfl
 have e2:((s.heap.push PySem.W.emptyDict).push (PySem.W.instObj C s.heap.objs.size)).get? (s.heap.objs.size+1)=some (PySem.W.instObj C s.heap.objs.size):=by
  have:=Heap.get?_push_size (s.heap.push PySem.W.emptyDict) (o:=PySem.W.instObj C s.heap.objs.size) rfl
  rwa [Heap.size_push] at this
 have e3:(s.heap.push PySem.W.emptyDict).Ns s.heap.objs.size (fun _=>none):=⟨PySem.W.emptyDict,#[],_,e1,rfl,(fun e he=>absurd he (by simp)),fun _=>rfl⟩
 have I1:=I.laid (a:=s.heap.objs.size) (o:=.own (s.heap.objs.size+1)) (h':=s.heap.push PySem.W.emptyDict) (t':=s.toks) (fun b u q=>Heap.get?_push_of_some _ q) (Nat.le_refl _) ⟨_,e1⟩
 refine I1.laid (a:=s.heap.objs.size+1) (o:=.ins C s.heap.objs.size []) (t':=s.toks) (fun b u q=>Heap.get?_push_of_some _ q) (Nat.le_of_eq (Heap.size_push _ _)) ?_
 have ne:s.heap.objs.size≠s.heap.objs.size+1:=Nat.ne_of_lt (Nat.lt_succ_self _)
 refine ⟨by rw [zK ne,zB],Nat.zero_le _,ne,e2,fun _=>none,(Heap.Ns1.of_empty e3).at fun o q=>Heap.get?_push_of_some _ q,fun _=>True.intro,fun y hy=>absurd rfl hy⟩

theorem attr_of {prog:Program} {w:World} {env:Env} {e:Expr} {f:Str} {pos:Pos} {s:Shared} {Q:Value->Shared->Prop} (hb:attributeBase e f env (eval e env)=eval e env)
  (h:wpAny (model prog w) A (eval e env) (fun o s₁=>wpAny (model prog w) A (getAttr o f true) Q E s₁) E s):wpAny (model prog w) A (eval (.Attribute e f pos) env) Q E s :=
 Attribute_any_ h (by rw [arm_eval_Attribute,hb])
end

inductive tFldR (K:PySem.W.Frag) (f:Str) (x:V) (H1:Hp) (Q:VK):Prop
 | mk (a C dx fs v : _) (h0:x = .ref a) (h1:H1 a=some (.ins C dx fs)) (h2:Cls K C) (h3:NoAttr K C f) (h4:fs.lookup f=some v) (h5:Q v H1):tFldR K f x H1 Q
noncomputable def tFld (K:PySem.W.Frag) (ta:TE) (f:Str):TE:=fun σ H Q=>ta σ H fun x H1=>tFldR K f x H1 Q
noncomputable def sFld (K:PySem.W.Frag) (ta tv:TE) (f:Str):TS:=fun D σ H=>tv σ H fun y H1=>ta σ H1 fun x H2=>∃ a C dx fs,x = .ref a/\H2 a=some (.ins C dx fs)/\Cls K C/\NoAttr K C f/\fs.length<1000 /\
 D.nx σ (upd H2 a (.ins C dx (putF f y fs)))
noncomputable def InOp (X:Cx) (op:Operator) (rd:V->V->Hp->VK->Prop):Prop :=
 ∀ (pins:List (Addr × Obj)) (s:Shared) (σ:St) (H:Hp) (x y:V) (u v:Value) (Q:VK),Inv X pins σ H s->RelV x u->RelV y v->rd x y H Q->wpAny (model X.prog X.w) X.A (inplaceOp op u v) (EP X pins σ Q) X.xe s
noncomputable def sFldAug (K:PySem.W.Frag) (ta tv:TE) (rd:V->V->Hp->VK->Prop) (f:Str):TS:=fun D σ H=>ta σ H fun x H1=>∃ a C dx fs v,x = .ref a/\H1 a=some (.ins C dx fs)/\Cls K C/\NoAttr K C f/\fs.lookup f=some v /\
 tv σ H1 fun y H2=>rd v y H2 fun z H3=>∃ dx' fs',H3 a=some (.ins C dx' fs')/\fs'.length<1000/\D.nx σ (upd H3 a (.ins C dx' (putF f z fs')))

section
variable {X:Cx} {o e value:Expr} {f:Str} {pos pos' tpos:Pos} {ta tv:TE}
theorem yG (he:PE X e ta) (hb:attributeBase e f X.env (eval e X.env)=eval e X.env):PE X (.Attribute e f pos) (tFld X.K ta f):=by
 refine ⟨?_⟩
 intro pins s σ H Q I h
 refine attr_of hb (thn (he pins s σ H _ I h) fun u s1 hzz => ?_)
 obtain ⟨x,H1,I1,rx,a,C,dx,fs,v,ex,ea,c,n,l,q⟩ := hzz
 subst ex
 obtain rfl:u=Value.ref a:=rx
 exact getattr_ok I1 ea c n l fun u' s2 I2 ru=>⟨v,H1,I2,ru,q⟩
theorem ps_fld (ha:PE X o ta) (hv:PE X value tv) (hs:swapsWith value (some (.Attribute o f pos')) pos.line X.env=pure false):PS X (.Assign [.Attribute o f pos'] value pos) (sFld X.K ta tv f):=by
 refine ⟨?_⟩
 intro pins s σ H D I h
 refine plainObj_wpAny_Assign_Attribute (thn (hv pins s σ H _ I h) fun u s1 ⟨y,H1,I1,ry,q⟩=>thn (ha pins s1 σ H1 _ I1 q) fun ov s2 ⟨x,H2,I2,rx,a,C,dx,fs,ex,ea,c,n,l,q2⟩ => ?_) hs
 subst ex
 obtain rfl:ov=Value.ref a:=rx
 exact setattr_ok I2 ea c n l ry fun s3 I3=>⟨σ,_,I3,q2⟩
theorem ps_fldaug {op:Operator} {rd:V->V->Hp->VK->Prop} (ha:PE X o ta) (hv:PE X value tv) (hop:InOp X op rd):PS X (.AugAssign (.Attribute o f tpos) op value pos) (sFldAug X.K ta tv rd f):=by
 refine ⟨?_⟩
 intro pins s σ H D I h
 refine wpAny_AugAssign_AttributeAny (thn (ha pins s σ H _ I h) fun ov s1 hzz => ?_)
 obtain ⟨x,H1,I1,rx,a,C,dx,fs,v,ex,ea,c,n,l,q⟩ := hzz
 subst ex
 obtain rfl:ov=Value.ref a:=rx
 refine getattr_ok I1 ea c n l fun u s2 I2 ru=>thn (hv pins s2 σ H1 _ I2 q) fun w3 s3 ⟨y,H2,I3,ry,q3⟩=>thn (hop pins s3 σ H2 v y u w3 _ I3 ru ry q3) fun w4 s4 hzz => ?_
 obtain ⟨z,H3,I4,rz,dx',fs',ea',l',q4⟩ := hzz
 exact setattr_ok I4 ea' c n l' rz fun s5 I5=>⟨σ,_,I5,q4⟩
noncomputable def rAdd:V->V->Hp->VK->Prop:=fun x y H Q=>∃ i j,x = .int i/\y = .int j/\Q (.int (i+j)) H
theorem in_add:InOp X .Add rAdd:=by
 rintro pins s σ H x y u v Q I rx ry ⟨i,j,rfl,rfl,q⟩
 obtain ⟨t,rfl⟩ := (show ∃ t,u=Value.int i t from rx)
 obtain ⟨t',rfl⟩ := (show ∃ t',v=Value.int j t' from ry)
 exact PyProof.Rows.iadd_int ⟨.int (i+j),H,I.tok _,⟨_,rfl⟩,q⟩
end

section
variable {X:Cx} {pins:List (Addr × Obj)} {σ:St} {H:Hp} {s:Shared} {A:Around} {E:Value->Shared->Prop} {Q:Value->Shared->Prop} {c:Value} {b:Bool}
inductive TyOf (K:PySem.W.Frag) (H:Hp):V->Value->Prop where
 | non:TyOf K H .non (.type "NoneType")
 | bl (x:Bool):TyOf K H (.bl x) (.type "bool")
 | int (i:Int):TyOf K H (.int i) (.type "int")
 | str (x:Str):TyOf K H (.str x) (.type "str")
 | flt (x:UInt64):TyOf K H (.flt x) (.type "float")
 | lst {a:Addr} {xs:List V} (e:H a=some (.lst xs)):TyOf K H (.ref a) (.type "list")
 | frz {a:Addr} {o:Obj} {xs:List V} (e:H a=some (.frz o (.lst xs))):TyOf K H (.ref a) (.type "list")
 | tup {a:Addr} {xs:List V} (e:H a=some (.tup xs)):TyOf K H (.ref a) (.type "tuple")
 | dK {a:Addr} {kvs:List (Key × V)} (e:H a=some (.dK kvs)):TyOf K H (.ref a) (.type "dict")
 | dT {a:Addr} {kvs:List (List Key × V)} (e:H a=some (.dT kvs)):TyOf K H (.ref a) (.type "dict")
 | ins {a C dx:Addr} {fs:List (Str × V)} (e:H a=some (.ins C dx fs)) (cl:Cls K C) (ha:PySem.W.findIn K (.ref C) "__class__" = some (some (.builtin "object.__class__")))
   (hn:PySem.W.specialIn K (.builtin "object.__class__") "__get__" = some (some (.builtin "getset_descriptor.__get__"))) (htk:PySem.W.takesIn K (.builtin "object.__class__")=some true)
   (hm:PySem.W.mroIn K C (.type "object")=some true):TyOf K H (.ref a) (.ref C)
theorem isinst_ok {x:V} {u t:Value} (I:Inv X pins σ H s) (rx:RelV x u) (ty:TyOf X.K H x t) (e:PySem.W.kitOne X.K t c=some b) (h:∀ tk,Q (.bool b) { s with toks:=tk }) :
  wpAny (model X.prog X.w) A (call (.builtin "isinstance") [u,c]) Q E s:=by
 cases ty with
 | non=>cases (show u=Value.none from rx); exact PySem.W.kia_one PySem.W.kitx_none I.kIn True.intro e (fun z=>nomatch z) h
 | bl y=>cases (show u=Value.bool y from rx); exact PySem.W.kia_one PySem.W.kitx_bool I.kIn True.intro e (fun z=>nomatch z) h
 | int i=>obtain ⟨t,q⟩ := (show ∃ t,u=Value.int i t from rx); cases q; exact PySem.W.kia_one PySem.W.kitx_int I.kIn True.intro e (fun z=>nomatch z) h
 | str y=>obtain ⟨t,q⟩ := (show ∃ t,u=Value.str y t from rx); cases q; exact PySem.W.kia_one PySem.W.kitx_str I.kIn True.intro e (fun z=>nomatch z) h
 | flt y=>obtain ⟨t,q⟩ := (show ∃ t,u=Value.float y t from rx); cases q; exact PySem.W.kia_one PySem.W.kitx_float I.kIn True.intro e (fun z=>nomatch z) h
 | @lst a xs ea =>
  cases (show u=Value.ref a from rx)
  obtain ⟨_,_,n,_,h1⟩ := (show ObjOk X.prog X.w H s.heap a (.lst xs) from I.hok a _ ea)
  exact PySem.W.kia_one PySem.W.kitx_list I.kIn ⟨_,h1,rfl⟩ e (fun z=>nomatch z) h
 | @frz a ob xs ea =>
  cases (show u=Value.ref a from rx)
  obtain ⟨_,_,_,n,_,h1⟩ := (show ObjOk X.prog X.w H s.heap a (.frz ob (.lst xs)) from I.hok a _ ea)
  exact PySem.W.kia_one PySem.W.kitx_list I.kIn ⟨_,h1,rfl⟩ e (fun z=>nomatch z) h
 | @tup a xs ea =>
  cases (show u=Value.ref a from rx)
  obtain ⟨_,_,_,p⟩ := (show ObjOk X.prog X.w H s.heap a (.tup xs) from I.hok a _ ea)
  obtain ⟨o,h1,h2,_⟩ := p
  exact PySem.W.kia_one PySem.W.kitx_tuple I.kIn ⟨o,h1,h2⟩ e (fun z=>nomatch z) h
 | @dK a kvs ea =>
  cases (show u=Value.ref a from rx)
  obtain ⟨_,_,vs,_,p⟩ := (show ObjOk X.prog X.w H s.heap a (.dK kvs) from I.hok a _ ea)
  obtain ⟨o,es,ep,h1,h2,_⟩ := p
  exact PySem.W.kia_one PySem.W.kitx_dict I.kIn ⟨o,h1,h2.1⟩ e (fun z=>nomatch z) h
 | @dT a kvs ea =>
  cases (show u=Value.ref a from rx)
  obtain ⟨_,_,xs,_,o,es,ep,h1,h2,_⟩ := (show ObjOk X.prog X.w H s.heap a (.dT kvs) from I.hok a _ ea)
  exact PySem.W.kia_one PySem.W.kitx_dict I.kIn ⟨o,h1,h2.1⟩ e (fun z=>nomatch z) h
 | @ins a C dx fs ea cl ha hn htk hm =>
  cases (show u=Value.ref a from rx)
  obtain ⟨mA,O,_⟩ := ins_get I.hok ea
  obtain ⟨od,J,_⟩ := O.look
  exact PySem.W.kia_one (PySem.W.kitx_own (cl.get _) cl.hd ha hn htk hm) I.kIn J e (fun z=>nomatch z) h
end
end L2

namespace L2
open PySem PySem.Spec PyProof.Rows

structure Room (k:Nat) (A:Around):Prop where
 hd:A.handled=none
 dp:A.depth+3 * k+5<recursionLimit
 un:A.units+16 * k+200<cLine
theorem Room.mono {j k:Nat} {A:Around} (r:Room k A) (h:j<=k):Room j A:=⟨r.hd,by have:=r.dp; (first|lia|omega),by have:=r.un; (first|lia|omega)⟩
theorem Room.deeper {k:Nat} {A:Around} (r:Room (k+1) A) (env:Env):Room k (A.deeper env) :=
 ⟨r.hd,by have:=r.dp; show A.depth+1+3 * k+5<_; (first|lia|omega),by have:=r.un; show A.units+3+16 * k+200<_; (first|lia|omega)⟩
theorem make_depth {A:Around} {C:Addr} {us:List Value} {kw:List (Str × Value)}:(A.under (.builtin "type.__call__" ⟨.ref C :: us,kw⟩)).depth=A.depth+1:=by
 first | rfl | simp [Around.under,Code.weight,Code.isCreation,Code.isGuard,Code.isCaller,Code.frames,Code.isFrame,guardIds]
theorem make_units {A:Around} {C:Addr} {us:List Value} {kw:List (Str × Value)}:(A.under (.builtin "type.__call__" ⟨.ref C :: us,kw⟩)).units=A.units+1:=by
 first | rfl | simp [Around.under,Code.cUnits,Code.frames,Code.isFrame]
theorem Room.make {k:Nat} {A:Around} (r:Room (k+1) A) (C:Addr) (us:List Value) (kw:List (Str × Value)):Room k (A.under (.builtin "type.__call__" ⟨.ref C :: us,kw⟩)) :=
 ⟨r.hd,by have:=r.dp; rw [make_depth]; (first|lia|omega),by have:=r.un; rw [make_units]; (first|lia|omega)⟩
theorem Room.depth {k:Nat} {A:Around} (r:Room k A):A.depth<recursionLimit:=by have:=r.dp; (first|lia|omega)
noncomputable def tNil:TA:=fun _ H Q=>Q [] H
noncomputable def tCons (ta:TE) (tr:TA):TA:=fun σ H Q=>ta σ H fun x H1=>tr σ H1 fun xs H2=>Q (x :: xs) H2
section
variable {X:Cx} {e:Expr} {es:List Expr} {te:TE} {t:TA} {pos:Pos}
theorem zC:PA X [] tNil:=⟨fun _ _ _ _ H Q I h=>Calls.spliced_nil ⟨[],H,I,.nil,h⟩⟩
theorem zA (ha:PE X e te) (hr:PA X es t) (hs:starEach (e :: es) X.env=(false,eval e X.env) :: starEach es X.env:=by rfl):PA X (e :: es) (tCons te t):=by
 refine ⟨?_⟩
 intro pos pins s σ H Q I h
 rw [hs]
 show wpAny _ _ (spliced ((false,eval e X.env) :: backTo pos (starEach es X.env))) _ _ s
 refine Calls.spliced_cons (thn (ha pins s σ H _ I h) fun u s1 hzz => ?_)
 obtain ⟨x,H1,I1,r1,q1⟩ := hzz
 exact thn (hr pos pins s1 σ H1 _ I1 q1) fun us s2 ⟨xs,H2,I2,r2,q2⟩=>⟨x :: xs,H2,I2,.cons r1 r2,q2⟩

inductive tTupR  (xs:List V) (H1:Hp) (Q:VK):Prop
 | mk (h0:xs.length<=sizeLine) (h1:∀ p,H1 p=none->Q (.ref p) (upd H1 p (.tup xs))):tTupR xs H1 Q
noncomputable def tTup (t:TA):TE:=fun σ H Q=>t σ H fun xs H1=>tTupR xs H1 Q
inductive tLstR  (xs:List V) (H1:Hp) (Q:VK):Prop
 | mk (h0:xs.length<=sizeLine) (h1:∀ p,H1 p=none->Q (.ref p) (upd H1 p (.lst xs))):tLstR xs H1 Q
noncomputable def tLst (t:TA):TE:=fun σ H Q=>t σ H fun xs H1=>tLstR xs H1 Q
theorem zU {x1} (h:PA X es t):PE X (.Tuple es x1 pos) (tTup t):=by
 refine ⟨?_⟩
 intro pins s σ H Q I hq
 refine wpAny_Tuple_spliced (thn (h pos pins s σ H _ I hq) fun us s1 ⟨xs,H1,I1,r,z,q⟩=>⟨by rw [<- r.length]; exact z,?_⟩)
 have hf:H1 s1.heap.objs.size=none:=I1.hok.fresh (Nat.le_refl _)
 refine ⟨.ref s1.heap.objs.size,upd H1 s1.heap.objs.size (.tup xs),I1.laid (t':=s1.toks) (fun b u e=>Heap.get?_push_of_some _ e) (Nat.le_refl _) ?_,rfl,q _ hf⟩
 exact ⟨z,us,r,⟨_,Heap.get?_push_size _ rfl,rfl,_,rfl⟩⟩
theorem yF (h:PA X es t):PE X (.List es pos) (tLst t):=by
 refine ⟨?_⟩
 intro pins s σ H Q I hq
 refine wpAny_List_spliced (thn (h pos pins s σ H _ I hq) fun us s1 ⟨xs,H1,I1,r,z,q⟩=>⟨by rw [<- r.length]; exact z,?_⟩)
 have hf:H1 s1.heap.objs.size=none:=I1.hok.fresh (Nat.le_refl _)
 refine ⟨.ref s1.heap.objs.size,upd H1 s1.heap.objs.size (.lst xs),I1.laid (t':=s1.toks) (fun b u e=>Heap.get?_push_of_some _ e) (Nat.le_refl _) ?_,rfl,q _ hf⟩
 exact ⟨z,us,0,r,Heap.get?_push_size _ rfl⟩
end

noncomputable abbrev Sp:=List V->Hp->VK->XK->Prop
noncomputable abbrev CXT:=List Env->Hp->Shared->XK->Value->Shared->Prop

structure Env0 (P:Program) (w:World) (K:PySem.W.Frag) (mg:Str->Option Value) (base:Heap) (A:Around) (outer:List Env) (s:Shared) (H:Hp):Prop where
 frames:A.frames=some outer
 mod:Mod K mg base
 bs:∀ b o,base.get? b=some o->s.heap.get? b=some o/\H b=none
 bsz:base.objs.size<=s.heap.objs.size
 funs:s.heap.FunFrames base outer
 frf:∀ b∈frs outer,H b=none
 hok:HOk P w H s.heap
 bare:AllBare s.gens
noncomputable def CE (outer:List Env) (P:Program) (w:World) (H:Hp) (s:Shared) (Q:VK) (u:Value) (s':Shared):Prop :=
 ∃ v H',s'.os=s.os/\AllBare s'.gens/\Un (frs outer) [] H H' s.heap s'.heap/\HOk P w H' s'.heap/\RelV v u/\Q v H'
noncomputable def CR (CX:CXT) (outer:List Env) (P:Program) (w:World) (H:Hp) (s:Shared) (Q:VK) (E:XK) (r:Result) (s':Shared):Prop :=
 match r with
 | .ok (.ret u)=>CE outer P w H s Q u s'
 | .ok _=>False
 | .error e=>CX outer H s E e s'
structure FnOk (P:Program) (w:World) (K:PySem.W.Frag) (mg:Str->Option Value) (base:Heap) (CX:CXT) (k:Nat) (f:Addr) (fd:FuncData) (ps:List Str) (sp:Sp):Prop where
 len:∀ vs H Q E,sp vs H Q E->vs.length=ps.length
 run:∀ (A:Around) (outer:List Env) (s:Shared) (H:Hp) (args:Args) (us:List Value) (vs:List V) (Q:VK) (E:XK),Room k A->Env0 P w K mg base A outer s H->BindsTo s fd args (ps.zip us)->Vals vs us->sp vs H Q E ->
  codeAny (model P w) A (.call (.ref f) args) (CR CX outer P w H s Q E) s
theorem Env0.make {P:Program} {w:World} {K:PySem.W.Frag} {mg:Str->Option Value} {base:Heap} {A:Around} {outer:List Env} {s:Shared} {H:Hp} (e:Env0 P w K mg base A outer s H) (C:Addr) (us:List Value) (kw:List (Str × Value)) :
  Env0 P w K mg base (A.under (.builtin "type.__call__" ⟨.ref C :: us,kw⟩)) outer s H:=⟨by first | exact e.frames | (simpa [Around.under,Code.envs,Code.isFrame,pushEnvs] using e.frames),e.mod,e.bs,e.bsz,e.funs,e.frf,e.hok,e.bare⟩
section
variable {X:Cx} {pins:List (Addr × Obj)} {σ:St} {H:Hp} {s s':Shared}
theorem Inv.env0 (I:Inv X pins σ H s):Env0 X.prog X.w X.K X.mg X.base X.A X.stack s H :=
 ⟨I.ok.frames,I.ok.mod,I.bs,Nat.le_trans I.ok.bsz I.sz,I.stack,I.stkFree,I.hok,I.bare⟩
theorem Inv.after {Q:VK} {u:Value} (I:Inv X pins σ H s) (h:CE X.stack X.prog X.w H s Q u s'):EP X pins σ Q u s':=by
 obtain ⟨v,H',os,bare,un,hok,r,q⟩ := h
 obtain ⟨hh,g,d,t,os'⟩ := s'
 obtain rfl:os'=s.os:=os
 exact ⟨v,H',I.call (h':=hh) (g':=g) (d':=d) (t':=t) (ch:=[]) un hok bare (fun b z=>absurd z (by simp)),r,q⟩
end

noncomputable def tCall (sp:Sp) (dvs:List V) (E:XK) (t:TA):TE:=fun σ H Q=>t σ H fun vs H1=>sp (vs++dvs) H1 Q E
inductive tMethR (C:Addr) (m:Str) (sp:Sp) (dvs:List V) (E:XK) (t:TA) (σ:St) (x:V) (H1:Hp) (Q:VK):Prop
 | mk (a dx fs : _) (h0:x = .ref a) (h1:H1 a=some (.ins C dx fs)) (h2:fs.lookup m=none) (h3:t σ H1 fun vs H2=>sp (x :: (vs++dvs)) H2 Q E):tMethR C m sp dvs E t σ x H1 Q
noncomputable def tMeth (C:Addr) (m:Str) (sp:Sp) (dvs:List V) (E:XK) (ta:TE) (t:TA):TE:=fun σ H Q=>ta σ H fun x H1=>tMethR C m sp dvs E t σ x H1 Q
noncomputable def tMake (C:Addr) (sp:Sp) (dvs:List V) (E:XK) (t:TA):TE:=fun σ H Q=>t σ H fun vs H1=>∀ x dx,H1 x=none->H1 dx=none->dx≠x ->
 sp (.ref x :: (vs++dvs)) (upd (upd H1 dx (.own x)) x (.ins C dx [])) (fun v H2=>v = .non/\Q (.ref x) H2) E

noncomputable def Binds (K:PySem.W.Frag) (fd:FuncData) (ps:List Str) (ds:List Value):Prop :=
 ∀ (s:Shared) (us:List Value),K.In s.heap->(us++ds).length=ps.length->BindsTo s fd ⟨us,[]⟩ (ps.zip (us++ds))
theorem Binds.all {K:PySem.W.Frag} {fd:FuncData} {ps:List Str} (h:∀ us:List Value,us.length=ps.length->bindArgs fd ⟨us,[]⟩=pure (ps.zip us)):Binds K fd ps []:=fun s us _ hl=>by
 rw [List.append_nil] at hl ⊢
 exact .of_eq (h us hl)

noncomputable def Passes (CX:CXT) (X:Cx) (E:XK):Prop:=∀ (pins:List (Addr × Obj)) (σ:St) (H:Hp) (s:Shared) (e:Value) (s':Shared),Inv X pins σ H s->CX X.stack H s E e s'->X.xe e s'

section
variable {X:Cx} {CX:CXT} {k:Nat} {f C:Addr} {fd:FuncData} {ps:List Str} {sp:Sp} {dvs:List V} {ds:List Value} {E:XK} {x m:Str} {p pos apos:Pos} {e o:Expr} {es:List Expr} {ta:TE} {t:TA}

theorem run_fn {pins:List (Addr × Obj)} {σ:St} {H:Hp} {s:Shared} {Q:VK} {us:List Value} {vs:List V} (F:FnOk X.prog X.w X.K X.mg X.base CX k f fd ps sp) (hr:Room k X.A) (hb:Binds X.K fd ps ds) (hd:Vals dvs ds) (hx:Passes CX X E)
  (I:Inv X pins σ H s) (r:Vals vs us) (h:sp (vs++dvs) H Q E):wpAny (model X.prog X.w) X.A (call (.ref f) us) (EP X pins σ Q) X.xe s:=by
 have r2:Vals (vs++dvs) (us++ds):=r.append hd
 have hl:(us++ds).length=ps.length:=by rw [<- r2.length]; exact F.len _ _ _ _ h
 refine wpAny_call (codeAny_mono (F.run X.A X.stack s H ⟨us,[]⟩ (us++ds) (vs++dvs) Q E hr I.env0 (hb s us I.kIn hl) r2 h) fun r s' hq => ?_)
 cases r with
 | error e=>exact hx pins σ H s e s' I hq
 | ok fl =>
  cases fl with
  | ret u=>exact I.after hq
  | next=>exact False.elim hq
  | brk=>exact False.elim hq
  | cont=>exact False.elim hq

theorem pe_call (F:FnOk X.prog X.w X.K X.mg X.base CX k f fd ps sp) (hr:Room k X.A) (hg:Gl X x) (hm:X.mg x=some (.ref f)) (hk:PySem.W.keepIn X.K (.ref f)=true) (hb:Binds X.K fd ps ds) (hd:Vals dvs ds) (hx:Passes CX X E)
  (ha:PA X (e :: es) t) (hdb:(x == ("__debug__" : Str))=false:=by decide) (he:starEach (e :: es) X.env=(false,eval e X.env) :: starEach es X.env:=by rfl) (hpl:(backTo pos (starEach es X.env)).any (·.1)=false:=by rfl) :
  PE X (.Call (.Name x p) (e :: es) [] pos) (tCall sp dvs E t):=by
 refine ⟨?_⟩
 intro pins s σ H Q I h
 refine wpAny_Call_Name_kw (ld_glob I hg hm ?_ hdb)
 refine PySem.W.callWith_K (h₀:=X.base) I.ok.mod.kin hk (thn (ha pos pins s σ H _ I h) fun us s1 ⟨vs,H1,I1,r,q⟩=>⟨I1.kIn,?_⟩) he hpl
 exact run_fn F hr hb hd hx I1 r q
theorem pe_meth {pl:Sem Bool} (he:PE X o ta) (c:Cls X.K C) (hm:Meth X.K C m f) (F:FnOk X.prog X.w X.K X.mg X.base CX k f fd ps sp) (hr:Room k X.A) (hb:Binds X.K fd ps ds) (hd:Vals dvs ds) (hx:Passes CX X E) (ha:PA X (e :: es) t)
  (hst:starEach (e :: es) X.env=(false,eval e X.env) :: starEach es X.env:=by rfl) (hpl:(backTo pos (starEach es X.env)).any (·.1)=false:=by rfl)
  (ht:eval (.Call (.Attribute o m apos) (e :: es) [] pos) X.env=(do
   let ov <- eval o X.env
   standAt apos.atName
   let (f,first) <- holding [ov] (getMethod ov m pl)
   callWith pos f first (backTo pos (starEach (e :: es) X.env)) (backToKw pos (keywordEach [] X.env))):=by rfl) :
  PE X (.Call (.Attribute o m apos) (e :: es) [] pos) (tMeth C m sp dvs E ta t):=by
 refine ⟨?_⟩
 intro pins s σ H Q I h
 refine PySem.W.methodCall_KW (pl:=pl) (thn (he pins s σ H _ I h) fun u s1 ⟨x,H1,I1,rx,a,dx,fs,ex,ea,l,q⟩ => ?_) ht
 subst ex
 obtain rfl:u=Value.ref a:=rx
 refine getmeth_ok I1 ea c hm l ?_
 refine PySem.W.callWith_K (first:=[.ref a]) (h₀:=X.base) I.ok.mod.kin hm.kp (thn (ha pos pins s1 σ H1 _ I1 q) fun us s2 ⟨vs,H2,I2,r,q2⟩=>⟨I2.kIn,?_⟩) hst hpl
 exact run_fn (us:=.ref a :: us) (vs:=.ref a :: vs) F hr hb hd hx I2 (.cons rfl r) q2
theorem pe_meth0 {pl:Sem Bool} (he:PE X o ta) (c:Cls X.K C) (hm:Meth X.K C m f) (F:FnOk X.prog X.w X.K X.mg X.base CX k f fd ps sp) (hr:Room k X.A) (hb:Binds X.K fd ps ds) (hd:Vals dvs ds) (hx:Passes CX X E)
  (ht:eval (.Call (.Attribute o m apos) [] [] pos) X.env=(do
   let ov <- eval o X.env
   standAt apos.atName
   let (f,first) <- holding [ov] (getMethod ov m pl)
   callWith pos f first (backTo pos (starEach [] X.env)) (backToKw pos (keywordEach [] X.env))):=by rfl) :
  PE X (.Call (.Attribute o m apos) [] [] pos) (tMeth C m sp dvs E ta tNil):=by
 refine ⟨?_⟩
 intro pins s σ H Q I h
 refine PySem.W.methodCall_KW (pl:=pl) (thn (he pins s σ H _ I h) fun u s1 ⟨x,H1,I1,rx,a,dx,fs,ex,ea,l,q⟩ => ?_) ht
 subst ex
 obtain rfl:u=Value.ref a:=rx
 refine getmeth_ok I1 ea c hm l ?_
 exact PySem.W.callWith_K0 (first:=[.ref a]) I1.kIn hm.kp (run_fn (us:=[.ref a]) (vs:=[.ref a]) F hr hb hd hx I1 (.cons rfl .nil) q)

structure Mk (K:PySem.W.Frag) (C f:Addr):Prop where
 makes:PySem.W.makesIn K C=true
 init:PySem.W.findIn K (.ref C) "__init__" = some (some (.ref f))
 fn:PySem.W.isFn K (.ref f)=true
 kp:PySem.W.keepIn K (.ref C)=true

theorem run_make {pins:List (Addr × Obj)} {σ:St} {H:Hp} {s:Shared} {Q:VK} {us:List Value} {vs:List V} (M:Mk X.K C f) (F:FnOk X.prog X.w X.K X.mg X.base CX k f fd ps sp) (hr:Room (k+1) X.A) (hb:Binds X.K fd ps ds) (hd:Vals dvs ds)
  (hx:Passes CX X E) (I:Inv X pins σ H s) (r:Vals vs us)
  (h:∀ x dx,H x=none->H dx=none->dx≠x->sp (.ref x :: (vs++dvs)) (upd (upd H dx (.own x)) x (.ins C dx [])) (fun v H2=>v = .non/\Q (.ref x) H2) E) :
  wpAny (model X.prog X.w) X.A (call (.ref C) us) (EP X pins σ Q) X.xe s:=by
 have hq:=h (s.heap.objs.size+1) s.heap.objs.size (I.hok.fresh (Nat.le_succ _)) (I.hok.fresh (Nat.le_refl _)) (Nat.ne_of_lt (Nat.lt_succ_self _))
 have I2:=Inv.made (C:=C) I
 have r2:Vals (V.ref (s.heap.objs.size+1) :: (vs++dvs)) (Value.ref (s.heap.objs.size+1) :: (us++ds)):=.cons rfl (r.append hd)
 have hl:(Value.ref (s.heap.objs.size+1) :: us++ds).length=ps.length:=by
  have e:=r2.length
  rw [F.len _ _ _ _ hq] at e
  exact e.symm
 refine wpAny_call (make_map (f:=f) I.kIn M.makes M.init (beq_iff_eq.mp M.fn) (codeAny_mono (F.run _ X.stack _ _ ⟨Value.ref (s.heap.objs.size+1) :: us,[]⟩ (Value.ref (s.heap.objs.size+1) :: (us++ds)) _ _ E (hr.make C us [])
  (I2.env0.make C us []) (hb _ (Value.ref (s.heap.objs.size+1) :: us) I2.kIn hl) r2 hq) fun r s' hq' => ?_))
 cases r with
 | error e=>exact hx pins σ _ _ e s' I2 hq'
 | ok fl =>
  cases fl with
  | ret u =>
   obtain ⟨v,H',I3,rv,ev,q3⟩ := I2.after hq'
   subst ev
   exact ⟨rv,⟨V.ref (s.heap.objs.size+1),H',I3,rfl,q3⟩⟩
  | next=>exact False.elim hq'
  | brk=>exact False.elim hq'
  | cont=>exact False.elim hq'
theorem pe_make (M:Mk X.K C f) (F:FnOk X.prog X.w X.K X.mg X.base CX k f fd ps sp) (hr:Room (k+1) X.A) (hg:Gl X x) (hm:X.mg x=some (.ref C)) (hb:Binds X.K fd ps ds) (hd:Vals dvs ds) (hx:Passes CX X E)
  (ha:PA X (e :: es) t) (hdb:(x == ("__debug__" : Str))=false:=by decide) (he:starEach (e :: es) X.env=(false,eval e X.env) :: starEach es X.env:=by rfl) (hpl:(backTo pos (starEach es X.env)).any (·.1)=false:=by rfl) :
  PE X (.Call (.Name x p) (e :: es) [] pos) (tMake C sp dvs E t):=by
 refine ⟨?_⟩
 intro pins s σ H Q I h
 refine wpAny_Call_Name_kw (ld_glob I hg hm ?_ hdb)
 refine PySem.W.callWith_K (h₀:=X.base) I.ok.mod.kin M.kp (thn (ha pos pins s σ H _ I h) fun us s1 ⟨vs,H1,I1,r,q⟩=>⟨I1.kIn,?_⟩) he hpl
 exact run_make M F hr hb hd hx I1 r q
theorem pe_make0 (M:Mk X.K C f) (F:FnOk X.prog X.w X.K X.mg X.base CX k f fd ps sp) (hr:Room (k+1) X.A) (hg:Gl X x) (hm:X.mg x=some (.ref C)) (hb:Binds X.K fd ps ds) (hd:Vals dvs ds) (hx:Passes CX X E)
  (hdb:(x == ("__debug__" : Str))=false:=by decide):PE X (.Call (.Name x p) [] [] pos) (tMake C sp dvs E tNil):=by
 refine ⟨?_⟩
 intro pins s σ H Q I h
 refine wpAny_Call_Name_kw (ld_glob I hg hm ?_ hdb)
 exact PySem.W.callWith_K0 I.kIn M.kp (run_make (us:=[]) M F hr hb hd hx I .nil h)
end

structure PK (X:Cx) (kws:List Keyword) (t:TA)  : Prop where
 go:∀ (pos:Pos) (pins:List (Addr × Obj)) (s:Shared) (σ:St) (H:Hp) (Q:List V->Hp->Prop),Inv X pins σ H s->t σ H Q->wpAny (model X.prog X.w) X.A (evalAll ((backToKw pos (keywordEach kws X.env)).map (·.2))) (AP X pins σ Q) X.xe s
instance {X:Cx} {kws:List Keyword} {t:TA}:CoeFun (PK X kws t) (fun _=>∀ (pos:Pos) (pins:List (Addr × Obj)) (s:Shared) (σ:St) (H:Hp) (Q:List V->Hp->Prop),Inv X pins σ H s->t σ H Q->wpAny (model X.prog X.w) X.A (evalAll ((backToKw pos (keywordEach kws X.env)).map (·.2))) (AP X pins σ Q) X.xe s):=⟨PK.go⟩
section
variable {X:Cx} {CX:CXT} {k:Nat} {f C:Addr} {fd:FuncData} {ps ks:List Str} {sp:Sp} {E:XK} {x m:Str} {p pos apos kpos:Pos} {e o:Expr} {es:List Expr} {kws:List Keyword} {te ta:TE} {t tk:TA} {nm:Option Str}
variable {g:List Value->List Value->List Value} {gV:List V->List V->List V}
end

structure FnScope (N P:List Str) (sc:Scope):Prop where
 kind:sc.kind = .function
 co:sc.isCoroutine=false
 gen:sc.isGenerator=false
 nd:N.Nodup
 pre:N.take P.length=P
 par:∀ x∈P,sc.names.lookup x=some .local\/sc.names.lookup x=some .cell
 nofree:∀ y∈sc.names,y.2 ≠ .free

theorem bindL_out {kindOf:Str->Option NameKind} {x:Str}:∀ {binds:List (Str × Value)} {m:Str->Option Value},(∀ v,(x,v) ∉ binds)->bindL kindOf binds m x=m x
 | [],_,_=>rfl
 | (n,v) :: r,m,h=>by
  unfold bindL
  rw [bindL_out fun w hw=>h w (List.mem_cons_of_mem _ hw)]
  split
  ·have:x≠n:=by rintro rfl; exact h v List.mem_cons_self
   simp [this]
  ·rfl
theorem bindC_out {kindOf:Str->Option NameKind} {x:Str}:∀ {binds:List (Str × Value)} {m:Str->Option Value},(∀ v,(x,v) ∉ binds)->bindC kindOf binds m x=m x
 | [],_,_=>rfl
 | (n,v) :: r,m,h=>by
  unfold bindC
  rw [bindC_out fun w hw=>h w (List.mem_cons_of_mem _ hw)]
  split
  ·rfl
  ·have:x≠n:=by rintro rfl; exact h v List.mem_cons_self
   simp [this]
theorem bindL_get {kindOf:Str->Option NameKind} {x:Str} {v:Value}:∀ {P:List Str} {vs:List Value} {i:Nat} {m:Str->Option Value},P.Nodup->P[i]? = some x->vs[i]? = some v->kindOf x=some .local ->
  bindL kindOf (P.zip vs) m x=some v
 | [],_,_,_,_,h,_,_=>by simp at h
 | _ :: _,[],_,_,_,_,h,_=>by simp at h
 | p :: P,w :: vs,0,m,nd,h1,h2,hk=>by
  simp at h1 h2; subst h1; subst h2
  show bindL kindOf ((p,w) :: P.zip vs) m p=_
  unfold bindL
  rw [bindL_out fun v hv=>(List.nodup_cons.mp nd).1 (List.of_mem_zip hv).1,if_pos hk]
  simp
 | p :: P,w :: vs,i+1,m,nd,h1,h2,hk=>by
  show bindL kindOf ((p,w) :: P.zip vs) m x=_
  unfold bindL
  exact bindL_get (i:=i) (List.nodup_cons.mp nd).2 (by simpa using h1) (by simpa using h2) hk
theorem bindC_get {kindOf:Str->Option NameKind} {x:Str} {v:Value}:∀ {P:List Str} {vs:List Value} {i:Nat} {m:Str->Option Value},P.Nodup->P[i]? = some x->vs[i]? = some v->kindOf x≠some .local ->
  bindC kindOf (P.zip vs) m x=some v
 | [],_,_,_,_,h,_,_=>by simp at h
 | _ :: _,[],_,_,_,_,h,_=>by simp at h
 | p :: P,w :: vs,0,m,nd,h1,h2,hk=>by
  simp at h1 h2; subst h1; subst h2
  show bindC kindOf ((p,w) :: P.zip vs) m p=_
  unfold bindC
  rw [bindC_out fun v hv=>(List.nodup_cons.mp nd).1 (List.of_mem_zip hv).1,if_neg hk]
  simp
 | p :: P,w :: vs,i+1,m,nd,h1,h2,hk=>by
  show bindC kindOf ((p,w) :: P.zip vs) m x=_
  unfold bindC
  exact bindC_get (i:=i) (List.nodup_cons.mp nd).2 (by simpa using h1) (by simpa using h2) hk

noncomputable def start (N:List Str) (vs:List V):St:=vs.map some++List.replicate (N.length - vs.length) none

noncomputable def cxOf (CX:CXT) (P:Program) (w:World) (K:PySem.W.Frag) (mg:Str->Option Value) (base:Heap) (N:List Str) (qual:Str) (scope:Scope) (f:Addr) (cd:Value) (A:Around) (outer:List Env) (s:Shared) (H:Hp) (E:XK):Cx where
 prog:=P
 w:=w
 K:=K
 mg:=mg
 base:=base
 A:=A.deeper (envOfC qual scope s.heap.objs.size f cd)
 N:=N
 s₀:=s
 H₀:=H
 env:=envOfC qual scope s.heap.objs.size f cd
 outer:=outer
 stack:=envOfC qual scope s.heap.objs.size f cd :: outer
 ex:=[]
 calm:=true
 fn:=fun _=>true
 pn:=[]
 xe:=fun e s'=>wpAny (model P w) (A.deeper (envOfC qual scope s.heap.objs.size f cd)) (leaving (envOfC qual scope s.heap.objs.size f cd) e) (fun _ s''=>CX outer H s E e s'') (fun e' s''=>CX outer H s E e' s'') s'

theorem cell_has {sc:Scope} {n:Nat} {x:Str} (h:sc.names.lookup x=some .cell):∃ c,(cellsFrom n sc.names []).lookup x=some c:=by
 have q:=PySem.W.cellsFrom_some sc.names n [] (.inl h)
 exact Option.isSome_iff_exists.mp q

theorem inv_start {CX:CXT} {P:Program} {w:World} {K:PySem.W.Frag} {mg:Str->Option Value} {base:Heap} {N ps:List Str} {qual:Str} {scope:Scope} {f:Addr} {cd:Value} {A:Around} {outer:List Env} {s s1:Shared} {H:Hp} {E:XK} {us:List Value} {vs:List V}
  (S:FnScope N ps scope) (hd:A.handled=none) (e0:Env0 P w K mg base A outer s H) (hl:vs.length=ps.length) (r:Vals vs us)
  (x:InCallC s s.heap.objs.size (bindL (envOfC qual scope s.heap.objs.size f cd).kindOf (ps.zip us) fun _=>none) (cellsFrom (s.heap.objs.size+1) scope.names []) (bindC (envOfC qual scope s.heap.objs.size f cd).kindOf (ps.zip us) fun _=>none) s1) :
  Inv (cxOf CX P w K mg base N qual scope f cd A outer s H E) [] (start N vs) H s1:=by
 have hpl:ps.length<=N.length:=by have:=congrArg List.length S.pre; rw [List.length_take] at this; (first|lia|omega)
 obtain ⟨h1,tk,rfl,hk⟩ := x.done
 have noA:∀ b:Addr,b ∉ (cxOf CX P w K mg base N qual scope f cd A outer s H E).ex:=fun b z=>absurd (show b∈([]:List Addr) from z) (by simp)
 refine ⟨⟨e0.mod,S.kind,rfl,rfl,Nat.le_refl _,fun y z c h1 h2 => ?_,fun y hy => ?_,fun y c _ h => ?_,fun _=>hd,Around.frames_deeper e0.frames,.inr ⟨rfl,rfl⟩,fun b z=>absurd z (noA b),e0.bs,e0.bsz,fun b _ _=>noA b,fun b z=>absurd z (noA b),e0.funs,e0.frf⟩,
  rfl,e0.bare,Un.kept hk,⟨_,x.toInCall.ns,fun i y v h1 h2 h3 => ?_⟩,fun y c h=>⟨_,x.cell y c h⟩,e0.hok.fresh (Nat.le_refl _),fun y c h => ?_,fun p hp=>absurd (show p∈([]:List (Addr × Obj)) from hp) (by simp),e0.hok.kept hk,?_⟩
 ·exact name_of_addr x.apart (PySem.mem_of_lookup h1) (PySem.mem_of_lookup h2)
 ·have hy:scope.names.lookup y=some .cell\/scope.names.lookup y=some .free:=hy
  rcases hy with hy | hy
  ·exact cell_has hy
  ·exact absurd rfl (S.nofree _ (PySem.mem_of_lookup hy))
 ·exact Nat.le_of_lt (x.above y c (PySem.mem_of_lookup h))
 ·have hi:i<vs.length:=by
   unfold start at h2
   by_cases hi:i<vs.length
   ·exact hi
   ·rw [List.getElem?_append_right (by simpa using hi)] at h2
    rw [List.getElem?_replicate] at h2
    split at h2 <;> cases h2
  have ha:vs[i]? = some v:=by
   unfold start at h2
   rw [List.getElem?_append_left (by simpa using hi),List.getElem?_map] at h2
   cases e:vs[i]? with
   | none=>rw [e] at h2; cases h2
   | some a=>rw [e] at h2; cases h2; rfl
  obtain ⟨u,hu,rv⟩ := r.get ha
  have hp:ps[i]? = some y:=by
   rw [<- S.pre,List.getElem?_take_of_lt (by (first|lia|omega))]; exact h1
  have ndP:ps.Nodup:=by rw [<- S.pre]; exact S.nd.sublist (List.take_sublist _ _)
  refine ⟨u,rv,?_⟩
  rcases S.par y (List.mem_of_getElem? hp) with k | k
  ·exact .inl ⟨k,bindL_get ndP hp hu k⟩
  ·obtain ⟨c,e⟩ := cell_has (n:=s.heap.objs.size+1) k
   refine .inr ⟨.inl k,c,e,?_⟩
   have q:=x.cell y c e
   rw [bindC_get ndP hp hu (by show scope.names.lookup y≠_; rw [k]; decide)] at q
   exact q
 ·exact e0.hok.fresh (Nat.le_of_lt (x.above y c (PySem.mem_of_lookup h)))
 ·unfold start
  show _=N.length
  rw [List.length_append,List.length_map,List.length_replicate]
  (first|lia|omega)

theorem fn_of {CX:CXT} {P:Program} {w:World} {K:PySem.W.Frag} {mg:Str->Option Value} {base:Heap} {k:Nat} {f:Addr} {name qual:Str} {params:Arguments} {body:List Stmt} {scope:Scope} {dV kV doc pm cdv ct oc:Value} {an od:Option Addr}
  {osl:Array (Option Value)} {N ps:List Str} {sp:Sp} (lk:K.lookup f=some ⟨oc,od,.func (PySem.W.fnOf name qual params body scope dV kV doc pm an cdv ct),osl⟩) (hcd:PySem.W.codeIn K cdv qual=true) (S:FnScope N ps scope)
  (len:∀ vs H Q E,sp vs H Q E->vs.length=ps.length)
  (hbody:∀ (A:Around) (outer:List Env) (s:Shared) (H:Hp) (vs:List V) (Q:VK) (E:XK),Room k (A.deeper (envOfC qual scope s.heap.objs.size f cdv))->sp vs H Q E ->
   ∃ t,PSs (cxOf CX P w K mg base N qual scope f cdv A outer s H E) body t/\t { nx:=fun _ H'=>Q .non H',rt:=Q } (start N vs) H) :
  FnOk P w K mg base CX (k+1) f (PySem.W.fnOf name qual params body scope dV kV doc pm an cdv ct) ps sp:=by
 refine ⟨len,fun A outer s H args us vs Q E hr e0 hb r hsp => ?_⟩
 have hl:=len _ _ _ _ hsp
 have KX:K.In s.heap:=e0.mod.kin.keeps fun b o e=>(e0.bs b o e).1
 have lim:s.heap.NoLimit:=e0.mod.nolimit.keeps fun b o e=>(e0.bs b o e).1
 have hkind:∀ y∈ps.zip us,scope.names.lookup y.1=some .local\/(scope.names.lookup y.1=some .cell/\((cellsFrom (s.heap.objs.size+1) scope.names []).lookup y.1).isSome=true):=fun ⟨n,v⟩ hy=>by
  rcases S.par n (List.of_mem_zip hy).1 with q | q
  ·exact .inl q
  ·exact .inr ⟨q,PySem.W.cellsFrom_some _ _ _ (.inl q)⟩
 refine codeAny_call_function hr.depth (KX _ _ lk) rfl S.co S.gen rfl (PySem.W.codeRec_of KX hcd) (hb _ _ _ _ ?_)
 refine wpAny_newFunctionEnv_cells S.kind hkind fun env he s1 x => ?_
 subst he
 refine ⟨lim.keeps x.toInCall.keep,codeAny_func ?_⟩
 obtain ⟨t,ht,hq⟩ := hbody A outer s H vs Q E (hr.deeper _) hsp
 have I:Inv (cxOf CX P w K mg base N qual scope f cdv A outer s H E) [] (start N vs) H s1:=inv_start S hr.hd e0 hl r x
 refine wpAny_mono (ht [] s1 (start N vs) H _ I hq) (fun fl s' hs => ?_) fun e s' hs=>hs
 have fin:∀ {σ':St} {H':Hp} {v:V} {u:Value},Inv (cxOf CX P w K mg base N qual scope f cdv A outer s H E) [] σ' H' s'->RelV v u->Q v H'->CE outer P w H s Q u s' :=
  fun {σ' H' v u} J rv q=>⟨v,H',J.os,J.bare,J.base,J.hok,rv,q⟩
 cases fl with
 | ret u =>
  obtain ⟨v,σ',H',J,rv,q⟩ := hs
  exact fin J rv q
 | next =>
  obtain ⟨σ',H',J,q⟩ := hs
  exact fin (v:=V.non) (u:=Value.none) J rfl q
 | brk =>
  obtain ⟨_,_,_,q⟩ := hs
  exact False.elim q
 | cont =>
  obtain ⟨_,_,_,q⟩ := hs
  exact False.elim q
end L2

namespace L2
open PySem PySem.Spec PyProof.Rows
section
variable {X:Cx} {x:Str} {p pos:Pos} {e:Expr} {es:List Expr} {t:TA} {id T:String} {r:List V->Hp->VK->Prop}

noncomputable def tCB (r:List V->Hp->VK->Prop) (t:TA):TE:=fun σ H Q=>t σ H fun vs H1=>r vs H1 Q
theorem zR (hc:CallR X (.builtin id) r) (hg:Gl X x) (hm:X.mg x=none) (hv:bootBuiltins x=some (.builtin id)) (ha:PA X (e :: es) t) (hn:x ≠ "__name__" := by decide) (hdb:(x == ("__debug__" : Str))=false:=by decide)
  (he:starEach (e :: es) X.env=(false,eval e X.env) :: starEach es X.env:=by rfl) (hpl:(backTo pos (starEach es X.env)).any (·.1)=false:=by rfl):PE X (.Call (.Name x p) (e :: es) [] pos) (tCB r t):=by
 refine ⟨?_⟩
 intro pins s σ H Q I h
 refine wpAny_Call_Name_kw (ld_blt I hg hm hv ?_ hn hdb)
 exact PyProof.Rows.callWith_builtin1 (thn (ha pos pins s σ H _ I h) fun us s1 ⟨vs,H1,I1,r1,q1⟩=>hc pins s1 σ H1 vs us Q I1 r1 q1) he hpl
theorem xO (hc:CallR X (.type T) r) (hg:Gl X x) (hm:X.mg x=none) (hv:bootBuiltins x=some (.type T)) (ha:PA X (e :: es) t) (hn:x ≠ "__name__" := by decide) (hdb:(x == ("__debug__" : Str))=false:=by decide)
  (he:starEach (e :: es) X.env=(false,eval e X.env) :: starEach es X.env:=by rfl) (hpl:(backTo pos (starEach es X.env)).any (·.1)=false:=by rfl):PE X (.Call (.Name x p) (e :: es) [] pos) (tCB r t):=by
 refine ⟨?_⟩
 intro pins s σ H Q I h
 refine wpAny_Call_Name_kw (ld_blt I hg hm hv ?_ hn hdb)
 exact PyProof.Rows.callWith_type1 (thn (ha pos pins s σ H _ I h) fun us s1 ⟨vs,H1,I1,r1,q1⟩=>hc pins s1 σ H1 vs us Q I1 r1 q1) he hpl
end
end L2

namespace HT
open PySem PyProof.Rows

section
open PySem.SeqAt
open PySem.AutoSeq1 (wpAny_loadPart')
open PySem.MeetsSeq PySem.MeetsSeq2 PySem.MeetsSeq3

end

section
variable {prog:Program} {w:World} {A:Around} {E:Value->Shared->Prop} {s:Shared}

noncomputable def sIx (n d:Nat):Option Int->Nat
 | none=>d
 | some v=>if v<0 then (v+(n:Int)).toNat else min v.toNat n
theorem sIx_none (n d:Nat):sIx n d none=d:=rfl
theorem sIx_nat (n d k:Nat):sIx n d (some (k:Int))=min k n:=by
 show (if (k:Int)<0 then ((k:Int)+(n:Int)).toNat else min (k:Int).toNat n)=min k n
 rw [if_neg (by (first|lia|omega)),Int.toNat_natCast]
theorem sIx_le (n d:Nat) (hd:d<=n) (o:Option Int):sIx n d o<=n:=by
 cases o with
 | none=>exact hd
 | some v =>
  show (if v<0 then (v+(n:Int)).toNat else min v.toNat n)<=n
  by_cases hv:v<0
  ·rw [if_pos hv]; (first|lia|omega)
  ·rw [if_neg hv]; exact Nat.min_le_right _ _
theorem clip_eq (v:Int) (n d:Nat):(if v<0 then max (v+(n:Int)) 0 else min v (n:Int))=((sIx n d (some v):Nat):Int):=by
 show (if v<0 then max (v+(n:Int)) 0 else min v (n:Int))=(((if v<0 then (v+(n:Int)).toNat else min v.toNat n):Nat):Int)
 by_cases hv:v<0
 ·simp only [if_pos hv]; (first|lia|omega)
 ·simp only [if_neg hv]; (first|lia|omega)
theorem adjust_gen (lo hi:Option Int) (n:Nat):Builtin.Slice.sliceAdjust lo hi 1 (n:Int)=(((sIx n 0 lo:Nat):Int),((sIx n n hi:Nat):Int)):=by
 have h1:¬ ((1:Int)<0):=by (first|lia|omega)
 unfold Builtin.Slice.sliceAdjust
 simp only [h1,if_false]
 refine Prod.ext ?_ ?_
 ·cases lo with
  | none=>rfl
  | some v=>exact clip_eq v n 0
 ·cases hi with
  | none=>rfl
  | some v=>exact clip_eq v n n
theorem places_gen (i j:Nat):Builtin.Slice.slicePlaces (i:Int) (j:Int) 1=j - i:=by
 unfold Builtin.Slice.slicePlaces
 have h1:(1:Int) > 0:=by (first|lia|omega)
 simp only [h1,if_true,Int.ediv_one]
 split <;> (first|lia|omega)
theorem slicePart_ {v:Value} {o:Option Int} {Q:Option Int->Shared->Prop} (p:IsPart v o) (h:Q o s):wpAny (model prog w) A (Builtin.Slice.slicePartIndex v) Q E s:=by
 cases p with
 | none=>exact slicePart_none h
 | int i t=>exact slicePart_int h
theorem sliceApplied_gen {sl:Addr} {vl vu:Value} {lo hi:Option Int} {n:Nat} {Q:Int × Int × Nat->Shared->Prop} (hs:s.heap.IsSliceOf sl vl vu .none) (pl:IsPart vl lo) (pu:IsPart vu hi)
  (h:Q (((sIx n 0 lo:Nat):Int),1,sIx n n hi - sIx n 0 lo) s):wpAny (model prog w) A (Builtin.Slice.sliceApplied (.ref sl) (pure (n:Int))) Q E s:=by
 obtain ⟨os,hos,hcs,hds⟩ := id hs
 unfold Builtin.Slice.sliceApplied Builtin.Slice.sliceFields
 refine wpAny_bind (wpAny_bind (wpAny_field hos hds (x:=vl) rfl (wpAny_bind (wpAny_field hos hds (x:=vu) rfl (wpAny_bind (wpAny_field hos hds (x:=.none) rfl (wpAny_pure ?_)))))))
 refine wpAny_bind (slicePart_none ?_)
 show wpAny _ _ (if ((1:Int) == 0)=true then _ else _) _ _ s
 rw [if_neg (by decide)]
 refine wpAny_bind (slicePart_ pl (wpAny_bind (slicePart_ pu (wpAny_bind (wpAny_pure ?_)))))
 show wpAny _ _ (match Builtin.Slice.sliceAdjust lo hi 1 (n:Int) with | (lo,hi)=>pure (lo,(1:Int),Builtin.Slice.slicePlaces lo hi 1)) _ _ s
 rw [adjust_gen lo hi n]
 show wpAny _ _ (pure (((sIx n 0 lo:Nat):Int),(1:Int),Builtin.Slice.slicePlaces ((sIx n 0 lo:Nat):Int) ((sIx n n hi:Nat):Int) 1)) _ _ s
 rw [places_gen]
 exact wpAny_pure h
theorem pick_gen (xs:Array Value) (i k:Nat):((List.range k).filterMap fun (m:Nat)=>xs[((i:Int)+(m:Int) * 1).toNat]?).toArray=((xs.toList.drop i).take k).toArray:=by
 have e:(fun (m:Nat)=>xs[((i:Int)+(m:Int) * 1).toNat]?)=fun m=>xs[i+m]?:=by
  funext m
  have:((i:Int)+(m:Int) * 1).toNat=i+m:=by (first|lia|omega)
  rw [this]
 rw [e]
 have:=pick_run xs i k
 rw [List.filterMap_map] at this
 have e2:((fun x=>xs[x]?) ∘ fun x=>i+x)=fun m=>xs[i+m]?:=rfl
 rw [e2] at this
 rw [this]

theorem getItem_tuple_cut {t sl:Addr} {items:Array Value} {vl vu:Value} {lo hi:Option Int} {Q:Value->Shared->Prop} (ht:IsTup s.heap t items) (hs:s.heap.IsSliceOf sl vl vu .none) (pl:IsPart vl lo) (pu:IsPart vu hi)
  (hw:¬ (sIx items.size 0 lo=0/\sIx items.size items.size hi=items.size))
  (h:Q (.ref s.heap.objs.size) { s with heap:=s.heap.push { cls:=.type "tuple",data:=.seq ((items.toList.drop (sIx items.size 0 lo)).take (sIx items.size items.size hi - sIx items.size 0 lo)).toArray } })
  (hsz:items.size<=sizeLine):wpAny (model prog w) A (getItem (.ref t) (.ref sl)) Q E s:=by
 have htake:sizeOk (.seq ((items.toList.drop (sIx items.size 0 lo)).take (sIx items.size items.size hi - sIx items.size 0 lo)).toArray):=by
  show ((items.toList.drop (sIx items.size 0 lo)).take (sIx items.size items.size hi - sIx items.size 0 lo)).toArray.size<=sizeLine
  rw [List.size_toArray,List.length_take,List.length_drop,Array.length_toList]
  (first|lia|omega)
 have hj:sIx items.size items.size hi<=items.size:=sIx_le _ _ (Nat.le_refl _) hi
 obtain ⟨os,hos,hcs,hds⟩ := id hs
 have hTs:s.TypeIs (.ref sl) "slice" := ⟨os,hos,hcs⟩
 unfold getItem
 try with_reducible refine wpAny_holding ?_
 first | refine wpAny_bind (wpAny_pure ?_) | skip
 refine wpAny_bind (wpAny_sequenceKey ht.typeIs (by decide) ?_)
 refine wpAny_bind (wpAny_callSpecial?_slot (name:=Str.ofString "__getitem__") ht.typeIs PyProof.Rows.slot_tuple_getitem
  (wpAny_call_entry PyProof.Rows.slot_tuple_getitem ht.typeIs entry_tuple_getitem ?_ (args_tuple_getitem _ _)))
 show wpAny _ _ (Builtin.Tuple.tupleItemsOf (.ref t) >>= _) _ _ s
 refine wpAny_bind (tupleItemsOf_ ht ?_)
 refine wpAny_bind (wpAny_typeOf hTs ?_)
 rw [if_pos (by decide)]
 refine wpAny_bind (sliceApplied_gen hs pl pu ?_)
 have hno:¬ ((((sIx items.size 0 lo:Nat):Int) == 0 && (1:Int) == 1 && (sIx items.size items.size hi - sIx items.size 0 lo) == items.size)=true):=by
  intro q
  rw [Bool.and_eq_true,Bool.and_eq_true] at q
  have q1:((sIx items.size 0 lo:Nat):Int)=0:=eq_of_beq q.1.1
  have q2:sIx items.size items.size hi - sIx items.size 0 lo=items.size:=eq_of_beq q.2
  exact hw ⟨by (first|lia|omega),by (first|lia|omega)⟩
 show wpAny _ _ (if (((sIx items.size 0 lo:Nat):Int) == 0 && (1:Int) == 1 && (sIx items.size items.size hi - sIx items.size 0 lo) == items.size)=true then _ else _) _ _ s
 rw [if_neg hno,pick_gen]
 first
  | exact wpAny_bind (m:=Builtin.Tuple.tupleExact _) (wpAny_newObj_type (wpAny_pure ⟨_,rfl,wpAny_pure h⟩) htake)
  | exact wpAny_bind (m:=Builtin.Tuple.tupleExact _) (wpAny_newObj_type (wpAny_bind (wpAny_pure (wpAny_pure ⟨_,rfl,wpAny_pure h⟩))) htake)
  | exact wpAny_bind (wpAny_bind (m:=Builtin.Tuple.tupleExact _) (wpAny_newObj_type (wpAny_pure (wpAny_pure ⟨_,rfl,wpAny_pure h⟩)) htake))
  | exact wpAny_bind (wpAny_bind (m:=Builtin.Tuple.tupleExact _) (wpAny_newObj_type (wpAny_pure ⟨_,rfl,wpAny_pure h⟩) htake))
end
end HT

namespace L2
open PySem PySem.Spec PyProof.Rows

noncomputable abbrev TO:=St->Hp->(Option Int->Hp->Prop)->Prop
structure PO (X:Cx) (e:Option Expr) (t:TO)  : Prop where
 go:∀ (pins:List (Addr × Obj)) (s:Shared) (σ:St) (H:Hp) (Q:Option Int->Hp->Prop),Inv X pins σ H s->t σ H Q ->
  wpAny (model X.prog X.w) X.A (evalPart e X.env) (fun u s'=>∃ o H',Inv X pins σ H' s'/\IsPart u o/\Q o H') X.xe s
instance {X:Cx} {e:Option Expr} {t:TO}:CoeFun (PO X e t) (fun _=>∀ (pins:List (Addr × Obj)) (s:Shared) (σ:St) (H:Hp) (Q:Option Int->Hp->Prop),Inv X pins σ H s->t σ H Q ->
  wpAny (model X.prog X.w) X.A (evalPart e X.env) (fun u s'=>∃ o H',Inv X pins σ H' s'/\IsPart u o/\Q o H') X.xe s):=⟨PO.go⟩
noncomputable def tNoPart:TO:=fun _ H Q=>Q none H
noncomputable def tPart (t:TE):TO:=fun σ H Q=>t σ H fun x H1=>∃ i,x = .int i/\Q (some i) H1

section
variable {X:Cx} {e:Expr} {te:TE} {lo hi:Option Expr} {tl th:TO} {pos p2:Pos}

theorem wP:PO X none tNoPart:=by
 refine ⟨?_⟩
 intro pins s σ H Q I h
 rw [evalPart_none]
 exact wpAny_pure ⟨none,H,I,.none,h⟩
theorem jT (h:PE X e te):PO X (some e) (tPart te):=by
 refine ⟨?_⟩
 intro pins s σ H Q I hw
 rw [evalPart_some]
 refine thn (h pins s σ H _ I hw) fun u s1 hzz => ?_
 obtain ⟨x,H1,I1,r1,q1⟩ := hzz
 obtain ⟨i,rfl,q⟩ := q1
 obtain ⟨t,rfl⟩ := r1
 exact ⟨some i,H1,I1,.int i t,q⟩

noncomputable def SlR (X:Cx) (r:V->Option Int->Option Int->Hp->VK->Prop):Prop :=
 ∀ (pins:List (Addr × Obj)) (s:Shared) (σ:St) (H:Hp) (x:V) (v vl vu:Value) (lo hi:Option Int) (sl:Addr) (Q:VK),Inv X pins σ H s->RelV x v->s.heap.IsSliceOf sl vl vu .none->IsPart vl lo->IsPart vu hi->r x lo hi H Q ->
  ∃ T id,typeLookup (.type T) "__getitem__" = pure (some (.builtin id))/\s.TypeIs v T/\wpAny (model X.prog X.w) X.A (getItem v (.ref sl)) (EP X pins σ Q) X.xe s
noncomputable def tSl (r:V->Option Int->Option Int->Hp->VK->Prop) (te:TE) (tl th:TO):TE:=fun σ H Q=>te σ H fun x H1=>tl σ H1 fun l H2=>th σ H2 fun u H3=>r x l u H3 Q
theorem jU {r:V->Option Int->Option Int->Hp->VK->Prop} (hr:SlR X r) (he:PE X e te) (hl:PO X lo tl) (hu:PO X hi th):PE X (.Subscript e (.Slice lo hi none p2) pos) (tSl r te tl th):=by
 refine ⟨?_⟩
 intro pins s σ H Q I h
 refine Subscript_ (thn (he pins s σ H _ I h) fun v s1 hzz => ?_)
 obtain ⟨x,H1,I1,r1,q1⟩ := hzz
 refine wpAny_Slice (thn (hl pins s1 σ H1 _ I1 q1) fun vl s2 ⟨l,H2,I2,pl,q2⟩=>thn (hu pins s2 σ H2 _ I2 q2) fun vu s3 hzz => ?_)
 obtain ⟨u,H3,I3,pu,q3⟩ := hzz
 rw [evalPart_none]
 refine wpAny_pure ?_
 have I4:Inv X pins σ H3 { s3 with heap:=s3.heap.push { cls:=.type "slice",data:=.fields #[vl,vu,.none] } }:=I3.kept (t':=s3.toks) fun b ob q=>Heap.get?_push_of_some _ q
 obtain ⟨T,id,hT,ht,hg⟩ := hr pins { s3 with heap:=s3.heap.push { cls:=.type "slice",data:=.fields #[vl,vu,.none] } } σ H3 x v vl vu l u s3.heap.objs.size Q I4 r1 (Heap.IsSliceOf.new ..) pl pu q3
 show wpAny (model X.prog X.w) X.A (subscriptTail e (.Slice lo hi none p2) v (.ref s3.heap.objs.size)) (EP X pins σ Q) X.xe { s3 with heap:=s3.heap.push { cls:=.type "slice",data:=.fields #[vl,vu,.none] } }
 exact tail_any (ops:=[.ref s3.heap.objs.size,v]) ht hT hg (by with_unfolding_all rfl)

noncomputable def cutV (xs:List V) (lo hi:Option Int):List V:=(xs.drop (HT.sIx xs.length 0 lo)).take (HT.sIx xs.length xs.length hi - HT.sIx xs.length 0 lo)
theorem cutV_length (xs:List V) (lo hi:Option Int):(cutV xs lo hi).length<=xs.length:=by
 unfold cutV
 rw [List.length_take,List.length_drop]
 (first|lia|omega)
inductive rSlT (K:PySem.W.Frag) (x:V) (lo:Option Int) (hi:Option Int) (H:Hp) (Q:VK):Prop
 | mk (a xs : _) (h0:x = .ref a) (h1:SqT K H a xs) (h2:¬ (HT.sIx xs.length 0 lo=0/\HT.sIx xs.length xs.length hi=xs.length)) (h3:∀ p,H p=none->Q (.ref p) (upd H p (.tup (cutV xs lo hi)))):rSlT K x lo hi H Q
theorem sl_tup:SlR X (rSlT X.K):=by
 intro pins s σ H x v vl vu lo hi sl Q I rx hs pl pu h
 obtain ⟨a,xs,rfl,hx,hw,q⟩ := h
 cases rx
 obtain ⟨its,r,ht,hz⟩ := I.tuple hx
 have hlen:its.toArray.size=xs.length:=by rw [List.size_toArray]; exact r.length.symm
 refine ⟨"tuple",_,PyProof.Rows.slot_tuple_getitem.lookup,ht.typeIs,?_⟩
 refine HT.getItem_tuple_cut ht hs pl pu (by rw [hlen]; exact hw) ?_ (by rw [hlen]; exact hz)
 rw [hlen]
 refine ⟨.ref s.heap.objs.size,_,I.laid (t':=s.toks) (o:=.tup (cutV xs lo hi)) (fun b ob q=>Heap.get?_push_of_some _ q) (Nat.le_refl _) ?_,rfl,q _ (I.hok.fresh (Nat.le_refl _))⟩
 exact ⟨Nat.le_trans (cutV_length xs lo hi) hz,_,(r.drop (HT.sIx xs.length 0 lo)).take (HT.sIx xs.length xs.length hi - HT.sIx xs.length 0 lo),IsTup.new _ _⟩

end
end L2

namespace L2
open PySem PySem.Spec PyProof.Rows

noncomputable def ixN (n:Nat) (i:Int):Option Nat:=if 0<=i then (if i<n then some i.toNat else none) else if -(n:Int)<=i then some (i+n).toNat else none
noncomputable def atI {α:Type} (xs:List α) (i:Int):Option α:=(ixN xs.length i).bind fun j=>xs[j]?
theorem ixN_seq {n:Nat} {i:Int} {j:Nat} (h:ixN n i=some j):seqIndex? i n=some j/\j<n /\ -(n:Int)<=i/\i<n:=by
 unfold ixN at h
 by_cases h0 : 0<=i
 ·rw [if_pos h0] at h
  by_cases h1:i<n
  ·rw [if_pos h1] at h
   have e:i.toNat=j:=Option.some.inj h
   exact ⟨by rw [seqIndex_of h0 h1,e],by (first|lia|omega),by (first|lia|omega),h1⟩
  ·rw [if_neg h1] at h; cases h
 ·rw [if_neg h0] at h
  by_cases h1 : -(n:Int)<=i
  ·rw [if_pos h1] at h
   have e:(i+n).toNat=j:=Option.some.inj h
   exact ⟨by rw [seqIndex_neg (by (first|lia|omega)) h1,e],by (first|lia|omega),h1,by (first|lia|omega)⟩
  ·rw [if_neg h1] at h; cases h
theorem atI_get {α:Type} {xs:List α} {i:Int} {v : α} (h:atI xs i=some v):∃ j,seqIndex? i xs.length=some j/\xs[j]? = some v/\j<xs.length /\ -(xs.length:Int)<=i/\i<xs.length:=by
 unfold atI at h
 cases e:ixN xs.length i with
 | none=>rw [e] at h; cases h
 | some j =>
  rw [e] at h
  obtain ⟨h1,h2,h3,h4⟩ := ixN_seq e
  exact ⟨j,h1,h,h2,h3,h4⟩
theorem jH {α:Type} {xs:List α} {j:Nat} {v : α} (h:xs[j]? = some v):atI xs (j:Int)=some v:=by
 have hj:j<xs.length:=(List.getElem?_eq_some_iff.mp h).1
 have e:ixN xs.length (j:Int)=some j:=by
  unfold ixN
  rw [if_pos (by (first|lia|omega)),if_pos (by (first|lia|omega))]; simp
 unfold atI; rw [e]; exact h
noncomputable def PlainIx (b:Expr):Prop:=∀ o i,subscripted b false o i=operate [o,i] (getItem o i)
noncomputable def IxR (X:Cx) (r:R2):Prop :=
 ∀ (value slice:Expr) (pins:List (Addr × Obj)) (s:Shared) (σ:St) (H:Hp) (x y:V) (v u:Value) (Q:VK),Inv X pins σ H s->RelV x v->RelV y u->r x y H Q ->
  subscripted slice false v u=operate [v,u] (getItem v u)->wpAny (model X.prog X.w) X.A (subscriptTail value slice v u) (EP X pins σ Q) X.xe s
noncomputable def MtR (X:Cx) (id:String) (r:V->List V->Hp->VK->Prop):Prop :=
 ∀ (pins:List (Addr × Obj)) (s:Shared) (σ:St) (H:Hp) (x:V) (xs:List V) (v:Value) (us:List Value) (Q:VK),Inv X pins σ H s->RelV x v->Vals xs us->r x xs H Q ->
  wpAny (model X.prog X.w) X.A (call (.builtin id) (v :: us)) (EP X pins σ Q) X.xe s
section
variable {X:Cx} {a b:Expr} {ta tb:TE} {pos:Pos}
theorem yC {r:R2} (hr:IxR X r) (ha:PE X a ta) (hb:PE X b tb) (hs:PlainIx b):PE X (.Subscript a b pos) (tOp r ta tb):=by
 refine ⟨?_⟩
 intro pins s σ H Q I h
 exact Subscript_ (binT ha hb I h fun v u s2 x y H2 I2 rx ry q=>hr a b pins s2 σ H2 x y v u Q I2 rx ry q (hs _ _))

inductive rIxL (K:PySem.W.Frag) (x:V) (y:V) (H:Hp) (Q:VK):Prop
 | mk (p xs i v : _) (h0:x = .ref p) (h1:y = .int i) (h2:SqL K H p xs) (h3:atI xs i=some v) (h4:Q v H):rIxL K x y H Q
inductive rIxT (K:PySem.W.Frag) (x:V) (y:V) (H:Hp) (Q:VK):Prop
 | mk (p xs i v : _) (h0:x = .ref p) (h1:y = .int i) (h2:SqT K H p xs) (h3:atI xs i=some v) (h4:Q v H):rIxT K x y H Q
theorem yN:IxR X (rIxL X.K):=by
 intro value slice pins s σ H x y v u Q I rx ry h hs
 obtain ⟨p,xs,i,z,rfl,rfl,hq,he,q⟩ := h
 cases rx
 obtain ⟨t,rfl⟩ := ry
 obtain ⟨its,r,pl,hz⟩ := I.list hq
 obtain ⟨j,h1,h2,h3,h4,h5⟩ := atI_get he
 obtain ⟨w,ew,rw'⟩ := r.get h2
 have hl:=r.length
 have hn:=line63
 have fin:EP X pins σ Q w s:=⟨z,H,I,rw',q⟩
 by_cases h0 : 0<=i
 ·have hj:i.toNat=j:=by
   rw [seqIndex_of h0 h5] at h1
   exact Option.some.inj h1
  exact item_listR pl.isList h0 (by (first|lia|omega)) (by rw [hj]; simpa using ew) fin hs
 ·have hj:(i+(its.toArray.size:Int)).toNat=j:=by
   rw [seqIndex_neg (by (first|lia|omega)) h4] at h1
   rw [List.size_toArray,<- hl]
   exact Option.some.inj h1
  exact subscriptTail_builtinR (x:=w) pl.isList.typeIs slot_list_getitem.lookup
   (wpAny_getItem_list_neg (Q:=fun r s'=>r=w/\EP X pins σ Q r s') pl.isList (by (first|lia|omega)) (by rw [List.size_toArray] <;> (first|lia|omega)) (by (first|lia|omega)) (by rw [hj]; simpa using ew) ⟨rfl,fin⟩) hs
theorem yU:IxR X (rIxT X.K):=by
 intro value slice pins s σ H x y v u Q I rx ry h hs
 obtain ⟨p,xs,i,z,rfl,rfl,hq,he,q⟩ := h
 cases rx
 obtain ⟨t,rfl⟩ := ry
 obtain ⟨its,r,pl,hz⟩ := I.tuple hq
 obtain ⟨j,h1,h2,h3,h4,h5⟩ := atI_get he
 obtain ⟨w,ew,rw'⟩ := r.get h2
 have hl:=r.length
 have hn:=line63
 have fin:EP X pins σ Q w s:=⟨z,H,I,rw',q⟩
 exact subscriptTail_builtinR (x:=w) pl.typeIs slot_tuple_getitem.lookup
  (getItem_tuple (j:=j) (Q:=fun r s'=>r=w/\EP X pins σ Q r s') pl (by (first|lia|omega)) (by (first|lia|omega)) (by rw [List.size_toArray,<- hl]; exact h1) (by simpa using ew) ⟨rfl,fin⟩) hs
theorem mapSeq_set (its:List Value) (n j:Nat) (u:Value):Obj.mapSeq (·.setIfInBounds j u) { cls:=.type "list",data:=.seq its.toArray n }={ cls:=.type "list",data:=.seq (its.set j u).toArray n }:=by
 simp [Obj.mapSeq]
theorem Inv.lst {pins:List (Addr × Obj)} {σ:St} {H:Hp} {s:Shared} {p:Addr} {xs:List V} (I:Inv X pins σ H s) (h:H p=some (.lst xs)) :
  ∃ (its:List Value) (n:Nat),Vals xs its/\s.heap.get? p=some { cls:=.type "list",data:=.seq its.toArray n }/\xs.length<=sizeLine:=by
 obtain ⟨z,its,n,r,e⟩ := I.hok p _ h
 exact ⟨its,n,r,e,z⟩
theorem Inv.lstUpd {pins:List (Addr × Obj)} {σ:St} {H:Hp} {s:Shared} {p:Addr} {xs ys:List V} {its its':List Value} {n n':Nat} {f:Obj->Obj} (I:Inv X pins σ H s) (h:H p=some (.lst xs))
  (ho:s.heap.get? p=some { cls:=.type "list",data:=.seq its.toArray n }) (hf:f { cls:=.type "list",data:=.seq its.toArray n }={ cls:=.type "list",data:=.seq its'.toArray n' }) (r:Vals ys its') (hz:ys.length<=sizeLine) (t:Nat) :
  Inv X pins σ (upd H p (.lst ys)) { s with heap:=s.heap.update p f,toks:=t }:=by
 have e:(s.heap.update p f).get? p=some { cls:=.type "list",data:=.seq its'.toArray n' }:=by
  rw [Heap.get?_update_self f ho (by rw [hf] <;> rfl),hf]
 refine I.write (x:=p) (e:=p) (by rw [h]; trivial) (.inl rfl) (fun b u hb q=>(Heap.get?_update_other _ _ (Ne.symm hb)).trans q) ⟨_,e⟩ ?_
 exact ⟨hz,its',n',r,e⟩
noncomputable def rSetL:V->V->V->Hp->(Hp->Prop)->Prop:=fun o i v H Q=>∃ p xs k j,o = .ref p/\i = .int k/\H p=some (.lst xs)/\ixN xs.length k=some j/\Q (upd H p (.lst (xs.set j v)))
theorem qY:PSet X rSetL:=by
 intro pins s σ H o i v ov iv u Q I ro ri rv h
 obtain ⟨p,xs,k,j,rfl,rfl,hp,hj,q⟩ := h
 cases ro
 obtain ⟨t,rfl⟩ := ri
 obtain ⟨its,n,r,ho,hz⟩ := I.lst hp
 obtain ⟨h1,h2,h3,h4⟩ := ixN_seq hj
 have hl:=r.length
 have hn:=line63
 have I':Inv X pins σ (upd H p (.lst (xs.set j v))) { s with heap:=s.heap.update p (Obj.mapSeq (·.setIfInBounds j u)) } :=
  I.lstUpd hp ho (mapSeq_set its n j u) (r.set rv j) (by rw [List.length_set]; exact hz) s.toks
 by_cases h0 : 0<=k
 ·have hk:k.toNat=j:=by
   rw [seqIndex_of h0 h4] at h1
   exact Option.some.inj h1
  exact PySem.W.ki_setAt ho h0 (by (first|lia|omega)) (by rw [List.size_toArray,<- hl]; exact h4) (by rw [hk]; exact ⟨_,I',q⟩)
 ·have hk:(k+(its.toArray.size:Int)).toNat=j:=by
   rw [seqIndex_neg (by (first|lia|omega)) h3] at h1
   rw [List.size_toArray,<- hl]
   exact Option.some.inj h1
  exact PySem.W.ki_setBack ho (by (first|lia|omega)) (by rw [List.size_toArray,<- hl]; exact h3) (by (first|lia|omega)) (by rw [hk]; exact ⟨_,I',q⟩)

theorem slice_bounds (lo hi:Option Int) (n:Nat):(sliceBounds lo hi none n).1=((HT.sIx n 0 lo:Nat):Int)/\(sliceBounds lo hi none n).2.1=((HT.sIx n n hi:Nat):Int)/\(sliceBounds lo hi none n).2.2=1:=by
 refine ⟨?_,?_,rfl⟩
 ·cases lo with
  | none=>simp [sliceBounds,HT.sIx]
  | some i =>
   simp only [sliceBounds,HT.sIx,Option.getD_none,show (1:Int) > 0 by decide,if_true]
   by_cases h:i<0
   ·simp only [h,if_true] <;> (first|lia|omega)
   ·simp only [h,if_false] <;> (first|lia|omega)
 ·cases hi with
  | none=>simp [sliceBounds,HT.sIx]
  | some i =>
   simp only [sliceBounds,HT.sIx,Option.getD_none,show (1:Int) > 0 by decide,if_true]
   by_cases h:i<0
   ·simp only [h,if_true] <;> (first|lia|omega)
   ·simp only [h,if_false] <;> (first|lia|omega)
theorem slicePick_cut (its:List Value) (lo hi:Option Int):slicePick its.toArray lo hi none=((its.drop (HT.sIx its.length 0 lo)).take (HT.sIx its.length its.length hi - HT.sIx its.length 0 lo)).toArray:=by
 obtain ⟨h1,h2,h3⟩ := slice_bounds lo hi its.toArray.size
 unfold slicePick
 rw [h1,h2,h3]
 simp only [sliceRange_one,pick_run,List.size_toArray] <;> rfl
inductive rSlL (K:PySem.W.Frag) (x:V) (lo:Option Int) (hi:Option Int) (H:Hp) (Q:VK):Prop
 | mk (a xs : _) (h0:x = .ref a) (h1:SqL K H a xs) (h2:∀ p,H p=none->Q (.ref p) (upd H p (.lst (cutV xs lo hi)))):rSlL K x lo hi H Q
theorem wG:SlR X (rSlL X.K):=by
 intro pins s σ H x v vl vu lo hi sl Q I rx hs pl pu h
 obtain ⟨a,xs,rfl,hx,q⟩ := h
 cases rx
 obtain ⟨its,r,ht,hz⟩ := I.list hx
 have hlen:=r.length
 refine ⟨"list",_,slot_list_getitem.lookup,ht.isList.typeIs,?_⟩
 refine wpAny_getItem_list_slice ht.isList hs pl pu .none (by simp) ?_ (by rw [List.size_toArray] <;> (first|lia|omega))
 rw [slicePick_cut,<- hlen]
 refine ⟨.ref s.heap.objs.size,_,I.laid (t':=s.toks) (o:=.lst (cutV xs lo hi)) (fun b ob q=>Heap.get?_push_of_some _ q) (Nat.le_refl _) ?_,rfl,q _ (I.hok.fresh (Nat.le_refl _))⟩
 exact ⟨Nat.le_trans (cutV_length xs lo hi) hz,_,0,(r.drop (HT.sIx xs.length 0 lo)).take (HT.sIx xs.length xs.length hi - HT.sIx xs.length 0 lo),Heap.get?_push_size _ rfl⟩

noncomputable def flatV:V->Bool
 | .non=>true
 | .bl _=>true
 | .int _=>true
 | .str _=>true
 | _=>false
noncomputable def eqV:V->V->Bool
 | .non,.non=>true
 | .bl a,.bl b=>a == b
 | .bl a,.int b=>(if a then 1 else 0) == b
 | .int a,.bl b=>a == (if b then 1 else 0)
 | .int a,.int b=>a == b
 | .str a,.str b=>a == b
 | _,_=>false
theorem eqAt_V {A:Around} {s:Shared} {y x:V} {u v:Value} (ry:RelV y u) (rx:RelV x v) (fy:flatV y=true) (fx:flatV x=true):SeqAt.EqAt A s u v (eqV y x):=by
 cases y with
 | non =>
  cases ry
  cases x with
  | non=>cases rx; exact SeqAt.EqAt.same _
  | bl b=>cases rx; exact SeqAt.EqAt.none_bool b
  | int b=>obtain ⟨t,rfl⟩ := rx; exact SeqAt.EqAt.none_int b t
  | str b=>obtain ⟨t,rfl⟩ := rx; exact SeqAt.EqAt.none_str b t
  | _=>exact absurd (show false=true from fx) Bool.false_ne_true
 | bl a =>
  cases ry
  cases x with
  | non=>cases rx; exact SeqAt.EqAt.bool_none a
  | bl b=>cases rx; exact SeqAt.EqAt.bool_bool a b
  | int b=>obtain ⟨t,rfl⟩ := rx; exact SeqAt.EqAt.bool_int a b t
  | str b=>obtain ⟨t,rfl⟩ := rx; exact SeqAt.EqAt.bool_str a b t
  | _=>exact absurd (show false=true from fx) Bool.false_ne_true
 | int a =>
  obtain ⟨t',rfl⟩ := ry
  cases x with
  | non=>cases rx; exact SeqAt.EqAt.int_none a t'
  | bl b=>cases rx; exact SeqAt.EqAt.int_bool a t' b
  | int b=>obtain ⟨t,rfl⟩ := rx; exact SeqAt.EqAt.int_int a t' b t
  | str b=>obtain ⟨t,rfl⟩ := rx; exact SeqAt.EqAt.int_str a t' b t
  | _=>exact absurd (show false=true from fx) Bool.false_ne_true
 | str a =>
  obtain ⟨t',rfl⟩ := ry
  cases x with
  | non=>cases rx; exact SeqAt.EqAt.str_none a t'
  | bl b=>cases rx; exact SeqAt.EqAt.str_bool a t' b
  | int b=>obtain ⟨t,rfl⟩ := rx; exact SeqAt.EqAt.str_int a t' b t
  | str b=>obtain ⟨t,rfl⟩ := rx; exact SeqAt.EqAt.str_str a t' b t
  | _=>exact absurd (show false=true from fx) Bool.false_ne_true
 | _=>exact absurd (show false=true from fy) Bool.false_ne_true
noncomputable def eqU (x:V) (u:Value):Bool:=match u with
 | .none=>eqV .non x
 | .bool b=>eqV (.bl b) x
 | .int i _=>eqV (.int i) x
 | .str z _=>eqV (.str z) x
 | _=>false
theorem eqU_of {x y:V} {u:Value} (r:RelV y u) (f:flatV y=true):eqU x u=eqV y x:=by
 cases y with
 | non=>cases r; rfl
 | bl b=>cases r; rfl
 | int i=>obtain ⟨t,rfl⟩ := r; rfl
 | str z=>obtain ⟨t,rfl⟩ := r; rfl
 | _=>exact absurd (show false=true from f) Bool.false_ne_true
theorem any_eqU {x:V}:∀ {xs:List V} {us:List Value},Vals xs us->xs.all flatV=true->us.any (eqU x)=xs.any fun y=>eqV y x
 | _,_,.nil,_=>rfl
 | y :: xs,u :: us,.cons r t,f=>by
  rw [List.all_cons,Bool.and_eq_true] at f
  rw [List.any_cons,List.any_cons,eqU_of r f.1,any_eqU t f.2]
theorem mem_eqAt {A:Around} {s:Shared} {x:V} {v:Value} (rx:RelV x v) (fx:flatV x=true):∀ {xs:List V} {us:List Value},Vals xs us->xs.all flatV=true->∀ u∈us,SeqAt.EqAt A s u v (eqU x u)
 | _,_,.nil,_=>fun u hu=>by cases hu
 | y :: xs,u :: us,.cons r t,f=>fun u' hu=>by
  rw [List.all_cons,Bool.and_eq_true] at f
  rcases List.mem_cons.mp hu with rfl | hu
  ·rw [eqU_of r f.1]; exact eqAt_V r rx f.1 fx
  ·exact mem_eqAt rx fx t f.2 u' hu
noncomputable def inV (x:V) (xs:List V):Bool:=xs.any fun y=>eqV y x
inductive rIn (K:PySem.W.Frag) (neg:Bool) (x:V) (y:V) (H:Hp) (Q:VK):Prop
 | mk (p xs : _) (h0:y = .ref p) (h1:(SqL K H p xs\/SqT K H p xs)) (h2:flatV x=true) (h3:xs.all flatV=true) (h4:Q (.bl (if neg then !inV x xs else inV x xs)) H):rIn K neg x y H Q
theorem op_in_seq:OpR X (compareOp .In) (rIn X.K false):=by
 intro pins s σ H x y v u Q I rx ry h
 obtain ⟨p,xs,rfl,hq,fx,fs,q⟩ := h
 cases ry
 rcases hq with hq | hq
 ·obtain ⟨its,r,pl,hz⟩ := I.list hq
  refine SeqAt.in_listAt (eqU x) pl.isList (fun w hw=>mem_eqAt rx fx r fs w (by simpa using hw)) ⟨.bl _,H,I,rfl,?_⟩
  rw [show its.toArray.any (eqU x)=its.any (eqU x) by simp,any_eqU r fs]
  exact q
 ·obtain ⟨its,r,pl,hz⟩ := I.tuple hq
  refine SeqAt.in_tupleAt (eqU x) pl (fun w hw=>mem_eqAt rx fx r fs w (by simpa using hw)) ⟨.bl _,H,I,rfl,?_⟩
  rw [show its.toArray.any (eqU x)=its.any (eqU x) by simp,any_eqU r fs]
  exact q
theorem zM:CallR X (.builtin "len") (fun xs H Q=>∃ p ys,xs=[.ref p]/\(SqL X.K H p ys\/SqT X.K H p ys)/\Q (.int ys.length) H):=by
 intro pins s σ H xs us Q I r h
 obtain ⟨p,ys,rfl,hq,q⟩ := h
 obtain ⟨u,rfl,rx⟩ := vals1 r
 cases rx
 have hn:=line63
 rcases hq with hq | hq
 ·obtain ⟨its,r',pl,hz⟩ := I.list hq
  have hlen:=r'.length
  exact Calls.call_len_list pl.isList (by simp only [List.size_toArray] <;> (first|lia|omega)) ⟨.int ys.length,H,I.tok _,⟨s.toks+1,by rw [List.size_toArray,hlen]⟩,q⟩
 ·obtain ⟨its,r',pl,hz⟩ := I.tuple hq
  have hlen:=r'.length
  exact len_tuple pl (by simp only [List.size_toArray] <;> (first|lia|omega)) ⟨.int ys.length,H,I.tok _,⟨s.toks+1,by rw [List.size_toArray,hlen]⟩,q⟩
theorem call_list_of:CallR X (.type "list") (fun xs H Q=>∃ p ys,xs=[.ref p]/\(SqL X.K H p ys\/SqT X.K H p ys)/\∀ l,H l=none->Q (.ref l) (upd H l (.lst ys))):=by
 intro pins s σ H xs us Q I r h
 obtain ⟨p,ys,rfl,hq,q⟩ := h
 obtain ⟨u,rfl,rx⟩ := vals1 r
 cases rx
 have fin:∀ (its:List Value),Vals ys its->ys.length<=sizeLine->∀ (h':Heap) (c':Nat),(∀ b o',s.heap.get? b=some o'->h'.get? b=some o') ->
   h'.get? s.heap.objs.size=some { cls:=.type "list",dict:=none,data:=.seq its.toArray c',slots:=#[] }->EP X pins σ Q (.ref s.heap.objs.size) { s with heap:=h' }:=fun its r' hz h' c' kp e =>
  ⟨.ref s.heap.objs.size,_,I.laid (t':=s.toks) kp (Nat.le_refl _) (show ObjOk X.prog X.w _ h' _ (.lst ys) from ⟨hz,its,c',r',e⟩),rfl,q _ (I.hok.fresh (Nat.le_refl _))⟩
 rcases hq with hq | hq
 ·obtain ⟨its,r',pl,hz⟩ := I.list hq
  have hlen:=r'.length
  obtain ⟨o,ho,hc,n,hd⟩ := pl.isList
  exact call_list_seq p (.inl rfl) ho hc hd (fun h' c' kp e=>fin its r' hz h' c' kp e) (by simp only [List.size_toArray] <;> (first|lia|omega))
 ·obtain ⟨its,r',pl,hz⟩ := I.tuple hq
  have hlen:=r'.length
  obtain ⟨o,ho,hc,n,hd⟩ := pl
  exact call_list_seq p (.inr rfl) ho hc hd (fun h' c' kp e=>fin its r' hz h' c' kp e) (by simp only [List.size_toArray] <;> (first|lia|omega))
theorem qX:CallR X (.type "tuple") (fun xs H Q=>∃ p ys,xs=[.ref p]/\((SqL X.K H p ys/\∀ l,H l=none->Q (.ref l) (upd H l (.tup ys)))\/(SqT X.K H p ys/\Q (.ref p) H))):=by
 intro pins s σ H xs us Q I r h
 obtain ⟨p,ys,rfl,h⟩ := h
 obtain ⟨u,rfl,rx⟩ := vals1 r
 cases rx
 rcases h with ⟨hq,q⟩ | ⟨hq,q⟩
 ·obtain ⟨its,r',pl,hz⟩ := I.list hq
  have hlen:=r'.length
  refine call_tuple_list pl.isList (fun h' kp => ?_) (by simp only [List.size_toArray] <;> (first|lia|omega))
  have I1:Inv X pins σ H { s with heap:=h' }:=I.kept (t':=s.toks) kp
  have I2:Inv X pins σ (upd H h'.objs.size (.tup ys)) { s with heap:=h'.push { cls:=.type "tuple",data:=.seq its.toArray } } :=
   I1.laid (t':=s.toks) (fun b o e=>Heap.get?_push_of_some _ e) (Nat.le_refl _) (show ObjOk X.prog X.w _ _ _ (.tup ys) from ⟨hz,its,r',IsTup.new _ _⟩)
  exact ⟨.ref h'.objs.size,_,I2,rfl,q _ (I1.hok.fresh (Nat.le_refl _))⟩
 ·obtain ⟨its,r',pl,hz⟩ := I.tuple hq
  exact call_tuple_same pl ⟨.ref p,H,I,rfl,q⟩

noncomputable def tyV (K:PySem.W.Frag) (T:String) (x:V) (H:Hp):Prop:=match x with
 | .str _=>T = "str"
 | .int _=>T = "int"
 | .ref p=>(T = "list" /\ ∃ xs,SqL K H p xs)\/(T = "tuple" /\ ∃ o,K.lookup p=some o/\o.cls = .type "tuple" /\ o.dict=none) \/
   (T = "dict" /\ ((∃ kvs,H p=some (.dK kvs))\/∃ kvs,H p=some (.dT kvs)))\/(T = "set" /\ ∃ S n,H p=some (.set S n))
 | _=>False
theorem tyV_is {pins:List (Addr × Obj)} {σ:St} {H:Hp} {s:Shared} {T:String} {x:V} {v:Value} (I:Inv X pins σ H s) (r:RelV x v) (ty:tyV X.K T x H) :
  s.TypeIs v T/\∀ a,v = .ref a->∃ ob,s.heap.get? a=some ob/\ob.dict=none:=by
 cases x with
 | str z =>
  obtain ⟨t,rfl⟩ := r
  cases (show T = "str" from ty)
  exact ⟨typeIs_str s z t,fun _ e=>nomatch e⟩
 | int i =>
  obtain ⟨t,rfl⟩ := r
  cases (show T = "int" from ty)
  exact ⟨typeIs_int s i t,fun _ e=>nomatch e⟩
 | ref p =>
  cases r
  rcases ty with ⟨rfl,xs,hq⟩ | ⟨rfl,o,hk,hc,hd⟩ | ⟨rfl,hk⟩ | ⟨rfl,S,n,hk⟩
  ·obtain ⟨its,_,pl,_⟩ := I.list hq
   refine ⟨pl.isList.typeIs,fun a e => ?_⟩
   cases e
   obtain ⟨o,n,e,c,hd,_⟩ := pl
   exact ⟨o,e,hd⟩
  ·refine ⟨⟨o,I.kIn p o hk,hc⟩,fun a e => ?_⟩
   cases e
   exact ⟨o,I.kIn _ o hk,hd⟩
  ·have z:∃ o,s.heap.get? p=some o/\o.ExactDict:=by
    rcases hk with ⟨kvs,hk⟩ | ⟨kvs,hk⟩
    ·obtain ⟨_,_,_,_,o,_,_,e,ex,_⟩ := I.hok p _ hk
     exact ⟨o,e,ex⟩
    ·obtain ⟨_,_,_,_,o,_,_,e,ex,_⟩ := I.hok p _ hk
     exact ⟨o,e,ex⟩
   obtain ⟨o,e,ex⟩ := z
   refine ⟨⟨o,e,ex.1⟩,fun a e2 => ?_⟩
   cases e2
   exact ⟨o,e,ex.2.1⟩
  ·obtain ⟨o,_,_,_,e,ex,_⟩ := I.hok p _ hk
   refine ⟨⟨o,e,ex.1⟩,fun a e2 => ?_⟩
   cases e2
   exact ⟨o,e,ex.2.1⟩
 | _=>exact False.elim ty
inductive tBM0R (K:PySem.W.Frag) (T:String) (r:V->List V->Hp->VK->Prop) (x:V) (H1:Hp) (Q:VK):Prop
 | mk (h0:tyV K T x H1) (h1:r x [] H1 Q):tBM0R K T r x H1 Q
noncomputable def tBM0 (K:PySem.W.Frag) (T:String) (r:V->List V->Hp->VK->Prop) (to:TE):TE:=fun σ H Q=>to σ H fun x H1=>tBM0R K T r x H1 Q
inductive tBMR (K:PySem.W.Frag) (T:String) (r:V->List V->Hp->VK->Prop) (t:TA) (σ:St) (x:V) (H1:Hp) (Q:VK):Prop
 | mk (h0:tyV K T x H1) (h1:t σ H1 fun xs H2=>r x xs H2 Q):tBMR K T r t σ x H1 Q
noncomputable def tBM (K:PySem.W.Frag) (T:String) (r:V->List V->Hp->VK->Prop) (to:TE) (t:TA):TE:=fun σ H Q=>to σ H fun x H1=>tBMR K T r t σ x H1 Q
variable {o e:Expr} {es:List Expr} {to:TE} {t:TA} {name:Str} {apos cpos:Pos} {T id:String} {r:V->List V->Hp->VK->Prop}
theorem pe_bm0 (pa:PlainAttrs T) (slot:Slot T name id) (hty:typeOf (.builtin id)=pure (.type "method_descriptor")) (hm:MtR X id r) (ho:PE X o to)
  (hbase:attributeBase o name X.env (eval o X.env)=eval o X.env:=by rfl) (hline:(apos.endLine == cpos.line)=true:=by rfl):PE X (.Call (.Attribute o name apos) [] [] cpos) (tBM0 X.K T r to):=by
 refine ⟨?_⟩
 intro pins s σ H Q I h
 refine wpAny_Call_method0_late hbase hline (thn (ho pins s σ H _ I h) fun v s1 hzz => ?_)
 obtain ⟨x,H1,I1,r1,ty,q1⟩ := hzz
 obtain ⟨h1,h2⟩ := tyV_is I1 r1 ty
 exact ⟨T,id,pa,slot,hty,h1,h2,Calls.callWith_builtin rfl (PySem.evalArgs_none (hm pins s1 σ H1 x [] v [] Q I1 r1 .nil q1))⟩
theorem jD (pa:PlainAttrs T) (slot:Slot T name id) (hty:typeOf (.builtin id)=pure (.type "method_descriptor")) (hm:MtR X id r) (ho:PE X o to) (ha:PA X (e :: es) t)
  (hbase:attributeBase o name X.env (eval o X.env)=eval o X.env:=by rfl)
  (hfew:((backTo cpos (starEach (e :: es) X.env)).all (fun x => !x.1) && (backToKw cpos (keywordEach [] X.env)).all (fun x=>x.1.isSome)
   && decide ((e :: es).length+([]:List Keyword).length+(if ([]:List Keyword).isEmpty then 0 else 1)<30))=true:=by rfl)
  (hline:(apos.endLine == cpos.line)=true:=by rfl) (hs:starEach (e :: es) X.env=(false,eval e X.env) :: starEach es X.env:=by rfl) (hplain:(backTo cpos (starEach es X.env)).any (·.1)=false:=by rfl) :
  PE X (.Call (.Attribute o name apos) (e :: es) [] cpos) (tBM X.K T r to t):=by
 refine ⟨?_⟩
 intro pins s σ H Q I h
 refine wpAny_Call_method_late hbase hfew hline rfl (thn (ho pins s σ H _ I h) fun v s1 hzz => ?_)
 obtain ⟨x,H1,I1,r1,ty,q1⟩ := hzz
 obtain ⟨h1,h2⟩ := tyV_is I1 r1 ty
 refine ⟨T,id,pa,slot,hty,h1,h2,?_⟩
 have hA:=ha cpos pins s1 σ H1 _ I1 q1
 rw [hs] at hA ⊢
 refine Calls.callWith_builtin (by show (false || (backTo cpos (starEach es X.env)).any (·.1))=false; rw [hplain] <;> rfl) (Calls.evalArgs_plain ?_)
 exact thn hA fun us s2 ⟨vs,H2,I2,r2,q2⟩=>hm pins s2 σ H2 x vs v us Q I2 r1 r2 q2
/- xs.append(e),list.index on a module's tuple .. are MtR facts of 06m -/
end
end L2

namespace L2
open PySem PySem.Spec PyProof.Rows

noncomputable def MtM (X:Cx) (id:String) (r:V->List V->Hp->VK->Prop):Prop :=
 ∀ (pins:List (Addr × Obj)) (s:Shared) (σ:St) (H:Hp) (x:V) (xs:List V) (v:Value) (us:List Value) (Q:VK),Inv X pins σ H s->RelV x v->Vals xs us->r x xs H Q ->
  wpAny (model X.prog X.w) X.A (call (.builtin id) (v :: us)) (EP X pins σ Q) X.xe s

theorem Vals.one:∀ {x:V} {us:List Value},Vals [x] us->∃ u,us=[u]/\RelV x u
 | _,_,.cons r .nil=>⟨_,rfl,r⟩
theorem Vals.zero:∀ {us:List Value},Vals [] us->us=[]
 | _,.nil=>rfl
section
variable {X:Cx} {pins:List (Addr × Obj)} {σ:St} {H:Hp} {s:Shared} {l b:Addr} {xs ys zs:List V}

theorem Inv.lset {its its':List Value} {n:Nat} {f:Array Value->Array Value} {t':Nat} (I:Inv X pins σ H s) (hH:H l=some (.lst xs))
  (e:s.heap.get? l=some { cls:=.type "list",data:=.seq its.toArray n }) (hf:f its.toArray=its'.toArray) (hv:Vals ys its') (hz:ys.length<=sizeLine) :
  Inv X pins σ (upd H l (.lst ys)) { s with heap:=s.heap.update l (Obj.mapSeq f),toks:=t' }:=by
 have q:=PySem.IsL.update e f
 rw [hf] at q
 refine I.write (x:=l) (e:=l) (by rw [hH]; exact trivial) (.inl rfl) (fun b' u hb hu=>(Heap.get?_update_other s.heap (Obj.mapSeq f) (Ne.symm hb)).trans hu) ⟨_,q⟩ ?_
 exact ⟨hz,its',_,hv,q⟩
theorem Inv.lnew {its:List Value} {t':Nat} (I:Inv X pins σ H s) (hv:Vals ys its) (hz:ys.length<=sizeLine) :
  Inv X pins σ (upd H s.heap.objs.size (.lst ys)) { s with heap:=s.heap.push { cls:=.type "list",data:=.seq its.toArray },toks:=t' } :=
 I.laid (fun _ _ q=>Heap.get?_push_of_some _ q) (Nat.le_refl _) ⟨hz,its,0,hv,Heap.get?_push_size _ rfl⟩
theorem Inv.fresh (I:Inv X pins σ H s):H s.heap.objs.size=none:=I.hok.fresh (Nat.le_refl _)
theorem Inv.lstM (I:Inv X pins σ H s) (hH:H l=some (.lst xs)):xs.length<=sizeLine/\∃ (its:List Value) (n:Nat),Vals xs its/\xs.length=its.length/\s.heap.get? l=some { cls:=.type "list",data:=.seq its.toArray n }:=by
 obtain ⟨z,its,n,r,e⟩ := I.hok l _ hH
 exact ⟨z,its,n,r,r.length,e⟩

theorem notLongL {n:Nat} (h:n<=sizeLine):Builtin.List.listTooLong n=false:=by
 unfold Builtin.List.listTooLong
 exact decide_eq_false (by (first|lia|omega))
end

section
variable {X:Cx}

inductive rAppend (x:V) (vs:List V) (H:Hp) (Q:VK):Prop
 | mk (l xs y : _) (h0:x = .ref l) (h1:vs=[y]) (h2:H l=some (.lst xs)) (h3:xs.length<sizeLine) (h4:Q .non (upd H l (.lst (xs++[y])))):rAppend x vs H Q
theorem yD:MtM X "list.append" rAppend:=by
 intro pins s σ H x vs v us Q I rx rv h
 obtain ⟨l,xs,y,rfl,rfl,hH,hz,q⟩ := h
 cases rx
 obtain ⟨u,rfl,ru⟩ := rv.one
 obtain ⟨z,its,n,r,hl,e⟩ := I.lstM hH
 refine call_meets F.slot_list_append ⟨_,e,rfl⟩ F.entry_list_append (F.args_list_append_2 _ _) (PySem.list_append l its.toArray n u (by rw [List.size_toArray]; (first|lia|omega))) ⟨e,?_⟩
 refine ⟨.non,_,I.lset (its':=its++[u]) hH e (by simp) (r.append (.cons ru .nil)) ?_,rfl,q⟩
 rw [List.length_append,List.length_singleton]
 (first|lia|omega)

inductive rExtend (x:V) (vs:List V) (H:Hp) (Q:VK):Prop
 | mk (l b xs zs : _) (h0:x = .ref l) (h1:vs=[.ref b]) (h2:H l=some (.lst xs)) (h3:H b=some (.lst zs)) (h4:xs.length+zs.length<=sizeLine) (h5:Q .non (upd H l (.lst (xs++zs)))):rExtend x vs H Q
theorem mt_extend:MtM X "list.extend" rExtend:=by
 intro pins s σ H x vs v us Q I rx rv h
 obtain ⟨l,b,xs,zs,rfl,rfl,hH,hB,hz,q⟩ := h
 cases rx
 obtain ⟨u,rfl,ru⟩ := rv.one
 cases ru
 obtain ⟨z,its,n,r,hl,e⟩ := I.lstM hH
 obtain ⟨z2,its2,n2,r2,hl2,e2⟩ := I.lstM hB
 have hsz:its.toArray.size+its2.toArray.size<=sizeLine:=by rw [List.size_toArray,List.size_toArray]; (first|lia|omega)
 have hlong:¬ (!its.toArray.isEmpty && Builtin.List.listTooLong (its.toArray.size+its2.toArray.size))=true:=by
  rw [notLongL hsz,Bool.and_false]
  exact Bool.false_ne_true
 refine call_meets F.slot_list_extend ⟨_,e,rfl⟩ F.entry_list_extend (F.args_list_extend_2 _ _)
  (AutoSeq1.list_extend_list_list_0 l its.toArray n b its2.toArray n2 hlong (by rw [List.size_toArray]; (first|lia|omega)) (by (first|lia|omega))) ⟨e,e2,?_⟩
 refine ⟨.non,_,I.lset (its':=its++its2) hH e (by simp) (r.append r2) ?_,rfl,q⟩
 rw [List.length_append]
 (first|lia|omega)

inductive rClear (x:V) (vs:List V) (H:Hp) (Q:VK):Prop
 | mk (l xs : _) (h0:x = .ref l) (h1:vs=[]) (h2:H l=some (.lst xs)) (h3:Q .non (upd H l (.lst []))):rClear x vs H Q
theorem mt_clear:MtM X "list.clear" rClear:=by
 intro pins s σ H x vs v us Q I rx rv h
 obtain ⟨l,xs,rfl,rfl,hH,q⟩ := h
 cases rx
 have hus:=rv.zero
 subst hus
 obtain ⟨z,its,n,r,hl,e⟩ := I.lstM hH
 refine call_meets F.slot_list_clear ⟨_,e,rfl⟩ F.entry_list_clear (F.args_list_clear_1 _) (AutoSeq1.list_clear_list_0 l its.toArray n (by rw [List.size_toArray]; (first|lia|omega))) ⟨e,?_⟩
 exact ⟨.non,_,I.lset (its':=[]) (ys:=[]) hH e rfl .nil (Nat.zero_le _),rfl,q⟩

inductive rCat (x:V) (y:V) (H:Hp) (Q:VK):Prop
 | mk (l b xs zs : _) (h0:x = .ref l) (h1:y = .ref b) (h2:H l=some (.lst xs)) (h3:H b=some (.lst zs)) (h4:xs.length+zs.length<=sizeLine) (h5:∀ p,H p=none->Q (.ref p) (upd H p (.lst (xs++zs)))):rCat x y H Q
theorem xB:OpR X (binaryOp .Add) rCat:=by
 intro pins s σ H x y v u Q I rx ry h
 obtain ⟨l,b,xs,zs,rfl,rfl,hH,hB,hz,q⟩ := h
 cases rx
 cases ry
 obtain ⟨z,its,n,r,hl,e⟩ := I.lstM hH
 obtain ⟨z2,its2,n2,r2,hl2,e2⟩ := I.lstM hB
 refine PySem.P.add_list e e2 ?_ (by rw [List.size_toArray,List.size_toArray]; (first|lia|omega))
 have ea:its.toArray++its2.toArray=(its++its2).toArray:=by simp
 rw [ea]
 exact ⟨.ref _,_,I.lnew (t':=s.toks) (r.append r2) (by rw [List.length_append]; (first|lia|omega)),rfl,q _ I.fresh⟩
end

section
variable {prog:Program} {w:World} {A:Around} {E:Value->Shared->Prop} {s:Shared}
set_option maxRecDepth 100000 in
end

section
variable {X:Cx}
end
end L2

namespace Att
open PySem PySem.W PySem.Calls PyProof.Rows

theorem ints_of_wellAll {P:Params} {h:Heap}:∀ (ns:List Int) (vs:List Value),WellAll P h vs (ns.map WData.int)->IntsAre vs ns:=by
 intro ns
 induction ns with
 | nil =>
  intro vs w
  rw [List.map_nil] at w
  cases w
  exact .nil
 | cons n ns ih =>
  intro vs w
  rw [List.map_cons] at w
  cases w with
  | cons a b =>
   cases a
   exact .cons _ _ (ih _ b)

theorem script_of {l:OpenLaw} {n:Nat} (hn:l.most=some n) {P:Params} {h:Heap} {args:List WData} {vals:List Value}
  (hpre:l.row.toRowW.claim.pre args=true) (hwl:WellAll P h vals args) :
  ∃ a vs ns,vals=[Value.ref a]/\args=[WData.list (ns.map WData.int)]/\h.get? a=some { cls:=.type "list",data:=.seq vs.toArray }/\IntsAre vs ns/\ns.length<=n:=by
 have hsh:WShape.hasAll [] args [.list .int]=true:=(pre_splitW hpre).1
 have hc:l.pre.holds [] { args:=args }=true:=(pre_splitW hpre).2
 obtain ⟨d,r,rfl,h1,h2⟩ := hasAllW_cons hsh
 obtain rfl:=hasAllW_nil h2
 obtain ⟨xs,rfl,h3⟩ := hasW_list h1
 obtain ⟨ns,rfl⟩ := items_int h3
 have hlen:ns.length<=n:=by
  unfold OpenLaw.pre at hc
  have h4:(WTm.not (.lt (.lit (.int (n:Int))) (.len (.arg 0)))).holds [] { args:=[.list (ns.map .int)] }=true:=by
   have h4:=(holds_andW hc).1
   rw [hn] at h4
   exact h4
  have h5:=condW_of h4 (w_not (w_lt w_lit (w_len_list (w_arg rfl))))
  rw [List.length_map] at h5
  refine Nat.le_of_not_lt fun q => ?_
  have q':(n:Int)<((ns.length:Nat):Int):=by (first|lia|omega)
  first
   | (rw [decide_eq_true q'] at h5; exact absurd h5 (by decide))
   | (simp at h5; (first|lia|omega))
 cases hwl with
 | cons w1 w2 =>
  cases w2
  cases w1 with
  | list ho hall=>exact ⟨_,_,ns,rfl,rfl,ho,ints_of_wellAll ns _ hall,hlen⟩

theorem post_true (l:OpenLaw) (args:List WData):l.row.toRowW.claim.post args (.bool true) args=true :=
 postW_of (r:=l.row.toRowW) (X:=(true == true))
  (show WShape.has [] (.bool true) .bool=true by first | rfl | decide | simp [WShape.has,WShape.arms,WShape.armsAll])
  (show (WTm.eq .res (.lit (.bool true))).value [] { args:=args,res:=some (.bool true),after:=args }=some (.bool (true == true)) from w_eq_bool (w_res rfl) w_lit) rfl

theorem attach_call {l:OpenLaw} {n:Nat} {q:Program} {loose:List Str} {XP:(Str->Option Value)->Heap->Prop} {YP:World->Heap->Prop} {d:DefRec}
  (hn:l.most=some n) (hdf:d.params.defaults=[])
  (call:∀ (w:World) (s₀ s₁:Shared) (mg mb:Str->Option Value) (fa:Addr) (o:Obj) (pm cd doc:Value) (a:Addr) (vs:List Value) (ns:List Int),
   Ground q loose [] XP w s₀ mg mb s₁.heap->YP w s₁.heap ->
   s₁.heap.get? fa=some o->o.data = .func (docDef d.name d.params d.body d.scope pm cd doc)->s₁.heap.CodeRec cd d.name->mg d.name=some (.ref fa) ->
   s₁.heap.get? a=some { cls:=.type "list",data:=.seq vs.toArray }->IntsAre vs ns->ns.length<=n->s₁.gens = #[] ->
   codeAny (model l.prog w) callerA (.call (.ref fa) ⟨[.ref a],[]⟩) (fun r s'=>r = .ok (.ret (.bool true))/\OldK s₁.heap s'.heap/\s'.os=s₁.os/\AllBare s'.gens) s₁) :
  WalkO q loose XP YP l.row.toRowW d [] (fun f vs=>PySem.call f vs):=by
 intro w s₀ s₁ mg mb G Y fa o pm cd doc dV kV ho hd hcd hD hmg hg args vals as hpre hlay hrd hwl hlo
 obtain rfl:dV = .none:=Dflts.none hD hdf
 obtain rfl:kV = .none:=Dflts.noKw hD
 obtain ⟨a,vs,ns,rfl,rfl,hobj,hints,hlen⟩ := script_of hn hpre hwl
 refine enter_call (codeAny_mono (call w s₀ s₁ mg mb fa o pm cd doc a vs ns G Y ho (fd_plain hd) hcd hmg hobj hints hlen hg) fun r s' hq => ?_)
 obtain ⟨rfl,h2,h3,h4⟩ := hq
 exact ⟨.inl ⟨.bool true,.bool true,[],rfl,fun _=>rfl,.bool true,post_true l _,fun _=>⟨List.Pairwise.nil,fun _ hm=>(nomatch hm)⟩⟩,h2,h3,h4⟩

section
variable {prog:Program} {w:World} {A:Around} {E:Value->Shared->Prop} {s:Shared} {K:Frag}

noncomputable def ledger (h:Heap) (L d:Addr):List (Addr × Obj):=(List.range h.objs.size).filterMap fun a=>if a=L\/a=d then none else (h.get? a).map fun o=>(a,o)
end
end Att

namespace L2
open PySem PySem.Spec PyProof.Rows

theorem vals_ints:∀ {vs:List Value} {ns:List Int},IntsAre vs ns->Vals (ns.map V.int) vs
 | _,_,.nil => .nil
 | _,_,.cons n t h => .cons ⟨t,rfl⟩ (vals_ints h)

noncomputable def Only (H:Hp):Prop:=∀ b,H b=none\/∃ o xs,H b=some (.frz o (.lst xs))

theorem law_call {P:Program} {w:World} {K:PySem.W.Frag} {mg mb:Str->Option Value} {CX:CXT} {k:Nat} {fa a:Addr} {fd:FuncData} {x:Str} {sp:Sp} {s₁:Shared} {vs:List Value} {ns:List Int}
  (KX:K.In s₁.heap) (hns:s₁.heap.Ns mainGlobals mg) (hb:s₁.heap.Ns builtinsNs mb) (hbb:∀ x:Str,x ≠ "__name__" -> mb x=bootBuiltins x) (hlim:s₁.heap.NoLimit) (hg:s₁.gens = #[])
  (ha:s₁.heap.get? a=some { cls:=.type "list",data:=.seq vs.toArray }) (hi:IntsAre vs ns) (hl:ns.length<=sizeLine) (hr:Room k callerA)
  (F:∀ base:Heap,K.In base->base.Ns mainGlobals mg->FnOk P w K mg base CX k fa fd [x] sp) (hbind:∀ (s:Shared) (u:Value),BindsTo s fd ⟨[u],[]⟩ [(x,u)])
  (hsp:∀ H:Hp,Only H->SqL K H a (ns.map V.int)->sp [.ref a] H (fun v _=>v = .bl true) fun _ _ _=>False)
  (hCX:∀ H e s',CX [] H s₁ (fun _ _ _=>False) e s'->False) :
  codeAny (model P w) callerA (.call (.ref fa) ⟨[.ref a],[]⟩) (fun r s'=>r = .ok (.ret (.bool true))/\OldK s₁.heap s'.heap/\s'.os=s₁.os/\AllBare s'.gens) s₁:=by
 have rv:=vals_ints hi
 have lenV:=hi.length
 have core:∀ H:Hp,Only H->SqL K H a (ns.map V.int)->HOk P w H s₁.heap->(∀ b,H b≠none->b=a)->(H a≠none->K.lookup a=none) ->
   codeAny (model P w) callerA (.call (.ref fa) ⟨[.ref a],[]⟩) (fun r s'=>r = .ok (.ret (.bool true))/\OldK s₁.heap s'.heap/\s'.os=s₁.os/\AllBare s'.gens) s₁:=by
  intro H hO hS hok hA hK
  have base_of:∀ {b:Addr} {o:Obj},s₁.heap.get? b=some o->H b=none->(hidT s₁.heap H).get? b=some o:=fun e n=>hidT_get e n
  have noA:∀ {b:Addr} {o:Obj} {es:Array DictEntry} {ep:Nat},s₁.heap.get? b=some o->o.data = .dict es ep->H b=none:=fun {b o es ep} e d=>by
   cases q:H b with
   | none=>rfl
   | some u =>
    have e':b=a:=hA b (by rw [q]; simp)
    subst e'
    rw [ha] at e; cases e
    have d':Data.seq vs.toArray _=Data.dict es ep:=d
    cases d'
  have nsK:∀ {b:Addr} {m:Str->Option Value},s₁.heap.Ns b m->(hidT s₁.heap H).Ns b m:=fun {b m} ⟨o,es,ep,e,d,r⟩=>⟨o,es,ep,base_of e (noA e d),d,r⟩
  have hKb:K.In (hidT s₁.heap H):=fun b o e=>base_of (KX b o e) (by
   cases q:H b with
   | none=>rfl
   | some u =>
    have e':b=a:=hA b (by rw [q]; simp)
    subst e'
    rw [hK (by rw [q]; simp)] at e; cases e)
  have hM:Mod K mg (hidT s₁.heap H):=⟨hKb,nsK hns,⟨mb,nsK hb,hbb⟩,let ⟨mc,h1,h2⟩ := hlim; ⟨mc,nsK h1,h2⟩⟩
  have e0:Env0 P w K mg (hidT s₁.heap H) callerA [] s₁ H:=⟨rfl,hM,fun b o e=>of_hidT e,Nat.le_of_eq (hidT_size _ _),trivial,fun b hb=>absurd (show b∈([]:List Addr) from hb) (by simp),hok,.of_eq hg⟩
  refine codeAny_mono ((F _ hKb (nsK hns)).run callerA [] s₁ H ⟨[.ref a],[]⟩ [.ref a] [.ref a] _ _ hr e0 (hbind s₁ (.ref a)) (.cons rfl .nil) (hsp H hO hS)) fun r s' h => ?_
  cases r with
  | error e=>exact (hCX H e s' h).elim
  | ok fl =>
   cases fl with
   | next=>exact False.elim h
   | brk=>exact False.elim h
   | cont=>exact False.elim h
   | ret u =>
    obtain ⟨v,H',os,bare,un,hok',r',q⟩ := h
    have q':v = .bl true:=q
    subst q'
    obtain rfl:u=Value.bool true:=r'
    refine ⟨rfl,OldK.of_keep fun b o e => ?_,os,bare⟩
    cases q:H b with
    | none=>exact un.keep b o e q (by intro z; exact absurd (show b∈([]:List Addr) from z) (by simp)) (by simp)
    | some u =>
     rcases hO b with z | ⟨ob,xs,z⟩
     ·rw [q] at z; cases z
     ·have z2:=un.frzs b ob _ z
      obtain ⟨e1,_⟩ := hok b _ z
      obtain ⟨e2,_⟩ := hok' b _ z2
      rw [e] at e1; cases e1
      exact e2
 cases hk:K.lookup a with
 | some o =>
  have e:=KX a o hk
  rw [ha] at e
  cases e
  refine core (fun _=>none) (fun _ => .inl rfl) (.inr ⟨_,vs.toArray,_,hk,rfl,rfl,rfl,by rw [List.size_toArray,lenV]; exact hl,by simpa using rv⟩) (fun b u z=>by have z':(none:Option HO)=some u:=z; cases z') (fun b z=>absurd rfl z) fun z=>absurd rfl z
 | none =>
  refine core (fun b=>if b=a then some (.frz { cls:=.type "list",data:=.seq vs.toArray } (.lst (ns.map V.int))) else none) (fun b => ?_) (.inl (.inr ⟨{ cls:=.type "list",data:=.seq vs.toArray },if_pos rfl⟩)) (fun b u z => ?_) (fun b z => ?_) fun _=>hk
  ·by_cases hb:b=a
   ·exact .inr ⟨_,_,if_pos hb⟩
   ·exact .inl (if_neg hb)
  ·by_cases hb:b=a
   ·have z':=(if_pos hb).symm.trans z
    cases z'
    subst hb
    exact ⟨ha,by rw [List.length_map]; exact hl,vs,_,rv,ha⟩
   ·have z':=(if_neg hb).symm.trans z
    cases z'
  ·by_cases hb:b=a
   ·exact hb
   ·exact absurd (if_neg hb) z
end L2

namespace L2
open PySem PySem.Spec PyProof.Rows

theorem walk_of {l:PySem.W.OpenLaw} {n k:Nat} {q:Program} {loose:List Str} {XP:(Str->Option Value)->Heap->Prop} {YP:World->Heap->Prop} {d:DefRec} {K:Params->PySem.W.Frag} {CX:World->CXT} {sp:World->Sp} {x:Str}
  (hn:l.most=some n) (hn2:n<=sizeLine) (hdf:d.params.defaults=[]) (hr:Room k callerA)
  (hY:∀ (w:World) (h:Heap),YP w h->(K w.params).In h)
  (F:∀ (w:World) (mg:Str->Option Value) (fa:Addr) (h:Heap),(K w.params).In h->h.Ns mainGlobals mg->mg d.name=some (.ref fa) ->
   ∃ fd:FuncData,(∀ (s:Shared) (u:Value),BindsTo s fd ⟨[u],[]⟩ [(x,u)]) /\
    ∀ base:Heap,(K w.params).In base->base.Ns mainGlobals mg->FnOk l.prog w (K w.params) mg base (CX w) k fa fd [x] (sp w))
  (hsp:∀ (w:World) (H:Hp) (a:Addr) (ns:List Int),ns.length<=n->Only H->SqL (K w.params) H a (ns.map V.int)->sp w [.ref a] H (fun v _=>v = .bl true) fun _ _ _=>False)
  (hCX:∀ (w:World) (H:Hp) (s:Shared) (e:Value) (s':Shared),CX w [] H s (fun _ _ _=>False) e s'->False) :
  PySem.W.WalkO q loose XP YP l.row.toRowW d [] (fun f vs=>PySem.call f vs):=by
 refine Att.attach_call hn hdf fun w s₀ s₁ mg mb fa o pm cd doc a vs ns G Y ho hd hcd hmg hobj hints hlen hg => ?_
 have KX:=hY w _ Y
 obtain ⟨fd,hb,hF⟩ := F w mg fa _ KX G.T.g hmg
 exact law_call KX G.T.g G.T.b G.T.builtins G.T.nolimit hg hobj hints (Nat.le_trans hlen hn2) hr hF hb (fun H hO hS=>hsp w H a ns hlen hO hS) fun H e s'=>hCX w H s₁ e s'
end L2


namespace L2
open PySem PySem.Spec PyProof.Rows

noncomputable def inClass (s:Stmt) (j:Nat):Stmt:=match s with
 | .ClassDef _ _ _ body _ _ _ _ _ _ _=>body.getD j (.Pass ⟨0,0,0,0⟩)
 | _ => .Pass ⟨0,0,0,0⟩
noncomputable def defArgs (s:Stmt):Arguments:=match s with
 | .FunctionDef _ a _ _ _ _ _ _ _ _=>a
 | _=>{ posonlyargs:=[],args:=[],vararg:=none,kwonlyargs:=[],kw_defaults:=[],kwarg:=none,defaults:=[] }
noncomputable def defBody (s:Stmt):List Stmt:=match s with
 | .FunctionDef _ _ b _ _ _ _ _ _ _=>b
 | _=>[]
noncomputable def defScope (s:Stmt):Scope:=match s with
 | .FunctionDef _ _ _ _ _ _ sc _ _ _=>sc
 | _=>{ kind:=.function,names:=[],isGenerator:=false,isCoroutine:=false }

noncomputable abbrev E0:XK:=fun _ _ _=>False
structure Fun (K:PySem.W.Frag) (x qual:Str) (st:Stmt) (f:Addr) (fd:FuncData):Prop where
 ex:∃ (oc:Value) (od:Option Addr) (kV doc pm:Value) (an:Option Addr) (cdv ct:Value) (osl:Array (Option Value)),
  fd=PySem.W.fnOf x qual (defArgs st) (defBody st) (defScope st) .none kV doc pm an cdv ct/\K.lookup f=some ⟨oc,od,.func fd,osl⟩/\PySem.W.codeIn K cdv qual=true
 kp:PySem.W.keepIn K (.ref f)=true
section
variable {P:Program} {w:World} {K:PySem.W.Frag} {mg:Str->Option Value} {base:Heap}
theorem Fun.binds {x qual:Str} {st:Stmt} {f:Addr} {fd:FuncData} {ps:List Str} (F:Fun K x qual st f fd)
  (h:∀ (kV doc pm:Value) (an:Option Addr) (cdv ct:Value) (us:List Value),us.length=ps.length->bindArgs (PySem.W.fnOf x qual (defArgs st) (defBody st) (defScope st) .none kV doc pm an cdv ct) ⟨us,[]⟩=pure (ps.zip us)):Binds K fd ps []:=by
 obtain ⟨oc,od,kV,doc,pm,an,cdv,ct,osl,rfl,lk,hcd⟩ := F.ex
 exact .all (h kV doc pm an cdv ct)
theorem fun_mk {x qual:Str} {st:Stmt} {f:Addr} {oc:Value} {od an:Option Addr} {osl:Array (Option Value)} {kV doc pm cdv ct:Value} (l:K.lookup f=some ⟨oc,od,.func (PySem.W.fnOf x qual (defArgs st) (defBody st) (defScope st) .none kV doc pm an cdv ct),osl⟩)
  (c:PySem.W.codeIn K cdv qual=true) (k:PySem.W.keepIn K (.ref f)=true):Fun K x qual st f (PySem.W.fnOf x qual (defArgs st) (defBody st) (defScope st) .none kV doc pm an cdv ct):=⟨⟨oc,od,kV,doc,pm,an,cdv,ct,osl,rfl,l,c⟩,k⟩
end
theorem small1000 {n:Nat} (h:n<=1000):n<sizeLine:=Nat.lt_of_le_of_lt h (by decide)

section
variable {X:Cx}
theorem pv (i:Nat) {x:Str} {pos:Pos} (hN:X.N[i]? = some x:=by rfl) (hv:Vis X.env.scope x:=by first | exact Or.inl rfl | exact Or.inr (Or.inl rfl) | exact Or.inr (Or.inr rfl)) (hd:(x == ("__debug__" : Str))=false:=by decide)
  (hcd:(x == ("__classdict__" : Str))=false:=by decide):PE X (.Name x pos) (tVar i):=pe_var hN hv hd hcd
end

theorem iteF {A B:Prop} (h:B):if false=true then A else B:=by
 rw [if_neg Bool.false_ne_true]
 exact h
theorem iteT {A B:Prop} (h:A):if true=true then A else B:=by
 rw [if_pos rfl]
 exact h
theorem ite2 {c A B:Prop} [Decidable c] (h1:c->A) (h2:¬ c->B):if c then A else B:=by
 by_cases h:c
 ·rw [if_pos h]
  exact h1 h
 ·rw [if_neg h]
  exact h2 h
theorem iteNS {c A B:Prop} [Decidable c] (hc:c) (h:B):if (!decide c)=true then A else B:=by
 rw [decide_eq_true hc]
 exact iteF h

noncomputable def Same (H H':Hp):Prop:=∀ b o,H b=some o->H' b=some o
theorem Same.refl (H:Hp):Same H H:=fun _ _ h=>h
theorem Same.trans {H H1 H2:Hp} (a:Same H H1) (b:Same H1 H2):Same H H2:=fun c o h=>b c o (a c o h)
theorem Same.free {H H':Hp} (e:Same H H') {l:Addr} (h:H' l=Option.none):H l=Option.none:=by
 cases q:H l with
 | none=>rfl
 | some o =>
  rw [e l o q] at h
  cases h
theorem Same.seq {K:PySem.W.Frag} {H H':Hp} {a:Addr} {xs:List V} (e:Same H H') (h:SqL K H a xs):SqL K H' a xs:=by
 rcases h with (h | ⟨o,h⟩) | h
 ·exact .inl (.inl (e _ _ h))
 ·exact .inl (.inr ⟨o,e _ _ h⟩)
 ·exact .inr h

end L2

namespace L2
open PySem PySem.Spec PyProof.Rows

theorem comp_turns {prog:Program} {w:World} {A:Around} {R:Result->Shared->Prop} {s:Shared} {elt target iter:Expr} {ifs:List Expr} {scope:Scope} {pos:Pos} {it acc:Value} {env:Env} (J:Nat->Shared->Prop)
  (turn:∀ n s,J n s->wpAny (model prog w) A (pyNext it) (fun r s1=>match r with
   | none=>R (.ok .next) s1
   | some v=>wpAny (model prog w) A (letOwnedTupleGo target it v) (fun _ s1=>wpAny (model prog w) A (assign target env v) (fun _ s2 =>
     wpAny (model prog w) A (forIn ifs true fun c r=>if r=true then do let ok <- isTrue c env (eval c env); pure (ForInStep.yield ok) else pure (ForInStep.yield r)) (fun ok s3 =>
      if ok=true then wpAny (model prog w) A (eval elt env) (fun x s4 =>
       wpAny (model prog w) A (call (.builtin "list.append") [acc,x]) (fun _ s5=>∃ m,m<n/\J m s5) (fun _ _=>False) s4) (fun _ _=>False) s3
      else ∃ m,m<n/\J m s3) (fun _ _=>False) s2) (fun _ _=>False) s1) (fun _ _=>False) s1) (fun _ _=>False) s)
  (n:Nat) (h:J n s) :
  codeAny (model prog w) A (.compLoop (.ListComp elt [⟨target,iter,ifs,0⟩] scope pos) 0 it acc env) R s:=by
 refine codeAny_loop rfl J (fun n s hI => ?_) n h
 show wpAny _ A ((compTurn (.ListComp elt [⟨target,iter,ifs,0⟩] scope pos) 0 it acc env).onRaise (fun x=>do noteFrame x env; theTreesLotGoes x)) _ _ s
 refine wpAny_noted (wpAny_mono (E:=fun _ _=>False) ?_ (fun _ _ q=>q) fun _ _ q=>q.elim)
 rw [compTurn_list]
 refine wpAny_bind (wpAny_standAt (wpAny_bind (thn (turn n s hI) fun r s1 h1 => ?_)))
 cases r with
 | none=>exact wpAny_pure h1
 | some v =>
  refine wpAny_bind (thn h1 fun _ s1 h1 => ?_)
  refine wpAny_bind (thn h1 fun _ s2 h2=>wpAny_bind (thn h2 fun ok s3 h3 => ?_))
  cases ok with
  | false=>exact wpAny_pure ⟨rfl,h3⟩
  | true=>exact wpAny_bind (wpAny_bind (thn h3 fun x s4 h4=>wpAny_bind (thn h4 fun _ s5 h5=>wpAny_pure (wpAny_pure ⟨rfl,h5⟩))))

theorem closure_ok {env:Env}:∀ (names:List (Str × NameKind)) (acc:List (Str × Addr)),(∀ y∈names,y.2 = .free->∃ c,env.cells.lookup y.1=some c) ->
  ∃ cl:List (Str × Addr),(forIn names acc (fun (y:Str × NameKind) (r:List (Str × Addr))=>if (y.2 == NameKind.free)=true then do let a <- cellOf env y.1; pure (ForInStep.yield ((y.1,a) :: r)) else pure (ForInStep.yield r)):Sem _)=pure cl /\
   ∀ x,(∀ c,cl.lookup x=some c->acc.lookup x=some c\/env.cells.lookup x=some c)/\((acc.lookup x).isSome=true\/(x,NameKind.free)∈names->(cl.lookup x).isSome=true)
 | [],acc,_=>⟨acc,rfl,fun x=>⟨fun c h => .inl h,fun h=>h.elim id fun z=>nomatch z⟩⟩
 | (n,k) :: r,acc,hf=>by
  by_cases hk:k = .free
  ·subst hk
   obtain ⟨c,hc⟩ := hf (n,.free) List.mem_cons_self rfl
   obtain ⟨cl,e,q⟩ := closure_ok r ((n,c) :: acc) fun y hy=>hf y (List.mem_cons_of_mem _ hy)
   refine ⟨cl,?_,fun x=>⟨fun d hd => ?_,fun hx => ?_⟩⟩
   ·rw [List.forIn_cons]
    have e1:cellOf env n=pure c:=by unfold cellOf; simp only [hc]
    simp only [beq_self_eq_true,if_true,e1]
    exact e
   ·rcases (q x).1 d hd with z | z
    ·by_cases hx:x=n
     ·subst hx; rw [List.lookup_cons_self] at z; cases z; exact .inr hc
     ·rw [List.lookup_cons,beq_eq_false_iff_ne.mpr hx] at z; exact .inl z
    ·exact .inr z
   ·refine (q x).2 ?_
    by_cases hxn:x=n
    ·subst hxn; exact .inl (by rw [List.lookup_cons_self]; rfl)
    ·rcases hx with z | z
     ·exact .inl (by rw [List.lookup_cons,beq_eq_false_iff_ne.mpr hxn]; exact z)
     ·rcases List.mem_cons.mp z with z | z
      ·cases z; exact absurd rfl hxn
      ·exact .inr z
  ·obtain ⟨cl,e,q⟩ := closure_ok r acc fun y hy=>hf y (List.mem_cons_of_mem _ hy)
   refine ⟨cl,?_,fun x=>⟨(q x).1,fun hx=>(q x).2 ?_⟩⟩
   ·rw [List.forIn_cons]
    have hb:(k == NameKind.free)=false:=by simpa using hk
    simp only [hb,Bool.false_eq_true,if_false]
    exact e
   ·rcases hx with z | z
    ·exact .inl z
    ·rcases List.mem_cons.mp z with z | z
     ·cases z; exact absurd rfl hk
     ·exact .inr z
theorem closure_at {env:Env} {scope:Scope} (hf:∀ y∈scope.names,y.2 = .free->∃ c,env.cells.lookup y.1=some c) :
  ∃ cl,closureFor scope env=pure cl/\(∀ x c,cl.lookup x=some c->env.cells.lookup x=some c)/\∀ x,(x,NameKind.free)∈scope.names->∃ c,cl.lookup x=some c:=by
 obtain ⟨cl,e,q⟩ := closure_ok scope.names [] hf
 refine ⟨cl,?_,fun x c h => ?_,fun x hx=>Option.isSome_iff_exists.mp ((q x).2 (.inr hx))⟩
 ·unfold closureFor
  exact (congrArg (· >>= fun r=>pure r) e).trans rfl
 ·rcases (q x).1 c h with z | z
  ·simp at z
  ·exact z

noncomputable abbrev Cx.comp (X:Cx) (N:List Str) (scope:Scope) (cl:List (Str × Addr)) (C:Addr) (fp:List Addr) (s:Shared) (H:Hp):Cx :=
 { X with N:=N,s₀:=s,H₀:=H,env:=compEnvC scope cl C X.env,outer:=X.stack,stack:=X.stack,ex:=fp,fn:=fun _=>false,pn:=[],xe:=fun _ _=>False }

structure PTs (X:Cx) (ifs:List Expr) (t:TT)  : Prop where
 go:∀ (pins:List (Addr × Obj)) (s:Shared) (σ:St) (H:Hp) (Q:Bool->Hp->Prop),Inv X pins σ H s->t σ H Q ->
  wpAny (model X.prog X.w) X.A (forIn ifs true fun c r=>if r=true then do let ok <- isTrue c X.env (eval c X.env); pure (ForInStep.yield ok) else pure (ForInStep.yield r)) (TP X pins σ Q) X.xe s
instance {X:Cx} {ifs:List Expr} {t:TT}:CoeFun (PTs X ifs t) (fun _=>∀ (pins:List (Addr × Obj)) (s:Shared) (σ:St) (H:Hp) (Q:Bool->Hp->Prop),Inv X pins σ H s->t σ H Q ->
  wpAny (model X.prog X.w) X.A (forIn ifs true fun c r=>if r=true then do let ok <- isTrue c X.env (eval c X.env); pure (ForInStep.yield ok) else pure (ForInStep.yield r)) (TP X pins σ Q) X.xe s):=⟨PTs.go⟩
noncomputable def tYes:TT:=fun _ H Q=>Q true H
theorem kD {X:Cx}:PTs X [] tYes:=⟨fun _ _ _ H _ I h=>wpAny_tests_nil ⟨H,I,h⟩⟩
noncomputable def compSt (own:Nat) (js:List Nat) (σ:St):St:=List.replicate own none++js.map fun j=>(σ[j]?).join
noncomputable def CompGo (J:It) (p:Addr) (σ0:St) (H0:Hp) (g:TG) (tt:TT) (te:TE) (R:Hp->Prop):Prop :=
 ∃ W:Nat->Nat->St->Hp->Prop,(∃ m,W 0 m σ0 H0)/\∀ i m σ' H',W i m σ' H' ->
  (J.stop i H'/\R H')\/(J.go i H'/\∀ x H2,J.yld i H' x H2->g x σ' H2 fun σ3 H3=>tt σ3 H3 fun b H4 =>
   if b=true then te σ3 H4 fun v H5=>∃ ys,H5 p=some (.lst ys)/\ys.length<sizeLine/\∃ m',m'<m/\W (i+1) m' σ3 (upd H5 p (.lst (ys++[v])))
   else ∃ m',m'<m/\W (i+1) m' σ3 H4)
noncomputable def tComp (wi:TI) (own:Nat) (js:List Nat) (g:TG) (tt:TT) (te:TE):TE:=fun σ H Q=>wi σ H fun J H1=>∀ p,H1 p=none->CompGo J p (compSt own js σ) (upd H1 p (.lst [])) g tt te (Q (.ref p))
inductive Frees (N:List Str):List Str->List Nat->Prop where
 | nil:Frees N [] []
 | cons {y:Str} {j:Nat} {ys:List Str} {js:List Nat} (h:N[j]? = some y) (r:Frees N ys js):Frees N (y :: ys) (j :: js)
theorem Frees.at {N:List Str}:∀ {ys:List Str} {js:List Nat},Frees N ys js->∀ (i:Nat) (y:Str),ys[i]? = some y->∃ j,js[i]? = some j/\N[j]? = some y
 | _,_,.nil,_,_,e=>by simp at e
 | _,_,.cons (j:=j) h _,0,_,e=>by simp at e; subst e; exact ⟨j,rfl,h⟩
 | _,_,.cons _ r,i+1,y,e=>by
  obtain ⟨j,h1,h2⟩ := r.at i y (by simpa using e)
  exact ⟨j,by simpa using h1,h2⟩
theorem Frees.length {N:List Str}:∀ {ys:List Str} {js:List Nat},Frees N ys js->ys.length=js.length
 | _,_,.nil=>rfl
 | _,_,.cons _ r=>by simp [r.length]
theorem wB {f:Str->NameKind->NameKind}:∀ {names:List (Str × NameKind)} {x:Str},(names.map fun y=>(y.1,f y.1 y.2)).lookup x=(names.lookup x).map (f x)
 | [],_=>rfl
 | (n,k) :: r,x=>by
  by_cases h:x=n
  ·subst h; rw [List.map_cons,List.lookup_cons_self,List.lookup_cons_self]; rfl
  ·have hb:(x == n)=false:=beq_eq_false_iff_ne.mpr h
   rw [List.map_cons,List.lookup_cons,List.lookup_cons,hb]
   exact wB
noncomputable def relK (env:Env) (n:Str) (k:NameKind):NameKind:=if (k == .free && env.scope.kind == .function && env.kindOf n == some .cell)=true then .cell else k
theorem relabel_look (scope:Scope) (env:Env) (x:Str):(relabel scope env).names.lookup x=(scope.names.lookup x).map (relK env x):=by
 have e:(relabel scope env).names=scope.names.map fun y=>(y.1,relK env y.1 y.2):=by
  unfold relabel
  refine List.map_congr_left fun y _ => ?_
  obtain ⟨n,k⟩ := y
  show (if (k == .free && env.scope.kind == .function && env.kindOf n == some .cell)=true then (n,NameKind.cell) else (n,k))=(n,relK env n k)
  unfold relK
  split <;> rfl
 rw [e,wB]

section
variable {X:Cx} {elt target iter:Expr} {ifs:List Expr} {scope:Scope} {own ys:List Str} {js:List Nat} {wi:TI} {g:TG} {tt:TT} {te:TE} {pos:Pos}
theorem comp_block {pins:List (Addr × Obj)} {σ:St} {H:Hp} {s2:Shared} {it:Addr} {fp:List Addr} {tn:Nat->Heap->Prop} {J:It} {Q:VK} {E:Value->Shared->Prop} {cl:List (Str × Addr)} {RR:Value->Addr->Result->Shared->Prop}
  (hc:X.calm=true) (I:Inv X pins σ H s2) (T:Turn X.prog X.w X.K target J fp it tn) (st:tn 0 s2.heap) (fpk:∀ b∈fp,FpOk X pins H b)
  (hkind:scope.kind = .function) (hcell:∀ y∈scope.names,y.2 ≠ .cell) (fr:Frees X.N ys js) (hys:∀ y∈ys,X.env.kindOf y=some .cell)
  (hcl1:∀ x c,cl.lookup x=some c->X.env.cells.lookup x=some c) (hcl2:∀ x,(x,NameKind.free)∈scope.names->∃ c,cl.lookup x=some c)
  (hvis:∀ y∈ys,(relabel scope X.env).names.lookup y=some .cell)
  (hg:∀ cl C fp s H,PG (X.comp (own++ys) scope cl C fp s H) target g) (ht:∀ cl C fp s H,PTs (X.comp (own++ys) scope cl C fp s H) ifs tt) (he:∀ cl C fp s H,PE (X.comp (own++ys) scope cl C fp s H) elt te)
  (h:∀ p,H p=none->∃ W:Nat->Nat->St->Hp->Prop,(∃ m,W 0 m (compSt own.length js σ) (upd H p (.lst [])))/\∀ i m σ' H',W i m σ' H' ->
   (J.stop i H'/\Q (.ref p) H')\/(J.go i H'/\∀ x H2,J.yld i H' x H2->g x σ' H2 fun σ3 H3=>tt σ3 H3 fun b H4 =>
    if b=true then te σ3 H4 fun v H5=>∃ ys,H5 p=some (.lst ys)/\ys.length<sizeLine/\∃ m',m'<m/\W (i+1) m' σ3 (upd H5 p (.lst (ys++[v])))
    else ∃ m',m'<m/\W (i+1) m' σ3 H4))
  (hRR:∀ D C (H':Hp) (s':Shared),Inv X pins σ H' s'->Q (.ref D) H'->(∃ m,s'.heap.Ns C m)->H' C=none->C≠X.env.locals->X.s₀.heap.objs.size<=C->(∀ x c,X.env.cells.lookup x=some c->c≠C)->(∀ p∈X.pn++pins,p.1≠C)->RR (.ref D) C (.ok .next) s') :
  wpAny (model X.prog X.w) X.A (newList []) (fun acc s3=>wpAny (model X.prog X.w) X.A (newFunctionEnv scope X.env.globals cl [] X.env.qual none .none (some X.env)) (fun cenv s4 =>
   codeAny (model X.prog X.w) X.A (.compStart (.ListComp elt [⟨target,iter,ifs,0⟩] scope pos) 0 (.ref it) acc { cenv with scope:=relabel scope X.env }) (RR acc cenv.locals) s4) E s3) E s2:=by
 refine wpAny_newObj_type (wpAny_newFunctionEnv hcell (by intro y hy; simp at hy) (fun h1 hns1 hsb1 => ?_) hkind)
 have hnp:H s2.heap.objs.size=none:=I.hok.fresh (Nat.le_refl _)
 have I3:Inv X pins σ (upd H s2.heap.objs.size (.lst [])) { s2 with heap:=s2.heap.push { cls:=.type "list",data:=.seq ([]:List Value).toArray },toks:=s2.toks } :=
  I.lnew (its:=[]) (ys:=[]) .nil (Nat.zero_le _)
 obtain ⟨W,⟨m0,w0⟩,turn⟩ := h _ hnp
 clear h
 generalize hH0:upd H s2.heap.objs.size (.lst [])=H0 at I3 w0
 generalize hp:s2.heap.objs.size=p at *
 have eS:({ s2 with heap:=s2.heap.push { cls:=.type "list",data:=.seq ([]:List Value).toArray },toks:=s2.toks }:Shared)={ s2 with heap:=s2.heap.push { cls:=.type "list",data:=.seq ([]:List Value).toArray } }:=rfl
 rw [eS] at I3
 clear eS
 generalize hs3:({ s2 with heap:=s2.heap.push { cls:=.type "list",data:=.seq ([]:List Value).toArray } }:Shared)=s3 at *
 have heap3:s3.heap=s2.heap.push { cls:=.type "list",data:=.seq ([]:List Value).toArray }:=by rw [<- hs3]
 have old3:∀ b o,s2.heap.get? b=some o->s3.heap.get? b=some o:=fun b o e=>by rw [heap3]; exact Heap.get?_push_of_some _ e
 generalize hC:s3.heap.objs.size=C at *
 have st3:tn 0 s3.heap:=T.keep _ _ _ st fun b _ o e=>old3 b o e
 have fp3:∀ b∈fp,b<C:=fun b hb=>by
  obtain ⟨o,e,_⟩ := T.obj _ _ st3 b hb
  have:=Heap.lt_size e
  rw [hC] at this; exact this
 have nH0:∀ b∈fp,H0 b=none:=fun b hb=>by
  obtain ⟨o,e,_⟩ := T.obj _ _ st b hb
  rw [<- hH0,zK (fun z=>by have:=Heap.lt_size e; rw [hp,z] at this; exact Nat.lt_irrefl _ this)]
  exact (fpk b hb).1
 have old1:∀ b o,s3.heap.get? b=some o->h1.get? b=some o:=fun b o e =>
  hsb1.extBut b o (fun z=>by have:=Heap.lt_size e; rw [hC,z] at this; exact Nat.lt_irrefl _ this) (Heap.get?_push_of_some _ e)
 have nstk:∀ b∈fp,b ∉ frs X.stack:=fun b hb z=>by
  rcases List.mem_cons.mp (I.stkSub b z) with e | e
  ·exact (fpk b hb).2.1 e
  ·exact (fpk b hb).2.2.1 e
 have ncC:∀ x c,X.env.cells.lookup x=some c->c≠C:=fun x c e z=>by
  obtain ⟨v,o,ho,_⟩ := I3.cell x c e
  have:=Heap.lt_size ho
  rw [hC,z] at this; exact Nat.lt_irrefl _ this
 have LC:C≠X.env.locals:=fun z=>by have:=I3.lt; rw [hC,z] at this; exact Nat.lt_irrefl _ this
 have sC:X.s₀.heap.objs.size<=C:=by rw [<- hC]; exact I3.sz
 have rl:∀ x k,(compEnvC scope cl C X.env).kindOf x=some k->(k = .cell\/k = .free)->(x,NameKind.free)∈scope.names:=fun x k e hk=>by
  have e':(relabel scope X.env).names.lookup x=some k:=e
  rw [relabel_look] at e'
  cases q:scope.names.lookup x with
  | none=>rw [q] at e'; cases e'
  | some k0 =>
   rw [q] at e'
   have m0:=PySem.mem_of_lookup q
   have n0:=hcell _ m0
   have:relK X.env x k0=k:=Option.some.inj e'
   unfold relK at this
   split at this
   ·rename_i z
    have:k0 = .free:=by
     simp only [Bool.and_eq_true,beq_iff_eq] at z
     exact z.1.1
    rw [<- this]; exact m0
   ·rcases hk with hk | hk
    ·exact absurd (this.trans hk) n0
    ·rw [<- hk,<- this]; exact m0
 let Y:=X.comp (own++ys) scope cl C fp s3 H0
 have okY:Y.Ok:=by
  refine ⟨I.ok.mod,?_,I.ok.glob,I.ok.blt,?_,fun x y c e1 e2=>I.ok.inj x y c (hcl1 x c e1) (hcl1 y c e2),fun x hx => ?_,fun x c z=>(nomatch z),I.ok.hd,I.ok.frames,.inl rfl,fun b hb=>⟨?_,fun x c e=>(fpk b hb).2.2.2.2.1 x c (hcl1 x c e)⟩,fun b o e=>I3.bs b o e,?_,fun b o e hb => ?_,nstk,I3.stack,I3.stkFree⟩
  ·exact hkind
  ·exact Nat.le_of_eq hC
  ·rcases hx with hx | hx
   ·exact hcl2 x (rl x _ hx (.inl rfl))
   ·exact hcl2 x (rl x _ hx (.inr rfl))
  ·exact Nat.ne_of_lt (fp3 b hb)
  ·exact Nat.le_trans I.ok.bsz I3.sz
  ·rcases (fpk b hb).2.2.2.1 with z | z
   ·exact I.ok.noex b o e z
   ·exact absurd (Nat.lt_of_lt_of_le (Heap.lt_size e) (Nat.le_trans I.ok.bsz z)) (Nat.lt_irrefl _)
 have I4:Inv Y [] (compSt own.length js σ) H0 { s3 with heap:=h1,toks:=s3.toks+([]:List (Str × Value)).length }:=by
  refine ⟨okY,rfl,I3.bare,Un.kept old1,⟨_,hns1,fun i x v e1 e2 e3 => ?_⟩,fun x c e => ?_,?_,fun x c e=>I3.freeC x c (hcl1 x c e),fun p hp=>absurd (show p∈([]:List (Addr × Obj)) from hp) (by simp),I3.hok.kept old1,?_⟩
  ·have e1:(own++ys)[i]? = some x:=e1
   have hi:own.length<=i:=Nat.le_of_not_lt fun lt=>by
    unfold compSt at e2
    rw [List.getElem?_append_left (by simpa using lt),List.getElem?_replicate] at e2
    split at e2 <;> cases e2
   rw [List.getElem?_append_right hi] at e1
   obtain ⟨j,hj,hN⟩ := fr.at _ _ e1
   unfold compSt at e2
   rw [List.getElem?_append_right (by simpa using hi),List.length_replicate,List.getElem?_map,hj] at e2
   have e2:(σ[j]?).join=some v:=Option.some.inj e2
   have e2' : σ[j]? = some (some v):=by
    cases q : σ[j]? with
    | none=>rw [q] at e2; cases e2
    | some z=>rw [q] at e2; rw [show z=some v from e2]
   have my:=List.mem_of_getElem? e1
   have hk:=hys x my
   obtain ⟨m,hn,hl⟩ := I3.loc
   obtain ⟨u,r,q⟩ := hl j x v hN e2' (.inr (.inl hk))
   refine ⟨u,r,?_⟩
   rcases q with ⟨k,_⟩ | ⟨_,c,e,z⟩
   ·rw [hk] at k; cases k
   ·obtain ⟨c',e'⟩ := hcl2 x (rl x _ (hvis x my) (.inl rfl))
    have:c'=c:=by have:=hcl1 x c' e'; rw [e] at this; exact (Option.some.inj this).symm
    subst this
    refine .inr ⟨?_,c',e',?_⟩
    ·exact .inl (hvis x my)
    ·obtain ⟨o,ho,hd⟩ := z
     exact ⟨o,old1 _ _ ho,hd⟩
  ·obtain ⟨v,o,ho,hd⟩ := I3.cell x c (hcl1 x c e)
   exact ⟨v,o,old1 _ _ ho,hd⟩
  ·exact I3.hok.fresh (Nat.le_of_eq hC)
  ·unfold compSt
   show _=(own++ys).length
   rw [List.length_append,List.length_replicate,List.length_map,List.length_append,fr.length]
 have stat:∀ {H':Hp},(∀ b∈fp,H' b=none)->∀ b∈fp,FpOk Y [] H' b:=fun hn b hb =>
  ⟨hn b hb,Nat.ne_of_lt (fp3 b hb),nstk b hb,.inl hb,fun x c e=>(fpk b hb).2.2.2.2.1 x c (hcl1 x c e),fun p hp=>absurd (show p∈([]:List (Addr × Obj)) from hp) (by simp)⟩
 have fin:∀ {σ':St} {H':Hp} {s':Shared},Inv Y [] σ' H' s'->Q (.ref p) H'->RR (.ref p) C (.ok .next) s':=fun {σ' H' s'} I' q=>by
  have back:Inv X pins σ H' s':=I3.call' (ch:=fp) I'.os I'.base I'.hok I'.bare fun b hb=>⟨(fpk b hb).2.2.2.1,(fpk b hb).2.1,(fpk b hb).2.2.2.2.1,(fpk b hb).2.2.2.2.2⟩
  obtain ⟨m,hn,_⟩ := I'.loc
  exact hRR p C H' s' back q ⟨m,hn⟩ I'.free LC sC ncC fun q hq z=>by
   have:=Heap.lt_size (I3.pin q hq).1
   rw [hC,z] at this; exact Nat.lt_irrefl _ this
 have loop:∀ s4:Shared,s4={ s3 with heap:=h1,toks:=s3.toks+([]:List (Str × Value)).length } ->
   codeAny (model X.prog X.w) X.A (.compLoop (.ListComp elt [⟨target,iter,ifs,0⟩] scope pos) 0 (.ref it) (.ref p) (compEnvC scope cl C X.env)) (RR (.ref p) C) s4:=by
  rintro s4 rfl
  refine comp_turns (fun n s'=>∃ i σ' H',Inv Y [] σ' H' s'/\tn i s'.heap/\(∀ b∈fp,H' b=none)/\W i n σ' H') ?_ m0 ⟨0,_,_,I4,T.keep _ _ _ st3 fun b _ o e=>old1 b o e,nH0,w0⟩
  rintro n s5 ⟨i,σ5,H5,I5,st5,fr5,w5⟩
  rcases turn i n σ5 H5 w5 with ⟨stop,qn⟩ | ⟨go,step⟩
  ·refine thn (T.done Y rfl rfl rfl hc i [] s5 σ5 H5 (fun _ _=>False) I5 (stat fr5) st5 stop) fun r s6 hzz => ?_
   obtain ⟨hr,I6⟩ := hzz
   subst hr
   exact fin I6 qn
  ·refine thn (T.item Y rfl rfl rfl hc i [] s5 σ5 H5 (fun _ _=>False) I5 (stat fr5) st5 go) fun r s6 hzz => ?_
   obtain ⟨u,hr,h6⟩ := hzz
   subst hr
   refine thn h6 fun _ s7 hzz => ?_
   obtain ⟨x,H7,I7,r7,y7,st7,fr7⟩ := hzz
   have I7':=I7.pinned (stat fr7) (T.obj _ _ st7)
   have again:∀ {σ9:St} {H9:Hp} {s9:Shared} {m':Nat},Inv Y ([]++pinsAt fp s7.heap) σ9 H9 s9->m'<n->W (i+1) m' σ9 H9->∃ m,m<n/\∃ i σ' H',Inv Y [] σ' H' s9/\tn i s9.heap/\(∀ b∈fp,H' b=none)/\W i m σ' H':=fun {σ9 H9 s9 m'} I9 hm w9=>by
    refine ⟨m',hm,i+1,σ9,H9,I9.unpinned,T.keep _ _ _ st7 fun b hb o e=>(I9.pin (b,o) (List.mem_append_right _ (List.mem_append_right _ (wS hb e)))).1,fun b hb => ?_,w9⟩
    obtain ⟨o,e,d⟩ := T.obj _ _ st7 b hb
    exact (I9.pin (b,o) (List.mem_append_right _ (List.mem_append_right _ (wS hb e)))).2.1
   refine thn (hg cl C fp s3 H0 _ s7 σ5 H7 x u _ I7' r7 (step x H7 y7)) fun _ s8 hzz => ?_
   obtain ⟨σ8,H8,I8,q8⟩ := hzz
   refine thn (ht cl C fp s3 H0 _ s8 σ8 H8 _ I8 q8) fun b s9 hzz => ?_
   obtain ⟨H9,I9,q9⟩ := hzz
   cases b with
   | false =>
    obtain ⟨m',hm,w9⟩ := q9
    exact again I9 hm w9
   | true =>
    refine thn (he cl C fp s3 H0 _ s9 σ8 H9 _ I9 q9) fun y s10 hzz => ?_
    obtain ⟨v,H10,I10,r10,zs,e10,z10,m',hm,w10⟩ := hzz
    refine thn (yD (X:=Y) _ s10 σ8 H10 (.ref p) [v] (.ref p) [y] (fun _ H'=>H'=upd H10 p (.lst (zs++[v]))) I10 rfl (.cons r10 .nil) ⟨p,zs,v,rfl,rfl,e10,z10,rfl⟩) fun _ s11 hzz => ?_
    obtain ⟨_,H11,I11,_,q11⟩ := hzz
    subst q11
    exact again I11 hm w10
 have st4:tn 0 h1:=T.keep _ _ _ st3 fun b _ o e=>old1 b o e
 exact codeAny_compStart_list (loop _ rfl) (T.self _ 0 _ _ _ st4 (loop _ rfl))
end

section
variable {X:Cx} {elt target iter:Expr} {ifs:List Expr} {scope:Scope} {own ys:List Str} {js:List Nat} {wi:TI} {g:TG} {tt:TT} {te:TE} {pos:Pos}
structure CompSc (X:Cx) (scope:Scope) (ys:List Str):Prop where
 kind:scope.kind = .function
 cell:∀ y∈scope.names,y.2 ≠ .cell
 loc:∀ y∈scope.names,y.2 = .local->scope.names.lookup y.1=some .local
 free:∀ y∈scope.names,y.2 = .free->X.env.kindOf y.1=some .cell
 cap:∀ y∈ys,X.env.kindOf y=some .cell
 vis:∀ y∈ys,(relabel scope X.env).names.lookup y=some .cell
noncomputable def compScB (sc scope:Scope) (ys:List Str):Bool :=
 scope.kind == .function && sc.kind == .function && (scope.names.all fun y=>y.2 != .cell && (y.2 != .local || scope.names.lookup y.1 == some .local) && (y.2 != .free || sc.names.lookup y.1 == some .cell)) &&
  ys.all fun y=>sc.names.lookup y == some .cell && scope.names.lookup y == some .free
theorem xV {sc:Scope} (hsc:X.env.scope=sc) (h:compScB sc scope ys=true):CompSc X scope ys:=by
 unfold compScB at h
 simp only [Bool.and_eq_true,List.all_eq_true,beq_iff_eq,bne_iff_ne,Bool.or_eq_true,ne_eq] at h
 obtain ⟨⟨⟨h1,h0⟩,h2⟩,h3⟩ := h
 subst hsc
 refine ⟨h1,fun y hy=>(h2 y hy).1.1,fun y hy e => ?_,fun y hy e => ?_,fun y hy=>(h3 y hy).1,fun y hy => ?_⟩
 ·rcases (h2 y hy).1.2 with z | z
  ·exact absurd e z
  ·exact z
 ·rcases (h2 y hy).2 with z | z
  ·exact absurd e z
  ·exact z
 ·rw [relabel_look,(h3 y hy).2]
  show some (relK X.env y .free)=_
  have z:X.env.kindOf y=some .cell:=(h3 y hy).1
  unfold relK
  rw [z,h0]
  rfl
theorem qM (hc:X.calm=true) (hi:PI X target iter wi) (S:CompSc X scope ys) (fr:Frees X.N ys js)
  (hg:∀ cl C fp s H,PG (X.comp (own++ys) scope cl C fp s H) target g) (ht:∀ cl C fp s H,PTs (X.comp (own++ys) scope cl C fp s H) ifs tt) (he:∀ cl C fp s H,PE (X.comp (own++ys) scope cl C fp s H) elt te)
  (hs:∀ x,foldedSetIterable iter X.env x=pure x:=by intro _; rfl):PE X (.ListComp elt [⟨target,iter,ifs,0⟩] scope pos) (tComp wi own.length js g tt te):=by
 refine ⟨?_⟩
 intro pins s σ H Q I h
 rw [eval_ListComp]
 obtain ⟨cl,e,c1,c2⟩ := closure_at (env:=X.env) (scope:=scope) fun y hy hf=>I.ok.has y.1 (.inl (S.free y hy hf))
 refine wpAny_comprehension_free (use:=none) rfl hs e S.kind S.loc (thn (hi pins s σ H _ I h) fun v s1 h1=>thn h1 fun itv s2 h2 => ?_)
 obtain ⟨it,fp,tn,J,H2,e,I2,T,st2,f2,q2⟩ := h2
 subst e
 refine comp_block (Q:=Q) (RR:=fun acc C=>compPost (model X.prog X.w) X.A X.xe none (EP X pins σ Q) acc C) hc I2 T st2 f2 S.kind S.cell fr S.cap c1 c2 S.vis hg ht he q2 ?_
 intro D C H' s' I' q hm n1 n2 n3 n4 n5
 obtain ⟨m,hn⟩ := hm
 exact ⟨m,hn,fun h' hs'=>⟨.ref D,H',I'.turned (fun b o hb e=>(hs'.2 b hb).trans e) n1 n2 (.inr n3) n4 n5,rfl,q⟩⟩
theorem ps_setcomp {i:Nat} {x:Str} {pos' spos:Pos} (hN:X.N.Nodup) (hix:X.N[i]? = some x) (hx:X.env.scope.names.lookup x=some .local) (hc:X.calm=true) (hi:PI X target iter wi) (S:CompSc X scope ys) (fr:Frees X.N ys js)
  (hg:∀ cl C fp s H,PG (X.comp (own++ys) scope cl C fp s H) target g) (ht:∀ cl C fp s H,PTs (X.comp (own++ys) scope cl C fp s H) ifs tt) (he:∀ cl C fp s H,PE (X.comp (own++ys) scope cl C fp s H) elt te)
  (hsw:swapsWith (.ListComp elt [⟨target,iter,ifs,0⟩] scope pos) (some (.Name x pos')) spos.line X.env=pure true:=by rfl)
  (hs:∀ x,foldedSetIterable iter X.env x=pure x:=by intro _; rfl):PS X (.Assign [.Name x pos'] (.ListComp elt [⟨target,iter,ifs,0⟩] scope pos) spos) (fun D σ H=>tComp wi own.length js g tt te σ H fun v H1=>D.nx (σ.set i (some v)) H1):=by
 refine ⟨?_⟩
 intro pins s σ H D I h
 rw [exec_Assign_Name_used _ _ _ _ hsw]
 refine wpAny_bind (wpAny_standAt (wpAny_bind ?_))
 show wpAny _ X.A (do let _ <- comprehension (.ListComp elt [⟨target,iter,ifs,0⟩] scope pos) scope X.env _ (newList []) false (eval iter X.env) (some (assign (.Name x pos') X.env))) _ _ s
 obtain ⟨cl,e,c1,c2⟩ := closure_at (env:=X.env) (scope:=scope) fun y hy hf=>I.ok.has y.1 (.inl (S.free y hy hf))
 refine wpAny_bind (thn (wpAny_comprehension_free (use:=some (assign (.Name x pos') X.env)) (Q:=fun _ s'=>SP X pins D .next s') rfl hs e S.kind S.loc
  (thn (hi pins s σ H _ I h) fun v s1 h1=>thn h1 fun itv s2 h2 => ?_)) fun _ s' hq=>wpAny_pure (wpAny_pure hq))
 obtain ⟨it,fp,tn,J,H2,e,I2,T,st2,f2,q2⟩ := h2
 subst e
 refine comp_block (Q:=fun v H1=>D.nx (σ.set i (some v)) H1) (RR:=fun acc C=>compPost (model X.prog X.w) X.A X.xe (some (assign (.Name x pos') X.env)) (fun _ s'=>SP X pins D .next s') acc C) hc I2 T st2 f2 S.kind S.cell fr S.cap c1 c2 S.vis hg ht he q2 ?_
 intro B C H' s' I' q hm n1 n2 n3 n4 n5
 obtain ⟨m,hn⟩ := hm
 show wpAny _ X.A (assign (.Name x pos') X.env (.ref B)) _ _ _
 refine wpAny_assign_Name (store_ok2 I' hN hix (.inl hx) (v:=.ref B) rfl (fun s2 I2 hsb => ?_) (.inr hx))
 obtain ⟨a,hsb,ha⟩ := hsb
 have ne:C≠a:=by
  rcases ha with z | z
  ·rw [z]; exact n2
  ·exact Ne.symm (n4 x a z)
 exact ⟨m,hn.sameBut hsb ne,fun h' hs'=>⟨_,H',I2.turned (fun b o hb e=>(hs'.2 b hb).trans e) n1 n2 (.inr n3) n4 n5,q⟩⟩
end
end L2

namespace L2
open PySem PySem.Spec PyProof.Rows
section
variable {X:Cx} {x:Str} {p pos:Pos} {e:Expr} {es:List Expr} {t:TA}

noncomputable def GInt (mg:Str->Option Value) (x:Str) (i:Int):Prop:=∃ t,mg x=some (.int i t)
theorem zI {i:Int} (hg:Gl X x) (hm:GInt X.mg x i) (hd:(x == ("__debug__" : Str))=false:=by decide):PE X (.Name x pos) (tC (.int i)):=by
 obtain ⟨t,hm⟩ := hm
 exact pe_glob (v:=.int i) hg hm ⟨t,rfl⟩ hd
theorem pe_gref {a:Addr} (hg:Gl X x) (hm:X.mg x=some (.ref a)) (hd:(x == ("__debug__" : Str))=false:=by decide):PE X (.Name x pos) (tC (.ref a)):=pe_glob (v:=.ref a) hg hm rfl hd

structure Cal (P:Program) (w:World) (K:PySem.W.Frag) (mg:Str->Option Value) (base:Heap) (CX:CXT) (k:Nat) (x:Str) (ps:List Str) (sp:Sp):Prop where
 ex:∃ f fd,FnOk P w K mg base CX k f fd ps sp/\mg x=some (.ref f)/\PySem.W.keepIn K (.ref f)=true/\Binds K fd ps []
theorem zH {CX:CXT} {k n:Nat} {ps:List Str} {sp:Sp} {E:XK} (C:Cal X.prog X.w X.K X.mg X.base CX k x ps sp) (hr:Room n X.A) (hg:Gl X x) (ha:PA X (e :: es) t) (hx:Passes CX X E) (hk:k<=n:=by first | decide | (first|lia|omega)) (hdb:(x == ("__debug__" : Str))=false:=by decide)
  (he:starEach (e :: es) X.env=(false,eval e X.env) :: starEach es X.env:=by rfl) (hpl:(backTo pos (starEach es X.env)).any (·.1)=false:=by rfl):PE X (.Call (.Name x p) (e :: es) [] pos) (tCall sp [] E t):=by
 obtain ⟨f,fd,F,hm,kp,hb⟩ := C.ex
 exact pe_call F (hr.mono hk) hg hm kp hb .nil hx ha hdb he hpl
inductive Consts:List Expr->List V->Prop where
 | nil:Consts [] []
 | int {i j pos es vs} (r:Consts es vs):Consts (.Constant (.int i) j pos :: es) (.int i :: vs)
 | str {x j pos es vs} (r:Consts es vs):Consts (.Constant (.str x) j pos :: es) (.str x :: vs)
theorem yT:∀ {es:List Expr} {vs:List V},Consts es vs->PA X es (fun _ H Q=>Q vs H)
 | _,_,.nil=>⟨fun pos pins s σ H Q I h=>zC pos pins s σ H Q I h⟩
 | _,_,.int r=>⟨fun pos pins s σ H Q I h=>zA zF (yT r) (by rfl) pos pins s σ H Q I h⟩
 | _,_,.str r=>⟨fun pos pins s σ H Q I h=>zA pe_str (yT r) (by rfl) pos pins s σ H Q I h⟩

noncomputable def rIsi (K:PySem.W.Frag):List V->Hp->VK->Prop:=fun xs H Q =>
 (∃ x n t b,xs=[x,.ty n]/\TyOf K H x t/\PySem.W.kitOne K t (.type n)=some b/\Q (.bl b) H)\/∃ x C t b,xs=[x,.ref C]/\TyOf K H x t/\PySem.W.kitOne K t (.ref C)=some b/\Q (.bl b) H
theorem call_isiK (K:PySem.W.Frag) (hK:X.K=K):CallR X (.builtin "isinstance") (rIsi K):=by
 subst hK
 intro pins s σ H xs us Q I r h
 rcases h with ⟨x,n,t,b,rfl,ty,e,q⟩ | ⟨x,C,t,b,rfl,ty,e,q⟩
 ·obtain ⟨u,w',rfl,ru,rw'⟩ := vals2 r
  cases rw'
  exact isinst_ok I ru ty e fun tk=>⟨.bl b,H,I.tok tk,rfl,q⟩
 ·obtain ⟨u,w',rfl,ru,rw'⟩ := vals2 r
  cases rw'
  exact isinst_ok I ru ty e fun tk=>⟨.bl b,H,I.tok tk,rfl,q⟩
theorem kJ:CallR X (.builtin "isinstance") (rIsi X.K):=call_isiK X.K rfl

theorem ix_listK (K:PySem.W.Frag) (hK:X.K=K):IxR X (rIxL K):=hK ▸ yN
theorem op_in_seqK (K:PySem.W.Frag) (hK:X.K=K):OpR X (compareOp .In) (rIn K false):=hK ▸ op_in_seq
end
end L2

namespace L2
open PySem PySem.Spec PyProof.Rows
theorem yI:bootBuiltins "len" = some (.builtin "len"):=PySem.boot_len
theorem yM:bootBuiltins "isinstance" = some (.builtin "isinstance"):=by decide +kernel
theorem bt_int:bootBuiltins "int" = some (.type "int"):=by decide +kernel
theorem bt_bool:bootBuiltins "bool" = some (.type "bool"):=by decide +kernel
theorem wW:bootBuiltins "list" = some (.type "list"):=by decide +kernel
theorem wF:bootBuiltins "tuple" = some (.type "tuple"):=by decide +kernel
theorem bt_sum:bootBuiltins "sum" = some (.builtin "sum"):=by decide +kernel
theorem bt_sorted:bootBuiltins "sorted" = some (.builtin "sorted"):=by decide +kernel
theorem small {n:Nat} (h:n<=1000):n<=sizeLine:=Nat.le_of_lt (small1000 h)
theorem sm0:0<=sizeLine:=small (by decide)
theorem sm1:1<=sizeLine:=small (by decide)
theorem sm2:2<=sizeLine:=small (by decide)
theorem sm3:3<=sizeLine:=small (by decide)
theorem sm4:4<=sizeLine:=small (by decide)
theorem sm13:13<=sizeLine:=small (by decide)
theorem sm20:20<=sizeLine:=small (by decide)
theorem zE {H:Hp} {p:Addr} (h:H p=none) (o:HO):Same H (upd H p o):=fun b u q=>by rw [zK (zO q h)]; exact q

noncomputable def Scr (K:PySem.W.Frag) (H:Hp) (a:Addr) (ns:List Int):Prop :=
 (∃ o,H a=some (.frz o (.lst (ns.map V.int)))) \/
  ∃ (o:Obj) (its:Array Value) (n:Nat),K.lookup a=some o/\o.cls = .type "list" /\ o.dict=none/\o.data = .seq its n/\its.size<=sizeLine/\Vals (ns.map V.int) its.toList
theorem Scr.sq {K:PySem.W.Frag} {H:Hp} {a:Addr} {ns:List Int} (h:Scr K H a ns):SqL K H a (ns.map V.int):=by
 rcases h with h | h
 ·exact .inl (.inr h)
 ·exact .inr h
theorem Scr.of {K:PySem.W.Frag} {H:Hp} {a:Addr} {ns:List Int} (hO:Only H) (h:SqL K H a (ns.map V.int)):Scr K H a ns:=by
 rcases h with (h | h) | h
 ·rcases hO a with z | ⟨o,xs,z⟩
  ·rw [h] at z; cases z
  ·rw [h] at z; cases z
 ·exact .inl h
 ·exact .inr h
noncomputable def Keep (st:Addr) (H H':Hp):Prop:=∀ b o,b≠st->H b=some o->H' b=some o
theorem Keep.refl (st:Addr) (H:Hp):Keep st H H:=fun _ _ _ e=>e
theorem Keep.trans {st:Addr} {H H1 H2:Hp} (a:Keep st H H1) (b:Keep st H1 H2):Keep st H H2:=fun c o n e=>b c o n (a c o n e)
theorem Keep.same {st:Addr} {H H1:Hp} (a:Same H H1):Keep st H H1:=fun c o _ e=>a c o e
theorem Keep.upd {st:Addr} {H:Hp} {o:HO}:Keep st H (upd H st o):=fun c u n e=>by rw [zK n]; exact e
theorem Keep.new {st p:Addr} {H:Hp} (o:HO) (h:H p=none):Keep st H (L2.upd H p o):=Keep.same (zE h o)
theorem Scr.keep {K:PySem.W.Frag} {H H':Hp} {a st:Addr} {ns:List Int} {xs:List V} (h:Scr K H a ns) (hst:H st=some (.lst xs)) (k:Keep st H H'):Scr K H' a ns:=by
 rcases h with ⟨o,h⟩ | h
 ·exact .inl ⟨o,k a _ (fun z=>by rw [z,hst] at h; cases h) h⟩
 ·exact .inr h
noncomputable def Draw (K:PySem.W.Frag) (H:Hp) (st:Addr):Prop:=∃ a ns k c,H st=some (.lst [.ref a,.int k,.int c])/\Scr K H a ns/\ns.length<=63/\0<=k/\0<=c
structure Drawn (K:PySem.W.Frag) (st:Addr) (H H':Hp):Prop where
 draw:Draw K H' st
 keep:Keep st H H'
inductive spLaw (K:PySem.W.Frag) (vs:List V) (H:Hp) (Q:VK) (E:XK):Prop
 | mk (a:Addr) (ns:List Int) (h0:vs=[.ref a]) (h1:Scr K H a ns) (h2:ns.length<=63) (h3:∀ H',Q (.bl true) H'):spLaw K vs H Q E
theorem atI_int {ns:List Int} {k:Int} (h0 : 0<=k) (h:k<(ns.length:Int)):∃ v:Int,atI (ns.map V.int) k=some (.int v):=by
 have hk:k.toNat<ns.length:=by (first|lia|omega)
 have q:atI (ns.map V.int) ((k.toNat:Nat):Int)=some (.int ns[k.toNat]):=jH (by rw [List.getElem?_map,List.getElem?_eq_getElem hk] <;> rfl)
 rw [show ((k.toNat:Nat):Int)=k by (first|lia|omega)] at q
 exact ⟨_,q⟩

theorem tyes {σ:St} {H:Hp} {A B:Hp->Prop} (h:A H):tYes σ H fun b H4=>if b=true then A H4 else B H4:=by
 show if true=true then A H else B H
 exact iteT h
noncomputable def CompW (n:Nat) (fs:St) (Pv:Nat->List V->Hp->Prop) (i m:Nat) (σ:St) (H:Hp):Prop:=i<=n/\m=n - i/\(∃ v,σ=v :: fs)/\∃ ys,Pv i ys H
theorem CompW.next {n:Nat} {fs:St} {Pv:Nat->List V->Hp->Prop} {i:Nat} {v:Option V} {H:Hp} {ys:List V} (hi:i<n) (h:Pv (i+1) ys H):∃ m',m'<n - i/\CompW n fs Pv (i+1) m' (v :: fs) H :=
 ⟨n - (i+1),by (first|lia|omega),by (first|lia|omega),rfl,⟨v,rfl⟩,ys,h⟩
theorem comp_rng {lo:Int} {n:Nat} {fs:St} {tt:TT} {te:TE} {R:Hp->Prop} {p:Addr} {H0:Hp} (Pv:Nat->List V->Hp->Prop) (h0:Pv 0 [] H0)
  (hs:∀ i ys H,i<n->Pv i ys H->tt (some (.int (lo+(i:Nat))) :: fs) H fun b H4 =>
   if b=true then te (some (.int (lo+(i:Nat))) :: fs) H4 fun v H5=>∃ ys,H5 p=some (.lst ys)/\ys.length<sizeLine/\∃ m',m'<n - i/\CompW n fs Pv (i+1) m' (some (.int (lo+(i:Nat))) :: fs) (upd H5 p (.lst (ys++[v])))
   else ∃ m',m'<n - i/\CompW n fs Pv (i+1) m' (some (.int (lo+(i:Nat))) :: fs) H4)
  (hd:∀ ys H,Pv n ys H->R H):CompGo (Itr lo n) p (none :: fs) H0 (gName 0) tt te R:=by
 refine ⟨CompW n fs Pv,⟨n,Nat.zero_le _,rfl,⟨_,rfl⟩,[],h0⟩,fun i m σ' H' w => ?_⟩
 obtain ⟨hi,rfl,⟨v,rfl⟩,ys,hp⟩ := w
 by_cases hlt:i<n
 ·refine .inr ⟨hlt,fun x H2 y => ?_⟩
  obtain ⟨rfl,rfl⟩ := y
  exact hs i ys _ hlt hp
 ·have:i=n:=by (first|lia|omega)
  subst this
  exact .inl ⟨Nat.le_refl _,hd ys H' hp⟩
theorem kit_of {K:PySem.W.Frag} {t:Value} {n:String} {b:Bool} (h:PySem.W.subIn K t (.type n)=some b) (h1:(t == Value.type n)=false:=by decide) (h2:PySem.W.kitMeta n=true:=by decide +kernel):PySem.W.kitOne K t (.type n)=some b:=by
 unfold PySem.W.kitOne PySem.W.kitCls
 rw [h1]
 simp only [Bool.false_eq_true,if_false,h2,if_true]
 exact h
theorem kI {K:PySem.W.Frag} {t:Value} (h:(t == t)=true:=by decide):PySem.W.kitOne K t t=some true:=by
 unfold PySem.W.kitOne
 rw [if_pos h]
theorem sqT_of {K:PySem.W.Frag} {a:Addr} {its:Array Value} {n:Nat} {sl:Array (Option Value)} {dd:Option Addr} {xs:List V} (h:K.lookup a=some ⟨.type "tuple",dd,.seq its n,sl⟩) (hz:its.size<=sizeLine) (r:Vals xs its.toList) (H:Hp):SqT K H a xs :=
 .inr ⟨_,its,n,h,rfl,rfl,hz,r⟩
end L2

namespace L2
open PySem PySem.Spec PySem.W PyProof.Rows
section
variable {prog:Program} {w:World} {A:Around} {K:Frag} {E:Value->Shared->Prop} {h:Heap} {g:Array GenState} {d:PySem.Drawn} {t:Nat} {os:OsState} {R:Result->Shared->Prop}
variable {nm q:Str} {C N f:Addr} {bs bm bmB:List Value} {hdct:Bool} {sn:List Str} {sub:List Value} {ab:Bool} {col:Option Bool} {dd:Option Addr} {k0 k1 k2 k3 k5:Option Value} {B newId initId:String}
noncomputable abbrev excObj (C tp:Addr):Obj:={ cls:=.ref C,data:=.fields #[.ref tp,.none,.none,.none,.bool false,.none] }
noncomputable abbrev excHeap (h:Heap) (C:Addr) (rest:List Value):Heap:=(h.push { cls:=.type "tuple",data:=.seq rest.toArray }).push (excObj C h.objs.size)
theorem exc_make (X:K.In h) (hC:h.get? C=some (excClassObj nm q C N bs bm hdct sn sub ab col dd k0 k1 k2 k3 k5 newId)) (F:ExcBaseFacts B newId initId bmB) (T:OwnTail h bmB bm)
  (hi:findIn K (.ref C) "__init__" = some (some (.ref f))) (hf:typeIn K (.ref f)=some (.type "function")) {rest:List Value} (hrest:rest.length<=sizeLine)
  (hq:codeAny (model prog w) (A.under (.builtin "type.__call__" ⟨.ref C :: rest,[]⟩)) (.call (.ref f) ⟨.ref (h.objs.size+1) :: rest,[]⟩) (InitBack (h.objs.size+1) R) ⟨excHeap h C rest,g,d,t,os⟩) :
  codeAny (model prog w) A (.call (.ref C) ⟨rest,[]⟩) R ⟨h,g,d,t,os⟩ := by
 have f1:=tc_lookup
 have f2:=tc_bind (.ref C)
 have hT:(⟨h,g,d,t,os⟩ : Shared).TypeIs (.ref C) "type" := ⟨_,hC,rfl⟩
 refine codeAny_of_tree ?_
 show wpAny _ _ (callAny (.ref C) _) _ _ _
 repeat (any_goals (first | assumption | with_reducible refine wpAny_loadPart_at hC ?_ | wp_step))
 refine ⟨rfl,?_⟩
 refine codeAny_call_builtin_at (Code.quiet_builtin _ (by decide +kernel)) entry_typeCall (wpAny_check_type_call_sub hC ?_)
 repeat (first | with_reducible refine wpAny_loadPart_at hC ?_ | with_reducible refine wpAny_madeBy_exc hC ?_ | wp_step)
 refine codeAny_call_builtin_code (Code.quiet_builtin _ F.quiet) (wpAny_check_new_subT F T hC ?_)
 refine codeAny_exc_new_subT F T hC ?_ hrest
 show wpAny _ _ _ _ _ _
 have k:∀ b o,h.get? b=some o->(excHeap h C rest).get? b=some o:=fun b o e=>Heap.get?_push_of_some _ (Heap.get?_push_of_some _ e)
 have hx:(excHeap h C rest).get? (h.objs.size+1)=some (excObj C h.objs.size):=by heap_get
 have t1:Looks (model prog w) (excHeap h C rest) (typeOf (.ref (h.objs.size+1))) (.ref C):=(Looks.ld hx).andThen .now
 have hcC:(Value.ref C :: bm).contains (.ref C)=true:=by simp
 have i1:=(looks_findIn (M:=model prog w) X hi).keeps k
 have b1:=(bind_fn (M:=model prog w) X (.ref (h.objs.size+1)) hf).keeps k
 have s1:Looks (model prog w) (excHeap h C rest) (isSubtype (.ref C) (.ref C)) true:=by
  intro A' Q' E' s' kk hq'
  obtain ⟨h',g',d',t',os'⟩ := s'
  refine wpAny_isSubtype_exc (kk _ _ (k _ _ hC)) ?_
  rw [hcC]; exact hq'
 have n1:Looks (model prog w) (excHeap h C rest) (isInstance (.ref (h.objs.size+1)) (.ref C)) true:=t1.andThen s1
 refine wpAny_bind (n1.at ?_)
 have c1:Looks (model prog w) (excHeap h C rest) (specialOf (.ref (h.objs.size+1)) "__init__") (some (.ref f)):=t1.andThen i1
 unfold callSpecial?
 repeat (first | with_reducible refine wpAny_call ?_ | lk)
 refine codeAny_mono hq fun r s' z => ?_
 rcases r with e | (v | _ | _ | _) <;> first | exact z | exact z.elim | skip
 obtain ⟨rfl,z⟩ := z
 exact wpAny_pure (wpAny_pure z)

structure ExCls (K:Frag) (C:Addr):Prop where
 cd:∃ cd,clsIn K C=some cd/\cd.hasDict=true/\∀ self,refuseLoop self "__setattr__" cd.mro=pure ()
 obj:mroIn K C (.type "object")=some true
 base:mroIn K C (.type "BaseException")=some true
 sa:findIn K (.ref C) "__setattr__" = some (some (.builtin "object.__setattr__"))
 ga:findIn K (.ref C) "__getattribute__" = some (some (.builtin "BaseException.__getattribute__"))
 noHook:findIn K (.ref C) "__getattr__" = some none

section
variable {s:Shared} {x:Addr} {ox:Obj} {od:Option Obj} {name:Str} {v:Value} {expr:Bool} {Q:Value->Shared->Prop}
theorem exc_osa {tk:Tok} {R:Result->Shared->Prop} (X:K.In s.heap) (I:InstAt s.heap x ox C od) (Ec:ExCls K C) (ha:findIn K (.ref C) name=some none)
  (hq:wpAny (model prog w) A.in1 (PySem.Builtin.ObjectAttr.storeInOwnDict (.ref x) (.ref C) (.str name tk) name v false)
   (fun fin s'=>match fin with | .done f=>R (.ok f) s' | .again c'=>c'.quiet=true/\codeAny (model prog w) A c' R s') (fun e s'=>R (.error e) s') s) :
  codeAny (model prog w) A (.call (.builtin "object.__setattr__") ⟨[.ref x,.str name tk,v],[]⟩) R s:=by
 have SF:=PySem.F.store_object
 obtain ⟨cd,hc,hd,hp⟩ := Ec.cd
 have sub:Looks (model prog w) s.heap (isInstance (.ref x) (.type "object")) true:=I.type.andThen (looks_mroIn X Ec.obj)
 refine codeAny_call_builtin SF.slot.plain SF.entry (@check_slot (model prog w) _ _ s "object.__setattr__" "object" "__setattr__" (.ref x) [.str name tk,v] [] _ SF.kind SF.split sub (SF.args (.ref x) (.str name tk) v) ?_)
 have hm:Looks (model prog w) s.heap (mroOf (.ref C)) cd.mro:=(looks_clsIn X hc).andThen .now
 rw [osa_eq,refuse_eq]
 refine wpAny_bind (wpAny_bind (I.type.here (wpAny_bind (hm.here ?_))))
 rw [hp]
 exact wpAny_pure (wpAny_bind (I.type.here (wpAny_bind ((looks_findIn X ha).here (wpAny_bind (wpAny_pure hq))))))
theorem exc_set_new {vs:Array Value} {Qu:Unit->Shared->Prop} (X:K.In s.heap) (hx:s.heap.get? x=some ox) (hcl:ox.cls = .ref C) (hdi:ox.dict=none) (hda:ox.data = .fields vs) (Ec:ExCls K C) (ha:findIn K (.ref C) name=some none)
  (hq:∀ h',h'.Ns1 s.heap.objs.size (fun y=>if y=name then some v else none)->h'.get? x=some { ox with dict:=some s.heap.objs.size }->(∀ b o,b≠x->s.heap.get? b=some o->h'.get? b=some o)->Qu () { s with heap:=h',toks:=s.toks+2 }) :
  wpAny (model prog w) A (setAttr (.ref x) name v) Qu E s:=by
 have I:InstAt s.heap x ox C none:=⟨hx,hcl,by unfold notCls; rw [hda],by rw [hdi]; trivial⟩
 obtain ⟨cd,hc,hd,hp⟩ := id Ec.cd
 refine set_plain X I Ec.sa (exc_osa (s:={ s with toks:=s.toks+1 }) X I Ec ha ?_)
 have hxlt:=Heap.lt_size hx
 clear I
 obtain ⟨oc,odi,oda,osl⟩ := ox
 dsimp only at hcl hdi hda
 subst hcl hdi hda
 refine wpAny_bind (wpAny_pure (wpAny_bind (wpAny_bind (wpAny_loadPart hx (wpAny_bind (Looks.here (s:={ s with toks:=s.toks+1 }) (looks_clsIn X hc) ?_))))))
 rw [hd]
 show wpAny _ _ (alloc { cls:=Value.type "dict",data:=Data.dict #[] } >>= _) _ _ _
 refine wpAny_bind (wpAny_alloc (wpAny_bind ?_))
 have hx1:=Heap.get?_push_of_some (h:=s.heap) ({ cls:=Value.type "dict",data:=Data.dict #[] }:Obj) hx
 refine wpAny_update hx1 (wpAny_pure ?_)
 have ne:s.heap.objs.size≠x:=Nat.ne_of_gt hxlt
 have hx2:=Heap.get?_update_self (fun o:Obj=>{ o with dict:=some s.heap.objs.size }) hx1 rfl
 have hd2:((s.heap.push ({ cls:=Value.type "dict",data:=Data.dict #[] }:Obj)).update x fun o=>{ o with dict:=some s.heap.objs.size }).Ns1 s.heap.objs.size (fun _=>none):=by
  refine ⟨_,#[],_,(Heap.get?_update_other _ _ (Ne.symm ne)).trans (Heap.get?_push_size _ rfl),rfl,fun e he=>by simp at he,List.Pairwise.nil,fun n=>rfl⟩
 refine wpAny_bind (wpAny_pure (wpAny_bind ?_))
 refine wpAny_nsSet1 (s:={ s with heap:=(s.heap.push ({ cls:=Value.type "dict",data:=Data.dict #[] }:Obj)).update x fun o=>{ o with dict:=some s.heap.objs.size },toks:=s.toks+1 }) hd2 fun h' hn2 hs2 => ?_
 have w0:PySem.Within (fun _:Str=>(none:Option Value)) []:=fun n hn=>by first | cases hn | exact absurd rfl hn | simp at hn
 obtain ⟨oD,esD,epD,hoD,hdD,hcD⟩ := hn2.count (PySem.Within.cons name v w0)
 refine wpAny_bind (wpAny_lookBehind hoD (by rw [hdD]; exact pastItsLine_dict (Nat.le_trans hcD (show 1<=sizeLine+1 by decide))) ?_)
 refine wpAny_pure (hq _ hn2 ((hs2.2 _ (Ne.symm ne)).trans hx2) fun b o hb e => ?_)
 have hbs:b≠s.heap.objs.size:=Nat.ne_of_lt (Heap.lt_size e)
 exact (hs2.2 _ hbs).trans ((Heap.get?_update_other _ _ (Ne.symm hb)).trans (Heap.get?_push_of_some _ e))
theorem exc_set_more {vs:Array Value} {dx:Addr} {mA:Str->Option Value} {ns:List Str} {Qu:Unit->Shared->Prop} (X:K.In s.heap) (hx:s.heap.get? x=some ox) (hcl:ox.cls = .ref C) (hdi:ox.dict=some dx) (hda:ox.data = .fields vs) (hn:s.heap.Ns1 dx mA)
  (hw:PySem.Within mA ns) (hsz:ns.length<sizeLine) (Ec:ExCls K C) (ha:findIn K (.ref C) name=some none)
  (hq:∀ h',h'.Ns1 dx (fun y=>if y=name then some v else mA y)->Heap.SameBut dx s.heap h'->Qu () { s with heap:=h',toks:=s.toks+2 }) :
  wpAny (model prog w) A (setAttr (.ref x) name v) Qu E s:=by
 obtain ⟨od,hod,_⟩ := lookIn_ns hn
 have I:InstAt s.heap x ox C (some od):=⟨hx,hcl,by unfold notCls; rw [hda],by rw [hdi]; exact hod⟩
 obtain ⟨cd,hc,hd,hp⟩ := id Ec.cd
 refine set_plain X I Ec.sa (exc_osa (s:={ s with toks:=s.toks+1 }) X I Ec ha ?_)
 clear I
 obtain ⟨oc,odi,oda,osl⟩ := ox
 dsimp only at hcl hdi hda
 subst hcl hdi hda
 refine wpAny_bind (wpAny_pure (wpAny_bind (wpAny_bind (wpAny_loadPart hx (wpAny_bind (Looks.here (s:={ s with toks:=s.toks+1 }) (looks_clsIn X hc) ?_))))))
 rw [hd]
 refine wpAny_pure (a:=some dx) (wpAny_bind (wpAny_pure (wpAny_bind ?_)))
 refine wpAny_nsSet1 (s:={ s with toks:=s.toks+1 }) hn fun h' hn2 hs2 => ?_
 obtain ⟨oD,esD,epD,hoD,hdD,hcD⟩ := hn2.count (PySem.Within.cons name v hw)
 refine wpAny_bind (wpAny_lookBehind hoD (by rw [hdD]; exact pastItsLine_dict (Nat.le_trans hcD (by rw [List.length_cons]; (first|lia|omega)))) ?_)
 exact wpAny_pure (hq _ hn2 hs2)
end
end
end L2

namespace L2
open PySem PySem.Spec PyProof.Rows
noncomputable def ExO (x C:Addr) (od:Option Addr):HO:=.ext fun h=>∃ o vs,h.get? x=some o/\o.cls = .ref C/\o.dict=od/\o.data = .fields vs/\6<=vs.size
noncomputable def ExN (x C:Addr) (od:Option Addr):HO:=.ext fun h=>∃ o vs,h.get? x=some o/\o.cls = .ref C/\o.dict=od/\o.data = .fields vs/\6<=vs.size/\vs[1]? = some .none
noncomputable def XdO (dx:Addr) (fs:List (Str × V)):HO:=.ext fun h=>∃ mA,h.Ns1 dx mA/\(∀ f,RelO (fs.lookup f) (mA f))/\PySem.Within mA (fs.map (·.1))
section
variable {P:Program} {w:World} {H:Hp} {h:Heap} {x C dx:Addr} {od:Option Addr} {fs:List (Str × V)}
theorem ExO.ok {o:Obj} {vs:Array Value} (e:h.get? x=some o) (hc:o.cls = .ref C) (hd:o.dict=od) (hf:o.data = .fields vs) (hz : 6<=vs.size):ObjOk P w H h x (ExO x C od) :=
 ⟨⟨o,vs,e,hc,hd,hf,hz⟩,⟨o,e⟩,fun h1 h2 ⟨o,vs,e,r⟩ k=>⟨o,vs,k o e,r⟩⟩
theorem ExN.ok {o:Obj} {vs:Array Value} (e:h.get? x=some o) (hc:o.cls = .ref C) (hd:o.dict=od) (hf:o.data = .fields vs) (hz : 6<=vs.size) (h1:vs[1]? = some .none):ObjOk P w H h x (ExN x C od) :=
 ⟨⟨o,vs,e,hc,hd,hf,hz,h1⟩,⟨o,e⟩,fun g1 g2 ⟨o,vs,e,r⟩ k=>⟨o,vs,k o e,r⟩⟩
theorem ExN.get (ok:HOk P w H h) (e:H x=some (ExN x C od)):∃ o vs,h.get? x=some o/\o.cls = .ref C/\o.dict=od/\o.data = .fields vs/\6<=vs.size/\vs[1]? = some .none:=(ok x _ e).1
theorem ExO.get (ok:HOk P w H h) (e:H x=some (ExO x C od)):∃ o vs,h.get? x=some o/\o.cls = .ref C/\o.dict=od/\o.data = .fields vs/\6<=vs.size:=(ok x _ e).1
theorem XdO.ok {mA:Str->Option Value} (n:h.Ns1 dx mA) (r:∀ f,RelO (fs.lookup f) (mA f)) (wi:PySem.Within mA (fs.map (·.1))):ObjOk P w H h dx (XdO dx fs):=by
 obtain ⟨o,es,ep,e,q⟩ := id n
 exact ⟨⟨mA,n,r,wi⟩,⟨o,e⟩,fun h1 h2 ⟨mA,n,r⟩ k=>⟨mA,n.at k,r⟩⟩
theorem XdO.get (ok:HOk P w H h) (e:H dx=some (XdO dx fs)):∃ mA,h.Ns1 dx mA/\(∀ f,RelO (fs.lookup f) (mA f))/\PySem.Within mA (fs.map (·.1)):=(ok dx _ e).1
end

noncomputable def sFldX (K:PySem.W.Frag) (ta tv:TE) (f:Str):TS:=fun D σ H=>tv σ H fun y H1=>ta σ H1 fun u H2=>∃ a C od,u = .ref a/\H2 a=some (ExN a C od)/\ExCls K C/\NoAttr K C f /\
 ((od=none/\∀ d,H2 d=none->D.nx σ (upd (upd H2 d (XdO d [(f,y)])) a (ExN a C (some d))))\/∃ d fs,od=some d/\H2 d=some (XdO d fs)/\fs.length<1000/\D.nx σ (upd H2 d (XdO d (putF f y fs))))
section
variable {X:Cx} {o e value:Expr} {f:Str} {pos pos':Pos} {ta tv:TE}
theorem Inv.excDict {pins:List (Addr × Obj)} {σ:St} {H:Hp} {s:Shared} {h':Heap} {a C:Addr} {oa ob:HO} {t':Nat} (I:Inv X pins σ H s) (ha:H a=some (ExN a C none))
  (keep:∀ b o,b≠a->s.heap.get? b=some o->h'.get? b=some o) (hat:∃ o,h'.get? a=some o) (hoa:ObjOk X.prog X.w (upd (upd H s.heap.objs.size ob) a oa) h' a oa) (hob:ObjOk X.prog X.w (upd (upd H s.heap.objs.size ob) a oa) h' s.heap.objs.size ob) :
  Inv X pins σ (upd (upd H s.heap.objs.size ob) a oa) { s with heap:=h',toks:=t' }:=by
 have hd:H s.heap.objs.size=none:=I.fresh
 have nda:a≠s.heap.objs.size:=zO ha hd
 have off:∀ b u,H b=some u->u≠ExN a C none->b≠a/\b≠s.heap.objs.size:=fun b u e ne=>⟨fun z=>by rw [z,ha] at e; exact ne (Option.some.inj e).symm,zO e hd⟩
 have up:∀ b,b≠a->b≠s.heap.objs.size->upd (upd H s.heap.objs.size ob) a oa b=H b:=fun b h1 h2=>by rw [zK h1,zK h2]
 refine I.un ⟨fun b o e n _ _=>keep b o (fun z=>by rw [z,ha] at n; cases n) e,fun b o e n _ _=>⟨o.slots,keep b o (fun z=>by rw [z,ha] at n; cases n) e⟩,fun b o e n _ => ?_,fun b o e _ => ?_,fun b xs e => ?_,fun b o xs e => ?_,fun b ps e => ?_⟩ fun b u e => ?_
 ·rw [up b (fun z=>by rw [z,ha] at n; cases n) (Nat.ne_of_lt (Heap.lt_size e))]; exact n
 ·by_cases z:b=a
  ·subst z; exact hat
  ·exact ⟨o,keep b o z e⟩
 ·obtain ⟨h1,h2⟩ := off b _ e (by intro z; cases z)
  rw [up b h1 h2]; exact e
 ·obtain ⟨h1,h2⟩ := off b _ e (by intro z; cases z)
  rw [up b h1 h2]; exact e
 ·obtain ⟨h1,h2⟩ := off b _ e (by intro z; cases z)
  exact ⟨#[],by rw [up b h1 h2,e]; simp⟩
 ·by_cases z:b=a
  ·subst z; rw [zB] at e; cases e; exact hoa
  ·rw [zK z] at e
   by_cases z2:b=s.heap.objs.size
   ·subst z2; rw [zB] at e; cases e; exact hob
   ·rw [zK z2] at e
    refine (I.hok b u e).stay (fun c v hc q=>keep c v ?_ q) (fun c q => ?_) fun c xs q => ?_
    ·rcases hc with hc | hc
     ·rw [hc]; exact z
     ·exact (off c _ hc (by intro z; cases z)).1
    ·obtain ⟨h1,h2⟩ := off c _ q (by intro z; cases z)
     rw [up c h1 h2]; exact q
    ·obtain ⟨h1,h2⟩ := off c _ q (by intro z; cases z)
     rw [up c h1 h2]; exact q
theorem ps_fldX (ha:PE X o ta) (hv:PE X value tv) (hs:swapsWith value (some (.Attribute o f pos')) pos.line X.env=pure false:=by rfl):PS X (.Assign [.Attribute o f pos'] value pos) (sFldX X.K ta tv f):=by
 refine ⟨?_⟩
 intro pins s σ H D I h
 refine plainObj_wpAny_Assign_Attribute (thn (hv pins s σ H _ I h) fun u s1 ⟨y,H1,I1,ry,q⟩=>thn (ha pins s1 σ H1 _ I1 q) fun ov s2 ⟨x,H2,I2,rx,a,C,od,ex,ea,ec,na,q2⟩ => ?_) hs
 subst ex
 obtain rfl:ov=Value.ref a:=rx
 obtain ⟨ox,vs,gx,hcl,hdi,hda,hz,h1⟩ := ExN.get I2.hok ea
 rcases q2 with ⟨rfl,q2⟩ | ⟨d,fs,rfl,hd,hl,q2⟩
 ·refine exc_set_new I2.kIn gx hcl hdi hda ec na fun h' hn hx' keep => ?_
  refine ⟨σ,_,I2.excDict ea keep ⟨_,hx'⟩ (ExN.ok hx' hcl rfl hda hz h1) (XdO.ok hn (fun g => ?_) fun g hg => ?_),q2 _ I2.fresh⟩
  ·show RelO ([(f,y)].lookup g) (if g=f then some u else none)
   by_cases z:g=f
   ·subst z; rw [List.lookup_cons_self,if_pos rfl]; exact ry
   ·rw [List.lookup_cons,beq_eq_false_iff_ne.mpr z,if_neg z]; exact True.intro
  ·by_cases z:g=f
   ·subst z; simp
   ·exact absurd (show (if g=f then some u else none)=none by rw [if_neg z]) hg
 ·obtain ⟨mA,n,r,wi⟩ := XdO.get I2.hok hd
  refine exc_set_more I2.kIn gx hcl hdi hda n wi (by rw [List.length_map,sizeLine_eq]; (first|lia|omega)) ec na fun h' hn sb => ?_
  refine ⟨σ,_,I2.write (x:=d) (e:=d) (by rw [hd]; exact True.intro) (.inl rfl) (fun b q hb z=>(sb.2 b hb).trans z) (let ⟨o,_,_,e',_⟩ := hn; ⟨o,e'⟩) (XdO.ok hn (fun g => ?_) fun g hg => ?_),q2⟩
  ·show RelO ((putF f y fs).lookup g) (if g=f then some u else mA g)
   rw [lookup_putF]
   by_cases q:g=f
   ·rw [if_pos q,if_pos q]; exact ry
   ·rw [if_neg q,if_neg q]; exact r g
  ·by_cases q:g=f
   ·rw [q]; exact (wC f y fs).1
   ·refine (wC f y fs).2 g (wi g fun z=>hg ?_)
    show (if g=f then some u else mA g)=none
    rw [if_neg q]; exact z
end

noncomputable def Ours (X:Cx) (pins:List (Addr × Obj)) (H:Hp) (T:Addr):Prop:=H T=none/\X.s₀.heap.objs.size<=T/\T≠X.env.locals/\∀ p∈X.pn++pins,p.1≠T
noncomputable def Tb (X:Cx) (pins:List (Addr × Obj)) (H:Hp) (x:Addr) (h:Heap):Prop :=
 ∃ oe vs,h.get? x=some oe/\oe.data = .fields vs/\(vs[1]? = some .none\/∃ T oT ts fl,vs[1]? = some (.ref T)/\T≠x/\Ours X pins H T/\h.get? T=some oT/\oT.data = .fields ts/\ts[3]? = some fl/\(fl = .none\/fl=rawInt X.env.locals))
noncomputable def TbAt (X:Cx) (pins:List (Addr × Obj)) (H:Hp) (x:Addr) (fl:Value) (h:Heap):Prop :=
 ∃ oe vs T oT ts,h.get? x=some oe/\oe.data = .fields vs/\vs[1]? = some (.ref T)/\T≠x/\Ours X pins H T/\h.get? T=some oT/\oT.data = .fields ts/\ts[3]? = some fl
theorem TbAt.tb {X:Cx} {pins:List (Addr × Obj)} {H:Hp} {x:Addr} {fl:Value} {h:Heap} (t:TbAt X pins H x fl h) (hf:fl = .none\/fl=rawInt X.env.locals):Tb X pins H x h:=by
 obtain ⟨oe,vs,T,oT,ts,e,d,h1,r1,r2,r3,r4,r5⟩ := t
 exact ⟨oe,vs,e,d,.inr ⟨T,oT,ts,fl,h1,r1,r2,r3,r4,r5,hf⟩⟩
section
variable {X:Cx} {pins:List (Addr × Obj)} {σ:St} {H:Hp} {s:Shared} {h':Heap} {x C:Addr} {od:Option Addr}
theorem Inv.flight (I:Inv X pins σ H s) (hx:H x=some (ExO x C od)) {ch:List Addr} (hch:∀ b∈ch,Ours X pins H b) (ncell:∀ b∈ch,∀ y c,X.env.cells.lookup y=some c->c≠b)
  (keep:∀ b o,b≠x->b ∉ ch->b ∉ frs X.stack->s.heap.get? b=some o->h'.get? b=some o) (slot:∀ b o,b≠x->b ∉ ch->s.heap.get? b=some o->∃ sl,h'.get? b=some { o with slots:=sl })
  (hx':∃ o vs,h'.get? x=some o/\o.cls = .ref C/\o.dict=od/\o.data = .fields vs/\6<=vs.size):Inv X pins σ H { s with heap:=h' }:=by
 have nx:∀ b,H b=none->b≠x:=fun b n z=>by rw [z,hx] at n; cases n
 have nst:∀ b,b≠X.env.locals->b ∉ X.fs->b ∉ frs X.stack:=fun b h1 h2 z=>(List.mem_cons.mp (I.stkSub b z)).elim h1 h2
 have nch:∀ b u,H b=some u->b ∉ ch:=fun b u e z=>by rw [(hch b z).1] at e; cases e
 have nfr:∀ b u,H b=some u->b ∉ frs X.stack:=fun b u e z=>by rw [I.stkFree b z] at e; cases e
 refine I.step (g':=s.gens) (d':=s.drawn) (t':=s.toks) (ch:=ch) (fun b hb=>⟨.inr (hch b hb).2.1,(hch b hb).2.2.1,ncell b hb,(hch b hb).2.2.2⟩)
  (fun b o hL hf hc e n=>keep b o (nx b n) hc (nst b hL hf) e) (fun b o hL hf hc e n=>slot b o (nx b n) hc e) (fun b o hc e n=>n) (fun b o hc e => ?_) (fun _ _ e=>e) (fun _ _ _ e=>e) (fun b ps e=>⟨#[],by rw [e]; simp⟩) (fun m hm => ?_) (fun b u e => ?_) I.bare
 ·by_cases z:b=x
  ·subst z; obtain ⟨o,_,g,_⟩ := hx'; exact ⟨o,g⟩
  ·obtain ⟨sl,q⟩ := slot b o z hc e; exact ⟨_,q⟩
 ·obtain ⟨o,es,ep,ho,hd,r⟩ := hm
  obtain ⟨sl,q⟩ := slot _ o (nx _ I.free) (fun z=>(hch _ z).2.2.1 rfl) ho
  exact ⟨_,es,ep,q,hd,r⟩
 ·by_cases z:b=x
  ·subst z; rw [hx] at e; cases e
   obtain ⟨o,vs,g,r1,r2,r3,r4⟩ := hx'
   exact ExO.ok g r1 r2 r3 r4
  ·refine (I.hok b u e).stay (fun c v hc q => ?_) (fun _ q=>q) fun _ _ q=>q
   rcases hc with hc | hc
   ·rw [hc] at q ⊢; exact keep b v z (nch b u e) (nfr b u e) q
   ·exact keep c v (fun z2=>by rw [z2,hx] at hc; cases hc) (nch c _ hc) (nfr c _ hc) q

theorem Ours.ncell {T:Addr} {oT:Obj} {ts:Array Value} (I:Inv X pins σ H s) (g:s.heap.get? T=some oT) (d:oT.data = .fields ts):∀ b∈[T],∀ y c,X.env.cells.lookup y=some c->c≠b:=fun b hb y c e z=>by
 rw [List.mem_singleton.mp hb] at z
 obtain ⟨v,o,ho,hd⟩ := I.cell y c e
 rw [z,g] at ho; cases ho; rw [d] at hd; cases hd
theorem fly_entry {M:Model} {A:Around} {E:Value->Shared->Prop} {Q:Unit->Shared->Prop} {head:Value} {hadNext:Bool} (I:Inv X pins σ H s) (hst:X.stack=X.env :: X.outer) (hfr:X.env.frame=some X.env.locals) (hA:A.frames=some X.stack)
  (hx:H x=some (ExO x C od)) (hq:∀ s',Inv X pins σ H s'->TbAt X pins H x (rawInt X.env.locals) s'.heap->Q () s') :
  wpAny M A (do let a <- frameOf X.env; let pl <- entryPlaceOf X.env.locals hadNext; let b <- EntryCells.newEntry head a .none (rawInt X.env.locals) .none pl; setField (.ref x) 1 b) Q E s:=by
 have hl:s.heap.FunFrames X.base (X.env :: X.outer):=hst ▸ I.stack
 refine wpAny_bind (wpAny_frameOf_fun (hst ▸ hA) hl hfr fun h1 hs1 => ?_)
 refine wpAny_bind (wpAny_entryPlaceOf fun pl hpl => ?_)
 unfold EntryCells.newEntry newFields
 refine wpAny_bind (wpAny_newObj_type ?_ (hpl.sizeOk5 _ _ _ _ _))
 obtain ⟨ox,vs,gx,hcl,hdi,hda,hz⟩ := ExO.get I.hok hx
 have hxf:x ∉ (X.env :: X.outer).filterMap (·.frame):=fun hm=>by
  obtain ⟨_,o,ho,hnf⟩ := hl.mem hm
  rw [gx] at ho; cases ho; exact hnf vs hda
 have gx1:h1.get? x=some ox:=(hs1.2.1 x hxf).trans gx
 generalize hob:({ cls:=.type "traceback",dict:=none,data:=.fields ([head,.ref X.env.locals,.none,rawInt X.env.locals,.none]++(if pl.isEmpty then List.replicate 6 Value.none else pl)).toArray }:Obj)=ob
 have gx2:=Heap.get?_push_of_some (h:=h1) ob gx1
 have hz1 : 1<vs.size:=by (first|lia|omega)
 refine wpAny_setField gx2 hda hz1 ?_
 have sz:h1.objs.size=s.heap.objs.size:=hs1.1
 have hd3:=Obj.data_mapFields hda (·.setIfInBounds 1 (Value.ref h1.objs.size))
 have gx3:=Heap.get?_update_self (Obj.mapFields (·.setIfInBounds 1 (Value.ref h1.objs.size))) gx2 (Obj.isFreed_of_fields hd3)
 have hTx:h1.objs.size≠x:=Nat.ne_of_gt (Heap.lt_size gx1)
 have gT:(h1.push ob).get? h1.objs.size=some ob:=Heap.get?_push_size _ (by rw [<- hob]; rfl)
 have hT:H h1.objs.size=none:=by rw [sz]; exact I.fresh
 have keep:∀ b o,b≠x->h1.get? b=some o->((h1.push ob).update x (Obj.mapFields (·.setIfInBounds 1 (Value.ref h1.objs.size)))).get? b=some o:=fun b o hb e=>by
  rw [Heap.get?_update_other _ _ (Ne.symm hb)]; exact Heap.get?_push_of_some _ e
 have I':Inv X pins σ H { s with heap:=(h1.push ob).update x (Obj.mapFields (·.setIfInBounds 1 (Value.ref h1.objs.size))) }:=by
  refine I.flight hx (ch:=[]) (fun b hb=>(nomatch hb)) (fun b hb=>(nomatch hb)) (fun b o hb _ hf e=>keep b o hb ((hs1.2.1 b (by rw [<- hst]; exact hf)).trans e)) (fun b o hb _ e => ?_) ⟨_,_,gx3,(Obj.cls_mapFields _ _).trans hcl,?_,hd3,by simp; exact hz⟩
  ·obtain ⟨sl,q⟩ := hs1.2.2 b o e
   exact ⟨sl,keep b _ hb q⟩
  ·obtain ⟨oc,odi,oda,osl⟩ := ox
   simp only at hda
   subst hda
   exact hdi
 refine hq _ I' ⟨_,_,h1.objs.size,ob,_,gx3,hd3,by simp [hz1],hTx,⟨hT,?_,?_,fun p hp z => ?_⟩,?_,by rw [<- hob],?_⟩
 ·rw [sz]; exact I.sz
 ·rw [sz]; exact Nat.ne_of_gt I.lt
 ·have:=Heap.lt_size (I.pin p hp).1
  rw [z,sz] at this; exact Nat.lt_irrefl _ this
 ·rw [Heap.get?_update_other _ _ (Ne.symm hTx)]; exact gT
 ·first | (simp; done) | (rcases hpl with rfl | ⟨_,_,_,_,_,_,_,rfl⟩ <;> simp)
theorem fly_note {M:Model} {A:Around} {E:Value->Shared->Prop} {Q:Unit->Shared->Prop} (I:Inv X pins σ H s) (hst:X.stack=X.env :: X.outer) (hfr:X.env.frame=some X.env.locals) (hA:A.frames=some X.stack)
  (hx:H x=some (ExO x C od)) (tb:Tb X pins H x s.heap) (hq:∀ s',Inv X pins σ H s'->TbAt X pins H x (rawInt X.env.locals) s'.heap->Q () s'):wpAny M A (noteFrame (.ref x) X.env) Q E s:=by
 obtain ⟨oe,vs,ge,hd,h1⟩ := tb
 unfold noteFrame
 simp only [hfr]
 rcases h1 with h1 | ⟨T,oT,ts,fl,h1,hTx,ours,gT,dT,h3,hfl⟩
 ·refine wpAny_bind (wpAny_field ge hd h1 ?_)
  rw [if_neg (by decide)]
  exact fly_entry I hst hfr hA hx hq
 ·refine wpAny_bind (wpAny_field ge hd h1 ?_)
  rw [if_pos (show (Value.ref T != Value.none)=true from by simp)]
  refine wpAny_bind (wpAny_field gT dT h3 ?_)
  rcases hfl with rfl | rfl
  ·rw [if_neg (show ¬ ((Value.none == rawInt X.env.locals)=true) from by simp [rawInt])]
   refine wpAny_bind (wpAny_setField gT dT (Array.getElem?_eq_some_iff.mp h3).1 ?_)
   have other:∀ b,b≠T->(s.heap.update T (Obj.mapFields (·.setIfInBounds 3 Value.none))).get? b=s.heap.get? b:=fun b hb=>Heap.get?_update_other _ _ (Ne.symm hb)
   obtain ⟨ox,ws,gx,r⟩ := ExO.get I.hok hx
   have I':Inv X pins σ H { s with heap:=s.heap.update T (Obj.mapFields (·.setIfInBounds 3 Value.none)) }:=by
    refine I.flight hx (ch:=[T]) (fun b hb=>by rw [List.mem_singleton.mp hb]; exact ours) (Ours.ncell I gT dT) (fun b o hb hc _ e=>(other b fun z=>hc (by simp [z])).trans e) (fun b o hb hc e=>⟨o.slots,(other b fun z=>hc (by simp [z])).trans e⟩) ⟨ox,ws,(other x (Ne.symm hTx)).trans gx,r⟩
   exact fly_entry I' hst hfr hA hx hq
  ·rw [if_pos (show (rawInt X.env.locals == rawInt X.env.locals)=true from by simp)]
   exact wpAny_pure (hq s I ⟨oe,vs,T,oT,ts,ge,hd,h1,hTx,ours,gT,dT,h3⟩)
theorem fly_set {M:Model} {A:Around} {E:Value->Shared->Prop} {Q:Unit->Shared->Prop} {fl:Value} {to:Option Addr} (I:Inv X pins σ H s) (hx:H x=some (ExO x C od)) (tb:TbAt X pins H x fl s.heap)
  (hq:∀ s',Inv X pins σ H s'->TbAt X pins H x (to.elim Value.none fun f=>rawInt f) s'.heap->Q () s'):wpAny M A (setFlight (.ref x) to) Q E s:=by
 obtain ⟨oe,vs,T,oT,ts,ge,hd,h1,hTx,ours,gT,dT,h3⟩ := tb
 unfold setFlight
 refine wpAny_bind (wpAny_field ge hd h1 ?_)
 rw [if_pos (show (Value.ref T != Value.none)=true from by simp)]
 have hsz3:=(Array.getElem?_eq_some_iff.mp h3).1
 refine wpAny_setField gT dT hsz3 (hq _ ?_ ?_)
 ·obtain ⟨ox,ws,gx,r⟩ := ExO.get I.hok hx
  exact I.flight hx (ch:=[T]) (fun b hb=>by rw [List.mem_singleton.mp hb]; exact ours) (Ours.ncell I gT dT) (fun b o hb hc _ e=>(Heap.get?_update_other _ _ (fun z=>hc (by simp [z]))).trans e) (fun b o hb hc e=>⟨o.slots,(Heap.get?_update_other _ _ (fun z=>hc (by simp [z]))).trans e⟩) ⟨ox,ws,(Heap.get?_update_other _ _ hTx).trans gx,r⟩
 ·exact ⟨oe,vs,T,_,_,(Heap.get?_update_other _ _ hTx).trans ge,hd,h1,hTx,ours,Heap.get?_update_self _ gT (Obj.isFreed_of_fields (Obj.data_mapFields dT _)),Obj.data_mapFields dT _,by simp [hsz3]⟩
end

noncomputable def CXE (P:Program) (w:World):CXT:=fun outer H s E e s'=>∃ x C d H',e = .ref x/\s'.os=s.os/\AllBare s'.gens/\Un (frs outer) [] H H' s.heap s'.heap/\HOk P w H' s'.heap/\H' x=some (ExO x C d) /\
 (∃ oe vs T oT ts,s'.heap.get? x=some oe/\oe.data = .fields vs/\vs[1]? = some (.ref T)/\T≠x/\H' T=none/\s.heap.objs.size<=T/\s'.heap.get? T=some oT/\oT.data = .fields ts/\ts[3]? = some .none)/\E (.ref C) d H'
theorem cxe_none {P:Program} {w:World} {outer:List Env} {H:Hp} {s:Shared} {e:Value} {s':Shared} (h:CXE P w outer H s (fun _ _ _=>False) e s'):False:=by
 obtain ⟨_,_,_,_,_,_,_,_,_,_,_,z⟩ := h
 exact z
noncomputable def FlyW (X:Cx) (E:XK):Value->Shared->Prop:=fun e s1=>∃ x C d pins σ H,e = .ref x/\Inv X pins σ H s1/\H x=some (ExO x C d)/\Tb X pins H x s1.heap/\E (.ref C) d H
noncomputable abbrev Cx.exc (X:Cx) (E:XK):Cx:=X.wish (FlyW X E)
section
variable {X:Cx} {E:XK}
theorem passN {P:Program} {w:World}:Passes (CXE P w) X E0:=fun _ _ _ _ _ _ _ h=>(cxe_none h).elim
theorem cxe_fly {pins:List (Addr × Obj)} {σ:St} {H:Hp} {s s':Shared} {e:Value} (I:Inv X pins σ H s) (h:CXE X.prog X.w X.stack H s E e s'):FlyW X E e s':=by
 obtain ⟨x,C,d,H',rfl,ho,hg,u,hok,hx,⟨oe,vs,T,oT,ts,ge,hd,h1,hTx,hT,lo,gT,dT,h3⟩,q⟩ := h
 have I':Inv X pins σ H' s':=I.call' (ch:=[]) ho u hok hg fun b z=>(nomatch z)
 refine ⟨x,C,d,pins,σ,H',rfl,I',hx,⟨oe,vs,ge,hd,.inr ⟨T,oT,ts,.none,h1,hTx,⟨hT,Nat.le_trans I.sz lo,Nat.ne_of_gt (Nat.lt_of_lt_of_le I.lt lo),fun p hp z => ?_⟩,gT,dT,h3,.inl rfl⟩⟩,q⟩
 have:=Heap.lt_size (I.pin p hp).1
 rw [z] at this
 exact absurd (Nat.lt_of_lt_of_le this lo) (Nat.lt_irrefl _)
theorem passX:Passes (CXE X.prog X.w) (X.exc E) E:=fun pins σ H s e s' I h=>cxe_fly I.unwish h
theorem fly_leave {e:Value} {s1:Shared} {E':Value->Shared->Prop} (hst:X.stack=X.env :: X.outer) (hfr:X.env.frame=some X.env.locals) (hex:X.ex=[]) (h:FlyW X E e s1) :
  wpAny (model X.prog X.w) X.A (leaving X.env e) (fun _ s''=>CXE X.prog X.w X.outer X.H₀ X.s₀ E e s'') E' s1:=by
 obtain ⟨x,C,d,pins,σ,H,rfl,I,hx,tb,q⟩ := h
 unfold leaving
 refine wpAny_bind (fly_note I hst hfr I.ok.frames hx tb fun s2 I2 t2=>fly_set (to:=none) I2 hx t2 fun s3 I3 t3 => ?_)
 obtain ⟨oe,vs,T,oT,ts,ge,hd,h1,hTx,ours,gT,dT,h3⟩ := t3
 have b:=I3.base
 rw [hex] at b
 exact ⟨x,C,d,H,rfl,I3.os,I3.bare,b,I3.hok,hx,⟨oe,vs,T,oT,ts,ge,hd,h1,hTx,ours.1,ours.2.1,gT,dT,h3⟩,q⟩
theorem own_fly (hst:X.stack=X.env :: X.outer) (hfr:X.env.frame=some X.env.locals):PassesOwn (model X.prog X.w) X.A X.env (FlyW X E):=fun e s1 h=>by
 obtain ⟨x,C,d,pins,σ,H,rfl,I,hx,tb,q⟩ := h
 refine fly_note I hst hfr I.ok.frames hx tb fun s2 I2 t2 => ?_
 have t2':=t2
 obtain ⟨oe,vs,T,oT,ts,ge,hd,h1,hTx,ours,gT,dT,h3⟩ := t2
 unfold cameBackBy
 refine wpAny_bind (wpAny_field ge hd h1 ?_)
 rw [if_neg (show ¬ ((Value.ref T == Value.none)=true) from by simp)]
 rw [hfr]
 exact fly_set (to:=some X.env.locals) I2 hx t2' fun s3 I3 t3=>⟨x,C,d,pins,σ,H,rfl,I3,hx,t3.tb (.inr rfl),q⟩
end
section
variable {P:Program} {w:World} {K:PySem.W.Frag} {mg:Str->Option Value} {base:Heap}
theorem Fun.okN {CX:CXT} {x qual:Str} {st:Stmt} {f:Addr} {fd:FuncData} {N ps:List Str} {k:Nat} {sp:Sp} (F:Fun K x qual st f fd) (S:FnScope N ps (defScope st)) (len:∀ vs H Q E,sp vs H Q E->vs.length=ps.length)
  (hbody:∀ (cdv:Value) (A:Around) (outer:List Env) (s:Shared) (H:Hp) (vs:List V) (Q:VK) (E:XK),Room k (A.deeper (envOfC qual (defScope st) s.heap.objs.size f cdv))->sp vs H Q E ->
   ∃ t,PSs (cxOf CX P w K mg base N qual (defScope st) f cdv A outer s H E).nox (defBody st) t/\t { nx:=fun _ H'=>Q .non H',rt:=Q } (start N vs) H):FnOk P w K mg base CX (k+1) f fd ps sp:=by
 obtain ⟨oc,od,kV,doc,pm,an,cdv,ct,osl,rfl,lk,hcd⟩ := F.ex
 refine fn_of lk hcd S len fun A outer s H vs Q E hr hsp => ?_
 obtain ⟨t,h,q⟩ := hbody cdv A outer s H vs Q E hr hsp
 exact ⟨t,h.nox,q⟩
theorem Fun.okX {x qual:Str} {st:Stmt} {f:Addr} {fd:FuncData} {N ps:List Str} {k:Nat} {sp:Sp} (F:Fun K x qual st f fd) (S:FnScope N ps (defScope st)) (len:∀ vs H Q E,sp vs H Q E->vs.length=ps.length)
  (hbody:∀ (cdv:Value) (A:Around) (outer:List Env) (s:Shared) (H:Hp) (vs:List V) (Q:VK) (E:XK),Room k (A.deeper (envOfC qual (defScope st) s.heap.objs.size f cdv))->sp vs H Q E ->
   ∃ t,PSs ((cxOf (CXE P w) P w K mg base N qual (defScope st) f cdv A outer s H E).exc E) (defBody st) t/\t { nx:=fun _ H'=>Q .non H',rt:=Q } (start N vs) H):FnOk P w K mg base (CXE P w) (k+1) f fd ps sp:=by
 obtain ⟨oc,od,kV,doc,pm,an,cdv,ct,osl,rfl,lk,hcd⟩ := F.ex
 refine fn_of lk hcd S len fun A outer s H vs Q E hr hsp => ?_
 obtain ⟨t,h,q⟩ := hbody cdv A outer s H vs Q E hr hsp
 refine ⟨t,⟨fun pins s1 σ H1 D I hw => ?_⟩,q⟩
 refine wpAny_mono (h pins s1 σ H1 D (I.wish _) hw) (fun fl s2 hs=>hs.unwish) fun e s2 fl => ?_
 exact fly_leave rfl rfl rfl fl
end
end L2

namespace L2
open PySem PySem.Spec PyProof.Rows
noncomputable abbrev bmValue:List Value:=[.type "ValueError",.type "Exception",.type "BaseException",.type "object"]
structure ExMk (K:PySem.W.Frag) (C f:Addr):Prop where
 cls:∃ (B nw ini:String) (bmB:List Value),ExcBaseFacts B nw ini bmB/\bmB.contains (.type "BaseException")=true/\∃ nm q N bs bm hdct sn sub ab col dd k0 k1 k2 k3 k5,K.lookup C=some (excClassObj nm q C N bs bm hdct sn sub ab col dd k0 k1 k2 k3 k5 nw)/\∀ h,K.In h->OwnTail h bmB bm
 init:PySem.W.findIn K (.ref C) "__init__" = some (some (.ref f))
 fn:PySem.W.typeIn K (.ref f)=some (.type "function")
 kp:PySem.W.keepIn K (.ref C)=true
 ec:ExCls K C
theorem ExMk.ofValue {K:PySem.W.Frag} {C f:Addr} (h:∃ nm q N bs bm hdct sn sub ab col dd k0 k1 k2 k3 k5,K.lookup C=some (excClassObj nm q C N bs bm hdct sn sub ab col dd k0 k1 k2 k3 k5 "ValueError.__new__")/\∀ h,K.In h->OwnTail h bmValue bm)
  (i:PySem.W.findIn K (.ref C) "__init__" = some (some (.ref f))) (fn:PySem.W.typeIn K (.ref f)=some (.type "function")) (kp:PySem.W.keepIn K (.ref C)=true) (ec:ExCls K C):ExMk K C f :=
 ⟨⟨_,_,_,bmValue,F.excBase_ValueError,by decide,h⟩,i,fn,kp,ec⟩
section
variable {X:Cx} {pins:List (Addr × Obj)} {σ:St} {H:Hp} {s:Shared}
theorem Inv.excMade (I:Inv X pins σ H s) (C:Addr) (us:List Value):Inv X pins σ (upd H (s.heap.objs.size+1) (ExN (s.heap.objs.size+1) C none)) { s with heap:=excHeap s.heap C us }:=by
 have gx:(excHeap s.heap C us).get? (s.heap.objs.size+1)=some (excObj C s.heap.objs.size):=by heap_get
 refine I.laid (t':=s.toks) (fun b o e=>Heap.get?_push_of_some _ (Heap.get?_push_of_some _ e)) (Nat.le_succ _) (ExN.ok gx rfl rfl rfl (show 6<=6 by decide) rfl)
theorem run_exc {CX:CXT} {k:Nat} {f C:Addr} {fd:FuncData} {ps:List Str} {sp:Sp} {E:XK} {Q:Addr->Hp->Prop} {us:List Value} {vs:List V} (M:ExMk X.K C f) (G:FnOk X.prog X.w X.K X.mg X.base CX k f fd ps sp) (hr:Room (k+1) X.A) (hb:Binds X.K fd ps [])
  (hx:Passes CX X E) (I:Inv X pins σ H s) (r:Vals vs us) (hz:us.length<=sizeLine)
  (h:∀ x,H x=none->sp (.ref x :: vs) (upd H x (ExN x C none)) (fun v H2=>v = .non/\Q x H2) E) :
  wpAny (model X.prog X.w) X.A (call (.ref C) us) (fun u s'=>∃ x H',u = .ref x/\Inv X pins σ H' s'/\Q x H') X.xe s:=by
 have hq:=h (s.heap.objs.size+1) (I.hok.fresh (Nat.le_succ _))
 have I2:=I.excMade C us
 have r2:Vals (V.ref (s.heap.objs.size+1) :: vs) (Value.ref (s.heap.objs.size+1) :: us):=.cons rfl r
 have hl:(Value.ref (s.heap.objs.size+1) :: us++[]).length=ps.length:=by
  have e:=r2.length
  rw [G.len _ _ _ _ hq] at e
  rw [List.append_nil]
  exact e.symm
 obtain ⟨_,_,_,bmB,BF,hcb,nm,q,N,bs,bm,hdct,sn,sub,ab,col,dd,k0,k1,k2,k3,k5,hC,T⟩ := M.cls
 have KI:=I.kIn
 have bd:=hb { s with heap:=excHeap s.heap C us } (Value.ref (s.heap.objs.size+1) :: us) I2.kIn hl
 rw [List.append_nil] at bd
 obtain ⟨hh,g,d,t,os⟩ := s
 refine wpAny_call (exc_make KI (KI _ _ hC) BF (T _ KI) M.init M.fn hz (codeAny_mono (G.run _ X.stack _ _ ⟨Value.ref (hh.objs.size+1) :: us,[]⟩ _ _ _ E (hr.make C us []) (I2.env0.make C us []) bd r2 hq) fun r s' hq' => ?_))
 cases r with
 | error e=>exact hx pins σ _ _ e s' I2 hq'
 | ok fl =>
  cases fl with
  | ret u =>
   obtain ⟨v,H',I3,rv,ev,q3⟩ := I2.after hq'
   subst ev
   exact ⟨rv,hh.objs.size+1,H',rfl,I3,q3⟩
  | next=>exact False.elim hq'
  | brk=>exact False.elim hq'
  | cont=>exact False.elim hq'
theorem raise_stmt {M:Model} {A:Around} {E:Value->Shared->Prop} {env:Env} {xs:Sem Value} {Q:Flow->Shared->Prop} {K:PySem.W.Frag} {C:Addr} {s:Shared} {f:Addr} (hM:ExMk K C f) (hh:A.handled=none)
  (h:wpAny M A xs (fun v s1=>∃ x oe vs,v = .ref x/\K.In s1.heap/\s1.heap.get? x=some oe/\oe.cls = .ref C/\oe.data = .fields vs/\vs[1]? = some .none/\E (.ref x) s1) E s) :
  wpAny M A (raiseStmt env (some xs) none) Q E s:=by
 obtain ⟨_,_,_,bmB,BF,hcb,nm,q,N,bs,bm,hdct,sn,sub,ab,col,dd,k0,k1,k2,k3,k5,hC,T⟩ := hM.cls
 unfold raiseStmt
 refine wpAny_bind (thn h fun v s1 h1 => ?_)
 obtain ⟨x,oe,vs,rfl,KI,ge,hcl,hd,h1,hE⟩ := h1
 have hC1:=KI _ _ hC
 have hcB:(Value.ref C :: bm).contains (.type "BaseException")=true:=by rw [List.contains_cons,(T _ KI).hasType hcb,Bool.or_true]
 obtain ⟨hp,g,d,tk,os⟩ := s1
 repeat (first | (with_reducible refine wpAny_loadPart_at ge ?_; try rw [hcl]) | with_reducible refine wpAny_loadPart_at hC1 ?_ | (with_reducible refine wpAny_isSubtype_exc hC1 ?_; rw [hcB]) | with_reducible refine wpAny_field ge hd h1 ?_ | wp_step)
 exact wpAny_raiseNew_none hh hE
theorem Inv.excFlies {x C d:Addr} (I:Inv X pins σ H s) (hx:H x=some (ExN x C (some d))):Inv X pins σ (upd H x (ExO x C (some d))) s:=by
 obtain ⟨o,vs,g,r1,r2,r3,r4,r5⟩ := ExN.get I.hok hx
 exact I.write (h':=s.heap) (t':=s.toks) (x:=x) (e:=x) (by rw [hx]; exact True.intro) (.inl rfl) (fun _ _ _ q=>q) ⟨o,g⟩ (ExO.ok g r1 r2 r3 r4)
end
noncomputable def tRaise (C:Addr) (sp:Sp) (E:XK) (t:TA):TS:=fun _ σ H=>t σ H fun vs H1=>vs.length<=sizeLine/\∀ x,H1 x=none ->
 sp (.ref x :: vs) (upd H1 x (ExN x C none)) (fun v H2=>v = .non/\∃ d,H2 x=some (ExN x C (some d))/\E (.ref C) (some d) (upd H2 x (ExO x C (some d)))) E
section
variable {X:Cx} {E:XK} {k:Nat} {f C:Addr} {fd:FuncData} {ps:List Str} {sp:Sp} {x:Str} {np cpos pos:Pos} {e:Expr} {es:List Expr} {t:TA}
theorem ps_raise (M:ExMk X.K C f) (G:FnOk X.prog X.w X.K X.mg X.base (CXE X.prog X.w) k f fd ps sp) (hr:Room (k+1) X.A) (hg:Gl (X.exc E) x) (hm:X.mg x=some (.ref C)) (hb:Binds X.K fd ps []) (ha:PA (X.exc E) (e :: es) t) (hc:X.calm=true:=by rfl)
  (hdb:(x == ("__debug__" : Str))=false:=by decide) (he:starEach (e :: es) X.env=(false,eval e X.env) :: starEach es X.env:=by rfl) (hpl:(backTo cpos (starEach es X.env)).any (·.1)=false:=by rfl) :
  PS (X.exc E) (.Raise (some (.Call (.Name x np) (e :: es) [] cpos)) none pos) (tRaise C sp E t):=by
 refine ⟨?_⟩
 intro pins s σ H D I h
 have cal:wpAny (model X.prog X.w) X.A (eval (.Call (.Name x np) (e :: es) [] cpos) X.env) (fun v s1=>∃ y oe vs,v = .ref y/\X.K.In s1.heap/\s1.heap.get? y=some oe/\oe.cls = .ref C/\oe.data = .fields vs/\vs[1]? = some .none/\FlyW X E (.ref y) s1) (FlyW X E) s:=by
  refine wpAny_Call_Name_kw (ld_glob (X:=X.exc E) I hg hm ?_ hdb)
  refine PySem.W.callWith_K (h₀:=X.base) I.ok.mod.kin M.kp (thn (ha cpos pins s σ H _ I h) fun us s1 ⟨vs,H1,I1,r,hz,q⟩=>⟨I1.kIn,?_⟩) he hpl
  refine thn (run_exc (X:=X.exc E) (Q:=fun y H2=>∃ d,H2 y=some (ExN y C (some d))/\E (.ref C) (some d) (upd H2 y (ExO y C (some d)))) M G hr hb passX I1 r (by have:=r.length; rw [List.nil_append]; (first|lia|omega)) q) fun v s2 ⟨y,H2,ev,I2,d,hy,qe⟩ => ?_
  ·subst ev
   obtain ⟨o,ws,g,r1,r2,r3,r4,r5⟩ := ExN.get I2.hok hy
   exact ⟨y,o,ws,rfl,I2.kIn,g,r1,r3,r5,y,C,some d,pins,σ,_,rfl,I2.unwish.excFlies hy,zB,⟨o,ws,g,r3,.inl r5⟩,qe⟩
 show wpAny _ _ (exec (.Raise (some (.Call (.Name x np) (e :: es) [] cpos)) none pos) X.env) _ _ _
 rw [arm_exec_Raise]
 refine wpAny_bind (wpAny_standAt (raise_stmt (K:=X.K) M (I.ok.hd hc) ?_))
 exact wpAny_bind (thn cal fun v s1 h1=>wpAny_bind (wpAny_standAt (wpAny_pure h1)))
end
end L2

namespace L2
open PySem PySem.Spec PyProof.Rows
section
variable {X:Cx} {pins:List (Addr × Obj)} {σ:St} {H:Hp} {s:Shared}
end
structure Mch (K:PySem.W.Frag) (C CE:Addr):Prop where
 sub:PySem.W.subIn K (.ref C) (.ref CE)=some true
 ty:PySem.W.typeIn K (.ref CE)=some (.type "type")
 cl:(PySem.W.clsIn K CE).isSome=true
 base:PySem.W.subIn K (.ref CE) (.type "BaseException")=some true
noncomputable def behind (D:Ends) (i:Nat):Ends:={ nx:=fun σ H=>D.nx (σ.set i none) H,rt:=D.rt,bk:=fun σ H=>D.bk (σ.set i none) H,ct:=fun σ H=>D.ct (σ.set i none) H }
section
variable {X:Cx}
end
end L2

namespace L2
open PySem PySem.Spec PyProof.Rows
noncomputable def EqD (K:PySem.W.Frag) (H:Hp):Nat->V->V->Prop
 | 0,x,y=>flatV x=true/\x=y
 | n+1,x,y=>(flatV x=true/\x=y)\/∃ a b xs ys,x = .ref a/\y = .ref b/\((SqL K H a xs/\SqL K H b ys)\/(SqT K H a xs/\SqT K H b ys))/\Paired (EqD K H n) xs ys
theorem eqV_same:∀ {x:V},flatV x=true->eqV x x=true
 | .non,_=>rfl
 | .bl b,_=>beq_self_eq_true b
 | .int i,_=>beq_self_eq_true i
 | .str z,_=>beq_self_eq_true z
theorem Paired.get {α β:Type} {F : α->β->Prop}:∀ {xs:List α} {ys:List β},Paired F xs ys->∀ (j:Nat) (x : α) (y : β),xs[j]? = some x->ys[j]? = some y->F x y
 | _,_,.nil,j,x,y,h,_=>by simp at h
 | _,_,.cons r t,0,x,y,h,q=>by simp at h q; subst h; subst q; exact r
 | _,_,.cons r t,j+1,x,y,h,q=>Paired.get t j x y (by simpa using h) (by simpa using q)
theorem Paired.len {α β:Type} {F : α->β->Prop}:∀ {xs:List α} {ys:List β},Paired F xs ys->xs.length=ys.length
 | _,_,.nil=>rfl
 | _,_,.cons _ t=>by simp [Paired.len t]
theorem Paired.imp {α β:Type} {F G : α->β->Prop} (h:∀ x y,F x y->G x y):∀ {xs:List α} {ys:List β},Paired F xs ys->Paired G xs ys
 | _,_,.nil => .nil
 | _,_,.cons r t => .cons (h _ _ r) (Paired.imp h t)
theorem all_true (n:Nat):(List.range n).all (fun _=>true)=true:=List.all_eq_true.mpr fun _ _=>rfl
section
variable {X:Cx} {pins:List (Addr × Obj)} {σ:St} {H:Hp} {s:Shared}
theorem vals_pair {K:PySem.W.Frag} {xs ys:List V} {us vs:List Value} {R:V->V->Prop} (p:Paired R xs ys) (r:Vals xs us) (q:Vals ys vs) (P:Value->Value->Prop) (h:∀ x y u v,R x y->RelV x u->RelV y v->P u v) :
  us.toArray.size=vs.toArray.size/\∀ j (h1:j<us.toArray.size) (h2:j<vs.toArray.size),P us.toArray[j] vs.toArray[j]:=by
 refine ⟨?_,fun j h1 h2 => ?_⟩
 ·have e1:=r.length; have e2:=q.length; have e3:=Paired.len p
  simp only [List.size_toArray]; (first|lia|omega)
 ·have l1:j<us.length:=by simpa using h1
  have l2:j<vs.length:=by simpa using h2
  have e1:=r.length; have e2:=q.length
  have g1:xs[j]? = some xs[j]:=List.getElem?_eq_getElem (by (first|lia|omega))
  have g2:ys[j]? = some ys[j]:=List.getElem?_eq_getElem (by (first|lia|omega))
  simp only [List.getElem_toArray]
  exact h _ _ _ _ (Paired.get p j _ _ g1 g2) (Paired.get r j _ _ g1 (List.getElem?_eq_getElem l1)) (Paired.get q j _ _ g2 (List.getElem?_eq_getElem l2))
theorem eqD_at (I:Inv X pins σ H s):∀ (n:Nat) (x y:V) (u v:Value) (A:Around),EqD X.K H n x y->RelV x u->RelV y v->A.units+n<=cLine->SeqAt.EqAt A s u v true
 | 0,x,y,u,v,A,⟨f,e⟩,ru,rv,_=>by subst e; rw [<- eqV_same f]; exact eqAt_V ru rv f f
 | n+1,x,y,u,v,A,.inl ⟨f,e⟩,ru,rv,_=>by subst e; rw [<- eqV_same f]; exact eqAt_V ru rv f f
 | n+1,x,y,u,v,A,.inr ⟨a,b,xs,ys,ex,ey,hs,p⟩,ru,rv,hu=>by
  subst ex ey
  cases ru; cases rv
  by_cases hab:a=b
  ·subst hab; exact SeqAt.EqAt.same _
  refine SeqAt.EqAt.of_refs hab ?_
  rcases hs with ⟨ha,hb⟩ | ⟨ha,hb⟩
  ·obtain ⟨us,r,pa,_⟩ := I.list ha
   obtain ⟨vs,q,pb,_⟩ := I.list hb
   obtain ⟨sz,he⟩ := vals_pair (K:=X.K) p r q (fun u v=>SeqAt.EqAt A.in1 s u v true) fun x y u v e ru rv=>eqD_at I n x y u v A.in1 e ru rv (by show A.units+1+n<=_; (first|lia|omega))
   have:=SeqAt.RcAt.lists (e:=fun _=>true) pa.isList pb.isList sz (by (first|lia|omega)) he
   rwa [all_true] at this
  ·obtain ⟨us,r,pa,_⟩ := I.tuple ha
   obtain ⟨vs,q,pb,_⟩ := I.tuple hb
   obtain ⟨sz,he⟩ := vals_pair (K:=X.K) p r q (fun u v=>SeqAt.EqAt A.in1 s u v true) fun x y u v e ru rv=>eqD_at I n x y u v A.in1 e ru rv (by show A.units+1+n<=_; (first|lia|omega))
   have:=SeqAt.RcAt.tuples (e:=fun _=>true) pa pb (by (first|lia|omega)) he
   rw [all_true,sz,beq_self_eq_true] at this
   exact this
inductive rEqD (K:PySem.W.Frag) (k:Bool) (x:V) (y:V) (H:Hp) (Q:VK):Prop
 | mk (a b xs ys n : _) (h0:x = .ref a) (h1:y = .ref b) (h2:((SqL K H a xs/\SqL K H b ys)\/(SqT K H a xs/\SqT K H b ys))) (h3:Paired (EqD K H n) xs ys) (h4:n<=100) (h5:Q (.bl k) H):rEqD K k x y H Q
theorem op_neD {k:Nat} (hr:Room k X.A):OpR X (compareOp .NotEq) (rEqD X.K false):=by
 intro pins s σ H x y v u Q I rx ry h
 obtain ⟨a,b,xs,ys,n,rfl,rfl,hs,p,hn,q⟩ := h
 cases rx; cases ry
 have hu:=hr.un
 rcases hs with ⟨ha,hb⟩ | ⟨ha,hb⟩
 ·obtain ⟨us,r,pa,_⟩ := I.list ha
  obtain ⟨vs,q',pb,_⟩ := I.list hb
  obtain ⟨sz,he⟩ := vals_pair (K:=X.K) p r q' (fun u v=>SeqAt.EqAt X.A.in1 s u v true) fun x y u v e ru rv=>eqD_at I n x y u v X.A.in1 e ru rv (by show X.A.units+1+n<=_; (first|lia|omega))
  have:=SeqAt.RcNeAt.lists (e:=fun _=>true) pa.isList pb.isList sz (by (first|lia|omega)) he
  rw [all_true] at this
  exact this _ _ _ _ ⟨.bl false,H,I,rfl,q⟩
 ·obtain ⟨us,r,pa,_⟩ := I.tuple ha
  obtain ⟨vs,q',pb,_⟩ := I.tuple hb
  obtain ⟨sz,he⟩ := vals_pair (K:=X.K) p r q' (fun u v=>SeqAt.EqAt X.A.in1 s u v true) fun x y u v e ru rv=>eqD_at I n x y u v X.A.in1 e ru rv (by show X.A.units+1+n<=_; (first|lia|omega))
  have:=SeqAt.RcNeAt.tuples (e:=fun _=>true) pa pb (by (first|lia|omega)) he
  rw [all_true,sz,beq_self_eq_true] at this
  exact this _ _ _ _ ⟨.bl false,H,I,rfl,q⟩
theorem EqD.ints {K:PySem.W.Frag} {H:Hp}:∀ (ns:List Int),Paired (EqD K H 0) (ns.map V.int) (ns.map V.int)
 | [] => .nil
 | n :: r => .cons ⟨rfl,rfl⟩ (EqD.ints r)
noncomputable def CDivB (i j:Int):Prop:=0<j/\j.natAbs.log2<8000
theorem qE:OpR X (binaryOp .FloorDiv) (rI CDivB fun i j => .int (i / j)):=opI fun i j _ _ _ _ _ hc q=>by
 rw [<- Int.fdiv_eq_ediv_of_nonneg i (by have:=hc.1; (first|lia|omega))] at q
 exact floordiv_int (by have:=hc.1; (first|lia|omega)) q (.inl (PyProof.noPylong_of_log2 (by have:=hc.2; (first|lia|omega))))
noncomputable def tCut (t:TS):TS:=fun D σ H=>∃ P:St->Hp->Prop,t { D with nx:=P } σ H/\∀ σ' H',P σ' H'->D.nx σ' H'
theorem qW {st:Stmt} {t:TS} (h:PS X st t):PS X st (tCut t):=by
 refine ⟨?_⟩
 intro pins s σ H D I hw
 obtain ⟨P,h1,h2⟩ := hw
 refine wpAny_mono (h pins s σ H _ I h1) (fun f s' q => ?_) fun _ _ z=>z
 cases f with
 | next=>obtain ⟨σ1,H1,I1,q⟩ := q; exact ⟨σ1,H1,I1,h2 _ _ q⟩
 | brk=>exact q
 | cont=>exact q
 | ret u=>exact q
structure CalM (P:Program) (w:World) (K:PySem.W.Frag) (mg:Str->Option Value) (base:Heap) (CX:CXT) (k:Nat) (C:Addr) (m:Str) (ps:List Str) (sp:Sp):Prop where
 ex:∃ f fd,FnOk P w K mg base CX k f fd ps sp/\Cls K C/\Meth K C m f/\Binds K fd ps []
end
section
variable {X:Cx} {o e:Expr} {es:List Expr} {m:Str} {apos pos:Pos} {ta:TE} {t:TA} {E:XK} {C:Addr}
theorem kG {CX:CXT} {k n:Nat} {ps:List Str} {sp:Sp} {pl:Sem Bool} (he:PE X o ta) (G:CalM X.prog X.w X.K X.mg X.base CX k C m ps sp) (hr:Room n X.A) (ha:PA X (e :: es) t) (hx:Passes CX X E) (hk:k<=n:=by first | decide | (first|lia|omega))
  (hst:starEach (e :: es) X.env=(false,eval e X.env) :: starEach es X.env:=by rfl) (hpl:(backTo pos (starEach es X.env)).any (·.1)=false:=by rfl)
  (ht:eval (.Call (.Attribute o m apos) (e :: es) [] pos) X.env=(do
   let ov <- eval o X.env
   standAt apos.atName
   let (f,first) <- holding [ov] (getMethod ov m pl)
   callWith pos f first (backTo pos (starEach (e :: es) X.env)) (backToKw pos (keywordEach [] X.env))):=by rfl) :
  PE X (.Call (.Attribute o m apos) (e :: es) [] pos) (tMeth C m sp [] E ta t):=by
 obtain ⟨f,fd,F,c,hm,hb⟩ := G.ex
 exact pe_meth he c hm F (hr.mono hk) hb .nil hx ha hst hpl ht
theorem pe_methC0 {CX:CXT} {k n:Nat} {ps:List Str} {sp:Sp} {pl:Sem Bool} (he:PE X o ta) (G:CalM X.prog X.w X.K X.mg X.base CX k C m ps sp) (hr:Room n X.A) (hx:Passes CX X E) (hk:k<=n:=by first | decide | (first|lia|omega))
  (ht:eval (.Call (.Attribute o m apos) [] [] pos) X.env=(do
   let ov <- eval o X.env
   standAt apos.atName
   let (f,first) <- holding [ov] (getMethod ov m pl)
   callWith pos f first (backTo pos (starEach [] X.env)) (backToKw pos (keywordEach [] X.env))):=by rfl) :
  PE X (.Call (.Attribute o m apos) [] [] pos) (tMeth C m sp [] E ta tNil):=by
 obtain ⟨f,fd,F,c,hm,hb⟩ := G.ex
 exact pe_meth0 he c hm F (hr.mono hk) hb .nil hx ht
structure CalK (P:Program) (w:World) (K:PySem.W.Frag) (mg:Str->Option Value) (base:Heap) (CX:CXT) (k:Nat) (x:Str) (C:Addr) (ps:List Str) (sp:Sp):Prop where
 ex:∃ f fd,Mk K C f/\FnOk P w K mg base CX k f fd ps sp/\mg x=some (.ref C)/\Binds K fd ps []
theorem pe_makeC {x:Str} {p:Pos} {CX:CXT} {k n:Nat} {ps:List Str} {sp:Sp} (G:CalK X.prog X.w X.K X.mg X.base CX k x C ps sp) (hr:Room n X.A) (hg:Gl X x) (ha:PA X (e :: es) t) (hx:Passes CX X E) (hk:k+1<=n:=by first | decide | (first|lia|omega))
  (hdb:(x == ("__debug__" : Str))=false:=by decide) (he:starEach (e :: es) X.env=(false,eval e X.env) :: starEach es X.env:=by rfl) (hpl:(backTo pos (starEach es X.env)).any (·.1)=false:=by rfl) :
  PE X (.Call (.Name x p) (e :: es) [] pos) (tMake C sp [] E t):=by
 obtain ⟨f,fd,M,F,hm,hb⟩ := G.ex
 exact pe_make M F (hr.mono hk) hg hm hb .nil hx ha hdb he hpl
structure CalX (P:Program) (w:World) (K:PySem.W.Frag) (mg:Str->Option Value) (base:Heap) (k:Nat) (x:Str) (C:Addr) (ps:List Str) (sp:Sp):Prop where
 ex:∃ f fd,ExMk K C f/\FnOk P w K mg base (CXE P w) k f fd ps sp/\mg x=some (.ref C)/\Binds K fd ps []
theorem qZ {x:Str} {np cpos:Pos} {k n:Nat} {ps:List Str} {sp:Sp} (G:CalX X.prog X.w X.K X.mg X.base k x C ps sp) (hr:Room n X.A) (hg:Gl (X.exc E) x) (ha:PA (X.exc E) (e :: es) t) (hc:X.calm=true:=by rfl) (hk:k+1<=n:=by first | decide | (first|lia|omega))
  (hdb:(x == ("__debug__" : Str))=false:=by decide) (he:starEach (e :: es) X.env=(false,eval e X.env) :: starEach es X.env:=by rfl) (hpl:(backTo cpos (starEach es X.env)).any (·.1)=false:=by rfl) :
  PS (X.exc E) (.Raise (some (.Call (.Name x np) (e :: es) [] cpos)) none pos) (tRaise C sp E t):=by
 obtain ⟨f,fd,M,F,hm,hb⟩ := G.ex
 exact ps_raise M F (hr.mono hk) hg hm hb ha hc hdb he hpl
end
end L2

namespace L2
open PySem
noncomputable abbrev Bad:=Nat × Str
noncomputable abbrev Hds:=List (Int × Int)
inductive Nd where
 | mk (kind:Int) (place:Nat) (own:List Int) (parts:List Nd)
noncomputable def takeM (ns:List Int) (p:Nat):Except Bad Int:=match ns[p]? with
 | some n => .ok n
 | none => .error (p, "end")
noncomputable def withinM (ns:List Int) (p:Nat) (lo hi:Int):Except Bad Int:=match ns[p]? with
 | some n=>if n<lo\/hi<n then .error (p, "range") else .ok n
 | none => .error (p, "end")
noncomputable def headsM (ns:List Int):Nat->Int->Nat->Except Bad Hds
 | 0,_,_ => .ok []
 | n+1,most,p=>match withinM ns p 0 most with
  | .error b => .error b
  | .ok a=>match withinM ns (p+1) a 12 with
   | .error b => .error b
   | .ok c=>match headsM ns n 4 (p+2) with
    | .error b => .error b
    | .ok r => .ok ((a,c) :: r)
noncomputable def headsAllM (ns:List Int):Except Bad Hds:=match withinM ns 0 1 16 with
 | .error b => .error b
 | .ok n=>headsM ns n.toNat 0 1
noncomputable def oneM (r:Except Bad Int):Except Bad (List Int):=match r with
 | .ok n => .ok [n]
 | .error b => .error b
noncomputable def ownM (ns:List Int) (heads:Hds) (boxes k:Int) (p:Nat):Except Bad (List Int) :=
 if k=0 then oneM (takeM ns p) else if k=1\/k=2 then oneM (withinM ns p 0 (boxes - 1)) else if k=3 then oneM (withinM ns p 1 12) else if k=4 then oneM (withinM ns p 2 12) else if k=6 then oneM (withinM ns p 0 ((heads.length:Int) - 1)) else .ok []
noncomputable def partsN:List Int:=[1,2,2,2,2,2,2,2,2,2,3,1,0]
noncomputable def dueM (heads:Hds) (k:Int) (own:List Int):Int :=
 if k=0\/k=1 then 0 else if k=2 then 1 else if k=3 then own.headD 0 else if k=4 then 1+own.headD 0 else if k=5 then 2 else if k=6 then (heads.getD (own.headD 0).toNat (0,0)).1 else partsN.getD (k - 7).toNat 0
noncomputable def partsM (f:Nat->Except Bad (Nd × Nat)):Nat->Nat->Except Bad (List Nd × Nat)
 | 0,p => .ok ([],p)
 | n+1,p=>match f p with
  | .error b => .error b
  | .ok a=>match partsM f n a.2 with
   | .error b => .error b
   | .ok r => .ok (a.1 :: r.1,r.2)
noncomputable def nodeM (ns:List Int) (heads:Hds) (boxes:Int):Nat->Nat->Except Bad (Nd × Nat)
 | 0,p => .error (p, "deep")
 | d+1,p=>match withinM ns p 0 19 with
  | .error b => .error b
  | .ok k=>match ownM ns heads boxes k (p+1) with
   | .error b => .error b
   | .ok own=>match partsM (nodeM ns heads boxes d) (dueM heads k own).toNat (p+1+own.length) with
    | .error b => .error b
    | .ok r => .ok (.mk k p own r.1,r.2)
noncomputable def bodiesM (ns:List Int) (heads:Hds):Hds->Nat->Except Bad (List Nd × Nat)
 | [],p => .ok ([],p)
 | h :: r,p=>match nodeM ns heads h.2 10 p with
  | .error b => .error b
  | .ok a=>match bodiesM ns heads r a.2 with
   | .error b => .error b
   | .ok z => .ok (a.1 :: z.1,z.2)
noncomputable def functionsM (ns:List Int):Except Bad (Hds × List Nd):=match headsAllM ns with
 | .error b => .error b
 | .ok hs=>match bodiesM ns hs hs (1+2 * hs.length) with
  | .error b => .error b
  | .ok r=>if r.2<ns.length then .error (r.2, "over") else .ok (hs,r.1)
noncomputable def NodeAt (H:Hp):Nat->V->Nd->Prop
 | 0,_,_=>False
 | d+1,v,.mk k p own ps=>∃ t o q vs,v = .ref t/\H t=some (.tup [.int k,.int p,.ref o,.ref q])/\H o=some (.tup (own.map V.int))/\H q=some (.tup vs)/\Paired (NodeAt H d) vs ps
noncomputable def FnAt (H:Hp) (v:V) (f:(Int × Int) × Nd):Prop:=∃ t b,v = .ref t/\H t=some (.tup [.int f.1.1,.int f.1.2,b])/\NodeAt H 10 b f.2
noncomputable def FnsAt (H:Hp) (l:Addr) (r:Hds × List Nd):Prop:=∃ rs,H l=some (.lst rs)/\r.1.length=r.2.length/\Paired (FnAt H) rs (r.1.zip r.2)
noncomputable def HeadAt (H:Hp) (v:V) (h:Int × Int):Prop:=∃ t,v = .ref t/\H t=some (.tup [.int h.1,.int h.2])
noncomputable def HeadsAt (H:Hp) (hd:Addr) (hs:Hds):Prop:=∃ rs,H hd=some (.lst rs)/\Paired (HeadAt H) rs hs
noncomputable def LookO (CL dx a:Addr) (p:Nat):HO:=.ins CL dx [("numbers",.ref a),("place",.int p)]
noncomputable def Tups (H H':Hp):Prop:=∀ b xs,H b=some (.tup xs)->H' b=some (.tup xs)
theorem Tups.same {H H':Hp} (h:Same H H'):Tups H H':=fun _ _ e=>h _ _ e
theorem Tups.keep {lk CL dx a:Addr} {p:Nat} {H H':Hp} (e:H lk=some (LookO CL dx a p)) (k:Keep lk H H'):Tups H H':=fun b xs q=>k b _ (fun z=>by rw [z,e] at q; cases q) q
theorem NodeAt.tups {H H':Hp} (h:Tups H H'):∀ {d:Nat} {v:V} {n:Nd},NodeAt H d v n->NodeAt H' d v n
 | 0,_,_,z=>z.elim
 | d+1,v,.mk k p own ps,⟨t,o,q,vs,e,h1,h2,h3,r⟩=>⟨t,o,q,vs,e,h _ _ h1,h _ _ h2,h _ _ h3,Paired.imp (fun _ _ z=>NodeAt.tups h z) r⟩
theorem HeadAt.tups {H H':Hp} (h:Tups H H') {v:V} {n:Int × Int}:HeadAt H v n->HeadAt H' v n:=fun ⟨t,e,q⟩=>⟨t,e,h _ _ q⟩
theorem FnAt.tups {H H':Hp} (h:Tups H H') {v:V} {n:(Int × Int) × Nd}:FnAt H v n->FnAt H' v n:=fun ⟨t,b,e,q,z⟩=>⟨t,b,e,h _ _ q,z.tups h⟩
theorem HeadsAt.keep {lk CL dx a hd:Addr} {p:Nat} {H H':Hp} {hs:Hds} (e:H lk=some (LookO CL dx a p)) (k:Keep lk H H') (h:HeadsAt H hd hs):HeadsAt H' hd hs:=by
 obtain ⟨rs,q,r⟩ := h
 exact ⟨rs,k hd _ (fun z=>by rw [z,e] at q; cases q) q,Paired.imp (fun _ _ z=>z.tups (.keep e k)) r⟩
noncomputable def Tells {α:Type} (r:Except Bad α) (ok : α->Prop) (bad:Nat->Str->Prop):Prop:=(∀ a,r = .ok a->ok a)/\∀ p w,r = .error (p,w)->bad p w
noncomputable def Fails (CN lk:Addr) (H:Hp) (E:XK) (p:Nat) (w:Str):Prop:=∀ d H',Keep lk H H'->H' d=some (XdO d [("place",.int p),("word",.str w)])->E (.ref CN) (some d) H'
theorem Fails.keep {CN lk:Addr} {H H1:Hp} {E:XK} {p:Nat} {w:Str} (f:Fails CN lk H E p w) (k:Keep lk H H1):Fails CN lk H1 E p w:=fun d H' k' e=>f d H' (k.trans k') e
noncomputable def Looks (CL:Addr) (H:Hp) (lk dx a:Addr) (p:Nat) (ns:List Int):Prop:=H lk=some (LookO CL dx a p)/\H a=some (.lst (ns.map V.int))
theorem Looks.go {CL lk dx a:Addr} {p p':Nat} {ns:List Int} {H H':Hp} (l:Looks CL H lk dx a p ns) (k:Keep lk H H') (e:H' lk=some (LookO CL dx a p')):Looks CL H' lk dx a p' ns :=
 ⟨e,k a _ (fun z=>by have:=l.1; rw [<- z,l.2] at this; cases this) l.2⟩
inductive spInitX (C:Addr) (vs:List V) (H:Hp) (Q:VK) (E:XK):Prop
 | mk (x y z : _) (h0:vs=[.ref x,y,z]) (h1:H x=some (ExN x C none)) (h2:∀ d H',d≠x->H d=none->(∀ b o,b≠x->H b=some o->H' b=some o)->H' x=some (ExN x C (some d))->H' d=some (XdO d [("place",y),("word",z)])->Q .non H'):spInitX C vs H Q E
inductive spInitL (CL:Addr) (vs:List V) (H:Hp) (Q:VK) (E:XK):Prop
 | mk (x dx a : _) (h0:vs=[.ref x,.ref a]) (h1:H x=some (.ins CL dx [])) (h2:∀ H',Keep x H H'->H' x=some (LookO CL dx a 0)->Q .non H'):spInitL CL vs H Q E
inductive spWhole (vs:List V) (H:Hp) (Q:VK) (E:XK):Prop
 | mk (i:Int) (h0:vs=[.int i]) (h1:Q (.bl true) H):spWhole vs H Q E
inductive spTk (CL CN:Addr) (vs:List V) (H:Hp) (Q:VK) (E:XK):Prop
 | mk (lk dx a p ns : _) (h0:vs=[.ref lk]) (h1:Looks CL H lk dx a p ns) (h2:Tells (takeM ns p) (fun n=>Q (.int n) (upd H lk (LookO CL dx a (p+1)))) (Fails CN lk H E)):spTk CL CN vs H Q E
inductive spWithin (CL CN:Addr) (vs:List V) (H:Hp) (Q:VK) (E:XK):Prop
 | mk (lk dx a p ns lo hi : _) (h0:vs=[.ref lk,.int lo,.int hi]) (h1:Looks CL H lk dx a p ns) (h2:Tells (withinM ns p lo hi) (fun n=>Q (.int n) (upd H lk (LookO CL dx a (p+1)))) (Fails CN lk H E)):spWithin CL CN vs H Q E
inductive spHeads (CL CN:Addr) (vs:List V) (H:Hp) (Q:VK) (E:XK):Prop
 | mk (lk dx a ns : _) (h0:vs=[.ref lk]) (h1:Looks CL H lk dx a 0 ns) (h2:Tells (headsAllM ns) (fun hs=>∀ hd H',Keep lk H H'->H' lk=some (LookO CL dx a (1+2 * hs.length))->HeadsAt H' hd hs->Q (.ref hd) H') (Fails CN lk H E)):spHeads CL CN vs H Q E
inductive spOwn (CL CN:Addr) (vs:List V) (H:Hp) (Q:VK) (E:XK):Prop
 | mk (lk dx a p ns hd hs boxes k : _) (h0:vs=[.ref lk,.int k,.ref hd,.int boxes]) (h1:Looks CL H lk dx a p ns) (h2:HeadsAt H hd hs) (h3:Tells (ownM ns hs boxes k p) (fun own=>∀ t H',Keep lk H H'->H' lk=some (LookO CL dx a (p+own.length))->H' t=some (.tup (own.map V.int))->Q (.ref t) H') (Fails CN lk H E)):spOwn CL CN vs H Q E
noncomputable def OwnOk (heads:Hds) (k:Int) (own:List Int):Prop:=0<=k/\k<=19/\(k=3\/k=4\/k=6->∃ n,own=[n]/\0<=n/\(k=6->n<heads.length)/\(k≠6->n<=12))
noncomputable def HdsOk (hs:Hds):Prop:=∀ h∈hs,0<=h.1/\h.1<=4
inductive spDue (vs:List V) (H:Hp) (Q:VK) (E:XK):Prop
 | mk (k t own hd hs : _) (h0:vs=[.int k,.ref t,.ref hd]) (h1:H t=some (.tup (own.map V.int))) (h2:HeadsAt H hd hs) (h3:OwnOk hs k own) (h4:Q (.int (dueM hs k own)) H):spDue vs H Q E
inductive spNode (CL CN:Addr) (d:Nat) (vs:List V) (H:Hp) (Q:VK) (E:XK):Prop
 | mk (lk dx a p ns hd hs boxes : _) (h0:vs=[.ref lk,.ref hd,.int boxes,.int (11 - (d:Int))]) (h1:Looks CL H lk dx a p ns) (h2:HeadsAt H hd hs) (h3:HdsOk hs) (h4:Tells (nodeM ns hs boxes d p) (fun r=>∀ v H',Keep lk H H'->H' lk=some (LookO CL dx a r.2)->NodeAt H' d v r.1->Q v H') (Fails CN lk H E)):spNode CL CN d vs H Q E
inductive spFns (CN:Addr) (vs:List V) (H:Hp) (Q:VK) (E:XK):Prop
 | mk (a ns : _) (h0:vs=[.ref a]) (h1:H a=some (.lst (ns.map V.int))) (h2:Tells (functionsM ns) (fun r=>∀ l H',Same H H'->H l=none->FnsAt H' l r->Q (.ref l) H') (fun p w=>∀ d H',Same H H'->H' d=some (XdO d [("place",.int p),("word",.str w)])->E (.ref CN) (some d) H')):spFns CN vs H Q E
theorem yA {ns:List Int} {p:Nat} {lo hi n:Int} (h:withinM ns p lo hi = .ok n):ns[p]? = some n/\lo<=n/\n<=hi:=by
 unfold withinM at h
 cases e:ns[p]? with
 | none=>rw [e] at h; cases h
 | some m =>
  rw [e] at h
  simp only at h
  by_cases c:m<lo\/hi<m
  ·rw [if_pos c] at h; cases h
  ·rw [if_neg c] at h; cases h
   exact ⟨rfl,by (first|lia|omega),by (first|lia|omega)⟩
theorem jB {r:Except Bad Int} {own:List Int} (h:oneM r = .ok own):∃ n,r = .ok n/\own=[n]:=by
 unfold oneM at h
 cases r with
 | error b=>cases h
 | ok n=>cases h; exact ⟨n,rfl,rfl⟩
theorem own_ok {ns:List Int} {hs:Hds} {boxes k:Int} {p:Nat} {own:List Int} (h0 : 0<=k) (h1:k<=19) (h:ownM ns hs boxes k p = .ok own):OwnOk hs k own:=by
 refine ⟨h0,h1,fun hk => ?_⟩
 unfold ownM at h
 rcases hk with rfl | rfl | rfl
 ·rw [if_neg (by decide),if_neg (by decide),if_pos rfl] at h
  obtain ⟨n,e,rfl⟩ := jB h
  obtain ⟨_,a,b⟩ := yA e
  exact ⟨n,rfl,by (first|lia|omega),fun z=>by (first|lia|omega),fun _=>b⟩
 ·rw [if_neg (by decide),if_neg (by decide),if_neg (by decide),if_pos rfl] at h
  obtain ⟨n,e,rfl⟩ := jB h
  obtain ⟨_,a,b⟩ := yA e
  exact ⟨n,rfl,by (first|lia|omega),fun z=>by (first|lia|omega),fun _=>b⟩
 ·rw [if_neg (by decide),if_neg (by decide),if_neg (by decide),if_neg (by decide),if_pos rfl] at h
  obtain ⟨n,e,rfl⟩ := jB h
  obtain ⟨_,a,b⟩ := yA e
  exact ⟨n,rfl,by (first|lia|omega),fun _=>by (first|lia|omega),fun z=>absurd rfl z⟩
theorem partsN_ok:∀ k:Nat,0<=partsN.getD k 0/\partsN.getD k 0<=3:=by
 intro k
 by_cases h:k<13
 ·have:∀ k:Fin 13,0<=partsN.getD k.1 0/\partsN.getD k.1 0<=3:=by decide
  exact this ⟨k,h⟩
 ·have:partsN[k]? = none:=List.getElem?_eq_none (by show 13<=k; (first|lia|omega))
  rw [List.getD_eq_getElem?_getD,this]; decide
theorem due_ok {hs:Hds} {k:Int} {own:List Int} (o:OwnOk hs k own) (hh:HdsOk hs) : 0<=dueM hs k own/\dueM hs k own<=13:=by
 obtain ⟨h0,h1,h2⟩ := o
 unfold dueM
 by_cases c1:k=0\/k=1
 ·rw [if_pos c1]; decide
 rw [if_neg c1]
 by_cases c2:k=2
 ·rw [if_pos c2]; decide
 rw [if_neg c2]
 by_cases c3:k=3
 ·rw [if_pos c3]
  obtain ⟨n,rfl,a,_,b⟩ := h2 (.inl c3)
  have:=b (by (first|lia|omega))
  show 0<=n/\n<=13
  (first|lia|omega)
 rw [if_neg c3]
 by_cases c4:k=4
 ·rw [if_pos c4]
  obtain ⟨n,rfl,a,_,b⟩ := h2 (.inr (.inl c4))
  have:=b (by (first|lia|omega))
  show 0<=1+n/\1+n<=13
  (first|lia|omega)
 rw [if_neg c4]
 by_cases c5:k=5
 ·rw [if_pos c5]; decide
 rw [if_neg c5]
 by_cases c6:k=6
 ·rw [if_pos c6]
  obtain ⟨n,rfl,a,b,_⟩ := h2 (.inr (.inr c6))
  have hn:=b c6
  show 0<=(hs.getD n.toNat (0,0)).1/\(hs.getD n.toNat (0,0)).1<=13
  have hl:n.toNat<hs.length:=by (first|lia|omega)
  rw [List.getD_eq_getElem?_getD,List.getElem?_eq_getElem hl]
  have:=hh _ (List.getElem_mem hl)
  simp only [Option.getD_some]
  (first|lia|omega)
 rw [if_neg c6]
 have:=partsN_ok (k - 7).toNat
 (first|lia|omega)
theorem headsM_ok {ns:List Int}:∀ {n:Nat} {most:Int} {p:Nat} {hs:Hds},most<=4->headsM ns n most p = .ok hs->HdsOk hs/\hs.length=n
 | 0,_,_,_,_,h=>by cases h; exact ⟨fun _ z=>(nomatch z),rfl⟩
 | n+1,most,p,hs,hm,h=>by
  unfold headsM at h
  cases e1:withinM ns p 0 most with
  | error b=>rw [e1] at h; cases h
  | ok a =>
   rw [e1] at h; simp only at h
   cases e2:withinM ns (p+1) a 12 with
   | error b=>rw [e2] at h; cases h
   | ok c =>
    rw [e2] at h; simp only at h
    cases e3:headsM ns n 4 (p+2) with
    | error b=>rw [e3] at h; cases h
    | ok r =>
     rw [e3] at h; cases h
     obtain ⟨q,l⟩ := headsM_ok (Int.le_refl _) e3
     obtain ⟨_,a0,a1⟩ := yA e1
     exact ⟨fun z hz=>by
      rcases List.mem_cons.mp hz with rfl | hz
      ·exact ⟨a0,by show a<=4; (first|lia|omega)⟩
      ·exact q z hz,by simp [l]⟩
theorem headsAllM_ok {ns:List Int} {hs:Hds} (h:headsAllM ns = .ok hs):HdsOk hs/\ns[0]? = some (hs.length:Int)/\1<=hs.length/\hs.length<=16/\headsM ns hs.length 0 1 = .ok hs:=by
 unfold headsAllM at h
 cases e1:withinM ns 0 1 16 with
 | error b=>rw [e1] at h; cases h
 | ok n =>
  rw [e1] at h; simp only at h
  obtain ⟨q,l⟩ := headsM_ok (by decide) h
  obtain ⟨e,a,b⟩ := yA e1
  rw [l]
  refine ⟨q,?_,by (first|lia|omega),by (first|lia|omega),h⟩
  rw [e]; congr 1; (first|lia|omega)
noncomputable def joinM {α:Type} (done:List α) (r:Except Bad (List α)):Except Bad (List α):=match r with
 | .ok r => .ok (done++r)
 | .error b => .error b
theorem joinM_nil {α:Type} (r:Except Bad (List α)):joinM [] r=r:=by cases r <;> rfl
noncomputable def joinP {α:Type} (done:List α) (r:Except Bad (List α × Nat)):Except Bad (List α × Nat):=match r with
 | .ok r => .ok (done++r.1,r.2)
 | .error b => .error b
theorem joinP_nil {α:Type} (r:Except Bad (List α × Nat)):joinP [] r=r:=by cases r <;> rfl
theorem Keep.fresh {lk hd:Addr} {H H':Hp} {o:HO} (k:Keep lk H H') (h:H hd=none):Keep lk H (L2.upd H' hd o):=fun b u nb e=>by rw [zK (zO e h)]; exact k b u nb e
theorem Tups.upd {b:Addr} {ys:List V} {H:Hp} {o:HO} (h:H b=some (.lst ys)):Tups H (L2.upd H b o):=fun c xs e=>by rw [zK (fun z=>by rw [z,h] at e; cases e)]; exact e
theorem Tups.trans {H H1 H2:Hp} (a:Tups H H1) (b:Tups H1 H2):Tups H H2:=fun c xs e=>b c xs (a c xs e)
theorem Tups.new {b:Addr} {H:Hp} {o:HO} (h:H b=none):Tups H (L2.upd H b o):=.same (zE h o)
theorem raised {C lk:Addr} {H H1:Hp} {E E':XK} {p:Nat} {w:Str} (f:Fails C lk H E p w) (k:Keep lk H H1):∀ x,H1 x=none ->
  spInitX C [.ref x,.int (p:Int),.str w] (upd H1 x (ExN x C none)) (fun v H2=>v = .non/\∃ d,H2 x=some (ExN x C (some d))/\E (.ref C) (some d) (upd H2 x (ExO x C (some d)))) E':=by
 intro x hx
 refine ⟨x,_,_,rfl,zB,fun d H' dx hd kp ex ed=>⟨rfl,d,ex,f d _ (fun b o nb e => ?_) ?_⟩⟩
 ·have e1:=k b o nb e
  have nx:b≠x:=zO e1 hx
  rw [zK nx]
  exact kp b o nx (by rw [zK nx]; exact e1)
 ·rw [zK dx]; exact ed
end L2

namespace L2
open PySem
noncomputable def Sub (ns:List Int):Nat->List Int->Prop
 | _,[]=>True
 | p,z :: zs=>ns[p]? = some z/\Sub ns (p+1) zs
theorem Sub.append {ns:List Int}:∀ {xs ys:List Int} {p:Nat},Sub ns p (xs++ys)->Sub ns p xs/\Sub ns (p+xs.length) ys
 | [],_,_,h=>⟨trivial,h⟩
 | x :: xs,ys,p,h=>by
  have q:=Sub.append h.2
  refine ⟨⟨h.1,q.1⟩,?_⟩
  rw [show p+(x :: xs).length=p+1+xs.length by simp; (first|lia|omega)]
  exact q.2
theorem Sub.behind:∀ (zs pre:List Int),Sub (pre++zs) pre.length zs
 | [],_=>trivial
 | z :: zs,pre=>by
  refine ⟨by simp,?_⟩
  have:=Sub.behind zs (pre++[z])
  simpa using this
theorem Sub.self (ns:List Int):Sub ns 0 ns:=Sub.behind ns []
noncomputable def OwnFit (hs:Hds) (boxes k:Int) (own:List Int):Prop :=
 (k=0/\∃ n,own=[n])\/((k=1\/k=2)/\∃ n,own=[n]/\0<=n/\n<=boxes - 1)\/(k=3/\∃ n,own=[n]/\1<=n/\n<=12)\/(k=4/\∃ n,own=[n]/\2<=n/\n<=12)\/(k=6/\∃ n,own=[n]/\0<=n/\n<=(hs.length:Int) - 1)\/((k=5\/7<=k)/\own=[])
theorem xP {ns:List Int} {p:Nat} {lo hi n:Int} (h:ns[p]? = some n) (h0:lo<=n) (h1:n<=hi):withinM ns p lo hi = .ok n:=by
 unfold withinM
 rw [h]
 exact if_neg (by (first|lia|omega))
theorem own_fit {ns:List Int} {hs:Hds} {boxes k:Int} {own:List Int} {p:Nat} (f:OwnFit hs boxes k own) (s:Sub ns p own):ownM ns hs boxes k p = .ok own:=by
 unfold ownM
 rcases f with ⟨rfl,n,rfl⟩ | ⟨hk,n,rfl,a,b⟩ | ⟨rfl,n,rfl,a,b⟩ | ⟨rfl,n,rfl,a,b⟩ | ⟨rfl,n,rfl,a,b⟩ | ⟨hk,rfl⟩
 ·rw [if_pos rfl]; unfold takeM; rw [s.1]; rfl
 ·rw [if_neg (by (first|lia|omega)),if_pos hk,xP s.1 a b]; rfl
 ·rw [if_neg (by decide),if_neg (by decide),if_pos rfl,xP s.1 a b]; rfl
 ·rw [if_neg (by decide),if_neg (by decide),if_neg (by decide),if_pos rfl,xP s.1 a b]; rfl
 ·rw [if_neg (by decide),if_neg (by decide),if_neg (by decide),if_neg (by decide),if_pos rfl,xP s.1 a b]; rfl
 ·rw [if_neg (by (first|lia|omega)),if_neg (by (first|lia|omega)),if_neg (by (first|lia|omega)),if_neg (by (first|lia|omega)),if_neg (by (first|lia|omega))]
structure HdsGood (hs:Hds):Prop where
 lo : 1<=hs.length
 hi:hs.length<=16
 all:∀ (i:Nat) (h:Int × Int),hs[i]? = some h->0<=h.1/\h.1<=4/\h.1<=h.2/\h.2<=12/\(i=0->h.1=0)
noncomputable def flat:Hds->List Int
 | []=>[]
 | h :: r=>h.1 :: h.2 :: flat r
theorem qG:∀ hs:Hds,(flat hs).length=2 * hs.length
 | []=>rfl
 | h :: r=>by simp [flat,qG r]; (first|lia|omega)
theorem headsM_flat {ns:List Int}:∀ {hs:Hds} {most:Int} {p:Nat},(∀ (i:Nat) (h:Int × Int),hs[i]? = some h->0<=h.1/\h.1<=4/\h.1<=h.2/\h.2<=12/\(i=0->h.1<=most))->Sub ns p (flat hs)->headsM ns hs.length most p = .ok hs
 | [],_,_,_,_=>rfl
 | h :: r,most,p,a,s=>by
  obtain ⟨a0,a1,a2,a3,a4⟩ := a 0 h rfl
  unfold headsM
  show (match withinM ns p 0 most with | .error b=>_ | .ok a=>_)=_
  rw [xP s.1 a0 (a4 rfl)]; simp only
  rw [xP s.2.1 a2 a3]; simp only
  rw [headsM_flat (most:=4) (fun i x e=>by have:=a (i+1) x (by simpa using e); (first|lia|omega)) s.2.2]
theorem HdsGood.heads {ns:List Int} {hs:Hds} {p:Nat} (g:HdsGood hs) (s:Sub ns p (flat hs)):headsM ns hs.length 0 p = .ok hs:=headsM_flat (fun i h e=>by have:=g.all i h e; (first|lia|omega)) s
theorem due_any {hs hs':Hds} {k:Int} {own own':List Int} (n3:k≠3) (n4:k≠4) (n6:k≠6):dueM hs k own=dueM hs' k own':=by
 unfold dueM
 rw [if_neg n3,if_neg n4,if_neg n6,if_neg n3,if_neg n4,if_neg n6]
theorem divB {j:Int} (h0 : 0<j) (h1:j<2 ^ 256):CDivB i j:=by
 refine ⟨h0,?_⟩
 have:j.natAbs.log2<256:=(Nat.log2_lt (by (first|lia|omega))).mpr (by (first|lia|omega))
 (first|lia|omega)
noncomputable def CW (n:Nat) (Pv:Nat->St->Hp->Prop) (i m:Nat) (σ:St) (H:Hp):Prop:=i<=n/\m=n - i/\Pv i σ H
theorem CW.next {n:Nat} {Pv:Nat->St->Hp->Prop} {i:Nat} {σ:St} {H:Hp} (hi:i<n) (h:Pv (i+1) σ H):∃ m',m'<n - i/\CW n Pv (i+1) m' σ H:=⟨n - (i+1),by (first|lia|omega),by (first|lia|omega),rfl,h⟩
theorem comp_tup {K:PySem.W.Frag} {a p:Addr} {xs:List V} {g:TG} {tt:TT} {te:TE} {R:Hp->Prop} {σ0:St} {H0:Hp} (Pv:Nat->St->Hp->Prop) (h0:Pv 0 σ0 H0) (hl:∀ i σ H,i<=xs.length->Pv i σ H->SqT K H a xs)
  (hs:∀ i x σ H,i<xs.length->xs[i]? = some x->Pv i σ H->g x σ H fun σ3 H3=>tt σ3 H3 fun b H4 =>
   if b=true then te σ3 H4 fun v H5=>∃ ys,H5 p=some (.lst ys)/\ys.length<sizeLine/\∃ m',m'<xs.length - i/\CW xs.length Pv (i+1) m' σ3 (upd H5 p (.lst (ys++[v])))
   else ∃ m',m'<xs.length - i/\CW xs.length Pv (i+1) m' σ3 H4)
  (hd:∀ σ H,Pv xs.length σ H->R H):CompGo (Itt K a) p σ0 H0 g tt te R:=by
 refine ⟨CW xs.length Pv,⟨_,Nat.zero_le _,rfl,h0⟩,fun i m σ' H' w => ?_⟩
 obtain ⟨hi,rfl,hp⟩ := w
 have q:=hl i σ' H' hi hp
 by_cases hlt:i<xs.length
 ·refine .inr ⟨⟨xs,xs[i],q,by simp [hlt]⟩,fun x H2 y => ?_⟩
  obtain ⟨e,y⟩ := y
  subst e
  exact hs i x σ' _ hlt (y xs q) hp
 ·have e:i=xs.length:=by (first|lia|omega)
  subst e
  exact .inl ⟨⟨xs,q,Nat.le_refl _⟩,hd σ' H' hp⟩
theorem wD {K:PySem.W.Frag} {a p:Addr} {xs:List V} {g:TG} {tt:TT} {te:TE} {R:Hp->Prop} {σ0:St} {H0:Hp} (Pv:Nat->St->Hp->Prop) (h0:Pv 0 σ0 H0) (hl:∀ i σ H,i<=xs.length->Pv i σ H->SqL K H a xs)
  (hs:∀ i x σ H,i<xs.length->xs[i]? = some x->Pv i σ H->g x σ H fun σ3 H3=>tt σ3 H3 fun b H4 =>
   if b=true then te σ3 H4 fun v H5=>∃ ys,H5 p=some (.lst ys)/\ys.length<sizeLine/\∃ m',m'<xs.length - i/\CW xs.length Pv (i+1) m' σ3 (upd H5 p (.lst (ys++[v])))
   else ∃ m',m'<xs.length - i/\CW xs.length Pv (i+1) m' σ3 H4)
  (hd:∀ σ H,Pv xs.length σ H->R H):CompGo (Itl K a) p σ0 H0 g tt te R:=by
 refine ⟨CW xs.length Pv,⟨_,Nat.zero_le _,rfl,h0⟩,fun i m σ' H' w => ?_⟩
 obtain ⟨hi,rfl,hp⟩ := w
 have q:=hl i σ' H' hi hp
 by_cases hlt:i<xs.length
 ·refine .inr ⟨⟨xs,xs[i],q,by simp [hlt]⟩,fun x H2 y => ?_⟩
  obtain ⟨e,y⟩ := y
  subst e
  exact hs i x σ' _ hlt (y xs q) hp
 ·have e:i=xs.length:=by (first|lia|omega)
  subst e
  exact .inl ⟨⟨xs,q,Nat.le_refl _⟩,hd σ' H' hp⟩
theorem takeM_ok {ns:List Int} {p:Nat} {n:Int} (h:takeM ns p = .ok n):ns[p]? = some n:=by
 unfold takeM at h
 cases e:ns[p]? with
 | none=>rw [e] at h; cases h
 | some m=>rw [e] at h; cases h; rfl
theorem own_at {ns:List Int} {hs:Hds} {boxes k:Int} {p:Nat} {own:List Int} (h0 : 0<=k) (h:ownM ns hs boxes k p = .ok own) :
  ((k<5\/k=6)/\∃ n,own=[n]/\ns[p]? = some n)\/(¬ (k<5\/k=6)/\own=[]):=by
 unfold ownM at h
 by_cases c0:k=0
 ·rw [if_pos c0] at h; obtain ⟨n,e,rfl⟩ := jB h; exact .inl ⟨by (first|lia|omega),n,rfl,takeM_ok e⟩
 rw [if_neg c0] at h
 by_cases c1:k=1\/k=2
 ·rw [if_pos c1] at h; obtain ⟨n,e,rfl⟩ := jB h; exact .inl ⟨by (first|lia|omega),n,rfl,(yA e).1⟩
 rw [if_neg c1] at h
 by_cases c3:k=3
 ·rw [if_pos c3] at h; obtain ⟨n,e,rfl⟩ := jB h; exact .inl ⟨by (first|lia|omega),n,rfl,(yA e).1⟩
 rw [if_neg c3] at h
 by_cases c4:k=4
 ·rw [if_pos c4] at h; obtain ⟨n,e,rfl⟩ := jB h; exact .inl ⟨by (first|lia|omega),n,rfl,(yA e).1⟩
 rw [if_neg c4] at h
 by_cases c6:k=6
 ·rw [if_pos c6] at h; obtain ⟨n,e,rfl⟩ := jB h; exact .inl ⟨by (first|lia|omega),n,rfl,(yA e).1⟩
 rw [if_neg c6] at h
 cases h
 exact .inr ⟨by (first|lia|omega),rfl⟩
theorem headsM_at {ns:List Int}:∀ {n:Nat} {most:Int} {p:Nat} {hs:Hds},headsM ns n most p = .ok hs->∀ (i:Nat) (h:Int × Int),hs[i]? = some h->ns[p+2 * i]? = some h.1/\ns[p+2 * i+1]? = some h.2
 | 0,_,_,_,e,i,h,q=>by cases e; simp at q
 | n+1,most,p,hs,e,i,h,q=>by
  unfold headsM at e
  cases e1:withinM ns p 0 most with
  | error b=>rw [e1] at e; cases e
  | ok a =>
   rw [e1] at e; simp only at e
   cases e2:withinM ns (p+1) a 12 with
   | error b=>rw [e2] at e; cases e
   | ok c =>
    rw [e2] at e; simp only at e
    cases e3:headsM ns n 4 (p+2) with
    | error b=>rw [e3] at e; cases e
    | ok r =>
     rw [e3] at e; cases e
     cases i with
     | zero=>cases q; exact ⟨(yA e1).1,(yA e2).1⟩
     | succ i =>
      have:=headsM_at e3 i h (by simpa using q)
      rw [show p+2 * (i+1)=p+2+2 * i by (first|lia|omega)]
      exact this
theorem node_ok {ns:List Int} {hs:Hds} {boxes:Int} {d p z:Nat} {nd:Nd} (h:nodeM ns hs boxes (d+1) p = .ok (nd,z)) :
  ∃ k own ps,nd = .mk k p own ps/\0<=k/\k<=19/\ns[p]? = some k/\ownM ns hs boxes k (p+1) = .ok own/\partsM (nodeM ns hs boxes d) (dueM hs k own).toNat (p+1+own.length) = .ok (ps,z):=by
 unfold nodeM at h
 cases e1:withinM ns p 0 19 with
 | error b=>rw [e1] at h; cases h
 | ok k =>
  rw [e1] at h; simp only at h
  cases e2:ownM ns hs boxes k (p+1) with
  | error b=>rw [e2] at h; cases h
  | ok own =>
   rw [e2] at h; simp only at h
   cases e3:partsM (nodeM ns hs boxes d) (dueM hs k own).toNat (p+1+own.length) with
   | error b=>rw [e3] at h; cases h
   | ok r =>
    rw [e3] at h; cases h
    obtain ⟨a,b,c⟩ := yA e1
    exact ⟨k,own,r.1,rfl,b,c,a,e2,e3⟩
theorem parts_ok {f:Nat->Except Bad (Nd × Nat)}:∀ {n p z:Nat} {ps:List Nd},partsM f n p = .ok (ps,z)->ps.length=n
 | 0,_,_,_,h=>by cases h; rfl
 | n+1,p,z,ps,h=>by
  unfold partsM at h
  cases e1:f p with
  | error b=>rw [e1] at h; cases h
  | ok a =>
   rw [e1] at h; simp only at h
   cases e2:partsM f n a.2 with
   | error b=>rw [e2] at h; cases h
   | ok r=>rw [e2] at h; cases h; simp [parts_ok (show partsM f n a.2 = .ok (r.1,r.2) from e2)]
theorem parts_cons {f:Nat->Except Bad (Nd × Nat)} {n p z:Nat} {a:Nd} {ps:List Nd} (h:partsM f (n+1) p = .ok (a :: ps,z)):∃ q,f p = .ok (a,q)/\partsM f n q = .ok (ps,z):=by
 unfold partsM at h
 cases e1:f p with
 | error b=>rw [e1] at h; cases h
 | ok a =>
  rw [e1] at h; simp only at h
  cases e2:partsM f n a.2 with
  | error b=>rw [e2] at h; cases h
  | ok r=>rw [e2] at h; cases h; exact ⟨a.2,rfl,e2⟩
theorem parts_nil {f:Nat->Except Bad (Nd × Nat)} {n p z:Nat} (h:partsM f n p = .ok ([],z)):n=0/\z=p:=by
 cases n with
 | zero=>cases h; exact ⟨rfl,rfl⟩
 | succ n=>have:=parts_ok h; simp at this
theorem at_lt {ns:List Int} {p:Nat} {n:Int} (h:ns[p]? = some n):p<ns.length:=(List.getElem?_eq_some_iff.mp h).1
theorem parts_le {f:Nat->Except Bad (Nd × Nat)} {L:Nat} (hf:∀ p nd z,f p = .ok (nd,z)->p<z/\z<=L):∀ {n p z:Nat} {ps:List Nd},p<=L->partsM f n p = .ok (ps,z)->p<=z/\z<=L
 | 0,_,_,_,hp,h=>by cases h; exact ⟨Nat.le_refl _,hp⟩
 | n+1,p,z,ps,hp,h=>by
  cases ps with
  | nil=>exact absurd (parts_nil h).1 (by (first|lia|omega))
  | cons a ps =>
   obtain ⟨q,e1,e2⟩ := parts_cons h
   have:=hf _ _ _ e1
   have:=parts_le hf (by (first|lia|omega)) e2
   (first|lia|omega)
theorem node_le {ns:List Int} {hs:Hds} {boxes:Int}:∀ {d p z:Nat} {nd:Nd},nodeM ns hs boxes d p = .ok (nd,z)->p<z/\z<=ns.length
 | 0,_,_,_,h=>by cases h
 | d+1,p,z,nd,h=>by
  obtain ⟨k,own,ps,rfl,k0,k1,ek,eo,ep⟩ := node_ok h
  have h1:=at_lt ek
  have h2:p+1+own.length<=ns.length:=by
   rcases own_at k0 eo with ⟨_,n,rfl,en⟩ | ⟨_,rfl⟩
   ·have:=at_lt en; simp; (first|lia|omega)
   ·simp; (first|lia|omega)
  have:=parts_le (fun p nd z e=>node_le (d:=d) e) h2 ep
  (first|lia|omega)
theorem bodies_le {ns:List Int} {hs:Hds}:∀ {todo:Hds} {p z:Nat} {nds:List Nd},p<=ns.length->bodiesM ns hs todo p = .ok (nds,z)->z<=ns.length/\nds.length=todo.length
 | [],_,_,_,hp,h=>by cases h; exact ⟨hp,rfl⟩
 | x :: todo,p,z,nds,hp,h=>by
  unfold bodiesM at h
  cases e1:nodeM ns hs x.2 10 p with
  | error b=>rw [e1] at h; cases h
  | ok y =>
   rw [e1] at h; simp only at h
   cases e2:bodiesM ns hs todo y.2 with
   | error b=>rw [e2] at h; cases h
   | ok u =>
    rw [e2] at h; cases h
    have:=bodies_le (node_le (show nodeM ns hs x.2 10 p = .ok (y.1,y.2) from e1)).2 (show bodiesM ns hs todo y.2 = .ok (u.1,u.2) from e2)
    exact ⟨this.1,by simp [this.2]⟩
theorem heads_le {ns:List Int} {hs:Hds} (h:headsAllM ns = .ok hs) : 1+2 * hs.length<=ns.length:=by
 obtain ⟨_,_,l1,_,e⟩ := headsAllM_ok h
 have q:hs[hs.length - 1]? = some hs[hs.length - 1]:=List.getElem?_eq_getElem (by (first|lia|omega))
 have:=at_lt (headsM_at e _ _ q).2
 (first|lia|omega)
theorem fns_ok {ns:List Int} {r:Hds × List Nd} (h:functionsM ns = .ok r):headsAllM ns = .ok r.1/\bodiesM ns r.1 r.1 (1+2 * r.1.length) = .ok (r.2,ns.length)/\r.2.length=r.1.length:=by
 unfold functionsM at h
 cases e1:headsAllM ns with
 | error b=>rw [e1] at h; cases h
 | ok hs =>
  rw [e1] at h; simp only at h
  cases e2:bodiesM ns hs hs (1+2 * hs.length) with
  | error b=>rw [e2] at h; cases h
  | ok z =>
   rw [e2] at h; simp only at h
   have le:=bodies_le (heads_le e1) (show bodiesM ns hs hs (1+2 * hs.length) = .ok (z.1,z.2) from e2)
   by_cases c:z.2<ns.length
   ·rw [if_pos c] at h; cases h
   ·rw [if_neg c] at h
    cases h
    refine ⟨rfl,?_,le.2⟩
    show bodiesM ns hs hs (1+2 * hs.length)=_
    have:ns.length=z.2:=by (first|lia|omega)
    rw [e2,this]
noncomputable def tableM:List Int:=[0,0,1,0,0,2,0,1,2,2,2,2,2,2,2,2,2,3,1,0]
theorem tabM_all:∀ n:Fin 20,n.1=3\/n.1=4\/n.1=6\/atI (tableM.map V.int) (n.1:Int)=some (.int (dueM [] (n.1:Int) [])):=by decide +kernel
theorem many_table {hs:Hds} {k:Int} {own:List Int} (h0 : 0<=k) (h1:k<=19) (n3:k≠3) (n4:k≠4) (n6:k≠6):atI (tableM.map V.int) k=some (.int (dueM hs k own)):=by
 obtain ⟨n,rfl⟩ : ∃ n:Nat,k=n:=⟨k.toNat,by (first|lia|omega)⟩
 have e:=((tabM_all ⟨n,by (first|lia|omega)⟩).resolve_left (by show ¬ n=3; (first|lia|omega))).resolve_left (by show ¬ n=4; (first|lia|omega)) |>.resolve_left (by show ¬ n=6; (first|lia|omega))
 exact e.trans (congrArg (fun v=>some (V.int v)) (due_any n3 n4 n6))
theorem bodies_cons {ns:List Int} {hs todo:Hds} {h:Int × Int} {p z:Nat} {nds:List Nd} (e:bodiesM ns hs (h :: todo) p = .ok (nds,z)):∃ nd r q,nds=nd :: r/\nodeM ns hs h.2 10 p = .ok (nd,q)/\bodiesM ns hs todo q = .ok (r,z):=by
 unfold bodiesM at e
 cases e1:nodeM ns hs h.2 10 p with
 | error b=>rw [e1] at e; cases e
 | ok y =>
  rw [e1] at e; simp only at e
  cases e2:bodiesM ns hs todo y.2 with
  | error b=>rw [e2] at e; cases e
  | ok u=>rw [e2] at e; cases e; exact ⟨y.1,u.1,y.2,rfl,rfl,e2⟩
end L2

namespace L2
open PySem PySem.Spec PyProof.Rows PySem.W
theorem ns_ok {K:Frag} {N:Addr} {c:Value} {d:Option Addr} {es:Array DictEntry} {n:Nat} {sl:Array (Option Value)} (h:K.lookup N=some ⟨c,d,.dict es n,sl⟩) (q:(es.toList.all fun e=>match e.key with | .str _ _=>true | _=>false)=true):nsOkIn K N=true:=by
 unfold nsOkIn
 rw [h]
 rw [Array.all_toList] at q
 exact q
theorem exc_tail {K:Frag} {CE nsC:Addr} {c:Value} {dd:Option Addr} {cd:ClassData} {sl:Array (Option Value)} (h:K.lookup CE=some ⟨c,dd,.cls cd,sl⟩) (hn:cd.ns=nsC) (ok:nsOkIn K nsC=true) (ni:nsIn K nsC "__init__" = some none) (h':Heap) (X:K.In h'):OwnTail h' bmValue (.ref CE :: bmValue):=by
 subst hn
 exact .own (X _ _ h) (.of_isNs (isNs_of_in X ok)) (nsMap_none_of_in X ok ni) .base
theorem exc_cd {K:Frag} {C CE N:Addr} {nm q:Str} {bs:List Value} {sn:List Str} {sub:List Value} {ab:Bool} {col:Option Bool} {dd:Option Addr} {k0 k1 k2 k3 k5:Option Value} {newId:String} (h:K.lookup C=some (excClassObj nm q C N bs (.ref CE :: bmValue) true sn sub ab col dd k0 k1 k2 k3 k5 newId)) :
  ∃ cd,clsIn K C=some cd/\cd.hasDict=true/\∀ self,refuseLoop self "__setattr__" cd.mro=pure ():=by
 refine ⟨_,by unfold clsIn; rw [h],rfl,fun self => ?_⟩
 show refuseLoop self "__setattr__" (.ref C :: .ref CE :: bmValue)=_
 rw [refuseLoop_ref,refuseLoop_ref]
 exact F.store_ValueError.passes self
theorem fn_false {P:Program} {w:World} {K:Frag} {mg:Str->Option Value} {base:Heap} {CX:CXT} {k:Nat} {f:Addr} {fd:FuncData} {ps:List Str}:FnOk P w K mg base CX k f fd ps (fun _ _ _ _=>False) :=
 ⟨fun _ _ _ _ z=>z.elim,fun _ _ _ _ _ _ _ _ _ _ _ _ _ z=>z.elim⟩
theorem zX {CX:CXT} {P:Program} {w:World} {K:PySem.W.Frag} {mg:Str->Option Value} {base:Heap} {N:List Str} {qual:Str} {scope:Scope} {f:Addr} {cd:Value} {A:Around} {outer:List Env} {s:Shared} {H:Hp} {E:XK} :
  (cxOf CX P w K mg base N qual scope f cd A outer s H E).K=K:=rfl
noncomputable def Dg (K:Frag) (g x q:Str) (st:Stmt) (f:Addr):Prop:=nsIn K mainGlobals g=some (some (.ref f))/\∃ fd,Fun K x q st f fd
noncomputable def Dm (K:Frag) (c:Addr) (x q:Str) (st:Stmt) (f:Addr):Prop:=findIn K (.ref c) x=some (some (.ref f))/\∃ fd,Fun K x q st f fd
theorem dg_mk {K:Frag} {g x q:Str} {st:Stmt} {f:Addr} {oc:Value} {od an:Option Addr} {osl:Array (Option Value)} {kV doc pm cdv ct:Value} (a:nsIn K mainGlobals g=some (some (.ref f))) (l:K.lookup f=some ⟨oc,od,.func (fnOf x q (defArgs st) (defBody st) (defScope st) .none kV doc pm an cdv ct),osl⟩) (c:codeIn K cdv q=true) (k:keepIn K (.ref f)=true):Dg K g x q st f :=
 ⟨a,_,fun_mk l c k⟩
theorem dm_mk {K:Frag} {C:Addr} {x q:Str} {st:Stmt} {f:Addr} {oc:Value} {od an:Option Addr} {osl:Array (Option Value)} {kV doc pm cdv ct:Value} (a:findIn K (.ref C) x=some (some (.ref f))) (l:K.lookup f=some ⟨oc,od,.func (fnOf x q (defArgs st) (defBody st) (defScope st) .none kV doc pm an cdv ct),osl⟩) (c:codeIn K cdv q=true) (k:keepIn K (.ref f)=true):Dm K C x q st f :=
 ⟨a,_,fun_mk l c k⟩
theorem jF {us:List Value} {n:Nat} (h:us.length=n+1):∃ u r,us=u :: r/\r.length=n:=by
 cases us with
 | nil=>cases h
 | cons u r=>exact ⟨u,r,rfl,Nat.succ.inj h⟩
theorem len_nil {us:List Value} (h:us.length=0):us=[]:=List.length_eq_zero_iff.mp h
theorem Fun.b1 {K:Frag} {x q:Str} {st:Stmt} {f:Addr} {fd:FuncData} (F:Fun K x q st f fd) (p0:Str) (h:∀ (kV doc pm:Value) (an:Option Addr) (cdv ct:Value) (u0:Value),bindArgs (fnOf x q (defArgs st) (defBody st) (defScope st) .none kV doc pm an cdv ct) ⟨[u0],[]⟩=pure [(p0,u0)]):Binds K fd [p0] [] :=
 F.binds fun a b c d e g us hl=>by
  obtain ⟨u0,r0,rfl,h0⟩ := jF hl
  cases len_nil h0
  exact h a b c d e g u0
theorem Fun.b2 {K:Frag} {x q:Str} {st:Stmt} {f:Addr} {fd:FuncData} (F:Fun K x q st f fd) (p0 p1:Str) (h:∀ (kV doc pm:Value) (an:Option Addr) (cdv ct:Value) (u0 u1:Value),bindArgs (fnOf x q (defArgs st) (defBody st) (defScope st) .none kV doc pm an cdv ct) ⟨[u0,u1],[]⟩=pure [(p0,u0),(p1,u1)]):Binds K fd [p0,p1] [] :=
 F.binds fun a b c d e g us hl=>by
  obtain ⟨u0,r0,rfl,h0⟩ := jF hl
  obtain ⟨u1,r1,rfl,h1⟩ := jF h0
  cases len_nil h1
  exact h a b c d e g u0 u1
theorem Fun.b3 {K:Frag} {x q:Str} {st:Stmt} {f:Addr} {fd:FuncData} (F:Fun K x q st f fd) (p0 p1 p2:Str) (h:∀ (kV doc pm:Value) (an:Option Addr) (cdv ct:Value) (u0 u1 u2:Value),bindArgs (fnOf x q (defArgs st) (defBody st) (defScope st) .none kV doc pm an cdv ct) ⟨[u0,u1,u2],[]⟩=pure [(p0,u0),(p1,u1),(p2,u2)]):Binds K fd [p0,p1,p2] [] :=
 F.binds fun a b c d e g us hl=>by
  obtain ⟨u0,r0,rfl,h0⟩ := jF hl
  obtain ⟨u1,r1,rfl,h1⟩ := jF h0
  obtain ⟨u2,r2,rfl,h2⟩ := jF h1
  cases len_nil h2
  exact h a b c d e g u0 u1 u2
theorem Fun.b4 {K:Frag} {x q:Str} {st:Stmt} {f:Addr} {fd:FuncData} (F:Fun K x q st f fd) (p0 p1 p2 p3:Str) (h:∀ (kV doc pm:Value) (an:Option Addr) (cdv ct:Value) (u0 u1 u2 u3:Value),bindArgs (fnOf x q (defArgs st) (defBody st) (defScope st) .none kV doc pm an cdv ct) ⟨[u0,u1,u2,u3],[]⟩=pure [(p0,u0),(p1,u1),(p2,u2),(p3,u3)]):Binds K fd [p0,p1,p2,p3] [] :=
 F.binds fun a b c d e g us hl=>by
  obtain ⟨u0,r0,rfl,h0⟩ := jF hl
  obtain ⟨u1,r1,rfl,h1⟩ := jF h0
  obtain ⟨u2,r2,rfl,h2⟩ := jF h1
  obtain ⟨u3,r3,rfl,h3⟩ := jF h2
  cases len_nil h3
  exact h a b c d e g u0 u1 u2 u3
theorem Fun.law {K:Frag} {x q:Str} {st:Stmt} {f:Addr} {fd:FuncData} (F:Fun K x q st f fd) (p:Str) (h:∀ (kV doc pm:Value) (an:Option Addr) (cdv ct v:Value),bindArgs (fnOf x q (defArgs st) (defBody st) (defScope st) .none kV doc pm an cdv ct) ⟨[v],[]⟩=pure [(p,v)]) (s:Shared) (v:Value):BindsTo s fd ⟨[v],[]⟩ [(p,v)]:=by
 obtain ⟨oc,od,kV,doc,pm,an,cdv,ct,osl,rfl,lk,hcd⟩ := F.ex
 exact .of_eq (h kV doc pm an cdv ct v)
theorem Cl {P:Program} {w:World} {K:Frag} {h:Heap} {mg:Str->Option Value} {base:Heap} {CX:CXT} (X:K.In h) (G:h.Ns mainGlobals mg) {x q g:Str} {st:Stmt} {f:Addr} {fd:FuncData} {k:Nat} {ps:List Str} {sp:Sp} (a:nsIn K mainGlobals g=some (some (.ref f))) (F:Fun K x q st f fd) (b:Binds K fd ps []) (o:FnOk P w K mg base CX k f fd ps sp):Cal P w K mg base CX k g ps sp :=
 ⟨⟨_,_,o,mg_of X G a,F.kp,b⟩⟩
end L2

namespace L2
open PySem PySem.Spec PyProof.Rows
namespace Rv
theorem owner:Manifest.owners.lookup (String.ofList ['d','e','s','r','e','v','e','r'].reverse)=some Manifest.sig_reversed:=by kernel_rfl
theorem slot_init:Slot "reversed" "__init__" "object.__init__" :=
 .of (owner := "object") (n := "__init__") (by rw [typeLookup_type,builtinLookup_eq_fast]; kernel_rfl) (by decide +kernel) (by decide +kernel) (by decide +kernel)
  (by first | exact .inl (by decide +kernel) | exact .inr (by decide +kernel)) (by rw [isSubtype_type]; kernel_rfl)
theorem called:TypeCalled "reversed" "reversed.__new__" "object.__init__" :=
 ⟨by decide +kernel,by decide +kernel,⟨_,_,F.mro_reversed⟩,F.made_reversed,by decide +kernel,by rw [isSubtype_type]; kernel_rfl,slot_init⟩
end Rv
end L2

namespace L2
open PySem PySem.Spec PyProof.Rows
section
variable {prog:Program} {w:World} {A:Around} {E:Value->Shared->Prop} {s:Shared}
end
end L2

namespace L2
open PySem
mutual
noncomputable def pre:Nd->List Nd
 | .mk k p own ps => .mk k p own ps :: preL ps
noncomputable def preL:List Nd->List Nd
 | []=>[]
 | a :: r=>pre a++preL r
end
theorem Paired.append {α β:Type} {F : α->β->Prop}:∀ {xs zs:List α} {ys ws:List β},Paired F xs ys->Paired F zs ws->Paired F (xs++zs) (ys++ws)
 | _,_,_,_,.nil,q=>q
 | _,_,_,_,.cons r t,q => .cons r (Paired.append t q)
theorem Same.fresh {H H':Hp} {p:Addr} {o:HO} (s:Same H H') (h:H p=none):Same H (upd H' p o):=fun b u e=>by rw [zK (zO e h)]; exact s b u e
section
open PySem.Spec PyProof.Rows
variable {X:Cx} {e:Expr} {st:Option Expr} {te:TE} {ts:TO} {p2 pos:Pos}
end
theorem own_sub {ns:List Int} {hs:Hds} {boxes k:Int} {p:Nat} {own:List Int} (k0 : 0<=k) (h:ownM ns hs boxes k p = .ok own):Sub ns p own:=by
 rcases own_at k0 h with ⟨_,n,rfl,e⟩ | ⟨_,rfl⟩
 ·exact ⟨e,trivial⟩
 ·exact trivial
theorem take_sub {ns:List Int}:∀ {zs:List Int} {p:Nat},Sub ns p zs->ns.take (p+zs.length)=ns.take p++zs
 | [],p,_=>by simp
 | z :: zs,p,h=>by
  have:=take_sub h.2
  rw [show p+(z :: zs).length=p+1+zs.length by simp; (first|lia|omega),this,List.take_add_one,h.1]
  simp
theorem pg_tupK {X:Cx} {pos:Pos} {es:List Expr} {k:Nat} {t:TGs} {n:Nat} (K:PySem.W.Frag) (hK:X.K=K) (hc:X.calm=true) (h:PGs X es t) (hn:(assignEach es X.env).length=n:=by rfl) (hst:(assignEach es X.env).findIdx? (·.1)=none:=by rfl):PG X (.Tuple es k pos) (gTup K n t):=by
 subst hK
 exact xS hc h hn hst
end L2

namespace L2
open PySem
end L2

namespace L2
open PySem PySem.Spec PyProof.Rows
end L2

namespace L2
open PySem PySem.Spec PyProof.Rows
theorem small_step {a b c:Int} (hc:c=2\/c=3) (ha : -(2 ^ 62)<=a) (ha':a<2 ^ 62) (hb : -(2 ^ 62)<=b) (hb':b<2 ^ 62):Builtin.Range.small a b c=true:=by
 unfold Builtin.Range.small Builtin.Range.rangeSize
 rcases hc with e | e <;> subst e <;> simp only [Builtin.Range.rangeFitsLong,Bool.and_eq_true,Bool.or_eq_true,decide_eq_true_eq,beq_iff_eq,show ((2:Int) > 0) by decide,show ((3:Int) > 0) by decide,if_true] <;> split <;> (first|lia|omega)
noncomputable def Itp (lo c:Int) (n:Nat):It:=⟨fun i _=>i<n,fun i H x H'=>H'=H/\x = .int (lo+i * c),fun i _=>n<=i⟩
theorem turn_step {P:Program} {w:World} {K:PySem.W.Frag} {tg:Expr} (it:Addr) (lo c:Int) (n:Nat):Turn P w K tg (Itp lo c n) [it] it (fun i h=>IsRangeIter h it (lo+(i:Nat) * c) ((n:Int) - (i:Nat)) c) where
 mem:=by simp
 obj:=fun i h st b hb=>by
  have e:b=it:=by simpa using hb
  subst e
  exact ⟨_,st,fun v z=>by
   have z':Data.fields _=Data.cell v:=z
   cases z'⟩
 keep:=fun i h h' st k=>k it (by simp) _ st
 item:=by
  intro X hP hw hK hc i pins s σ H E I hf st hg
  subst hP hw hK
  obtain ⟨f0,f1,f2,f3,f4,f5⟩ := hf it (by simp)
  have W:=Walks.range (prog:=X.prog) (w:=X.w) (I.ok.hd hc) it lo c n
  refine W.item i s _ _ hg st fun v h' tk hv st' kk => ?_
  obtain ⟨t,rfl⟩ := hv
  have I1:Inv X pins σ H { s with heap:=h',toks:=tk }:=I.turned (fun b o hb e=>kk b o (by simpa using hb) e) f0 f1 f3 f4 f5
  refine ⟨_,rfl,go_of (s:={ s with heap:=h',toks:=tk }) (n := "range_iterator") st' rfl rfl (by decide) ⟨.int (lo+i * c),H,I1,⟨t,rfl⟩,⟨rfl,rfl⟩,st',fun b hb=>(hf b hb).1⟩⟩
 done:=by
  intro X hP hw hK hc i pins s σ H E I hf st hg
  subst hP hw hK
  obtain ⟨f0,f1,f2,f3,f4,f5⟩ := hf it (by simp)
  exact wpAny_pyNext_range_end (I.ok.hd hc) st (by have:n<=i:=hg; (first|lia|omega)) fun h' eb=>⟨rfl,I.turned (t':=s.toks) (fun b o hb e=>eb b o hb e) f0 f1 f3 f4 f5⟩
 self:=fun _ _ _ _ _ st h=>wpAny_pyIter_rangeiter st h
inductive iStepR  (vs:List V) (H1:Hp) (R:It->Hp->Prop):Prop
 | mk (i j c:Int) (n:Nat) (h0:vs=[.int i,.int j,.int c]) (h1:(-(2 ^ 62)<=i/\i<2 ^ 62 /\ -(2 ^ 62)<=j/\j<2 ^ 62)) (h2:(c=2\/c=3)) (h3:Builtin.Range.rangeSize i j c=(n:Int)) (h4:R (Itp i c n) H1):iStepR vs H1 R
noncomputable def iStep (ta:TA):TI:=fun σ H R=>ta σ H fun vs H1=>iStepR vs H1 R
theorem pi_step {X:Cx} {tg a b c:Expr} {ta:TA} {p pos:Pos} (hg:Gl X "range") (hm:X.mg "range" = none) (ha:PA X [a,b,c] ta) (hs:starEach [a,b,c] X.env=(false,eval a X.env) :: starEach [b,c] X.env:=by rfl) (hpl:(backTo pos (starEach [b,c] X.env)).any (·.1)=false:=by rfl) :
  PI X tg (.Call (.Name "range" p) [a,b,c] [] pos) (iStep ta):=by
 refine ⟨?_⟩
 intro pins s σ H R I h
 refine Call_ (ld_blt I hg hm boot_range (PyProof.Rows.callWith_type1 (thn (ha pos pins s σ H _ I h) fun us s1 ⟨vs,H1,I1,r1,q1⟩ => ?_) hs hpl))
 obtain ⟨i,j,c,n,e,⟨q1,q2,q3,q4⟩,hc,hn,q⟩ := q1
 subst e
 cases r1 with
 | cons r rr =>
  cases rr with
  | cons r' rr =>
   cases rr with
   | cons r'' rr =>
    cases rr
    obtain ⟨t,rfl⟩ := r
    obtain ⟨t',rfl⟩ := r'
    obtain ⟨t'',rfl⟩ := r''
    refine call_range_3 (by (first|lia|omega)) ?_ (.inl (PyProof.noPylong_small (by (first|lia|omega))))
    refine wpAny_pyIter_range (IsRange.new ..) (small_step hc q1 q2 q3 q4) ?_
    have I2:Inv X pins σ H1 { s1 with heap:=s1.heap.push { cls:=.type "range",data:=.fields #[.int i t,.int j t',.int c t''] },toks:=s1.toks }:=I1.kept fun b o e=>Heap.get?_push_of_some _ e
    refine ⟨_,[_],_,_,H1,rfl,I2.kept (t':=s1.toks) fun b o e=>Heap.get?_push_of_some _ e,turn_step _ i c n,?_,fun b hb => ?_,q⟩
    ·have e1:i+((0:Nat):Int) * c=i:=by simp
     show IsRangeIter _ _ (i+((0:Nat):Int) * c) ((n:Int) - ((0:Nat):Int)) c
     rw [e1,Int.natCast_zero,Int.sub_zero,<- hn]
     exact Heap.get?_push_size _ rfl
    ·have e:=List.mem_singleton.mp hb
     subst e
     exact I2.fpOk (Nat.le_refl _) (I2.hok.fresh (Nat.le_refl _))
theorem comp_step {lo c:Int} {n:Nat} {g:TG} {tt:TT} {te:TE} {R:Hp->Prop} {p:Addr} {σ0:St} {H0:Hp} (Pv:Nat->St->Hp->Prop) (h0:Pv 0 σ0 H0)
  (hs:∀ i σ H,i<n->Pv i σ H->g (.int (lo+(i:Nat) * c)) σ H fun σ3 H3=>tt σ3 H3 fun b H4 =>
   if b=true then te σ3 H4 fun v H5=>∃ ys,H5 p=some (.lst ys)/\ys.length<sizeLine/\∃ m',m'<n - i/\CW n Pv (i+1) m' σ3 (upd H5 p (.lst (ys++[v])))
   else ∃ m',m'<n - i/\CW n Pv (i+1) m' σ3 H4)
  (hd:∀ σ H,Pv n σ H->R H):CompGo (Itp lo c n) p σ0 H0 g tt te R:=by
 refine ⟨CW n Pv,⟨_,Nat.zero_le _,rfl,h0⟩,fun i m σ' H' w => ?_⟩
 obtain ⟨hi,rfl,hp⟩ := w
 by_cases hlt:i<n
 ·refine .inr ⟨hlt,fun x H2 y => ?_⟩
  obtain ⟨e,y⟩ := y
  subst e y
  exact hs i σ' _ hlt hp
 ·have e:i=n:=by (first|lia|omega)
  subst e
  exact .inl ⟨Nat.le_refl _,hd σ' H' hp⟩
end L2

namespace L2
open PySem PySem.Spec PyProof.Rows
theorem range_all:∀ (bs:List Bool),(List.range bs.length).all (fun i=>bs.getD i true)=bs.all id:=by
 intro bs
 rw [Bool.eq_iff_iff,List.all_eq_true,List.all_eq_true]
 constructor
 ·intro h b hb
  obtain ⟨i,hi⟩ := List.mem_iff_getElem?.mp hb
  have hl:=(List.getElem?_eq_some_iff.mp hi).1
  have:=h i (List.mem_range.mpr hl)
  rw [List.getD_eq_getElem?_getD,hi] at this
  exact this
 ·intro h i hi
  have hl:=List.mem_range.mp hi
  have e:=List.getElem?_eq_getElem hl
  rw [List.getD_eq_getElem?_getD,e]
  exact h _ (List.getElem_mem hl)
section
variable {X:Cx}
theorem call_all (hc:X.calm=true):CallR X (.builtin "all") (fun xs H Q=>∃ (p:Addr) (bs:List Bool),xs=[.ref p]/\SqL X.K H p (bs.map V.bl)/\Q (.bl (bs.all id)) H):=by
 intro pins s σ H xs us Q I r h
 obtain ⟨p,bs,rfl,hq,q⟩ := h
 obtain ⟨u,rfl,ru⟩ := vals1 r
 cases ru
 obtain ⟨its,rv,pl,hz⟩ := I.list hq
 have hlen:=rv.length
 rw [List.length_map] at hlen
 refine call_all_walk (wpAny_pyIter_list pl.isList ?_)
 have hp:p<s.heap.objs.size:=by
  obtain ⟨o,ho,_⟩ := pl.isList
  exact Heap.lt_size ho
 refine ⟨s.heap.objs.size,[s.heap.objs.size,p],[s.heap.objs.size],its.toArray.size,_,_,fun i=>bs.getD i true,rfl,Walks.list (A:=X.A.in1) (I.ok.hd hc) _ p (Nat.ne_of_lt hp) its.toArray,⟨⟨_,Heap.get?_push_size _ rfl,rfl,rfl⟩,pl.isList.at fun o e=>Heap.get?_push_of_some _ e⟩,?_,fun h' tk hk => ?_⟩
 ·intro i v s1 Q1 E1 hv h1
  have hv':its[i]? = some v:=by simpa using hv
  have hi:i<bs.length:=by
   have:=(List.getElem?_eq_some_iff.mp hv').1
   (first|lia|omega)
  have eb:(bs.map V.bl)[i]? = some (.bl bs[i]):=by rw [List.getElem?_map,List.getElem?_eq_getElem hi] <;> rfl
  have rel:=Paired.get rv i _ _ eb hv'
  obtain rfl:v=Value.bool bs[i]:=rel
  have:bs.getD i true=bs[i]:=by rw [List.getD_eq_getElem?_getD,List.getElem?_eq_getElem hi] <;> rfl
  have h2:Q1 (bs.getD i true) s1:=h1
  rw [this] at h2
  exact wpAny_pure h2
 ·have e:(List.range its.toArray.size).all (fun i=>bs.getD i true)=bs.all id:=by
   rw [List.size_toArray,<- hlen]; exact range_all bs
  rw [e]
  refine ⟨.bl (bs.all id),H,I.kept (t':=tk) fun b o eb=>hk b o ?_ (Heap.get?_push_of_some _ eb),rfl,q⟩
  intro z
  have:=Heap.lt_size eb
  rw [List.mem_singleton.mp z] at this
  exact Nat.lt_irrefl _ this
noncomputable def rIsiT (K:PySem.W.Frag):List V->Hp->VK->Prop:=fun xs H Q=>∃ (a tp:Addr) (ns:List String) (b:Bool) (T:String),xs=[.ref a,.ref tp]/\H tp=some (.tup (ns.map V.ty))/\((T = "list" /\ ∃ ys,SqL K H a ys)\/(T = "tuple" /\ ∃ ys,SqT K H a ys))/\PySem.W.kitAny K (.type T) (ns.map Value.type)=some b/\Q (.bl b) H
theorem vals_ty:∀ {ns:List String} {us:List Value},Vals (ns.map V.ty) us->us=ns.map Value.type
 | [],_,.nil=>rfl
 | n :: ns,_,.cons h t=>by
  rw [vals_ty t,List.map_cons]
  congr 1
theorem call_isiT:CallR X (.builtin "isinstance") (rIsiT X.K):=by
 intro pins s σ H xs us Q I r h
 obtain ⟨a,tp,ns,b,T,rfl,ht,hx,e,q⟩ := h
 obtain ⟨u,w',rfl,ru,rw'⟩ := vals2 r
 cases ru; cases rw'
 obtain ⟨_,its2,r2,p⟩ := (show ObjOk X.prog X.w H s.heap tp (.tup (ns.map V.ty)) from I.hok tp _ ht)
 obtain ⟨⟨oc,od,oda,osl⟩,h1,h2,n2,h3⟩ := p
 dsimp only at h2 h3
 subst h2 h3
 have hv:=vals_ty r2
 subst hv
 rcases hx with ⟨rfl,ys,hq⟩ | ⟨rfl,ys,hq⟩
 ·obtain ⟨its,rv,pl,hz⟩ := I.list hq
  obtain ⟨o,ho,hcl⟩ := pl.isList
  exact PySem.W.kia_tup PySem.W.kitx_list I.kIn ⟨o,ho,hcl.1⟩ h1 e (fun z=>nomatch z) fun tk=>⟨.bl b,H,I.tok tk,rfl,q⟩
 ·obtain ⟨its,rv,pl,hz⟩ := I.tuple hq
  obtain ⟨o,ho,hcl,_⟩ := pl
  exact PySem.W.kia_tup PySem.W.kitx_tuple I.kIn ⟨o,ho,hcl⟩ h1 e (fun z=>nomatch z) fun tk=>⟨.bl b,H,I.tok tk,rfl,q⟩
end
end L2

namespace L2
open PySem PySem.Spec PyProof.Rows
theorem bt_enumerate:bootBuiltins "enumerate" = some (.type "enumerate"):=by decide +kernel
theorem Inv.turned2 {X:Cx} {pins:List (Addr × Obj)} {σ:St} {H:Hp} {s:Shared} {h':Heap} {t':Nat} {e it:Addr} (I:Inv X pins σ H s) (k:∀ b o,b≠e->b≠it->s.heap.get? b=some o->h'.get? b=some o) (f:FpOk X pins H e) (g:FpOk X pins H it) :
  Inv X pins σ H { s with heap:=h',toks:=t' }:=by
 obtain ⟨a0,a1,a2,a3,a4,a5⟩ := f
 obtain ⟨b0,b1,b2,b3,b4,b5⟩ := g
 have ne1:∀ b u,H b=some u->b≠e:=fun b u q z=>by rw [z,a0] at q; cases q
 have ne2:∀ b u,H b=some u->b≠it:=fun b u q z=>by rw [z,b0] at q; cases q
 have out:∀ {b:Addr},b ∉ [e,it]->b≠e/\b≠it:=fun {b} hc=>⟨fun z=>hc (by simp [z]),fun z=>hc (by simp [z])⟩
 refine I.step (g':=s.gens) (d':=s.drawn) (ch:=[e,it]) (fun b hb => ?_) (fun b o _ _ hc q _=>k b o (out hc).1 (out hc).2 q) (fun b o _ _ hc q _=>⟨o.slots,k b o (out hc).1 (out hc).2 q⟩) (fun _ _ _ _ n=>n)
  (fun b o hc q=>⟨o,k b o (out hc).1 (out hc).2 q⟩) (fun _ _ q=>q) (fun _ _ _ q=>q) (fun b ps q=>⟨#[],by rw [q]; simp⟩) (fun m hm => ?_) (fun b u q => ?_) I.bare
 ·rcases List.mem_cons.mp hb with z | z
  ·rw [z]; exact ⟨a3,a1,a4,a5⟩
  ·rw [List.mem_singleton.mp z]; exact ⟨b3,b1,b4,b5⟩
 ·obtain ⟨o,es,ep,ho,r⟩ := hm
  exact ⟨o,es,ep,k _ o (Ne.symm a1) (Ne.symm b1) ho,r⟩
 ·refine (I.hok b u q).stay (fun c v hc x=>k c v ?_ ?_ x) (fun _ x=>x) fun _ _ x=>x
  ·rcases hc with z | z
   ·rw [z]; exact ne1 b u q
   ·exact ne1 c _ z
  ·rcases hc with z | z
   ·rw [z]; exact ne2 b u q
   ·exact ne2 c _ z
noncomputable def Ite (K:PySem.W.Frag) (a:Addr):It :=
 ⟨fun i H=>∃ xs x,SqL K H a xs/\xs[i]? = some x,fun i H y H'=>∃ t x,y = .ref t/\H t=none/\H'=upd H t (.tup [.int (i:Nat),x])/\∀ xs,SqL K H a xs->xs[i]? = some x,fun i H=>∃ xs,SqL K H a xs/\xs.length<=i⟩
theorem turn_enum {P:Program} {w:World} {K:PySem.W.Frag} {elts:List Expr} {x1:Nat} {pos:Pos} (a e it:Addr) (hne:e≠it) :
  Turn P w K (.Tuple elts x1 pos) (Ite K a) [e,it] e (fun i h=>(∃ old,IsEnum h e it (i:Nat) old)/\h.IsListIter it a i) where
 mem:=by simp
 obj:=fun i h st b hb=>by
  obtain ⟨⟨old,he⟩,o,e1,c,d⟩ := st
  rcases List.mem_cons.mp hb with z | z
  ·subst z; exact ⟨_,he,fun v z=>by cases z⟩
  ·rw [List.mem_singleton.mp z]; exact ⟨o,e1,fun v z=>by rw [d] at z; cases z⟩
 keep:=fun i h h' st k=>⟨⟨_,k e (by simp) _ st.1.choose_spec⟩,st.2.at fun o q=>k it (by simp) o q⟩
 item:=by
  intro X hP hw hK hc i pins s σ H E I hf st hg
  subst hP hw hK
  obtain ⟨xs,x,hq,hx⟩ := hg
  obtain ⟨its,rv,p,hz⟩ := I.list hq
  obtain ⟨u,hu,ru⟩ := rv.get hx
  obtain ⟨⟨old,he⟩,hit⟩ := st
  have fe:=hf e (by simp)
  have fi:=hf it (by simp)
  refine wpAny_pyNext_enum_item he hit p.isList (x:=u) (by simpa using hu) hne fun h' out hit' htup hsz hk => ?_
  have elt:e<s.heap.objs.size:=Heap.lt_size he
  have ilt:it<s.heap.objs.size:=by
   obtain ⟨o,ho,_⟩ := hit
   exact Heap.lt_size ho
  refine ⟨.ref s.heap.objs.size,rfl,wpAny_letOwnedTupleGo_enum out fun h'' he'' hs'' => ?_⟩
  have fresh:=I.hok.fresh (Nat.le_refl s.heap.objs.size)
  have I1:=I.laid (a:=s.heap.objs.size) (o:=.tup [.int (i:Nat),x]) (h':=s.heap.push { cls:=.type "tuple",data:=.seq #[.int (i:Nat) s.toks,u] }) (t':=s.toks) (fun b o q=>Heap.get?_push_of_some _ q) (Nat.le_refl _)
   ⟨sm2,[.int (i:Nat) s.toks,u],.cons ⟨_,rfl⟩ (.cons ru .nil),IsTup.new _ _⟩
  have fe':FpOk X pins (upd H s.heap.objs.size (.tup [.int (i:Nat),x])) e:=⟨by rw [zK (Nat.ne_of_lt elt)]; exact fe.1,fe.2⟩
  have fi':FpOk X pins (upd H s.heap.objs.size (.tup [.int (i:Nat),x])) it:=⟨by rw [zK (Nat.ne_of_lt ilt)]; exact fi.1,fi.2⟩
  have I2:=I1.turned2 (h':=h'') (t':=s.toks+1) (fun b o hbe hbi q => ?_) fe' fi'
  ·refine ⟨.ref s.heap.objs.size,_,I2,rfl,⟨s.heap.objs.size,x,rfl,fresh,rfl,fun ys hy=>by rw [I.list_inj hy hq]; exact hx⟩,⟨⟨u,he''⟩,hit'.at fun o q=>(hs''.2 it (Ne.symm hne)).trans q⟩,fun b hb => ?_⟩
   rcases List.mem_cons.mp hb with z | z
   ·rw [z]; exact fe'.1
   ·rw [List.mem_singleton.mp z]; exact fi'.1
  ·rw [hs''.2 b hbe]
   by_cases hb:b=s.heap.objs.size
   ·subst hb
    rw [htup]
    rw [<- q]
    exact (Heap.get?_push_size _ rfl).symm
   ·refine hk b o hbe hbi ?_
    rcases Heap.get?_push_cases q with ⟨z,_⟩ | z
    ·exact absurd z hb
    ·exact z
 done:=by
  intro X hP hw hK hc i pins s σ H E I hf st hg
  subst hP hw hK
  obtain ⟨xs,hq,hx⟩ := hg
  obtain ⟨its,rv,p,hz⟩ := I.list hq
  obtain ⟨⟨old,he⟩,hit⟩ := st
  have hl:=rv.length
  obtain ⟨f0,f1,f2,f3,f4,f5⟩ := hf it (by simp)
  exact wpAny_pyNext_enum_end (I.ok.hd hc) he hit p.isList (by simp; (first|lia|omega)) fun h' eb=>⟨rfl,I.turned (t':=s.toks) (fun b o hb q=>eb b o hb q) f0 f1 f3 f4 f5⟩
 self:=fun _ _ _ _ _ st h=>by
  obtain ⟨⟨old,he⟩,_⟩ := st
  exact wpAny_pyIter_enum he h
inductive iEnumR (K:PySem.W.Frag) (vs:List V) (H1:Hp) (R:It->Hp->Prop):Prop
 | mk (a xs : _) (h0:vs=[.ref a]) (h1:SqL K H1 a xs) (h2:R (Ite K a) H1):iEnumR K vs H1 R
noncomputable def iEnum (K:PySem.W.Frag) (ta:TA):TI:=fun σ H R=>ta σ H fun vs H1=>iEnumR K vs H1 R
theorem pi_enum {X:Cx} {elts:List Expr} {x1:Nat} {tpos:Pos} {l:Expr} {ta:TA} {p pos:Pos} (hg:Gl X "enumerate") (hm:X.mg "enumerate" = none) (ha:PA X [l] ta) (hs:starEach [l] X.env=[(false,eval l X.env)]:=by rfl):PI X (.Tuple elts x1 tpos) (.Call (.Name "enumerate" p) [l] [] pos) (iEnum X.K ta):=by
 refine ⟨?_⟩
 intro pins s σ H R I h
 refine Call_ (ld_blt I hg hm bt_enumerate (PyProof.Rows.callWith_type1 (thn (ha pos pins s σ H _ I h) fun us s1 ⟨vs,H1,I1,r1,q1⟩ => ?_) hs rfl))
 obtain ⟨a,xs,e,hq,q⟩ := q1
 subst e
 obtain ⟨u,rfl,ru⟩ := vals1 r1
 cases ru
 obtain ⟨its,rv,pl,hz⟩ := I1.list hq
 refine call_enumerate_list pl.isList fun h' he hit hsz hk => ?_
 refine wpAny_pyIter_enum (s:={ s1 with heap:=h' }) he ?_
 have I2:Inv X pins σ H1 { s1 with heap:=h' }:=I1.kept (t':=s1.toks) hk
 refine ⟨_,[s1.heap.objs.size+1,s1.heap.objs.size],_,_,H1,rfl,I2,turn_enum a (s1.heap.objs.size+1) s1.heap.objs.size (Nat.succ_ne_self _),⟨⟨_,he⟩,hit⟩,fun b hb => ?_,q⟩
 rcases List.mem_cons.mp hb with z | z
 ·rw [z]; exact I1.fpOk (Nat.le_succ _) (I1.hok.fresh (Nat.le_succ _))
 ·rw [List.mem_singleton.mp z]; exact I1.fpOk (Nat.le_refl _) (I1.hok.fresh (Nat.le_refl _))
theorem for_enum {K:PySem.W.Frag} {a:Addr} {xs:List V} {g:TG} {tb:TS} {D:Ends} {σ:St} {H:Hp} (Pv:Nat->St->Hp->Prop) (h0:Pv 0 σ H) (hl:∀ i σ H,i<=xs.length->Pv i σ H->SqL K H a xs)
  (hs:∀ i x σ H t,xs[i]? = some x->Pv i σ H->H t=none->g (.ref t) σ (upd H t (.tup [.int (i:Nat),x])) fun σ2 H2=>tb { D with nx:=Pv (i+1),ct:=Pv (i+1),bk:=D.nx } σ2 H2) (hd:∀ σ H,Pv xs.length σ H->D.nx σ H) :
  ∃ W:Nat->Nat->St->Hp->Prop,(∃ m,W 0 m σ H)/\∀ i m σ H,W i m σ H ->
   ((Ite K a).stop i H/\D.nx σ H)\/((Ite K a).go i H/\∃ N:St->Hp->Prop,(∀ σ' H',N σ' H'->∃ m',m'<m/\W (i+1) m' σ' H')/\∀ x H',(Ite K a).yld i H x H'->g x σ H' fun σ2 H2=>tb { D with nx:=N,ct:=N,bk:=D.nx } σ2 H2):=by
 refine ⟨fun i m σ H=>m=xs.length - i/\i<=xs.length/\Pv i σ H,⟨xs.length,by simp,Nat.zero_le _,h0⟩,?_⟩
 rintro i m σ H ⟨rfl,hi,p⟩
 have q:=hl i σ H hi p
 by_cases hlt:i<xs.length
 ·refine .inr ⟨⟨xs,xs[i],q,List.getElem?_eq_getElem hlt⟩,Pv (i+1),fun σ' H' p'=>⟨xs.length - (i+1),by (first|lia|omega),rfl,hlt,p'⟩,fun y H' yd => ?_⟩
  obtain ⟨t,x,rfl,ht,rfl,hx⟩ := yd
  exact hs i x σ H t (hx xs q) p ht
 ·have e:i=xs.length:=by (first|lia|omega)
  subst e
  exact .inl ⟨⟨xs,q,Nat.le_refl _⟩,hd σ H p⟩
end L2

namespace L2
open PySem PySem.Spec PyProof.Rows

section
variable {κ:Type} [DecidableEq κ]
end


section
variable {P:Program} {w:World} {H:Hp} {h:Heap} {a:Addr}
end

section
variable {X:Cx} {pins:List (Addr × Obj)} {σ:St} {H:Hp} {s:Shared} {a:Addr} {y v:V} {u r:Value} {o:Option V} {A:Around} {E:Value->Shared->Prop}

end

section
variable {X:Cx} {pins:List (Addr × Obj)} {σ:St} {H:Hp} {s:Shared} {a:Addr} {kvs:List (Key × V)} {k:Key} {u:Value} {A:Around} {E:Value->Shared->Prop}
end


section
variable {X:Cx} {o i e value:Expr} {pos pos' tpos:Pos} {td ty tv:TE}
end


section
variable {X:Cx} {pos:Pos}
end

structure M1 (X:Cx) (o:Expr) (m:Str) (apos:Pos) (e:Expr) (cpos:Pos):Prop where
 base:attributeBase o m X.env (eval o X.env)=eval o X.env
 few:((backTo cpos (starEach [e] X.env)).all (fun x => !x.1) && (backToKw cpos (keywordEach [] X.env)).all (fun x=>x.1.isSome)
  && decide (([e]:List Expr).length+([]:List Keyword).length+(if ([]:List Keyword).isEmpty then 0 else 1)<30))=true
 line:(apos.endLine == cpos.line)=true
 trees:backTo cpos (starEach [e] X.env)=[(false,eval e X.env)]
structure M2 (X:Cx) (o:Expr) (m:Str) (apos:Pos) (e f:Expr) (cpos:Pos):Prop where
 base:attributeBase o m X.env (eval o X.env)=eval o X.env
 few:((backTo cpos (starEach [e,f] X.env)).all (fun x => !x.1) && (backToKw cpos (keywordEach [] X.env)).all (fun x=>x.1.isSome)
  && decide (([e,f]:List Expr).length+([]:List Keyword).length+(if ([]:List Keyword).isEmpty then 0 else 1)<30))=true
 line:(apos.endLine == cpos.line)=true
 trees:backTo cpos (starEach [e,f] X.env)=[(false,eval e X.env),(false,eval f X.env)]

section
variable {X:Cx} {pins:List (Addr × Obj)} {σ:St} {H:Hp} {s:Shared} {a:Addr} {y d:V} {u r:Value} {o:Option V} {A:Around} {E:Value->Shared->Prop}
end

section
variable {X:Cx} {o e f:Expr} {apos cpos:Pos} {td ty tx:TE}
end

section
variable {X:Cx} {pins:List (Addr × Obj)} {σ:St} {H:Hp} {s:Shared} {a:Addr} {kvs:List (Key × V)} {A:Around} {E:Value->Shared->Prop}
end


section
variable {X:Cx} {pins:List (Addr × Obj)} {σ:St} {H:Hp} {s:Shared} {a:Addr} {y:V} {u:Value} {A:Around} {E:Value->Shared->Prop}
end
end L2
namespace L2
open PySem PySem.Spec PyProof.Rows
section
variable {X:Cx}
end
end L2

namespace L2
open PySem PySem.Spec PyProof.Rows
section
variable {X:Cx}
end
theorem inV_ints (k:Int):∀ ns:List Int,inV (.int k) (ns.map V.int)=decide (k∈ns)
 | []=>rfl
 | n :: r=>by
  have ih:=inV_ints k r
  unfold inV at ih ⊢
  rw [List.map_cons,List.any_cons,ih]
  by_cases h:n=k
  ·subst h; simp [eqV]
  ·have h2:¬ k=n:=fun z=>h z.symm
   simp [eqV,h,h2]
theorem vt {a b:Int} (c:decide (V.int a=V.int b)=true):a=b:=by
 have:=of_decide_eq_true c
 injection this
theorem vf {a b:Int} (c:¬ decide (V.int a=V.int b)=true):a≠b:=fun e=>c (decide_eq_true (by rw [e]))
theorem df {c:Prop} [Decidable c] (h:¬ decide c=true):¬ c:=of_decide_eq_false (Bool.eq_false_iff.mpr h)
theorem atI_mem {ns:List Int} {k:Int} (h0 : 0<=k) (h:k<(ns.length:Int)):∃ v:Int,v∈ns/\atI (ns.map V.int) k=some (.int v):=by
 have hk:k.toNat<ns.length:=by (first|lia|omega)
 have q:atI (ns.map V.int) ((k.toNat:Nat):Int)=some (.int ns[k.toNat]):=jH (by rw [List.getElem?_map,List.getElem?_eq_getElem hk] <;> rfl)
 rw [show ((k.toNat:Nat):Int)=k by (first|lia|omega)] at q
 exact ⟨_,List.getElem_mem hk,q⟩
end L2

namespace L2
open PySem
theorem bt_all:bootBuiltins "all" = some (.builtin "all"):=by decide +kernel
theorem sl_listK {X:Cx} (K:PySem.W.Frag) (hK:X.K=K):SlR X (rSlL K):=hK ▸ wG
theorem call_tuple_ofK {X:Cx} (K:PySem.W.Frag) (hK:X.K=K):CallR X (.type "tuple") (fun xs H Q=>∃ p ys,xs=[.ref p]/\((SqL K H p ys/\∀ l,H l=none->Q (.ref l) (upd H l (.tup ys)))\/(SqT K H p ys/\Q (.ref p) H))):=hK ▸ qX
theorem wE {ta tb tc:TE} {σ:St} {H:Hp} {Q:VK} (x y z:Int) (ha:∀ R:VK,R (.int x) H->ta σ H R) (hb:∀ R:VK,R (.int y) H->tb σ H R) (hc:∀ R:VK,R (.int z) H->tc σ H R) (h:∀ r:Bool,(r=true ↔ x<=y/\y<=z)->Q (.bl r) H) :
  tChain (rI0 fun i j=>V.bl (decide (i<=j))) (rI0 fun i j=>V.bl (decide (i<=j))) ta tb tc σ H Q:=by
 refine ha _ (hb _ ⟨x,y,rfl,rfl,_,rfl,ite2 (fun c => ?_) (fun c => ?_)⟩)
 ·exact hc _ ⟨y,z,rfl,rfl,h _ ⟨fun e=>⟨of_decide_eq_true c,of_decide_eq_true e⟩,fun e=>decide_eq_true e.2⟩⟩
 ·exact h _ ⟨fun e=>(nomatch e),fun e=>absurd e.1 (df c)⟩
theorem chain_lt {ta tb tc:TE} {σ:St} {H:Hp} {Q:VK} (x y z:Int) (ha:∀ R:VK,R (.int x) H->ta σ H R) (hb:∀ R:VK,R (.int y) H->tb σ H R) (hc:∀ R:VK,R (.int z) H->tc σ H R) (h:∀ r:Bool,(r=true ↔ x<=y/\y<z)->Q (.bl r) H) :
  tChain (rI0 fun i j=>V.bl (decide (i<=j))) (rI0 fun i j=>V.bl (decide (i<j))) ta tb tc σ H Q:=by
 refine ha _ (hb _ ⟨x,y,rfl,rfl,_,rfl,ite2 (fun c => ?_) (fun c => ?_)⟩)
 ·exact hc _ ⟨y,z,rfl,rfl,h _ ⟨fun e=>⟨of_decide_eq_true c,of_decide_eq_true e⟩,fun e=>decide_eq_true e.2⟩⟩
 ·exact h _ ⟨fun e=>(nomatch e),fun e=>absurd e.1 (df c)⟩
theorem rangeSize_grp {n k:Nat} (hk:k=2\/k=3):Builtin.Range.rangeSize 0 (n:Int) (k:Int)=(((n+(k - 1)) / k:Nat):Int):=by
 unfold Builtin.Range.rangeSize
 rcases hk with rfl | rfl <;> split <;> (first|lia|omega)
noncomputable def RowOk (op n nf nr:Int):Prop :=
 op=0\/(op=1\/op=2)/\0<=n/\n<12\/(op=4\/op=5)/\0<=n/\n<nr\/op=6/\0<=n/\n<nf\/op=10/\8<=n/\n<=19\/op=11/\2<=n/\n<=12\/(op=3\/op=7\/op=8\/op=9)/\n=0
noncomputable def HeadOk (s p b fn nr:Int):Prop:=0<=s/\s<nr/\0<=p/\p<=4/\(fn=0->p=0)/\p<=b/\b<=12
noncomputable def grp (k:Nat) (ns:List Int):List (List Int):=(List.range ((ns.length+(k - 1)) / k)).map fun i=>(ns.drop (i * k)).take k
noncomputable def TupAt (H:Hp) (v:V) (zs:List Int):Prop:=∃ t,v = .ref t/\H t=some (.tup (zs.map V.int))
noncomputable def GrpAt (H:Hp) (l:Addr) (gs:List (List Int)):Prop:=∃ rs,H l=some (.lst rs)/\Paired (TupAt H) rs gs
theorem cut_ints (ns:List Int) (a b:Nat):cutV (ns.map V.int) (some (a:Int)) (some (b:Int))=((ns.drop a).take (b - a)).map V.int:=by
 unfold cutV
 rw [HT.sIx_nat,HT.sIx_nat,List.length_map,List.map_take,List.map_drop]
 by_cases h:a<=ns.length
 ·rw [Nat.min_eq_left h]
  by_cases h2:b<=ns.length
  ·rw [Nat.min_eq_left h2]
  ·rw [Nat.min_eq_right (by (first|lia|omega)),List.take_of_length_le (by simp),List.take_of_length_le (by simp; (first|lia|omega))]
 ·have e1:((ns.map V.int).drop (min a ns.length))=[]:=List.drop_of_length_le (by simp; (first|lia|omega))
  have e2:((ns.map V.int).drop a)=[]:=List.drop_of_length_le (by simp; (first|lia|omega))
  rw [e1,e2,List.take_nil,List.take_nil]
theorem cut_to_end (ns:List Int) (a:Nat):cutV (ns.map V.int) (some (a:Int)) none=(ns.drop a).map V.int:=by
 unfold cutV
 rw [HT.sIx_nat,HT.sIx_none,List.length_map,List.map_drop]
 by_cases h:a<=ns.length
 ·rw [Nat.min_eq_left h,List.take_of_length_le (by simp)]
 ·rw [Nat.min_eq_right (by (first|lia|omega)),List.drop_of_length_le (by simp),List.drop_of_length_le (by simp; (first|lia|omega))]
  simp
theorem grp_len (k:Nat) (ns:List Int):(grp k ns).length=(ns.length+(k - 1)) / k:=by unfold grp; simp
theorem grp_next {k i:Nat} {ns:List Int} (h:i<(ns.length+(k - 1)) / k):(grp k ns).take (i+1)=(grp k ns).take i++[(ns.drop (i * k)).take k]:=by
 have e:(grp k ns)[i]? = some ((ns.drop (i * k)).take k):=by
  unfold grp
  rw [List.getElem?_map,List.getElem?_range h] <;> rfl
 rw [List.take_succ,e] <;> rfl
theorem TupAt.upd {H:Hp} {v:V} {zs:List Int} {p:Addr} {xs:List V} {o:HO} (h:TupAt H v zs) (hp:H p=some (.lst xs)):TupAt (upd H p o) v zs:=by
 obtain ⟨t,rfl,e⟩ := h
 have ne:t≠p:=fun z=>by rw [z,hp] at e; cases e
 exact ⟨t,rfl,by rw [zK ne]; exact e⟩
theorem TupAt.same {H H':Hp} {v:V} {zs:List Int} (h:TupAt H v zs) (s:Same H H'):TupAt H' v zs:=by
 obtain ⟨t,rfl,e⟩ := h
 exact ⟨t,rfl,s _ _ e⟩
theorem GrpAt.same {H H':Hp} {l:Addr} {gs:List (List Int)} (h:GrpAt H l gs) (s:Same H H'):GrpAt H' l gs:=by
 obtain ⟨rs,e,p⟩ := h
 exact ⟨rs,s _ _ e,p.mono fun _ _ x=>x.same s⟩
noncomputable def headNums (ns:List Int):List Int:=(ns.drop 1).take (3 * (ns.headD 0).toNat)
noncomputable def rowNums (ns:List Int):List Int:=ns.drop (1+3 * (ns.headD 0).toNat)
theorem head_cut {ns ms:List Int} {n:Int} (e:ns=n :: ms) (hn : 0<=n):cutV (ns.map V.int) (some 1) (some (1+3 * n))=(headNums ns).map V.int:=by
 have h:=cut_ints ns 1 (1+3 * n.toNat)
 rw [show ((1+3 * n.toNat:Nat):Int)=1+3 * n by (first|lia|omega),show ((1:Nat):Int)=1 from rfl,Nat.add_sub_cancel_left] at h
 rw [h,e] <;> rfl
theorem row_cut {ns ms:List Int} {n:Int} (e:ns=n :: ms) (hn : 0<=n):cutV (ns.map V.int) (some (1+3 * n)) none=(rowNums ns).map V.int:=by
 have h:=cut_to_end ns (1+3 * n.toNat)
 rw [show ((1+3 * n.toNat:Nat):Int)=1+3 * n by (first|lia|omega)] at h
 rw [h,e] <;> rfl
theorem at_zero {ns ms:List Int} {n:Int} (e:ns=n :: ms):atI (ns.map V.int) 0=some (.int n):=by
 have:=jH (xs:=ns.map V.int) (j:=0) (v:=.int n) (by rw [e] <;> rfl)
 exact this
theorem mul3 {n:Int} (h : 0<=n) (h':n<=16):CMul 3 n:=by
 unfold CMul
 have:n.natAbs<=16:=by (first|lia|omega)
 (first|lia|omega)
noncomputable def isHead (g:List Int) (i nr:Nat):Prop:=∃ s p b,g=[s,p,b]/\HeadOk s p b i nr
noncomputable def isRow (g:List Int) (nf nr:Nat):Prop:=∃ op n,g=[op,n]/\RowOk op n nf nr
structure CodeOk (ns:List Int):Prop where
 big:∃ n ms,ns=n :: ms/\1<=n/\n<=16/\3 * n+2<=ms.length/\(ms.length - 3 * n.toNat) % 2=0
 heads:∀ i g,(grp 3 (headNums ns))[i]? = some g->isHead g i ((rowNums ns).length / 2)
 rows:∀ g∈grp 2 (rowNums ns),isRow g (ns.headD 0).toNat ((rowNums ns).length / 2)
theorem Paired.yonder {α β:Type} {F : α->β->Prop}:∀ {xs:List α} {ys:List β},Paired F xs ys->∀ {j:Nat} {x : α},xs[j]? = some x->∃ y,ys[j]? = some y/\F x y
 | _,_,.nil,j,x,h=>by cases h
 | _,_,.cons r t,0,x,h=>by cases h; exact ⟨_,rfl,r⟩
 | _,_,.cons r t,j+1,x,h=>Paired.yonder t (by simpa using h)
theorem grp_get {k i:Nat} {ns g:List Int} (hk:k=2\/k=3) (hd:ns.length % k=0) (h:(grp k ns)[i]? = some g):g.length=k:=by
 unfold grp at h
 rw [List.getElem?_map] at h
 by_cases hi:i<(ns.length+(k - 1)) / k
 ·rw [List.getElem?_range hi] at h
  cases h
  rw [List.length_take,List.length_drop]
  rcases hk with rfl | rfl <;> (first|lia|omega)
 ·rw [List.getElem?_eq_none (by simp; (first|lia|omega))] at h
  cases h
theorem len3 {g:List Int} (h:g.length=3):∃ a b c,g=[a,b,c]:=match g,h with
 | [a,b,c],_=>⟨a,b,c,rfl⟩
theorem len2 {g:List Int} (h:g.length=2):∃ a b,g=[a,b]:=match g,h with
 | [a,b],_=>⟨a,b,rfl⟩
theorem all_snoc {bs:List Bool} {b:Bool}:(bs++[b]).all id=true ↔ bs.all id=true/\b=true:=by simp
inductive spIsHead (vs:List V) (H:Hp) (Q:VK) (E:XK):Prop
 | mk (t s p b fn nr : _) (h0:vs=[.ref t,.int fn,.int nr]) (h1:H t=some (.tup [.int s,.int p,.int b])) (h2:∀ r,(r=true ↔ HeadOk s p b fn nr)->Q (.bl r) H):spIsHead vs H Q E
inductive spIsRow (vs:List V) (H:Hp) (Q:VK) (E:XK):Prop
 | mk (t op n nf nr : _) (h0:vs=[.ref t,.int nf,.int nr]) (h1:H t=some (.tup [.int op,.int n])) (h2:∀ r H',Same H H'->(r=true ↔ RowOk op n nf nr)->Q (.bl r) H'):spIsRow vs H Q E
inductive spAlone (vs:List V) (H:Hp) (Q:VK) (E:XK):Prop
 | mk (op:Int) (h0:vs=[.int op]) (h1:∀ r H',Same H H'->(r=true ↔ op=3\/op=7\/op=8\/op=9)->Q (.bl r) H'):spAlone vs H Q E
inductive spGrouped (vs:List V) (H:Hp) (Q:VK) (E:XK):Prop
 | mk (a:Addr) (ns:List Int) (k:Nat) (h0:vs=[.ref a,.int k]) (h1:(k=2\/k=3)) (h2:H a=some (.lst (ns.map V.int))) (h3:ns.length<=1000000) (h4:∀ l H',Same H H'->H l=none->GrpAt H' l (grp k ns)->Q (.ref l) H'):spGrouped vs H Q E
inductive spHeadsIn (vs:List V) (H:Hp) (Q:VK) (E:XK):Prop
 | mk (a:Addr) (ns:List Int) (h0:vs=[.ref a]) (h1:H a=some (.lst (ns.map V.int))) (h2:ns.length<=1000000) (h3:(∃ n ms,ns=n :: ms/\0<=n/\n<=16)) (h4:∀ l H',Same H H'->H l=none->GrpAt H' l (grp 3 (headNums ns))->Q (.ref l) H'):spHeadsIn vs H Q E
inductive spRowsIn (vs:List V) (H:Hp) (Q:VK) (E:XK):Prop
 | mk (a:Addr) (ns:List Int) (h0:vs=[.ref a]) (h1:H a=some (.lst (ns.map V.int))) (h2:ns.length<=1000000) (h3:(∃ n ms,ns=n :: ms/\0<=n/\n<=16)) (h4:∀ l H',Same H H'->H l=none->GrpAt H' l (grp 2 (rowNums ns))->Q (.ref l) H'):spRowsIn vs H Q E
inductive spWholes (vs:List V) (H:Hp) (Q:VK) (E:XK):Prop
 | mk (a:Addr) (ns:List Int) (h0:vs=[.ref a]) (h1:H a=some (.lst (ns.map V.int))) (h2:ns.length<=1000000) (h3:∀ H',Same H H'->Q (.bl true) H'):spWholes vs H Q E
inductive spIsCode (vs:List V) (H:Hp) (Q:VK) (E:XK):Prop
 | mk (a:Addr) (ns:List Int) (h0:vs=[.ref a]) (h1:H a=some (.lst (ns.map V.int))) (h2:ns.length<=1000000) (h3:∀ r H',Same H H'->(r=true ↔ CodeOk ns)->Q (.bl r) H'):spIsCode vs H Q E
end L2

namespace L2
open PySem PySem.Spec PyProof.Rows
inductive Tr where
 | mk (kind:Int) (own:List Int) (parts:List Tr)
mutual
noncomputable def preT:Tr->List Tr
 | .mk k own ps => .mk k own ps :: preTs ps
noncomputable def preTs:List Tr->List Tr
 | []=>[]
 | a :: r=>preT a++preTs r
end
mutual
noncomputable def nums:Tr->List Int
 | .mk k own ps=>k :: (own++numsL ps)
noncomputable def numsL:List Tr->List Int
 | []=>[]
 | a :: r=>nums a++numsL r
end
theorem yZ:∀ (xs ys:List Tr),numsL (xs++ys)=numsL xs++numsL ys
 | [],ys=>by simp [numsL]
 | a :: r,ys=>by simp [numsL,yZ r ys]
theorem preT_pos:∀ n:Tr,1<=(preT n).length
 | .mk k own ps=>by simp [preT]
theorem preTs_len:∀ xs:List Tr,xs.length<=(preTs xs).length
 | []=>by simp [preTs]
 | a :: r=>by
  have:=preT_pos a
  have:=preTs_len r
  simp [preTs]; (first|lia|omega)
mutual
theorem pre_nums:∀ t:Tr,(preT t).length<=(nums t).length
 | .mk k own ps=>by
  have:=wA ps
  simp [preT,nums]; (first|lia|omega)
theorem wA:∀ ts:List Tr,(preTs ts).length<=(numsL ts).length
 | []=>by simp [preTs,numsL]
 | a :: r=>by
  have:=pre_nums a
  have:=wA r
  simp [preTs,numsL]; (first|lia|omega)
end
mutual
noncomputable def bare:Nd->Tr
 | .mk k _ own ps => .mk k own (bareL ps)
noncomputable def bareL:List Nd->List Tr
 | []=>[]
 | a :: r=>bare a :: bareL r
end
noncomputable abbrev Fn:=(Int × Int) × Tr
noncomputable def headsW (fs:List Fn):List Int:=fs.flatMap fun f=>[f.1.1,f.1.2]
noncomputable def bodiesW (fs:List Fn):List Int:=fs.flatMap fun f=>nums f.2
noncomputable def wr (fs:List Fn):List Int:=(fs.length:Int) :: (headsW fs++bodiesW fs)
section

theorem list_extend_tup (l:Addr) (items:Array Value) (n:Nat) (b:Addr) (items2:Array Value) (n2:Nat) (dd:Option Addr) (sl:Array (Option Value)) (hs0:¬(!items.isEmpty && Builtin.List.listTooLong (items.size+items2.size))=true) (hs1:items.size<=sizeLine) (hs2:items.size+items2.size<=sizeLine+1) :
  Meets (Builtin.«list.extend» ⟨[.ref l,.ref b],[]⟩) (fun _ R s=>s.heap.get? l=some { cls:=.type "list",dict:=none,data:=.seq items n,slots:=#[] }/\s.heap.get? b=some ⟨.type "tuple",dd,.seq items2 n2,sl⟩/\R (.ok (.ret Value.none)) { s with heap:=s.heap.update l (Obj.mapSeq fun x=>x++items2),toks:=s.toks }) :=
 .of_wp fun _ _ _ _ σs hyp=>by
  obtain ⟨σh,σg,σd,σt,σo⟩ := σs
  obtain ⟨atL,atB,fin⟩ := hyp
  have r1:=AutoSeq1.idx_int
  have r2:=AutoSeq1.sub_tuple_tuple
  have r3:=AutoSeq1.sub_list_list
  have r4:=AutoSeq1.sub_tuple_list
  have r5:=AutoSeq1.sub_list_tuple
  have fits:(items++items2).size<=sizeLine+1:=by simpa using hs2
  wp_walk using (wpAny_updateSeq atL rfl (hz:=hs1) (_hz':=fits)),AutoSeq1.wpAny_loadPart' atL,AutoSeq1.wpAny_loadPart' atB
  exact ⟨_,rfl,fin⟩
end
section
variable {X:Cx}
inductive rExtendT (x:V) (vs:List V) (H:Hp) (Q:VK):Prop
 | mk (l b xs zs : _) (h0:x = .ref l) (h1:vs=[.ref b]) (h2:H l=some (.lst xs)) (h3:H b=some (.tup zs)) (h4:xs.length+zs.length<=sizeLine) (h5:Q .non (upd H l (.lst (xs++zs)))):rExtendT x vs H Q
theorem mt_extendT:MtM X "list.extend" rExtendT:=by
 intro pins s σ H x vs v us Q I rx rv h
 obtain ⟨l,b,xs,zs,rfl,rfl,hH,hB,hz,q⟩ := h
 cases rx
 obtain ⟨u,rfl,ru⟩ := rv.one
 cases ru
 obtain ⟨z,its,n,r,hl,e⟩ := I.lstM hH
 obtain ⟨_,its2,r2,p⟩ := (show ObjOk X.prog X.w H s.heap b (.tup zs) from I.hok b _ hB)
 obtain ⟨⟨oc,od,oda,osl⟩,h1,h2,n2,h3⟩ := p
 dsimp only at h2 h3
 subst h2 h3
 have hl2:=r2.length
 have hsz:its.toArray.size+its2.toArray.size<=sizeLine:=by rw [List.size_toArray,List.size_toArray]; (first|lia|omega)
 have hlong:¬ (!its.toArray.isEmpty && Builtin.List.listTooLong (its.toArray.size+its2.toArray.size))=true:=by
  rw [notLongL hsz,Bool.and_false]
  exact Bool.false_ne_true
 refine call_meets F.slot_list_extend ⟨_,e,rfl⟩ F.entry_list_extend (F.args_list_extend_2 _ _)
  (list_extend_tup l its.toArray n b its2.toArray n2 od osl hlong (by rw [List.size_toArray]; (first|lia|omega)) (by (first|lia|omega))) ⟨e,h1,?_⟩
 refine ⟨.non,_,I.lset (its':=its++its2) hH e (by simp) (r.append r2) ?_,rfl,q⟩
 rw [List.length_append]
 (first|lia|omega)
end
noncomputable def fnsOf (r:Hds × List Nd):List Fn:=r.1.zip (bareL r.2)
theorem xA:∀ xs:List Nd,(bareL xs).length=xs.length
 | []=>rfl
 | a :: r=>by simp [bareL,xA r]
theorem headsW_len (fs:List Fn):(headsW fs).length=2 * fs.length:=by
 unfold headsW
 induction fs with
 | nil=>rfl
 | cons f r ih =>
  have:(List.flatMap (fun f:Fn=>[f.1.1,f.1.2]) (f :: r)).length=2+(List.flatMap (fun f:Fn=>[f.1.1,f.1.2]) r).length:=by rw [List.flatMap_cons,List.length_append] <;> rfl
  rw [this,ih,List.length_cons]; (first|lia|omega)
theorem wr_len (fs:List Fn):(wr fs).length=1+2 * fs.length+(bodiesW fs).length:=by
 unfold wr
 rw [List.length_cons,List.length_append,headsW_len]; (first|lia|omega)
end L2

namespace L2
open PySem PySem.Spec PyProof.Rows
section
variable {X:Cx} {tg:Expr}
noncomputable def Sq (K:PySem.W.Frag) (H:Hp) (a:Addr) (xs:List V):Prop:=SqL K H a xs\/SqT K H a xs
noncomputable def iSeq (K:PySem.W.Frag) (tl:TE):TI:=fun σ H R=>tl σ H fun x H1=>∃ a,x = .ref a/\((∃ xs,SqL K H1 a xs)/\R (Itl K a) H1\/(∃ xs,SqT K H1 a xs)/\R (Itt K a) H1)
theorem pi_seq {l:Expr} {tl:TE} (hl:PE X l tl):PI X tg l (iSeq X.K tl):=by
 refine ⟨?_⟩
 intro pins s σ H R I h
 refine thn (hl pins s σ H _ I h) fun v s1 hzz => ?_
 obtain ⟨x,H1,I1,r1,q1⟩ := hzz
 obtain ⟨a,e,q⟩ := q1
 subst e
 cases r1
 rcases q with ⟨⟨xs,hq⟩,q⟩ | ⟨⟨xs,hq⟩,q⟩
 ·obtain ⟨its,rv,p,hz⟩ := I1.list hq
  refine wpAny_pyIter_list p.isList ?_
  refine ⟨s1.heap.objs.size,[s1.heap.objs.size],_,_,H1,rfl,I1.kept (t':=s1.toks) fun b o e=>Heap.get?_push_of_some _ e,turn_list a _,⟨_,Heap.get?_push_size _ rfl,rfl,rfl⟩,fun b hb => ?_,q⟩
  have e:b=s1.heap.objs.size:=by simpa using hb
  subst e
  exact I1.fpOk (Nat.le_refl _) (I1.hok.fresh (Nat.le_refl _))
 ·obtain ⟨its,rv,p,hz⟩ := I1.tuple hq
  refine wpAny_pyIter_tuple (show s1.heap.IsTuple a its.toArray from p) ?_
  refine ⟨s1.heap.objs.size,[s1.heap.objs.size],_,_,H1,rfl,I1.kept (t':=s1.toks) fun b o e=>Heap.get?_push_of_some _ e,turn_tuple a _,⟨_,Heap.get?_push_size _ rfl,rfl,rfl⟩,fun b hb => ?_,q⟩
  have e:b=s1.heap.objs.size:=by simpa using hb
  subst e
  exact I1.fpOk (Nat.le_refl _) (I1.hok.fresh (Nat.le_refl _))
noncomputable def rExtendU:V->List V->Hp->VK->Prop:=fun x vs H Q=>rExtend x vs H Q\/rExtendT x vs H Q
theorem mt_extendU:MtM X "list.extend" rExtendU:=by
 intro pins s σ H x vs v us Q I rx rv h
 rcases h with h | h
 ·exact mt_extend pins s σ H x vs v us Q I rx rv h
 ·exact mt_extendT pins s σ H x vs v us Q I rx rv h
end
noncomputable abbrev Wk (J:It) (g:TG) (tb:TS) (D:Ends) (σ:St) (H:Hp):Prop:=∃ W:Nat->Nat->St->Hp->Prop,(∃ m,W 0 m σ H)/\∀ i m σ H,W i m σ H ->
   (J.stop i H/\D.nx σ H)\/(J.go i H/\∃ N:St->Hp->Prop,(∀ σ' H',N σ' H'->∃ m',m'<m/\W (i+1) m' σ' H')/\∀ x H',J.yld i H x H'->g x σ H' fun σ2 H2=>tb { D with nx:=N,ct:=N,bk:=D.nx } σ2 H2)
theorem Same.seqT {K:PySem.W.Frag} {H H':Hp} {a:Addr} {xs:List V} (e:Same H H') (h:SqT K H a xs):SqT K H' a xs:=by
 rcases h with (h | ⟨o,h⟩) | h
 ·exact .inl (.inl (e _ _ h))
 ·exact .inl (.inr ⟨o,e _ _ h⟩)
 ·exact .inr h
theorem for_seq {K:PySem.W.Frag} {a:Addr} {xs:List V} {g:TG} {tb:TS} {D:Ends} {σ:St} {H0 H:Hp} (hq:Sq K H0 a xs) (Pv:Nat->St->Hp->Prop) (h0:Pv 0 σ H) (hl:∀ i σ H',i<=xs.length->Pv i σ H'->Same H0 H')
  (hs:∀ i x σ H,xs[i]? = some x->Pv i σ H->g x σ H fun σ2 H2=>tb { D with nx:=Pv (i+1),ct:=Pv (i+1),bk:=D.nx } σ2 H2) (hd:∀ σ H,Pv xs.length σ H->D.nx σ H) :
  (∃ xs,SqL K H a xs)/\Wk (Itl K a) g tb D σ H\/(∃ xs,SqT K H a xs)/\Wk (Itt K a) g tb D σ H:=by
 rcases hq with hq | hq
 ·exact .inl ⟨⟨xs,(hl 0 _ _ (Nat.zero_le _) h0).seq hq⟩,xT Pv h0 (fun i σ' H' hi p=>(hl i σ' H' hi p).seq hq) hs hd⟩
 ·exact .inr ⟨⟨xs,Same.seqT (hl 0 _ _ (Nat.zero_le _) h0) hq⟩,for_tup Pv h0 (fun i σ' H' hi p=>Same.seqT (hl i σ' H' hi p) hq) hs hd⟩
noncomputable def SeqI (H:Hp) (v:V) (zs:List Int):Prop:=∃ t,v = .ref t/\(H t=some (.lst (zs.map V.int))\/H t=some (.tup (zs.map V.int)))
theorem SeqI.same {H H':Hp} {v:V} {zs:List Int} (h:SeqI H v zs) (s:Same H H'):SeqI H' v zs:=by
 obtain ⟨t,rfl,e | e⟩ := h
 ·exact ⟨t,rfl,.inl (s _ _ e)⟩
 ·exact ⟨t,rfl,.inr (s _ _ e)⟩
theorem Sq.same {K:PySem.W.Frag} {H H':Hp} {a:Addr} {xs:List V} (e:Same H H') (h:Sq K H a xs):Sq K H' a xs:=h.imp (e.seq ·) (Same.seqT e ·)
inductive spJoined (K:PySem.W.Frag) (vs:List V) (H:Hp) (Q:VK) (E:XK):Prop
 | mk (a:Addr) (gs:List (List Int)) (xs:List V) (k:Nat) (h0:vs=[.ref a,.int k]) (h1:Sq K H a xs) (h2:Paired (SeqI H) xs gs) (h3:(∀ g∈gs,g.length=k)) (h4:gs.length<=1000) (h5:k<=3) (h6:∀ l H',Same H H'->H l=none->H' l=some (.lst (gs.flatten.map V.int))->Q (.ref l) H'):spJoined K vs H Q E
noncomputable def codeL (hs rs:List (List Int)):List Int:=(hs.length:Int) :: (hs.flatten++rs.flatten)
inductive spCodeOf (K:PySem.W.Frag) (vs:List V) (H:Hp) (Q:VK) (E:XK):Prop
 | mk (a b:Addr) (hs rs:List (List Int)) (xs ys:List V) (h0:vs=[.ref a,.ref b]) (h1:Sq K H a xs) (h2:Paired (SeqI H) xs hs) (h3:(∀ g∈hs,g.length=3)) (h4:hs.length<=1000) (h5:Sq K H b ys) (h6:Paired (SeqI H) ys rs) (h7:(∀ g∈rs,g.length=2)) (h8:rs.length<=1000) (h9:CodeOk (codeL hs rs)) (h10:∀ l H',Same H H'->H l=none->H' l=some (.lst ((codeL hs rs).map V.int))->Q (.ref l) H'):spCodeOf K vs H Q E
theorem fl_take {gs:List (List Int)} {i:Nat} {g:List Int} (h:gs[i]? = some g):(gs.take (i+1)).flatten=(gs.take i).flatten++g:=by
 rw [List.take_succ,h,List.flatten_append]
 simp
theorem fl_len {k:Nat}:∀ {gs:List (List Int)},(∀ g∈gs,g.length=k)->gs.flatten.length=gs.length * k
 | [],_=>by simp
 | g :: gs,h=>by
  rw [List.flatten_cons,List.length_append,h g (List.mem_cons_self ..),fl_len (fun x hx=>h x (List.mem_cons_of_mem _ hx)),List.length_cons,Nat.add_mul,Nat.one_mul,Nat.add_comm]
end L2

namespace L2
open PySem PySem.Spec PyProof.Rows
end L2

namespace L2
open PySem
end L2
namespace L2
open PySem
theorem mem2 {k a b:Int}:k∈[a,b] ↔ k=a\/k=b:=by simp
end L2
namespace L2
open PySem
theorem Paired.set {α β:Type} {F : α->β->Prop}:∀ {xs:List α} {ys:List β} (i:Nat) {x : α} {y : β},Paired F xs ys->F x y->Paired F (xs.set i x) (ys.set i y)
 | _,_,_,_,_,.nil,_ => .nil
 | _,_,0,_,_,.cons r t,h => .cons h t
 | _,_,i+1,_,_,.cons r t,h => .cons r (Paired.set i t h)
theorem GrpAt.put {H:Hp} {l p:Addr} {gs:List (List Int)} {xs ys:List V} (h:GrpAt H l gs) (hp:H p=some (.lst xs)) (ne:l≠p):GrpAt (upd H p (.lst ys)) l gs:=by
 obtain ⟨rs,e,pr⟩ := h
 exact ⟨rs,by rw [zK ne]; exact e,Paired.imp (fun _ _ x=>x.upd hp) pr⟩
theorem GrpAt.push {H:Hp} {l:Addr} {gs:List (List Int)} {rs:List V} {v:V} {g:List Int} (e:H l=some (.lst rs)) (pr:Paired (TupAt H) rs gs) (tv:TupAt H v g):GrpAt (upd H l (.lst (rs++[v]))) l (gs++[g]) :=
 ⟨_,zB,Paired.append (Paired.imp (fun _ _ x=>x.upd e) pr) (.cons (tv.upd e) .nil)⟩
theorem GrpAt.setAt {H:Hp} {l:Addr} {gs:List (List Int)} {rs:List V} {v:V} {g:List Int} (i:Nat) (e:H l=some (.lst rs)) (pr:Paired (TupAt H) rs gs) (tv:TupAt H v g):GrpAt (upd H l (.lst (rs.set i v))) l (gs.set i g) :=
 ⟨_,zB,Paired.set i (Paired.imp (fun _ _ x=>x.upd e) pr) (tv.upd e)⟩
structure CodeParts (hs rs:List (List Int)):Prop where
 h1 : 1<=hs.length
 h16:hs.length<=16
 r1 : 1<=rs.length
 r24:rs.length<=900
 heads:∀ i g,hs[i]? = some g->isHead g i rs.length
 rows:∀ g∈rs,isRow g hs.length rs.length
end L2
namespace L2
open PySem
section
variable {X:Cx}
end
end L2

namespace L2
open PySem
theorem grp_cons {k:Nat} (hk:k=2\/k=3) {g rest:List Int} (hg:g.length=k):grp k (g++rest)=g :: grp k rest:=by
 unfold grp
 have e:((g++rest).length+(k - 1)) / k=(rest.length+(k - 1)) / k+1:=by
  rw [List.length_append,hg]
  rcases hk with rfl | rfl <;> (first|lia|omega)
 rw [e,List.range_succ_eq_map,List.map_cons,List.map_map,Nat.zero_mul,List.drop_zero]
 congr 1
 ·rw [List.take_append_of_le_length (by (first|lia|omega)),List.take_of_length_le (by (first|lia|omega))]
 ·refine List.map_congr_left fun i _ => ?_
  show ((g++rest).drop ((i+1) * k)).take k=_
  rw [Nat.add_mul,Nat.one_mul,Nat.add_comm,<- List.drop_drop,<- hg,List.drop_left]
theorem grp_flat {k:Nat} (hk:k=2\/k=3):∀ {gs:List (List Int)},(∀ g∈gs,g.length=k)->grp k gs.flatten=gs
 | [],_=>by
  unfold grp
  rcases hk with rfl | rfl <;> rfl
 | g :: gs,h=>by
  rw [List.flatten_cons,grp_cons hk (h g (List.mem_cons_self ..)),grp_flat hk fun x hx=>h x (List.mem_cons_of_mem _ hx)]
theorem CodeParts.h3 {hs rs:List (List Int)} (c:CodeParts hs rs):∀ g∈hs,g.length=3:=fun g hg=>by
 obtain ⟨j,hj⟩ := List.mem_iff_getElem?.mp hg
 obtain ⟨_,_,_,rfl,_⟩ := c.heads j g hj
 rfl
theorem CodeParts.r2 {hs rs:List (List Int)} (c:CodeParts hs rs):∀ g∈rs,g.length=2:=fun g hg=>by
 obtain ⟨_,_,rfl,_⟩ := c.rows g hg
 rfl
theorem CodeParts.headNums {hs rs:List (List Int)} (c:CodeParts hs rs):headNums (codeL hs rs)=hs.flatten:=by
 show List.take (3 * ((hs.length:Int)).toNat) (hs.flatten++rs.flatten)=_
 have:=fl_len c.h3
 rw [Int.toNat_natCast,List.take_append_of_le_length (by (first|lia|omega)),List.take_of_length_le (by (first|lia|omega))]
theorem CodeParts.rowNums {hs rs:List (List Int)} (c:CodeParts hs rs):rowNums (codeL hs rs)=rs.flatten:=by
 show List.drop (1+3 * ((hs.length:Int)).toNat) ((hs.length:Int) :: (hs.flatten++rs.flatten))=_
 have:=fl_len c.h3
 rw [Int.toNat_natCast,Nat.add_comm,List.drop_succ_cons,show 3 * hs.length=hs.flatten.length by (first|lia|omega),List.drop_left]
theorem CodeParts.ok {hs rs:List (List Int)} (c:CodeParts hs rs):CodeOk (codeL hs rs):=by
 have l3:=fl_len c.h3
 have l2:=fl_len c.r2
 have a1:=c.h1
 have a2:=c.h16
 have a3:=c.r1
 have nr:(L2.rowNums (codeL hs rs)).length / 2=rs.length:=by rw [c.rowNums,l2]; (first|lia|omega)
 refine ⟨⟨_,_,rfl,by (first|lia|omega),by (first|lia|omega),?_,?_⟩,fun i g hg => ?_,fun g hg => ?_⟩
 ·rw [List.length_append,l3,l2]; (first|lia|omega)
 ·rw [List.length_append,l3,l2,Int.toNat_natCast]; (first|lia|omega)
 ·rw [c.headNums,grp_flat (.inr rfl) c.h3] at hg
  rw [nr]
  exact c.heads i g hg
 ·rw [c.rowNums,grp_flat (.inl rfl) c.r2] at hg
  rw [nr]
  exact c.rows g hg
end L2

namespace L2
open PySem
theorem comp_seq {K:PySem.W.Frag} {a:Addr} {xs:List V} {g:TG} {tt:TT} {te:TE} {R:Addr->Hp->Prop} {σ0:St} {H:Hp} (hq:Sq K H a xs)
  (h:∀ p,H p=none->∃ Pv:Nat->St->Hp->Prop,Pv 0 σ0 (upd H p (.lst []))/\(∀ i σ H',i<=xs.length->Pv i σ H'->Same H H') /\
   (∀ i x σ H',i<xs.length->xs[i]? = some x->Pv i σ H'->g x σ H' fun σ3 H3=>tt σ3 H3 fun b H4 =>
    if b=true then te σ3 H4 fun v H5=>∃ ys,H5 p=some (.lst ys)/\ys.length<sizeLine/\∃ m',m'<xs.length - i/\CW xs.length Pv (i+1) m' σ3 (upd H5 p (.lst (ys++[v])))
    else ∃ m',m'<xs.length - i/\CW xs.length Pv (i+1) m' σ3 H4)/\∀ σ H',Pv xs.length σ H'->R p H') :
  (∃ xs,SqL K H a xs)/\(∀ p,H p=none->CompGo (Itl K a) p σ0 (upd H p (.lst [])) g tt te (R p))\/(∃ xs,SqT K H a xs)/\∀ p,H p=none->CompGo (Itt K a) p σ0 (upd H p (.lst [])) g tt te (R p):=by
 rcases hq with hq | hq
 ·refine .inl ⟨⟨xs,hq⟩,fun p hp => ?_⟩
  obtain ⟨Pv,h0,hl,hs,hd⟩ := h p hp
  exact wD Pv h0 (fun i σ' H' hi pv=>(hl i σ' H' hi pv).seq hq) hs hd
 ·refine .inr ⟨⟨xs,hq⟩,fun p hp => ?_⟩
  obtain ⟨Pv,h0,hl,hs,hd⟩ := h p hp
  exact comp_tup Pv h0 (fun i σ' H' hi pv=>Same.seqT (hl i σ' H' hi pv) hq) hs hd
theorem GrpAt.seqs {H:Hp} {rv:List V} {gs:List (List Int)} (pr:Paired (TupAt H) rv gs):Paired (SeqI H) rv gs:=Paired.imp (fun _ _ ⟨t,e,q⟩=>⟨t,e,.inr q⟩) pr
theorem kit_any1 {K:PySem.W.Frag} {t c:Value} {r:List Value} (h:PySem.W.kitOne K t c=some true):PySem.W.kitAny K t (c :: r)=some true:=by
 unfold PySem.W.kitAny
 rw [h]
theorem kit_any2 {K:PySem.W.Frag} {t c c2:Value} {r:List Value} (h:PySem.W.kitOne K t c=some false) (h2:PySem.W.kitOne K t c2=some true):PySem.W.kitAny K t (c :: c2 :: r)=some true:=by
 unfold PySem.W.kitAny
 rw [h]
 exact kit_any1 h2
end L2

namespace L2
open PySem PyProof.Rows
noncomputable def gallopM:Bool->Keyed->Array Keyed->Nat->Nat->Nat->StateT SortSt Sem (Option Nat):=sortPriv% PySem.Builtin.gallop
section
variable {M:Model} {A:Around} {E:Value->Shared->Prop} {s:Shared} {κ:Keyed->Int} {ok:Keyed->Prop} {kd:SortKind}
structure LtOk (M:Model) (A:Around) (E:Value->Shared->Prop) (s:Shared) (κ:Keyed->Int) (ok:Keyed->Prop) (kd:SortKind):Prop where
 lt:∀ (x y:Keyed) (st:SortSt) (Q:Option Bool->SortSt->Prop),ok x->ok y->kindOf st=kd->Q (some (decide (κ x<κ y))) st->wpS M A E s (lt' x y) Q st
theorem yL {arr:Array Keyed} {i:Nat} {x:Keyed} {st:SortSt} {Q:Keyed->SortSt->Prop} (h:arr[i]? = some x) (q:Q x st):wpS M A E s (elem' arr i) Q st:=by
 rw [elem'_eq,h]
 exact wpS_pure q
noncomputable def bey (κ:Keyed->Int) (l:Bool) (key x:Keyed):Bool:=if l=true then decide (κ x<κ key) else !decide (κ key<κ x)
theorem wpS_bey (L:LtOk M A E s κ ok kd) {l:Bool} {key x:Keyed} {arr:Array Keyed} {i:Nat} {st:SortSt} {Q:Option Bool->SortSt->Prop} (hk:kindOf st=kd) (ok0:ok key) (hx:arr[i]? = some x/\ok x) (q:Q (some (bey κ l key x)) st) :
  wpS M A E s (elem' arr i >>= fun x=>if l=true then lt' x key else lt' key x >>= fun r=>pure (r.map fun x => !x)) Q st:=by
 refine wpS_bind (yL hx.1 ?_)
 unfold bey at q
 cases l with
 | true=>exact L.lt _ _ _ _ hx.2 ok0 hk q
 | false=>exact wpS_bind (L.lt _ _ _ _ ok0 hx.2 hk (wpS_pure q))
noncomputable abbrev Gs:=Option (Option Nat) × Nat × Nat
theorem fin_loop (b:Nat->Bool) {n lo hi:Nat} {f:Nat->Gs->StateT SortSt Sem (ForInStep Gs)} {st:SortSt} {R:Gs->SortSt->Prop} (hle:lo<=hi) (hn:hi<=n) (b1:∀ i,i<lo->b i=true) (b2:∀ i,hi<=i->i<n->b i=false)
  (h1:∀ x lo hi,hi<=lo->∀ R':ForInStep Gs->SortSt->Prop,R' (.done (none,lo,hi)) st->wpS M A E s (f x (none,lo,hi)) R' st)
  (h2:∀ x lo hi,lo<hi->hi<=n->∀ R':ForInStep Gs->SortSt->Prop,(b (lo+(hi - lo) / 2)=true->R' (.yield (none,lo+(hi - lo) / 2+1,hi)) st)->(b (lo+(hi - lo) / 2)=false->R' (.yield (none,lo,lo+(hi - lo) / 2)) st)->wpS M A E s (f x (none,lo,hi)) R' st)
  (mono:∀ i j,i<=j->j<n->b j=true->b i=true)
  (q:∀ k,k<=n->(∀ i,i<k->b i=true)->(∀ i,k<=i->i<n->b i=false)->R (none,k,k) st):wpS M A E s (forIn [:n] (none,lo,hi) f) R st:=by
 refine wpS_forRange (I:=fun x c st'=>st'=st/\∃ lo hi,c=(none,lo,hi)/\lo<=hi/\hi<=n/\(∀ i,i<lo->b i=true)/\(∀ i,hi<=i->i<n->b i=false)/\hi - lo+x<=n) ?_ ?_ ⟨rfl,lo,hi,rfl,hle,hn,b1,b2,by (first|lia|omega)⟩
 ·rintro x c st' _ hx ⟨rfl,lo,hi,rfl,hle,hn,b1,b2,hf⟩
  by_cases c:lo<hi
  ·refine h2 x lo hi c hn _ (fun e => ?_) (fun e => ?_)
   ·refine ⟨rfl,_,_,rfl,by (first|lia|omega),hn,fun i hi' => ?_,b2,by (first|lia|omega)⟩
    exact mono i _ (show i<=lo+(hi - lo) / 2 by (first|lia|omega)) (by (first|lia|omega)) e
   ·refine ⟨rfl,_,_,rfl,by (first|lia|omega),by (first|lia|omega),b1,fun i h1 h2 => ?_,by (first|lia|omega)⟩
    cases e2:b i with
    | false=>rfl
    | true =>
     have:=mono _ i h1 h2 e2
     rw [e] at this
     cases this
  ·have:lo=hi:=by (first|lia|omega)
   subst this
   exact h1 x lo lo (Nat.le_refl _) _ (q lo hn b1 b2)
 ·rintro c st' ⟨rfl,lo,hi,rfl,hle,hn,b1,b2,hf⟩
  have:lo=hi:=by (first|lia|omega)
  subst this
  exact q lo hn b1 b2
theorem step_loop (g:Nat->Bool) {n mx:Nat} {f:Nat->Gs->StateT SortSt Sem (ForInStep Gs)} {st:SortSt} {R:Gs->SortSt->Prop} (hm:mx<=n)
  (h1:∀ x la o,mx<=o->∀ R':ForInStep Gs->SortSt->Prop,R' (.done (none,la,o)) st->wpS M A E s (f x (none,la,o)) R' st)
  (h2:∀ x la o,o<mx->∀ R':ForInStep Gs->SortSt->Prop,(g o=true->R' (.yield (none,o,2 * o+1)) st)->(g o=false->R' (.done (none,la,o)) st)->wpS M A E s (f x (none,la,o)) R' st)
  (q:∀ la o,la<o->(0<la->la<mx/\g la=true)->(o<mx->g o=false)->R (none,la,o) st):wpS M A E s (forIn [:n] (none,0,1) f) R st:=by
 refine wpS_forRange (I:=fun x c st'=>st'=st/\∃ la o,c=(none,la,o)/\la<o/\(0<la->la<mx/\g la=true)/\x+1<=o) ?_ ?_ ⟨rfl,0,1,rfl,by (first|lia|omega),fun h=>absurd h (by decide),Nat.le_refl _⟩
 ·rintro x c st' _ hx ⟨rfl,la,o,rfl,hlo,hg,hf⟩
  by_cases c:o<mx
  ·refine h2 x la o c _ (fun e=>⟨rfl,_,_,rfl,by (first|lia|omega),fun _=>⟨c,e⟩,by (first|lia|omega)⟩) (fun e=>q la o hlo hg fun _=>e)
  ·exact h1 x la o (by (first|lia|omega)) _ (q la o hlo hg fun z=>absurd z c)
 ·rintro c st' ⟨rfl,la,o,rfl,hlo,hg,hf⟩
  exact q la o hlo hg fun z=>absurd z (by (first|lia|omega))
theorem jW (L:LtOk M A E s κ ok kd) {l:Bool} {key:Keyed} {arr:Array Keyed} {base n hint:Nat} {st:SortSt} {Q:Option Nat->SortSt->Prop} {xs:Nat->Keyed} (hk:kindOf st=kd) (ok0:ok key) (hx:∀ i,i<n->arr[base+i]? = some (xs i)/\ok (xs i))
  (mono:∀ i j,i<=j->j<n->bey κ l key (xs j)=true->bey κ l key (xs i)=true) (hh:hint<n)
  (q:∀ k,k<=n->(∀ i,i<k->bey κ l key (xs i)=true)->(∀ i,k<=i->i<n->bey κ l key (xs i)=false)->Q (some k) st):wpS M A E s (gallopM l key arr base n hint) Q st:=by
 have be:∀ i,i<n->∀ Q':Option Bool->SortSt->Prop,Q' (some (bey κ l key (xs i))) st->wpS M A E s (elem' arr (base+i) >>= fun x=>if l=true then lt' x key else lt' key x >>= fun r=>pure (r.map fun x => !x)) Q' st:=fun i hi Q' h=>wpS_bey L hk ok0 (hx i hi) h
 refine wpS_bind (be hint hh _ ?_)
 dsimp only
 have fin:∀ {f:Nat->Gs->StateT SortSt Sem (ForInStep Gs)} {g:Gs->StateT SortSt Sem (Option Nat)} (lo hi:Nat),lo<=hi->hi<=n->(∀ i,i<lo->bey κ l key (xs i)=true)->(∀ i,hi<=i->i<n->bey κ l key (xs i)=false) ->
   (∀ x lo hi,hi<=lo->∀ R':ForInStep Gs->SortSt->Prop,R' (.done (none,lo,hi)) st->wpS M A E s (f x (none,lo,hi)) R' st) ->
   (∀ x lo hi,lo<hi->hi<=n->∀ R':ForInStep Gs->SortSt->Prop,(bey κ l key (xs (lo+(hi - lo) / 2))=true->R' (.yield (none,lo+(hi - lo) / 2+1,hi)) st)->(bey κ l key (xs (lo+(hi - lo) / 2))=false->R' (.yield (none,lo,lo+(hi - lo) / 2)) st)->wpS M A E s (f x (none,lo,hi)) R' st) ->
   (∀ k,wpS M A E s (g (none,k,k)) Q st\/¬ Q (some k) st)->wpS M A E s (forIn [:n] (none,lo,hi) f >>= g) Q st:=fun lo hi a1 a2 a3 a4 h1 h2 hg=>by
  refine wpS_bind (fin_loop (fun i=>bey κ l key (xs i)) a1 a2 a3 a4 h1 h2 mono fun k k1 k2 k3 => ?_)
  exact (hg k).elim id fun z=>absurd (q k k1 k2 k3) z
 by_cases c:bey κ l key (xs hint)=true
 ·rw [if_pos c]
  refine wpS_bind (step_loop (fun o=>bey κ l key (xs (hint+o))) (mx:=n - hint) (by (first|lia|omega)) (fun x la o ho R' h => ?_) (fun x la o ho R' hy hn => ?_) fun la o hlo hla ho => ?_)
  ·rw [if_pos (by (first|lia|omega))]
   exact wpS_pure h
  ·dsimp only
   rw [if_neg (by (first|lia|omega))]
   refine wpS_bind (be (hint+o) (by (first|lia|omega)) _ ?_)
   dsimp only
   cases e:bey κ l key (xs (hint+o)) with
   | true=>exact wpS_pure (hy e)
   | false=>exact wpS_pure (hn e)
  dsimp only
  have bl:bey κ l key (xs (hint+la))=true:=by
   by_cases z:la=0
   ·subst z; exact c
   ·exact (hla (by (first|lia|omega))).2
  have lan:hint+la<n:=by
   by_cases z:la=0
   ·(first|lia|omega)
   ·have:=(hla (by (first|lia|omega))).1; (first|lia|omega)
  refine fin _ _ (by (first|lia|omega)) (by (first|lia|omega)) (fun i hi=>mono i (hint+la) (by (first|lia|omega)) lan bl) (fun i h1 h2 => ?_) (fun x lo hi hh R' h => ?_) (fun x lo hi hlt hn' R' hy hno => ?_) fun k => ?_
  ·have oo:o<n - hint:=by (first|lia|omega)
   cases e:bey κ l key (xs i) with
   | false=>rfl
   | true =>
    have:=mono (hint+o) i (by (first|lia|omega)) h2 e
    rw [ho oo] at this
    cases this
  ·rw [if_pos hh]
   exact wpS_pure h
  ·dsimp only
   rw [if_neg (by (first|lia|omega))]
   refine wpS_bind (be _ (by (first|lia|omega)) _ ?_)
   dsimp only
   cases e:bey κ l key (xs (lo+(hi - lo) / 2)) with
   | true=>exact wpS_pure (hy e)
   | false=>exact wpS_pure (hno e)
  ·by_cases z:Q (some k) st
   ·exact .inl (wpS_pure z)
   ·exact .inr z
 ·rw [if_neg c]
  have cf:bey κ l key (xs hint)=false:=by simpa using c
  refine wpS_bind (step_loop (fun o => !bey κ l key (xs (hint - o))) (mx:=hint+1) (by (first|lia|omega)) (fun x la o ho R' h => ?_) (fun x la o ho R' hy hn => ?_) fun la o hlo hla ho => ?_)
  ·rw [if_pos (by (first|lia|omega))]
   exact wpS_pure h
  ·dsimp only
   rw [if_neg (by (first|lia|omega))]
   refine wpS_bind (be (hint - o) (by (first|lia|omega)) _ ?_)
   dsimp only at hy hn ⊢
   cases e:bey κ l key (xs (hint - o)) with
   | true=>exact wpS_pure (hn (by rw [e]; rfl))
   | false=>exact wpS_pure (hy (by rw [e]; rfl))
  dsimp only at hla ho ⊢
  have bl:bey κ l key (xs (hint - la))=false:=by
   by_cases z:la=0
   ·subst z; exact cf
   ·have:=(hla (by (first|lia|omega))).2; simpa using this
  have lan:la<=hint:=by
   by_cases z:la=0
   ·(first|lia|omega)
   ·have:=(hla (by (first|lia|omega))).1; (first|lia|omega)
  refine fin _ _ (by (first|lia|omega)) (by (first|lia|omega)) (fun i hi => ?_) (fun i h1 h2 => ?_) (fun x lo hi hh R' h => ?_) (fun x lo hi hlt hn' R' hy hno => ?_) fun k => ?_
  ·have oo:o<hint+1:=by (first|lia|omega)
   have:=ho oo
   exact mono i (hint - o) (by (first|lia|omega)) (by (first|lia|omega)) (by simpa using this)
  ·cases e:bey κ l key (xs i) with
   | false=>rfl
   | true =>
    have:=mono (hint - la) i h1 h2 e
    rw [bl] at this
    cases this
  ·rw [if_pos hh]
   exact wpS_pure h
  ·dsimp only
   rw [if_neg (by (first|lia|omega))]
   refine wpS_bind (be _ (by (first|lia|omega)) _ ?_)
   dsimp only
   cases e:bey κ l key (xs (lo+(hi - lo) / 2)) with
   | true=>exact wpS_pure (hy e)
   | false=>exact wpS_pure (hno e)
  ·by_cases z:Q (some k) st
   ·exact .inl (wpS_pure z)
   ·exact .inr z
end
end L2

namespace L2
open PySem PyProof.Rows
noncomputable def mergeLoM:Array Keyed->Array Keyed->StateT SortSt Sem (Array Keyed):=sortPriv% PySem.Builtin.mergeLo
noncomputable def mergeHiM:Array Keyed->Array Keyed->StateT SortSt Sem (Array Keyed):=sortPriv% PySem.Builtin.mergeHi
section
variable {κ:Keyed->Int}
noncomputable def Srt (κ:Keyed->Int) (l:List Keyed):Prop:=l.Pairwise fun x y=>κ x<=κ y
noncomputable def Bel (κ:Keyed->Int) (X Y:List Keyed):Prop:=∀ x∈X,∀ y∈Y,κ x<=κ y
structure MI (κ:Keyed->Int) (O X Y W:List Keyed):Prop where
 pm:(O++(X++Y)).Perm W
 so:Srt κ O
 sx:Srt κ X
 sy:Srt κ Y
 ox:Bel κ O X
 oy:Bel κ O Y
theorem jM {X Y:List Keyed}:Srt κ (X++Y) ↔ Srt κ X/\Srt κ Y/\Bel κ X Y:=List.pairwise_append
theorem bel_app {O X Y:List Keyed} (h1:Bel κ O Y) (h2:Bel κ X Y):Bel κ (O++X) Y:=fun x hx y hy=>by
 rcases List.mem_append.mp hx with z | z
 ·exact h1 x z y hy
 ·exact h2 x z y hy
theorem MI.mx {O X1 X2 Y W:List Keyed} (h:MI κ O (X1++X2) Y W) (b:Bel κ X1 Y):MI κ (O++X1) X2 Y W:=by
 obtain ⟨a1,a2,a3⟩ := jM.mp h.sx
 refine ⟨?_,jM.mpr ⟨h.so,a1,fun x hx y hy=>h.ox x hx y (List.mem_append_left _ hy)⟩,a2,h.sy,bel_app (fun x hx y hy=>h.ox x hx y (List.mem_append_right _ hy)) a3,bel_app h.oy b⟩
 have:=h.pm
 rw [List.append_assoc] at this ⊢
 exact this
theorem MI.my {O X Y1 Y2 W:List Keyed} (h:MI κ O X (Y1++Y2) W) (b:Bel κ Y1 X):MI κ (O++Y1) X Y2 W:=by
 obtain ⟨a1,a2,a3⟩ := jM.mp h.sy
 refine ⟨?_,jM.mpr ⟨h.so,a1,fun x hx y hy=>h.oy x hx y (List.mem_append_left _ hy)⟩,h.sx,a2,bel_app h.ox b,bel_app (fun x hx y hy=>h.oy x hx y (List.mem_append_right _ hy)) a3⟩
 refine List.Perm.trans ?_ h.pm
 rw [List.append_assoc]
 refine List.Perm.append_left _ ?_
 rw [<- List.append_assoc,<- List.append_assoc]
 exact List.Perm.append_right _ List.perm_append_comm
theorem MI.f1 {O X W:List Keyed} (h:MI κ O X [] W):(O++X).Perm W/\Srt κ (O++X):=by
 have:=h.pm
 rw [List.append_nil] at this
 exact ⟨this,jM.mpr ⟨h.so,h.sx,h.ox⟩⟩
theorem MI.f2 {O X Y W:List Keyed} (h:MI κ O X Y W) (b:Bel κ Y X):(O++Y++X).Perm W/\Srt κ (O++Y++X):=by
 have h2:MI κ (O++Y) X [] W:=MI.my (Y1:=Y) (Y2:=[]) (by rw [List.append_nil]; exact h) b
 exact h2.f1
end
section
variable {κ:Keyed->Int} {a b:Array Keyed} {out:Array Keyed} {W:List Keyed}
theorem drop_atK {i:Nat} (h:i<a.size):∃ x,a[i]? = some x/\a.toList.drop i=x :: a.toList.drop (i+1)/\x∈a.toList:=by
 have h':i<a.toList.length:=by rw [Array.length_toList]; exact h
 refine ⟨a[i],Array.getElem?_eq_getElem h,?_,?_⟩
 ·rw [List.drop_eq_getElem_cons h']
  rw [Array.getElem_toList]
 ·rw [<- Array.getElem_toList h]
  exact List.getElem_mem h'
theorem ext_end (a:Array Keyed) (i:Nat):(a.extract i a.size).toList=a.toList.drop i:=by
 rw [Array.toList_extract,List.extract_eq_drop_take',List.take_of_length_le (by rw [Array.length_toList]; exact Nat.le_refl _)]
theorem ext_mid (a:Array Keyed) (i k:Nat):(a.extract i (i+k)).toList=(a.toList.drop i).take k:=by
 rw [Array.toList_extract,List.extract_eq_drop_take',List.drop_take,Nat.add_sub_cancel_left]
noncomputable def Fin' (κ:Keyed->Int) (W:List Keyed) (r:Array Keyed):Prop:=r.toList.Perm W/\Srt κ r.toList
theorem fin_done {ia ib:Nat} (h:MI κ out.toList (a.toList.drop ia) (b.toList.drop ib) W) (e:ib=b.size):Fin' κ W (out++a.extract ia a.size++b.extract ib b.size):=by
 unfold Fin'
 rw [Array.toList_append,Array.toList_append,ext_end,ext_end]
 have z:b.toList.drop ib=[]:=List.drop_eq_nil_of_le (by rw [Array.length_toList]; (first|lia|omega))
 rw [z] at h ⊢
 rw [List.append_nil]
 exact h.f1
theorem fin_doneA {ia ib:Nat} (h:MI κ out.toList (a.toList.drop ia) (b.toList.drop ib) W) (e:ia=a.size):Fin' κ W (out++a.extract ia a.size++b.extract ib b.size):=by
 unfold Fin'
 rw [Array.toList_append,Array.toList_append,ext_end,ext_end]
 have z:a.toList.drop ia=[]:=List.drop_eq_nil_of_le (by rw [Array.length_toList]; (first|lia|omega))
 rw [z] at h ⊢
 have:=h.f2 fun y hy x hx=>(nomatch hx)
 rw [List.append_nil] at this ⊢
 exact this
theorem fin_last {ia ib:Nat} (h:MI κ out.toList (a.toList.drop ia) (b.toList.drop ib) W) (e:ia+1=a.size) (hl:∀ x,a.toList[a.size - 1]? = some x->∀ y∈b.toList,κ y<=κ x):Fin' κ W (out++b.extract ib b.size++a.extract ia a.size):=by
 unfold Fin'
 rw [Array.toList_append,Array.toList_append,ext_end,ext_end]
 refine h.f2 fun y hy x hx => ?_
 obtain ⟨z,e1,e2,_⟩ := drop_atK (a:=a) (i:=ia) (by (first|lia|omega))
 rw [e2,List.drop_eq_nil_of_le (by rw [Array.length_toList]; (first|lia|omega))] at hx
 have ex:x=z:=by simpa using hx
 refine hl x ?_ y (List.mem_of_mem_drop hy)
 rw [show a.size - 1=ia by (first|lia|omega),ex,Array.getElem?_toList]
 exact e1
theorem push_b {ia ib:Nat} {y:Keyed} (h:MI κ out.toList (a.toList.drop ia) (b.toList.drop ib) W) (hb:ib<b.size) (e:b[ib]? = some y) (l:∀ x∈a.toList.drop ia,κ y<=κ x):MI κ (out.push y).toList (a.toList.drop ia) (b.toList.drop (ib+1)) W:=by
 obtain ⟨z,e1,e2,_⟩ := drop_atK hb
 rw [e] at e1
 cases e1
 rw [e2] at h
 rw [Array.toList_push]
 exact MI.my (Y1:=[y]) (Y2:=b.toList.drop (ib+1)) h fun u hu x hx=>by rw [List.mem_singleton.mp hu]; exact l x hx
theorem push_a {ia ib:Nat} {y:Keyed} (h:MI κ out.toList (a.toList.drop ia) (b.toList.drop ib) W) (ha:ia<a.size) (e:a[ia]? = some y) (l:∀ x∈b.toList.drop ib,κ y<=κ x):MI κ (out.push y).toList (a.toList.drop (ia+1)) (b.toList.drop ib) W:=by
 obtain ⟨z,e1,e2,_⟩ := drop_atK ha
 rw [e] at e1
 cases e1
 rw [e2] at h
 rw [Array.toList_push]
 exact MI.mx (X1:=[y]) (X2:=a.toList.drop (ia+1)) h fun u hu x hx=>by rw [List.mem_singleton.mp hu]; exact l x hx
theorem app_a {ia ib k:Nat} (h:MI κ out.toList (a.toList.drop ia) (b.toList.drop ib) W) (l:Bel κ ((a.toList.drop ia).take k) (b.toList.drop ib)):MI κ (out++a.extract ia (ia+k)).toList (a.toList.drop (ia+k)) (b.toList.drop ib) W:=by
 rw [Array.toList_append,ext_mid]
 have:=MI.mx (X1:=(a.toList.drop ia).take k) (X2:=(a.toList.drop ia).drop k) (by rw [List.take_append_drop]; exact h) l
 rw [List.drop_drop] at this
 exact this
theorem app_b {ia ib k:Nat} (h:MI κ out.toList (a.toList.drop ia) (b.toList.drop ib) W) (l:Bel κ ((b.toList.drop ib).take k) (a.toList.drop ia)):MI κ (out++b.extract ib (ib+k)).toList (a.toList.drop ia) (b.toList.drop (ib+k)) W:=by
 rw [Array.toList_append,ext_mid]
 have:=MI.my (Y1:=(b.toList.drop ib).take k) (Y2:=(b.toList.drop ib).drop k) (by rw [List.take_append_drop]; exact h) l
 rw [List.drop_drop] at this
 exact this
noncomputable def atK (a:Array Keyed) (i:Nat):Keyed:=(a[i]?).getD (.none,.none)
theorem yO {i:Nat} (h:i<a.size):a[i]? = some (atK a i)/\atK a i∈a.toList:=by
 obtain ⟨x,e,_,m⟩ := drop_atK h
 unfold atK
 rw [e]
 exact ⟨rfl,m⟩
theorem kB (h:Srt κ a.toList) {i j:Nat} (hij:i<=j) (hj:j<a.size) : κ (atK a i)<=κ (atK a j):=by
 by_cases e:i=j
 ·rw [e]; exact Int.le_refl _
 have e1:=(yO (show i<a.size by (first|lia|omega))).1
 have e2:=(yO hj).1
 rw [<- Array.getElem?_toList] at e1 e2
 obtain ⟨h1,g1⟩ := List.getElem?_eq_some_iff.mp e1
 obtain ⟨h2,g2⟩ := List.getElem?_eq_some_iff.mp e2
 rw [<- g1,<- g2]
 exact List.pairwise_iff_getElem.mp h i j h1 h2 (by (first|lia|omega))
theorem jL {i:Nat} {x:Keyed} (h:x∈a.toList.drop i):∃ j,i<=j/\j<a.size/\x=atK a j:=by
 obtain ⟨k,hk,e⟩ := List.getElem_of_mem h
 rw [List.length_drop,Array.length_toList] at hk
 refine ⟨i+k,by (first|lia|omega),by (first|lia|omega),?_⟩
 have:=(yO (a:=a) (i:=i+k) (by (first|lia|omega))).1
 rw [<- Array.getElem?_toList] at this
 obtain ⟨_,g⟩ := List.getElem?_eq_some_iff.mp this
 rw [<- g,<- e,List.getElem_drop]
theorem qR {i k:Nat} {x:Keyed} (h:x∈(a.toList.drop i).take k):∃ j,j<k/\i+j<a.size/\x=atK a (i+j):=by
 obtain ⟨j,hj,e⟩ := List.getElem_of_mem h
 rw [List.length_take,List.length_drop,Array.length_toList] at hj
 refine ⟨j,by (first|lia|omega),by (first|lia|omega),?_⟩
 have:=(yO (a:=a) (i:=i+j) (by (first|lia|omega))).1
 rw [<- Array.getElem?_toList] at this
 obtain ⟨_,g⟩ := List.getElem?_eq_some_iff.mp this
 rw [<- g,<- e,List.getElem_take,List.getElem_drop]
end
section
variable {M:Model} {A:Around} {E:Value->Shared->Prop} {s:Shared} {κ:Keyed->Int} {ok:Keyed->Prop} {kd:SortKind}
end
end L2

namespace L2
open PySem PyProof.Rows
noncomputable def SaS (kd:SortKind) (st st':SortSt):Prop:=kindOf st'=kd/\arrOf st'=arrOf st/\pendingOf st'=pendingOf st/\failedOf st'=failedOf st
section
variable {M:Model} {A:Around} {E:Value->Shared->Prop} {s:Shared} {κ:Keyed->Int} {ok:Keyed->Prop} {kd:SortKind}
theorem neB {a b:Nat} (h:¬ (a == b)=true):¬ a=b:=fun e=>h (beq_iff_eq.mpr e)
theorem xG {σ α:Type} {c:Prop} {_:Decidable c} {K T:StateT σ Sem α} {Q : α->σ->Prop} {st : σ} (h1:c->wpS M A E s T Q st) (h2:¬ c->wpS M A E s K Q st):wpS M A E s (if c then T else K) Q st:=by
 split
 ·exact h1 (by assumption)
 ·exact h2 (by assumption)
theorem wpS_both {σ α:Type} {c:Nat->Prop} {_:∀ m,Decidable (c m)} {K T:Nat->StateT σ Sem α} {f:Nat->Nat} {Q : α->σ->Prop} {st : σ} (e:∀ m,T m=K (f m)) (h:∀ m,wpS M A E s (K m) Q st):∀ m,wpS M A E s (if c m then T m else K m) Q st:=fun m=>by
 split
 ·rw [e]; exact h _
 ·exact h _
theorem wpS_rest {σ α β γ:Type} {c : β->γ->Prop} {_:∀ o i,Decidable (c o i)} {K T : β->γ->StateT σ Sem α} {Q : α->σ->Prop} {st : σ} {R0 : β->γ->Prop} (R : β->γ->Prop) (h2:∀ o i,R o i->wpS M A E s (K o i) Q st) (h1:∀ o i,R0 o i->c o i->(∀ o i,R o i->wpS M A E s (K o i) Q st)->wpS M A E s (T o i) Q st) (h3:∀ o i,R0 o i->¬ c o i->R o i):∀ o i,R0 o i->wpS M A E s (if c o i then T o i else K o i) Q st:=fun o i r=>by
 by_cases h:c o i
 ·rw [if_pos h]; exact h1 o i r h h2
 ·rw [if_neg h]; exact h2 _ _ (h3 o i r h)
theorem wpS_setG {g:Nat} {st st':SortSt} {Q:PUnit->SortSt->Prop} (h:SaS kd st st') (q:∀ st'',SaS kd st st''->Q ⟨⟩ st''):wpS M A E s ((sortPriv% PySem.Builtin.setMinGallop) g:StateT SortSt Sem PUnit) Q st':=wpS_modify (q _ h)
theorem gal_false (L:LtOk M A E s κ ok kd) {key:Keyed} {a:Array Keyed} {i:Nat} {st:SortSt} {Q:Option Nat->SortSt->Prop} (hk:kindOf st=kd) (ok0:ok key) (oka:∀ x∈a.toList,ok x) (sa:Srt κ a.toList) (hi:i<a.size)
  (q:∀ k,k<=a.size - i->(∀ x∈(a.toList.drop i).take k,κ x<=κ key)->(∀ x∈a.toList.drop (i+k),κ key<κ x)->Q (some k) st):wpS M A E s (gallopM false key a i (a.size - i) 0) Q st:=by
 refine jW L (xs:=fun j=>atK a (i+j)) hk ok0 (fun j hj=>⟨(yO (by (first|lia|omega))).1,oka _ (yO (by (first|lia|omega))).2⟩) (fun j1 j2 h12 h2 hb => ?_) (by (first|lia|omega)) fun k hk1 h1 h2=>q k hk1 (fun x hx => ?_) (fun x hx => ?_)
 ·unfold bey at hb ⊢
  have:=kB sa (show i+j1<=i+j2 by (first|lia|omega)) (by (first|lia|omega))
  simp at hb ⊢
  (first|lia|omega)
 ·obtain ⟨j,j1,j2,rfl⟩ := qR hx
  have:=h1 j j1
  unfold bey at this
  simpa using this
 ·obtain ⟨j,j1,j2,rfl⟩ := jL hx
  have:=h2 (j - i) (by (first|lia|omega)) (by (first|lia|omega))
  unfold bey at this
  rw [show i+(j - i)=j by (first|lia|omega)] at this
  simpa using this
theorem gal_true (L:LtOk M A E s κ ok kd) {key:Keyed} {a:Array Keyed} {i:Nat} {st:SortSt} {Q:Option Nat->SortSt->Prop} (hk:kindOf st=kd) (ok0:ok key) (oka:∀ x∈a.toList,ok x) (sa:Srt κ a.toList) (hi:i<a.size)
  (q:∀ k,k<=a.size - i->(∀ x∈(a.toList.drop i).take k,κ x<κ key)->(∀ x∈a.toList.drop (i+k),κ key<=κ x)->Q (some k) st):wpS M A E s (gallopM true key a i (a.size - i) 0) Q st:=by
 refine jW L (xs:=fun j=>atK a (i+j)) hk ok0 (fun j hj=>⟨(yO (by (first|lia|omega))).1,oka _ (yO (by (first|lia|omega))).2⟩) (fun j1 j2 h12 h2 hb => ?_) (by (first|lia|omega)) fun k hk1 h1 h2=>q k hk1 (fun x hx => ?_) (fun x hx => ?_)
 ·unfold bey at hb ⊢
  have:=kB sa (show i+j1<=i+j2 by (first|lia|omega)) (by (first|lia|omega))
  simp at hb ⊢
  (first|lia|omega)
 ·obtain ⟨j,j1,j2,rfl⟩ := qR hx
  have:=h1 j j1
  unfold bey at this
  simpa using this
 ·obtain ⟨j,j1,j2,rfl⟩ := jL hx
  have:=h2 (j - i) (by (first|lia|omega)) (by (first|lia|omega))
  unfold bey at this
  rw [show i+(j - i)=j by (first|lia|omega)] at this
  simpa using this
theorem wpS_mergeLo (L:LtOk M A E s κ ok kd) {a b:Array Keyed} {st:SortSt} {Q:Array Keyed->SortSt->Prop} (hk:kindOf st=kd) (oka:∀ x∈a.toList,ok x) (okb:∀ x∈b.toList,ok x) (sa:Srt κ a.toList) (sb:Srt κ b.toList) (a0 : 0<a.size) (b0 : 0<b.size)
  (hf:∀ x,b.toList[0]? = some x->∀ y∈a.toList,κ x<=κ y) (hl:∀ x,a.toList[a.size - 1]? = some x->∀ y∈b.toList,κ y<=κ x)
  (q:∀ (r:Array Keyed) (st':SortSt),r.toList.Perm (a.toList++b.toList)->Srt κ r.toList->kindOf st'=kd->arrOf st'=arrOf st->pendingOf st'=pendingOf st->failedOf st'=failedOf st->Q r st'):wpS M A E s (mergeLoM a b) Q st:=by
 have SS0:SaS kd st st:=⟨hk,rfl,rfl,rfl⟩
 have fin:∀ r st',Fin' κ (a.toList++b.toList) r->SaS kd st st'->Q r st':=fun r st' f z=>q r st' f.1 f.2 z.1 z.2.1 z.2.2.1 z.2.2.2
 generalize hW:a.toList++b.toList=W at *
 obtain ⟨y0,eb0,ed0,_⟩ := drop_atK b0
 have M1:MI κ (#[y0]:Array Keyed).toList (a.toList.drop 0) (b.toList.drop 1) W:=by
  have m0:MI κ (#[]:Array Keyed).toList (a.toList.drop 0) (b.toList.drop 0) W:=⟨by rw [List.drop_zero,List.drop_zero,hW]; exact List.Perm.refl _,List.Pairwise.nil,by rw [List.drop_zero]; exact sa,by rw [List.drop_zero]; exact sb,fun x hx=>(nomatch hx),fun x hx=>(nomatch hx)⟩
  refine push_b m0 b0 eb0 fun x hx=>hf y0 ?_ x (List.mem_of_mem_drop hx)
  rw [Array.getElem?_toList]; exact eb0
 refine wpS_bind (wpS_lift (wpAny_rule ⟨rfl,?_⟩))
 refine wpS_bind (yL eb0 ?_)
 dsimp only
 refine xG (fun c1 => ?_) (fun c1 => ?_)
 ·replace c1 : 1=b.size:=eq_of_beq c1
  exact wpS_pure (fin _ _ (fin_done M1 c1) SS0)
 replace c1:¬ 1=b.size:=neB c1
 refine xG (fun c2 => ?_) (fun c2 => ?_)
 ·replace c2 : 0+1=a.size:=eq_of_beq c2
  exact wpS_pure (fin _ _ (fin_last M1 c2 hl) SS0)
 replace c2:¬ 0+1=a.size:=neB c2
 refine wpS_bind (wpS_get ?_)
 refine wpS_bind (wpS_mono (wpS_forRange (I:=fun x c st'=>SaS kd st st'/\∃ out ia ib mg,c=(none,out,ia,ib,mg)/\MI κ out.toList (a.toList.drop ia) (b.toList.drop ib) W/\ia+1<a.size/\ib<b.size/\1+x<=ia+ib)
  (Q:=fun c st'=>SaS kd st st'/\∃ r,c.1=some r/\Fin' κ W r) ?_ ?_ ⟨SS0,_,_,_,_,rfl,M1,by (first|lia|omega),by (first|lia|omega),by (first|lia|omega)⟩) ?_)
 ·rintro x c st1 _ hx ⟨SS1,out,ia,ib,mg,rfl,m1,ha,hb,hxx⟩
  dsimp only
  refine wpS_bind (wpS_mono (wpS_forRange (I:=fun y c st'=>SaS kd st st'/\∃ out ia ib ac bc,c=(none,out,ia,ib,ac,bc)/\MI κ out.toList (a.toList.drop ia) (b.toList.drop ib) W/\ia+1<a.size/\ib<b.size/\1+x+y<=ia+ib)
   (Q:=fun c st'=>SaS kd st st'/\((∃ r,c.1=some r/\Fin' κ W r)\/∃ out ia ib ac bc,c=(none,out,ia,ib,ac,bc)/\MI κ out.toList (a.toList.drop ia) (b.toList.drop ib) W/\ia+1<a.size/\ib<b.size/\1+x+1<=ia+ib)) ?_ ?_ ⟨SS1,_,_,_,_,_,rfl,m1,ha,hb,by (first|lia|omega)⟩) ?_)
  ·rintro y c st2 _ hy ⟨SS2,out,ia,ib,ac,bc,rfl,m2,ha,hb,hxx⟩
   dsimp only
   obtain ⟨eb,mb⟩ := yO hb
   obtain ⟨ea,ma⟩ := yO (show ia<a.size by (first|lia|omega))
   refine wpS_bind (yL eb (wpS_bind (yL ea (wpS_bind (L.lt _ _ _ _ (okb _ mb) (oka _ ma) SS2.1 ?_)))))
   dsimp only
   refine xG (fun c => ?_) (fun c => ?_)
   ·replace c : κ (atK b ib)<κ (atK a ia):=of_decide_eq_true c
    refine wpS_bind (yL eb ?_)
    have m3:=push_b m2 hb eb fun x hx=>by
     obtain ⟨j,j1,j2,rfl⟩ := jL hx
     have:=kB sa j1 j2
     (first|lia|omega)
    refine xG (fun c3 => ?_) (fun c3 => ?_)
    ·replace c3:ib+1=b.size:=eq_of_beq c3
     exact wpS_pure ⟨SS2,.inl ⟨_,rfl,fin_done m3 c3⟩⟩
    replace c3:¬ ib+1=b.size:=neB c3
    refine xG (fun c4 => ?_) (fun c4 => ?_)
    ·skip
     exact wpS_pure ⟨SS2,.inr ⟨_,_,_,_,_,rfl,m3,ha,by (first|lia|omega),by (first|lia|omega)⟩⟩
    ·skip
     exact wpS_pure ⟨SS2,_,_,_,_,_,rfl,m3,ha,by (first|lia|omega),by (first|lia|omega)⟩
   ·replace c:¬ κ (atK b ib)<κ (atK a ia):=fun z=>c (decide_eq_true z)
    refine wpS_bind (yL ea ?_)
    have m3:=push_a m2 (by (first|lia|omega)) ea fun x hx=>by
     obtain ⟨j,j1,j2,rfl⟩ := jL hx
     have:=kB sb j1 j2
     (first|lia|omega)
    refine xG (fun c3 => ?_) (fun c3 => ?_)
    ·replace c3:ia+1+1=a.size:=eq_of_beq c3
     exact wpS_pure ⟨SS2,.inl ⟨_,rfl,fin_last m3 c3 hl⟩⟩
    replace c3:¬ ia+1+1=a.size:=neB c3
    refine xG (fun c4 => ?_) (fun c4 => ?_)
    ·skip
     exact wpS_pure ⟨SS2,.inr ⟨_,_,_,_,_,rfl,m3,by (first|lia|omega),hb,by (first|lia|omega)⟩⟩
    ·skip
     exact wpS_pure ⟨SS2,_,_,_,_,_,rfl,m3,by (first|lia|omega),hb,by (first|lia|omega)⟩
  ·rintro c st2 ⟨SS2,out,ia,ib,ac,bc,rfl,m2,ha,hb,hxx⟩
   exact ⟨SS2,.inr ⟨_,_,_,_,_,rfl,m2,ha,hb,by (first|lia|omega)⟩⟩
  ·rintro c st2 ⟨SS2,⟨r,er,hr⟩ | ⟨out,ia,ib,ac,bc,rfl,m2,ha,hb,hxx⟩⟩
   ·obtain ⟨c1',c2'⟩ := c
    cases er
    exact wpS_pure ⟨SS2,r,rfl,hr⟩
   dsimp only
   refine wpS_bind (wpS_lift (wpAny_rule ⟨rfl,?_⟩))
   refine wpS_bind (wpS_mono (wpS_forRange (I:=fun y c st'=>SaS kd st st'/\∃ out ia ib mg ac bc,c=(none,out,ia,ib,mg,ac,bc)/\MI κ out.toList (a.toList.drop ia) (b.toList.drop ib) W/\ia+1<a.size/\ib<b.size/\1+x+1<=ia+ib)
    (Q:=fun c st'=>SaS kd st st'/\((∃ r,c.1=some r/\Fin' κ W r)\/∃ out ia ib mg ac bc,c=(none,out,ia,ib,mg,ac,bc)/\MI κ out.toList (a.toList.drop ia) (b.toList.drop ib) W/\ia+1<a.size/\ib<b.size/\1+x+1<=ia+ib)) ?_ ?_ ⟨SS2,_,_,_,_,_,_,rfl,m2,ha,hb,by (first|lia|omega)⟩) ?_)
   ·clear m2 SS2 hxx
    rintro y c st3 _ hy ⟨SS3,out,ia,ib,mg,ac,bc,rfl,m3,ha,hb,hxx⟩
    dsimp only
    obtain ⟨eb,mb⟩ := yO hb
    revert mg
    refine wpS_both (f:=fun m=>m - 1) (fun _=>rfl) (fun mg => ?_)
    refine wpS_bind (wpS_setG SS3 fun st4 SS4 => ?_)
    refine wpS_bind (yL eb ?_)
    refine wpS_bind (gal_false L SS4.1 (okb _ mb) oka sa (by (first|lia|omega)) fun k hk1 l1 l2 => ?_)
    dsimp only
    have m4:=app_a (k:=k) m3 fun x hx z hz=>by
     have:=l1 x hx
     obtain ⟨j,j1,j2,rfl⟩ := jL hz
     have:=kB sb j1 j2
     (first|lia|omega)
    have R0:MI κ out.toList (a.toList.drop ia) (b.toList.drop ib) W/\ia+1<a.size/\1+x+1<=ia+ib/\ia+k<=a.size/\MI κ (out++a.extract ia (ia+k)).toList (a.toList.drop (ia+k)) (b.toList.drop ib) W/\∀ x∈a.toList.drop (ia+k),κ (atK b ib)<κ x:=⟨m3,ha,hxx,by (first|lia|omega),m4,l2⟩
    clear m3 ha hxx m4 l1 l2 hk1
    revert out ia
    refine wpS_rest (fun o i=>MI κ o.toList (a.toList.drop i) (b.toList.drop ib) W/\i+1<a.size/\1+x+1<=i+ib/\∀ x∈a.toList.drop i,κ (atK b ib)<κ x) (fun out5 i5 ⟨m5,ha5,h5,l5⟩ => ?_) (fun out ia ⟨m3,ha,hxx,hk1,m4,l2⟩ ck rest => ?_) (fun out ia ⟨m3,ha,hxx,hk1,m4,l2⟩ ck => ?_)
    ·refine wpS_bind (yL eb ?_)
     have m6:=push_b m5 hb eb fun x hx=>Int.le_of_lt (l5 x hx)
     refine xG (fun c6 => ?_) (fun c6 => ?_)
     ·replace c6:ib+1=b.size:=eq_of_beq c6
      exact wpS_pure ⟨SS4,.inl ⟨_,rfl,fin_done m6 c6⟩⟩
     replace c6:¬ ib+1=b.size:=neB c6
     obtain ⟨ea5,ma5⟩ := yO (show i5<a.size by (first|lia|omega))
     refine wpS_bind (yL ea5 ?_)
     refine wpS_bind (gal_true L SS4.1 (oka _ ma5) okb sb (show ib+1<b.size by (first|lia|omega)) fun k2 hk2 g1 g2 => ?_)
     dsimp only
     have m7:=app_b (k:=k2) m6 fun x hx z hz=>by
      have:=g1 x hx
      obtain ⟨j,j1,j2,rfl⟩ := jL hz
      have:=kB sa j1 j2
      (first|lia|omega)
     have R0:MI κ (out5.push (atK b ib)).toList (a.toList.drop i5) (b.toList.drop (ib+1)) W/\ib+1<b.size/\1+x+1<=i5+(ib+1)/\ib+1+k2<=b.size/\MI κ (out5.push (atK b ib)++b.extract (ib+1) (ib+1+k2)).toList (a.toList.drop i5) (b.toList.drop (ib+1+k2)) W/\∀ x∈b.toList.drop (ib+1+k2),κ (atK a i5)<=κ x:=⟨m6,by (first|lia|omega),by (first|lia|omega),by (first|lia|omega),m7,g2⟩
     clear m5 m6 m7 g1 g2 hk2 c6
     generalize out5.push (atK b ib)=o6 at *
     generalize ib+1=i6 at *
     revert o6 i6
     refine wpS_rest (fun o i=>MI κ o.toList (a.toList.drop i5) (b.toList.drop i) W/\i<b.size/\1+x+1<=i5+i/\∀ x∈b.toList.drop i,κ (atK a i5)<=κ x) (fun out7 i7 ⟨m7,hb7,h7,g7⟩ => ?_) (fun o6 i6 ⟨m6,c6,h6,hk2,m7,g2⟩ ck rest => ?_) (fun o6 i6 ⟨m6,c6,h6,hk2,m7,g2⟩ ck => ?_)
     ·refine wpS_bind (yL ea5 ?_)
      have m8:=push_a m7 (by (first|lia|omega)) ea5 g7
      refine xG (fun c8 => ?_) (fun c8 => ?_)
      ·replace c8:i5+1+1=a.size:=eq_of_beq c8
       exact wpS_pure ⟨SS4,.inl ⟨_,rfl,fin_last m8 c8 hl⟩⟩
      replace c8:¬ i5+1+1=a.size:=neB c8
      split
      ·exact wpS_pure ⟨SS4,.inr ⟨_,_,_,_,_,_,rfl,m8,by (first|lia|omega),by (first|lia|omega),by (first|lia|omega)⟩⟩
      ·exact wpS_pure ⟨SS4,_,_,_,_,_,_,rfl,m8,by (first|lia|omega),by (first|lia|omega),by (first|lia|omega)⟩
     ·refine xG (fun c7 => ?_) (fun c7 => ?_)
      ·replace c7:i6+k2=b.size:=eq_of_beq c7
       exact wpS_pure ⟨SS4,.inl ⟨_,rfl,fin_done m7 c7⟩⟩
      replace c7:¬ i6+k2=b.size:=neB c7
      exact rest _ _ ⟨m7,by (first|lia|omega),by (first|lia|omega),g2⟩
     ·have k20:k2=0:=by (first|lia|omega)
      subst k20
      exact ⟨m6,c6,h6,g2⟩
    ·refine xG (fun c5 => ?_) (fun c5 => ?_)
     ·replace c5:ia+k+1=a.size:=eq_of_beq c5
      exact wpS_pure ⟨SS4,.inl ⟨_,rfl,fin_last m4 c5 hl⟩⟩
     replace c5:¬ ia+k+1=a.size:=neB c5
     refine xG (fun c6 => ?_) (fun c6 => ?_)
     ·replace c6:ia+k=a.size:=eq_of_beq c6
      exact wpS_pure ⟨SS4,.inl ⟨_,rfl,fin_doneA m4 c6⟩⟩
     replace c6:¬ ia+k=a.size:=neB c6
     exact rest _ _ ⟨m4,by (first|lia|omega),by (first|lia|omega),l2⟩
    ·have k0:k=0:=by (first|lia|omega)
     subst k0
     exact ⟨m3,ha,hxx,l2⟩
   ·rintro c st3 ⟨SS3,out,ia,ib,mg,ac,bc,rfl,m3,ha,hb,hxx⟩
    exact ⟨SS3,.inr ⟨_,_,_,_,_,_,rfl,m3,ha,hb,hxx⟩⟩
   ·rintro c st3 ⟨SS3,⟨r,er,hr⟩ | ⟨out,ia,ib,mg,ac,bc,rfl,m3,ha,hb,hxx⟩⟩
    ·obtain ⟨c1',c2'⟩ := c
     cases er
     exact wpS_pure ⟨SS3,r,rfl,hr⟩
    dsimp only
    refine wpS_bind (wpS_setG SS3 fun st4 SS4 => ?_)
    exact wpS_pure ⟨SS4,_,_,_,_,rfl,m3,ha,hb,by (first|lia|omega)⟩
 ·rintro c st1 ⟨SS1,out,ia,ib,mg,rfl,m1,ha,hb,hx⟩
  (first|lia|omega)
 ·rintro c st1 ⟨SS1,r,er,hr⟩
  obtain ⟨c1',c2'⟩ := c
  cases er
  exact wpS_pure (fin _ _ hr SS1)
end
end L2

namespace L2
open PySem PyProof.Rows
section
variable {κ:Keyed->Int} {a b:Array Keyed} {out:Array Keyed} {W:List Keyed}
structure HI (κ:Keyed->Int) (O X Y W:List Keyed):Prop where
 pm:(X++Y++O).Perm W
 so:Srt κ O
 sx:Srt κ X
 sy:Srt κ Y
 xo:Bel κ X O
 yo:Bel κ Y O
theorem bel_app2 {O X Y:List Keyed} (h1:Bel κ O X) (h2:Bel κ O Y):Bel κ O (X++Y):=fun x hx y hy=>by
 rcases List.mem_append.mp hy with z | z
 ·exact h1 x hx y z
 ·exact h2 x hx y z
theorem HI.mx {O X1 X2 Y W:List Keyed} (h:HI κ O (X1++X2) Y W) (b:Bel κ Y X2):HI κ (X2++O) X1 Y W:=by
 obtain ⟨a1,a2,a3⟩ := jM.mp h.sx
 refine ⟨?_,jM.mpr ⟨a2,h.so,fun x hx y hy=>h.xo x (List.mem_append_right _ hx) y hy⟩,a1,h.sy,bel_app2 a3 (fun x hx y hy=>h.xo x (List.mem_append_left _ hx) y hy),bel_app2 b h.yo⟩
 refine List.Perm.trans ?_ h.pm
 rw [<- List.append_assoc]
 refine List.Perm.append_right _ ?_
 rw [List.append_assoc,List.append_assoc]
 exact List.Perm.append_left _ List.perm_append_comm
theorem HI.my {O X Y1 Y2 W:List Keyed} (h:HI κ O X (Y1++Y2) W) (b:Bel κ X Y2):HI κ (Y2++O) X Y1 W:=by
 obtain ⟨a1,a2,a3⟩ := jM.mp h.sy
 refine ⟨?_,jM.mpr ⟨a2,h.so,fun x hx y hy=>h.yo x (List.mem_append_right _ hx) y hy⟩,h.sx,a1,bel_app2 b h.xo,bel_app2 a3 (fun x hx y hy=>h.yo x (List.mem_append_left _ hx) y hy)⟩
 have:=h.pm
 rw [<- List.append_assoc] at this
 rw [<- List.append_assoc]
 exact this
theorem HI.f1 {O Y W:List Keyed} (h:HI κ O [] Y W):(Y++O).Perm W/\Srt κ (Y++O):=by
 have:=h.pm
 rw [List.nil_append] at this
 exact ⟨this,jM.mpr ⟨h.sy,h.so,h.yo⟩⟩
theorem HI.f2 {O X Y W:List Keyed} (h:HI κ O X Y W) (b:Bel κ Y X):(Y++X++O).Perm W/\Srt κ (Y++X++O):=by
 have h2:HI κ (X++O) [] Y W:=HI.mx (X1:=[]) (X2:=X) h b
 rw [List.append_assoc]
 exact h2.f1
theorem HI.f3 {O X W:List Keyed} (h:HI κ O X [] W):(X++O).Perm W/\Srt κ (X++O):=by
 have:=h.pm
 rw [List.append_nil] at this
 exact ⟨this,jM.mpr ⟨h.sx,h.so,h.xo⟩⟩
theorem wV (a:Array Keyed) (n:Nat):(a.extract 0 n).toList=a.toList.take n:=by
 rw [Array.toList_extract,List.extract_eq_drop_take',List.drop_zero]
theorem ext_rev (a:Array Keyed) (i n:Nat):(a.extract i n).reverse.toList=((a.toList.take n).drop i).reverse:=by
 rw [Array.toList_reverse,Array.toList_extract,List.extract_eq_drop_take']
noncomputable abbrev rv (out:Array Keyed):List Keyed:=out.toList.reverse
theorem take_at {n:Nat} (h0 : 0<n) (h:n<=a.size):a.toList.take n=a.toList.take (n - 1)++[atK a (n - 1)]:=by
 obtain ⟨e,_⟩ := yO (a:=a) (i:=n - 1) (by (first|lia|omega))
 rw [<- Array.getElem?_toList] at e
 have:=List.take_succ (l:=a.toList) (i:=n - 1)
 rw [e,show n - 1+1=n by (first|lia|omega)] at this
 exact this
theorem kA {n:Nat} {x:Keyed} (h:x∈a.toList.take n):∃ j,j<n/\j<a.size/\x=atK a j:=by
 have:=qR (a:=a) (i:=0) (k:=n) (x:=x) (by rw [List.drop_zero]; exact h)
 obtain ⟨j,j1,j2,e⟩ := this
 rw [Nat.zero_add] at j2 e
 exact ⟨j,j1,j2,e⟩
theorem mem_mid {i n:Nat} {x:Keyed} (h:x∈(a.toList.take n).drop i):∃ j,i<=j/\j<n/\j<a.size/\x=atK a j:=by
 rw [List.drop_take] at h
 obtain ⟨j,j1,j2,e⟩ := qR h
 exact ⟨i+j,by (first|lia|omega),by (first|lia|omega),j2,e⟩
theorem hpush_a {na nb:Nat} (h:HI κ (rv out) (a.toList.take na) (b.toList.take nb) W) (h0 : 0<na) (hn:na<=a.size) (l:∀ y∈b.toList.take nb,κ y<=κ (atK a (na - 1))):HI κ (rv (out.push (atK a (na - 1)))) (a.toList.take (na - 1)) (b.toList.take nb) W:=by
 rw [take_at h0 hn] at h
 have:=h.mx fun y hy x hx=>by rw [List.mem_singleton.mp hx]; exact l y hy
 show HI κ (out.push _).toList.reverse _ _ _
 rw [Array.toList_push,List.reverse_append]
 exact this
theorem hpush_b {na nb:Nat} (h:HI κ (rv out) (a.toList.take na) (b.toList.take nb) W) (h0 : 0<nb) (hn:nb<=b.size) (l:∀ x∈a.toList.take na,κ x<=κ (atK b (nb - 1))):HI κ (rv (out.push (atK b (nb - 1)))) (a.toList.take na) (b.toList.take (nb - 1)) W:=by
 rw [take_at h0 hn] at h
 have:=h.my fun y hy x hx=>by rw [List.mem_singleton.mp hx]; exact l y hy
 show HI κ (out.push _).toList.reverse _ _ _
 rw [Array.toList_push,List.reverse_append]
 exact this
theorem happ_a {na nb k:Nat} (h:HI κ (rv out) (a.toList.take na) (b.toList.take nb) W) (hk:k<=na) (l:Bel κ (b.toList.take nb) ((a.toList.take na).drop k)):HI κ (rv (out++(a.extract k na).reverse)) (a.toList.take k) (b.toList.take nb) W:=by
 have e:a.toList.take na=a.toList.take k++(a.toList.take na).drop k:=by
  have:=List.take_append_drop k (a.toList.take na)
  rw [List.take_take,Nat.min_eq_left hk] at this
  exact this.symm
 rw [e] at h
 have:=h.mx l
 show HI κ (out++_).toList.reverse _ _ _
 rw [Array.toList_append,ext_rev,List.reverse_append,List.reverse_reverse]
 exact this
theorem happ_b {na nb k:Nat} (h:HI κ (rv out) (a.toList.take na) (b.toList.take nb) W) (hk:k<=nb) (l:Bel κ (a.toList.take na) ((b.toList.take nb).drop k)):HI κ (rv (out++(b.extract k nb).reverse)) (a.toList.take na) (b.toList.take k) W:=by
 have e:b.toList.take nb=b.toList.take k++(b.toList.take nb).drop k:=by
  have:=List.take_append_drop k (b.toList.take nb)
  rw [List.take_take,Nat.min_eq_left hk] at this
  exact this.symm
 rw [e] at h
 have:=h.my l
 show HI κ (out++_).toList.reverse _ _ _
 rw [Array.toList_append,ext_rev,List.reverse_append,List.reverse_reverse]
 exact this
theorem hfin_a {na nb:Nat} (h:HI κ (rv out) (a.toList.take na) (b.toList.take nb) W) (e:na=0):Fin' κ W (a.extract 0 na++b.extract 0 nb++out.reverse):=by
 unfold Fin'
 rw [Array.toList_append,Array.toList_append,wV,wV,Array.toList_reverse]
 subst e
 rw [List.take_zero] at h ⊢
 rw [List.nil_append]
 exact h.f1
theorem hfin_b {na nb:Nat} (h:HI κ (rv out) (a.toList.take na) (b.toList.take nb) W) (e:nb=0):Fin' κ W (a.extract 0 na++b.extract 0 nb++out.reverse):=by
 unfold Fin'
 rw [Array.toList_append,Array.toList_append,wV,wV,Array.toList_reverse]
 subst e
 rw [List.take_zero] at h ⊢
 rw [List.append_nil]
 exact h.f3
theorem wT {na nb:Nat} (h:HI κ (rv out) (a.toList.take na) (b.toList.take nb) W) (e:nb=1) (hf:∀ x,b.toList[0]? = some x->∀ y∈a.toList,κ x<=κ y):Fin' κ W (b.extract 0 nb++a.extract 0 na++out.reverse):=by
 unfold Fin'
 rw [Array.toList_append,Array.toList_append,wV,wV,Array.toList_reverse]
 refine h.f2 fun y hy x hx => ?_
 obtain ⟨j,j1,j2,rfl⟩ := kA hy
 have:j=0:=by (first|lia|omega)
 subst this
 refine hf _ ?_ x (List.mem_of_mem_take hx)
 rw [Array.getElem?_toList]
 exact (yO j2).1
end
section
variable {M:Model} {A:Around} {E:Value->Shared->Prop} {s:Shared} {κ:Keyed->Int} {ok:Keyed->Prop} {kd:SortKind}
theorem galH_false (L:LtOk M A E s κ ok kd) {key:Keyed} {a:Array Keyed} {n:Nat} {st:SortSt} {Q:Option Nat->SortSt->Prop} (hk:kindOf st=kd) (ok0:ok key) (oka:∀ x∈a.toList,ok x) (sa:Srt κ a.toList) (h0 : 0<n) (hn:n<=a.size)
  (q:∀ k,k<=n->(∀ x∈a.toList.take k,κ x<=κ key)->(∀ x∈(a.toList.take n).drop k,κ key<κ x)->Q (some k) st):wpS M A E s (gallopM false key a 0 n (n - 1)) Q st:=by
 refine jW L (xs:=fun j=>atK a j) hk ok0 (fun j hj=>⟨by rw [Nat.zero_add]; exact (yO (by (first|lia|omega))).1,oka _ (yO (by (first|lia|omega))).2⟩) (fun j1 j2 h12 h2 hb => ?_) (by (first|lia|omega)) fun k hk1 h1 h2=>q k hk1 (fun x hx => ?_) (fun x hx => ?_)
 ·unfold bey at hb ⊢
  have:=kB sa h12 (by (first|lia|omega))
  simp at hb ⊢
  (first|lia|omega)
 ·obtain ⟨j,j1,j2,rfl⟩ := kA hx
  have:=h1 j j1
  unfold bey at this
  simpa using this
 ·obtain ⟨j,j1,j2,j3,rfl⟩ := mem_mid hx
  have:=h2 j j1 j2
  unfold bey at this
  simpa using this
theorem galH_true (L:LtOk M A E s κ ok kd) {key:Keyed} {a:Array Keyed} {n:Nat} {st:SortSt} {Q:Option Nat->SortSt->Prop} (hk:kindOf st=kd) (ok0:ok key) (oka:∀ x∈a.toList,ok x) (sa:Srt κ a.toList) (h0 : 0<n) (hn:n<=a.size)
  (q:∀ k,k<=n->(∀ x∈a.toList.take k,κ x<κ key)->(∀ x∈(a.toList.take n).drop k,κ key<=κ x)->Q (some k) st):wpS M A E s (gallopM true key a 0 n (n - 1)) Q st:=by
 refine jW L (xs:=fun j=>atK a j) hk ok0 (fun j hj=>⟨by rw [Nat.zero_add]; exact (yO (by (first|lia|omega))).1,oka _ (yO (by (first|lia|omega))).2⟩) (fun j1 j2 h12 h2 hb => ?_) (by (first|lia|omega)) fun k hk1 h1 h2=>q k hk1 (fun x hx => ?_) (fun x hx => ?_)
 ·unfold bey at hb ⊢
  have:=kB sa h12 (by (first|lia|omega))
  simp at hb ⊢
  (first|lia|omega)
 ·obtain ⟨j,j1,j2,rfl⟩ := kA hx
  have:=h1 j j1
  unfold bey at this
  simpa using this
 ·obtain ⟨j,j1,j2,j3,rfl⟩ := mem_mid hx
  have:=h2 j j1 j2
  unfold bey at this
  simpa using this
theorem wpS_mergeHi (L:LtOk M A E s κ ok kd) {a b:Array Keyed} {st:SortSt} {Q:Array Keyed->SortSt->Prop} (hk:kindOf st=kd) (oka:∀ x∈a.toList,ok x) (okb:∀ x∈b.toList,ok x) (sa:Srt κ a.toList) (sb:Srt κ b.toList) (a0 : 0<a.size) (b0 : 0<b.size)
  (hf:∀ x,b.toList[0]? = some x->∀ y∈a.toList,κ x<=κ y) (hl:∀ x,a.toList[a.size - 1]? = some x->∀ y∈b.toList,κ y<=κ x)
  (q:∀ (r:Array Keyed) (st':SortSt),r.toList.Perm (a.toList++b.toList)->Srt κ r.toList->kindOf st'=kd->arrOf st'=arrOf st->pendingOf st'=pendingOf st->failedOf st'=failedOf st->Q r st'):wpS M A E s (mergeHiM a b) Q st:=by
 have SS0:SaS kd st st:=⟨hk,rfl,rfl,rfl⟩
 have fin:∀ r st',Fin' κ (a.toList++b.toList) r->SaS kd st st'->Q r st':=fun r st' f z=>q r st' f.1 f.2 z.1 z.2.1 z.2.2.1 z.2.2.2
 generalize hW:a.toList++b.toList=W at *
 have m0:HI κ (rv #[]) (a.toList.take a.size) (b.toList.take b.size) W:=by
  rw [<- Array.length_toList (xs:=a),<- Array.length_toList (xs:=b),List.take_length,List.take_length]
  exact ⟨by rw [hW]; show (W++[]).Perm W; rw [List.append_nil],List.Pairwise.nil,sa,sb,fun x hx y hy=>(nomatch hy),fun x hx y hy=>(nomatch hy)⟩
 obtain ⟨ea0,ma0⟩ := yO (show a.size - 1<a.size by (first|lia|omega))
 have M1:HI κ (rv #[atK a (a.size - 1)]) (a.toList.take (a.size - 1)) (b.toList.take b.size) W:=by
  refine hpush_a (out:=#[]) m0 a0 (Nat.le_refl _) fun y hy=>hl _ ?_ y (List.mem_of_mem_take hy)
  rw [Array.getElem?_toList]; exact ea0
 refine wpS_bind (wpS_lift (wpAny_rule ⟨rfl,?_⟩))
 refine wpS_bind (yL ea0 ?_)
 dsimp only
 by_cases c1:a.size - 1=0
 ·rw [if_pos (by simpa using c1)]
  exact wpS_pure (fin _ _ (hfin_a M1 c1) SS0)
 rw [if_neg (by simpa using c1)]
 by_cases c2:b.size=1
 ·rw [if_pos (by simpa using c2)]
  exact wpS_pure (fin _ _ (wT M1 c2 hf) SS0)
 rw [if_neg (by simpa using c2)]
 refine wpS_bind (wpS_get ?_)
 refine wpS_bind (wpS_mono (wpS_forRange (I:=fun x c st'=>SaS kd st st'/\∃ na nb out mg,c=(none,na,nb,out,mg)/\(HI κ (rv out) (a.toList.take na) (b.toList.take nb) W/\0<na/\na<=a.size/\1<nb/\nb<=b.size)/\na+nb+1+x<=a.size+b.size)
  (Q:=fun c st'=>SaS kd st st'/\∃ r,c.1=some r/\Fin' κ W r) ?_ ?_ ⟨SS0,_,_,_,_,rfl,⟨M1,by (first|lia|omega),by (first|lia|omega),by (first|lia|omega),Nat.le_refl _⟩,by (first|lia|omega)⟩) ?_)
 ·rintro x c st1 _ hx ⟨SS1,na,nb,out,mg,rfl,⟨m1,ha0,ha,hb0,hb⟩,hxx⟩
  dsimp only
  refine wpS_bind (wpS_mono (wpS_forRange (I:=fun y c st'=>SaS kd st st'/\∃ na nb out ac bc,c=(none,na,nb,out,ac,bc)/\(HI κ (rv out) (a.toList.take na) (b.toList.take nb) W/\0<na/\na<=a.size/\1<nb/\nb<=b.size)/\na+nb+1+x+y<=a.size+b.size)
   (Q:=fun c st'=>SaS kd st st'/\((∃ r,c.1=some r/\Fin' κ W r)\/∃ na nb out ac bc,c=(none,na,nb,out,ac,bc)/\(HI κ (rv out) (a.toList.take na) (b.toList.take nb) W/\0<na/\na<=a.size/\1<nb/\nb<=b.size)/\na+nb+1+x+1<=a.size+b.size)) ?_ ?_ ⟨SS1,_,_,_,_,_,rfl,⟨m1,ha0,ha,hb0,hb⟩,by (first|lia|omega)⟩) ?_)
  ·rintro y c st2 _ hy ⟨SS2,na,nb,out,ac,bc,rfl,⟨m2,ha0,ha,hb0,hb⟩,hxx⟩
   dsimp only
   obtain ⟨eb,mb⟩ := yO (show nb - 1<b.size by (first|lia|omega))
   obtain ⟨ea,ma⟩ := yO (show na - 1<a.size by (first|lia|omega))
   refine wpS_bind (yL eb (wpS_bind (yL ea (wpS_bind (L.lt _ _ _ _ (okb _ mb) (oka _ ma) SS2.1 ?_)))))
   dsimp only
   by_cases c : κ (atK b (nb - 1))<κ (atK a (na - 1))
   ·rw [if_pos (decide_eq_true c)]
    refine wpS_bind (yL ea ?_)
    have m3:=hpush_a m2 ha0 ha fun z hz=>by
     obtain ⟨j,j1,j2,rfl⟩ := kA hz
     have:=kB sb (show j<=nb - 1 by (first|lia|omega)) (by (first|lia|omega))
     (first|lia|omega)
    by_cases c3:na - 1=0
    ·rw [if_pos (by simpa using c3)]
     exact wpS_pure ⟨SS2,.inl ⟨_,rfl,hfin_a m3 c3⟩⟩
    rw [if_neg (by simpa using c3)]
    by_cases c4:ac+1 ≥ mg
    ·rw [if_pos c4]
     exact wpS_pure ⟨SS2,.inr ⟨_,_,_,_,_,rfl,⟨m3,by (first|lia|omega),by (first|lia|omega),hb0,hb⟩,by (first|lia|omega)⟩⟩
    ·rw [if_neg c4]
     exact wpS_pure ⟨SS2,_,_,_,_,_,rfl,⟨m3,by (first|lia|omega),by (first|lia|omega),hb0,hb⟩,by (first|lia|omega)⟩
   ·rw [if_neg (by simpa using c)]
    refine wpS_bind (yL eb ?_)
    have m3:=hpush_b m2 (by (first|lia|omega)) hb fun z hz=>by
     obtain ⟨j,j1,j2,rfl⟩ := kA hz
     have:=kB sa (show j<=na - 1 by (first|lia|omega)) (by (first|lia|omega))
     (first|lia|omega)
    by_cases c3:nb - 1=1
    ·rw [if_pos (by simpa using c3)]
     exact wpS_pure ⟨SS2,.inl ⟨_,rfl,wT m3 c3 hf⟩⟩
    rw [if_neg (by simpa using c3)]
    by_cases c4:bc+1 ≥ mg
    ·rw [if_pos c4]
     exact wpS_pure ⟨SS2,.inr ⟨_,_,_,_,_,rfl,⟨m3,ha0,ha,by (first|lia|omega),by (first|lia|omega)⟩,by (first|lia|omega)⟩⟩
    ·rw [if_neg c4]
     exact wpS_pure ⟨SS2,_,_,_,_,_,rfl,⟨m3,ha0,ha,by (first|lia|omega),by (first|lia|omega)⟩,by (first|lia|omega)⟩
  ·rintro c st2 ⟨SS2,na,nb,out,ac,bc,rfl,m2,hxx⟩
   exact ⟨SS2,.inr ⟨_,_,_,_,_,rfl,m2,by (first|lia|omega)⟩⟩
  ·rintro c st2 ⟨SS2,⟨r,er,hr⟩ | ⟨na,nb,out,ac,bc,rfl,m2,hxx⟩⟩
   ·obtain ⟨c1',c2'⟩ := c
    cases er
    exact wpS_pure ⟨SS2,r,rfl,hr⟩
   dsimp only
   refine wpS_bind (wpS_lift (wpAny_rule ⟨rfl,?_⟩))
   refine wpS_bind (wpS_mono (wpS_forRange (I:=fun y c st'=>SaS kd st st'/\∃ na nb out mg ac bc,c=(none,na,nb,out,mg,ac,bc)/\(HI κ (rv out) (a.toList.take na) (b.toList.take nb) W/\0<na/\na<=a.size/\1<nb/\nb<=b.size)/\na+nb+1+x+1<=a.size+b.size)
    (Q:=fun c st'=>SaS kd st st'/\((∃ r,c.1=some r/\Fin' κ W r)\/∃ na nb out mg ac bc,c=(none,na,nb,out,mg,ac,bc)/\(HI κ (rv out) (a.toList.take na) (b.toList.take nb) W/\0<na/\na<=a.size/\1<nb/\nb<=b.size)/\na+nb+1+x+1<=a.size+b.size)) ?_ ?_ ⟨SS2,_,_,_,_,_,_,rfl,m2,by (first|lia|omega)⟩) ?_)
   ·clear m2 SS2 hxx m1 ha0 ha hb0 hb
    rintro y c st3 _ hy ⟨SS3,na,nb,out,mg,ac,bc,rfl,⟨m3,ha0,ha,hb0,hb⟩,hxx⟩
    dsimp only
    obtain ⟨eb,mb⟩ := yO (show nb - 1<b.size by (first|lia|omega))
    revert mg
    refine wpS_both (f:=fun m=>m - 1) (fun _=>rfl) (fun mg => ?_)
    refine wpS_bind (wpS_setG SS3 fun st4 SS4 => ?_)
    refine wpS_bind (yL eb ?_)
    refine wpS_bind (galH_false L SS4.1 (okb _ mb) oka sa ha0 ha fun k hk1 l1 l2 => ?_)
    dsimp only
    have m4:=happ_a m3 hk1 fun x hx z hz=>by
     have:=l2 z hz
     obtain ⟨j,j1,j2,rfl⟩ := kA hx
     have:=kB sb (show j<=nb - 1 by (first|lia|omega)) (by (first|lia|omega))
     (first|lia|omega)
    obtain ⟨cA,hA⟩ : ∃ c,na - k=c:=⟨_,rfl⟩
    rw [hA]
    have R0:na - k=cA/\HI κ (rv out) (a.toList.take na) (b.toList.take nb) W/\0<na/\na<=a.size/\na+nb+1+x+1<=a.size+b.size/\k<=na/\HI κ (rv (out++(a.extract k na).reverse)) (a.toList.take k) (b.toList.take nb) W:=⟨hA,m3,ha0,ha,hxx,hk1,m4⟩
    clear m3 ha0 ha hxx m4 l2 hk1 hA
    revert out na
    refine wpS_rest (fun i o=>HI κ (rv o) (a.toList.take i) (b.toList.take nb) W/\0<i/\i<=a.size/\i+nb+1+x+1<=a.size+b.size/\∀ x∈a.toList.take i,κ x<=κ (atK b (nb - 1))) (fun na5 out5 r => ?_) (fun na out ⟨hA,m3,ha0,ha,hxx,hk1,m4⟩ ck rest => ?_) (fun na out ⟨hA,m3,ha0,ha,hxx,hk1,m4⟩ ck => ?_)
    ·obtain ⟨m5,h50,h5a,h5,l5⟩ := r
     refine wpS_bind (yL eb ?_)
     have m6:=hpush_b m5 (by (first|lia|omega)) hb l5
     refine xG (fun c6 => ?_) (fun c6 => ?_)
     ·exact wpS_pure ⟨SS4,.inl ⟨_,rfl,wT m6 (eq_of_beq c6) hf⟩⟩
     replace c6:¬ nb - 1=1:=neB c6
     obtain ⟨ea5,ma5⟩ := yO (show na5 - 1<a.size by (first|lia|omega))
     refine wpS_bind (yL ea5 ?_)
     refine wpS_bind (galH_true L SS4.1 (oka _ ma5) okb sb (show 0<nb - 1 by (first|lia|omega)) (by (first|lia|omega)) fun k2 hk2 g1 g2 => ?_)
     dsimp only
     have m7:=happ_b m6 hk2 fun x hx z hz=>by
      have:=g2 z hz
      obtain ⟨j,j1,j2,rfl⟩ := kA hx
      have:=kB sa (show j<=na5 - 1 by (first|lia|omega)) (by (first|lia|omega))
      (first|lia|omega)
     obtain ⟨cB,hB⟩ : ∃ c,nb - 1 - k2=c:=⟨_,rfl⟩
     rw [hB]
     have R0:nb - 1 - k2=cB/\HI κ (rv (out5.push (atK b (nb - 1)))) (a.toList.take na5) (b.toList.take (nb - 1)) W/\1<nb - 1/\nb - 1<=b.size/\na5+(nb - 1)+1+x+1+1<=a.size+b.size/\k2<=nb - 1/\HI κ (rv (out5.push (atK b (nb - 1))++(b.extract k2 (nb - 1)).reverse)) (a.toList.take na5) (b.toList.take k2) W:=⟨hB,m6,by (first|lia|omega),by (first|lia|omega),by (first|lia|omega),hk2,m7⟩
     clear m5 m6 m7 g2 hk2 c6 h5 l5 hB
     generalize out5.push (atK b (nb - 1))=o6 at *
     clear l1 eb mb
     generalize nb - 1=n6 at *
     revert o6 n6
     refine wpS_rest (fun o i=>HI κ (rv o) (a.toList.take na5) (b.toList.take i) W/\1<i/\i<=b.size/\na5+i+1+x+1<=a.size+b.size/\∀ y∈b.toList.take i,κ y<κ (atK a (na5 - 1))) (fun out7 i7 ⟨m7,h70,h7b,h7,g7⟩ => ?_) (fun o6 n6 ⟨hB,m6,c6,hb6,h6,hk2,m7⟩ ck rest => ?_) (fun o6 n6 ⟨hB,m6,c6,hb6,h6,hk2,m7⟩ ck => ?_)
     ·refine wpS_bind (yL ea5 ?_)
      have m8:=hpush_a m7 h50 h5a fun y hy=>Int.le_of_lt (g7 y hy)
      refine xG (fun c8 => ?_) (fun c8 => ?_)
      ·exact wpS_pure ⟨SS4,.inl ⟨_,rfl,hfin_a m8 (eq_of_beq c8)⟩⟩
      replace c8:¬ na5 - 1=0:=neB c8
      split
      ·exact wpS_pure ⟨SS4,.inr ⟨_,_,_,_,_,_,rfl,⟨m8,by (first|lia|omega),by (first|lia|omega),by (first|lia|omega),by (first|lia|omega)⟩,by (first|lia|omega)⟩⟩
      ·exact wpS_pure ⟨SS4,_,_,_,_,_,_,rfl,⟨m8,by (first|lia|omega),by (first|lia|omega),by (first|lia|omega),by (first|lia|omega)⟩,by (first|lia|omega)⟩
     ·refine xG (fun c7 => ?_) (fun c7 => ?_)
      ·exact wpS_pure ⟨SS4,.inl ⟨_,rfl,wT m7 (eq_of_beq c7) hf⟩⟩
      replace c7:¬ k2=1:=neB c7
      refine xG (fun c9 => ?_) (fun c9 => ?_)
      ·exact wpS_pure ⟨SS4,.inl ⟨_,rfl,hfin_b m7 (eq_of_beq c9)⟩⟩
      replace c9:¬ k2=0:=neB c9
      exact rest (o6++(b.extract k2 n6).reverse) k2 ⟨m7,by (first|lia|omega),by (first|lia|omega),by (first|lia|omega),g1⟩
     ·have k20:k2=n6:=by (first|lia|omega)
      subst k20
      exact ⟨m6,c6,hb6,by (first|lia|omega),g1⟩
    ·refine xG (fun c5 => ?_) (fun c5 => ?_)
     ·exact wpS_pure ⟨SS4,.inl ⟨_,rfl,hfin_a m4 (eq_of_beq c5)⟩⟩
     replace c5:¬ k=0:=neB c5
     exact rest k (out++(a.extract k na).reverse) ⟨m4,by (first|lia|omega),by (first|lia|omega),by (first|lia|omega),l1⟩
    ·have k0:k=na:=by (first|lia|omega)
     subst k0
     exact ⟨m3,ha0,ha,hxx,l1⟩
   ·rintro c st3 ⟨SS3,na,nb,out,mg,ac,bc,rfl,m3,hxx⟩
    exact ⟨SS3,.inr ⟨_,_,_,_,_,_,rfl,m3,hxx⟩⟩
   ·rintro c st3 ⟨SS3,⟨r,er,hr⟩ | ⟨na,nb,out,mg,ac,bc,rfl,m3,hxx⟩⟩
    ·obtain ⟨c1',c2'⟩ := c
     cases er
     exact wpS_pure ⟨SS3,r,rfl,hr⟩
    dsimp only
    refine wpS_bind (wpS_setG SS3 fun st4 SS4 => ?_)
    exact wpS_pure ⟨SS4,_,_,_,_,rfl,m3,by (first|lia|omega)⟩
 ·rintro c st1 ⟨SS1,na,nb,out,mg,rfl,_,hx⟩
  (first|lia|omega)
 ·rintro c st1 ⟨SS1,r,er,hr⟩
  obtain ⟨c1',c2'⟩ := c
  cases er
  exact wpS_pure (fin _ _ hr SS1)
end
end L2

namespace L2
open PySem PyProof.Rows
section
variable {κ:Keyed->Int} {xs ys:Array Keyed}
noncomputable def Sg (κ:Keyed->Int) (xs:Array Keyed) (lo n:Nat):Prop:=∀ i j,lo<=i->i<=j->j<lo+n->κ (atK xs i)<=κ (atK xs j)
theorem Sg.mono {lo n lo' n':Nat} (h:Sg κ xs lo n) (h1:lo<=lo') (h2:lo'+n'<=lo+n):Sg κ xs lo' n':=fun i j a b c=>h i j (by (first|lia|omega)) b (by (first|lia|omega))
theorem atK_congr {i:Nat} (h:xs[i]? = ys[i]?):atK xs i=atK ys i:=by unfold atK; rw [h]
theorem yV {i j:Nat} (h:xs[i]? = ys[j]?):atK xs i=atK ys j:=by unfold atK; rw [h]
theorem Sg.congr {lo n:Nat} (h:Sg κ xs lo n) (e:∀ j,lo<=j->j<lo+n->ys[j]? = xs[j]?):Sg κ ys lo n:=fun i j a b c=>by
 rw [atK_congr (e i a (by (first|lia|omega))),atK_congr (e j (by (first|lia|omega)) c)]
 exact h i j a b c
theorem ext_get {i j k:Nat} (h:i+k<j):(xs.extract i j)[k]? = xs[i+k]?:=by
 rw [Array.getElem?_extract]
 split
 ·rfl
 ·rename_i c
  rw [Array.getElem?_eq_none (by (first|lia|omega))]
theorem ext_atK {i j k:Nat} (h:i+k<j):atK (xs.extract i j) k=atK xs (i+k):=by unfold atK; rw [ext_get h]
theorem Sg.srt {i j:Nat} (h:Sg κ xs i (j - i)) (hj:j<=xs.size):Srt κ (xs.extract i j).toList:=by
 unfold Srt
 rw [List.pairwise_iff_getElem]
 intro a b ha hb hab
 rw [Array.length_toList,Array.size_extract] at ha hb
 have e1:=(yO (a:=xs.extract i j) (i:=a) (by rw [Array.size_extract]; (first|lia|omega))).1
 have e2:=(yO (a:=xs.extract i j) (i:=b) (by rw [Array.size_extract]; (first|lia|omega))).1
 rw [<- Array.getElem?_toList] at e1 e2
 obtain ⟨_,g1⟩ := List.getElem?_eq_some_iff.mp e1
 obtain ⟨_,g2⟩ := List.getElem?_eq_some_iff.mp e2
 rw [g1,g2,ext_atK (by (first|lia|omega)),ext_atK (by (first|lia|omega))]
 exact h _ _ (by (first|lia|omega)) (by (first|lia|omega)) (by (first|lia|omega))
theorem set_all:∀ (ms:List Keyed) (xs:Array Keyed) (sa o:Nat),sa+o+ms.length<=xs.size ->
  ((ms.zipIdx o).foldl (fun a (x:Keyed × Nat)=>a.setIfInBounds (sa+x.2) x.1) xs).toList=xs.toList.take (sa+o)++ms++xs.toList.drop (sa+o+ms.length)
 | [],xs,sa,o,h=>by
  rw [List.zipIdx_nil,List.foldl_nil,List.append_nil]
  exact (List.take_append_drop _ _).symm
 | m :: ms,xs,sa,o,h=>by
  rw [List.zipIdx_cons,List.foldl_cons]
  rw [List.length_cons] at h
  have hl:sa+o<xs.toList.length:=by rw [Array.length_toList]; (first|lia|omega)
  rw [set_all ms _ sa (o+1) (by rw [Array.size_setIfInBounds]; (first|lia|omega)),Array.toList_setIfInBounds]
  have e1:(xs.toList.set (sa+o) m).take (sa+(o+1))=xs.toList.take (sa+o)++[m]:=by
   rw [show sa+(o+1)=sa+o+1 by (first|lia|omega),List.take_succ,List.take_set_of_le (Nat.le_refl _),List.getElem?_set_self hl]
   rfl
  have e2:(xs.toList.set (sa+o) m).drop (sa+(o+1)+ms.length)=xs.toList.drop (sa+o+(m :: ms).length):=by
   rw [List.drop_set_of_lt (by (first|lia|omega)),List.length_cons]
   congr 1
   (first|lia|omega)
  rw [e1,e2]
  simp
end
section
variable {κ:Keyed->Int} {xs:Array Keyed}
theorem mem_ext {i j:Nat} {z:Keyed} (h:z∈(xs.extract i j).toList):∃ m,i<=m/\m<j/\m<xs.size/\z=atK xs m:=by
 rw [Array.toList_extract,List.extract_eq_drop_take'] at h
 obtain ⟨m,a,b,c,e⟩ := mem_mid h
 exact ⟨m,a,b,c,e⟩
theorem Sg.join {lo n m:Nat} (h1:Sg κ xs lo n) (h2:Sg κ xs (lo+n) m) (h:∀ i j,lo<=i->i<lo+n->lo+n<=j->j<lo+n+m->κ (atK xs i)<=κ (atK xs j)):Sg κ xs lo (n+m):=fun i j a b c=>by
 by_cases c1:j<lo+n
 ·exact h1 i j a b c1
 by_cases c2:i<lo+n
 ·exact h i j a c2 (by (first|lia|omega)) (by (first|lia|omega))
 ·exact h2 i j (by (first|lia|omega)) b (by (first|lia|omega))
structure Put (xs ys:Array Keyed) (i:Nat) (r:List Keyed):Prop where
 all:ys.toList=xs.toList.take i++r++xs.toList.drop (i+r.length)
 fit:i+r.length<=xs.size
theorem Put.out {ys:Array Keyed} {i:Nat} {r:List Keyed} (h:Put xs ys i r) {j:Nat} (hj:¬ (i<=j/\j<i+r.length)):ys[j]? = xs[j]?:=by
 have hf:=h.fit
 rw [<- Array.getElem?_toList,<- Array.getElem?_toList,h.all]
 have l1:(xs.toList.take i).length=i:=by rw [List.length_take,Array.length_toList]; (first|lia|omega)
 by_cases c:j<i
 ·rw [List.append_assoc,List.getElem?_append_left (by (first|lia|omega)),List.getElem?_take_of_lt c]
 ·rw [List.getElem?_append_right (by rw [List.length_append]; (first|lia|omega)),List.getElem?_drop,List.length_append,l1]
  congr 1
  (first|lia|omega)
theorem Put.in {ys:Array Keyed} {i:Nat} {r:List Keyed} (h:Put xs ys i r) {j:Nat} (h1:i<=j) (h2:j<i+r.length):ys[j]? = r[j - i]?:=by
 have hf:=h.fit
 rw [<- Array.getElem?_toList,h.all]
 have l1:(xs.toList.take i).length=i:=by rw [List.length_take,Array.length_toList]; (first|lia|omega)
 rw [List.getElem?_append_left (by rw [List.length_append]; (first|lia|omega)),List.getElem?_append_right (by (first|lia|omega)),l1]
theorem Put.perm {ys:Array Keyed} {i m:Nat} {r:List Keyed} (h:Put xs ys i r) (hm:m=i+r.length) (hr:r.Perm (xs.extract i m).toList):ys.toList.Perm xs.toList:=by
 rw [h.all,<- hm]
 have e:xs.toList=xs.toList.take i++(xs.extract i m).toList++xs.toList.drop m:=by
  rw [Array.toList_extract,List.extract_eq_drop_take']
  have:=List.take_append_drop i (xs.toList.take m)
  rw [List.take_take,Nat.min_eq_left (by (first|lia|omega))] at this
  rw [this,List.take_append_drop]
 exact (List.Perm.append_right _ (List.Perm.append_left _ hr)).trans (by rw [<- e])
end
section
variable {M:Model} {A:Around} {E:Value->Shared->Prop} {s:Shared} {κ:Keyed->Int} {ok:Keyed->Prop} {kd:SortKind}
theorem wpS_set {st st':SortSt} {Q:PUnit->SortSt->Prop} (q:Q ⟨⟩ st'):wpS M A E s (set st':StateT SortSt Sem PUnit) Q st:=by
 unfold wpS
 rw [StateT.run_set]
 exact wpAny_pure ⟨rfl,q⟩
theorem wpS_mergeAt (L:LtOk M A E s κ ok kd) {st:SortSt} {Q:Bool->SortSt->Prop} {xs:Array Keyed} {p1 p2:List (Nat × Nat × Nat)} {sa na pw sb nb pw2:Nat} (hk:kindOf st=kd) (hxs:arrOf st=xs) (okx:∀ x∈xs.toList,ok x) (hp:(pendingOf st).toList=p1++(sa,na,pw) :: (sb,nb,pw2) :: p2) (hf:failedOf st=none)
  (hsb:sb=sa+na) (na0 : 0<na) (nb0 : 0<nb) (hn:sb+nb<=xs.size) (sA:Sg κ xs sa na) (sB:Sg κ xs sb nb)
  (q:∀ st',kindOf st'=kd->failedOf st'=none->(arrOf st').toList.Perm xs.toList->(∀ j,¬ (sa<=j/\j<sa+na+nb)->(arrOf st')[j]? = xs[j]?)->Sg κ (arrOf st') sa (na+nb)->(pendingOf st').toList=p1++(sa,na+nb,pw) :: p2->Q true st'):wpS M A E s (mergeAt' p1.length) Q st:=by
 refine wpS_bind (wpS_get ?_)
 have g1:(pendingOf st)[p1.length]? = some (sa,na,pw):=by
  rw [<- Array.getElem?_toList,hp,List.getElem?_append_right (Nat.le_refl _),Nat.sub_self]
  rfl
 have g2:(pendingOf st)[p1.length+1]? = some (sb,nb,pw2):=by
  rw [<- Array.getElem?_toList,hp,List.getElem?_append_right (by (first|lia|omega)),show p1.length+1 - p1.length=1 by (first|lia|omega)]
  rfl
 rw [g1,g2]
 dsimp only
 have hpd:(((pendingOf st).setIfInBounds p1.length (sa,na+nb,pw)).eraseIdxIfInBounds (p1.length+1)).toList=p1++(sa,na+nb,pw) :: p2:=by
  rw [Array.toList_eraseIdxIfInBounds,Array.toList_setIfInBounds,hp,List.set_append_right _ _ (Nat.le_refl _),Nat.sub_self,List.set_cons_zero,List.eraseIdx_append_of_length_le (by (first|lia|omega)),show p1.length+1 - p1.length=1 by (first|lia|omega)]
  rfl
 generalize hpe:((pendingOf st).setIfInBounds p1.length (sa,na+nb,pw)).eraseIdxIfInBounds (p1.length+1)=pe at *
 subst hxs
 refine wpS_bind (wpS_set ?_)
 have asIs:Sg κ (arrOf st) sa (na+nb)->Q true (SortSt.mk' (kindOf st) (arrOf st) pe (gallopOf st) (failedOf st)):=fun h=>q _ hk hf (List.Perm.refl _) (fun _ _=>rfl) h hpd
 have eS:∀ {j:Nat},j<(arrOf st).size->(arrOf st)[j]? = some (atK (arrOf st) j)/\ok (atK (arrOf st) j):=fun h=>⟨(yO h).1,okx _ (yO h).2⟩
 subst hsb
 refine wpS_bind (yL (eS (show sa+na<_ by (first|lia|omega))).1 ?_)
 refine wpS_bind (jW L (xs:=fun j=>atK (arrOf st) (sa+j)) hk (eS (by (first|lia|omega))).2 (fun j hj=>eS (by (first|lia|omega))) (fun j1 j2 h12 h2 hb => ?_) na0 fun k hk1 k1 k2 => ?_)
 ·unfold bey at hb ⊢
  have:=sA (sa+j1) (sa+j2) (by (first|lia|omega)) (by (first|lia|omega)) (by (first|lia|omega))
  simp at hb ⊢
  (first|lia|omega)
 dsimp only
 have k1':∀ i,i<k->κ (atK (arrOf st) (sa+i))<=κ (atK (arrOf st) (sa+na)):=fun i hi=>by
  have:=k1 i hi
  unfold bey at this
  simpa using this
 have k2':∀ i,k<=i->i<na->κ (atK (arrOf st) (sa+na))<κ (atK (arrOf st) (sa+i)):=fun i h1 h2=>by
  have:=k2 i h1 h2
  unfold bey at this
  simpa using this
 by_cases c1:na - k=0
 ·rw [if_pos (by simpa using c1)]
  refine wpS_pure (asIs (Sg.join sA sB fun i j a1 a2 a3 a4 => ?_))
  have z1:=k1' (i - sa) (by (first|lia|omega))
  have z2:=sB (sa+na) j (by (first|lia|omega)) (by (first|lia|omega)) (by (first|lia|omega))
  rw [show sa+(i - sa)=i by (first|lia|omega)] at z1
  (first|lia|omega)
 rw [if_neg (by simpa using c1)]
 refine wpS_bind (yL (eS (show sa+k+(na - k) - 1<_ by (first|lia|omega))).1 ?_)
 have e1:sa+k+(na - k) - 1=sa+na - 1:=by (first|lia|omega)
 rw [e1]
 refine wpS_bind (jW L (xs:=fun j=>atK (arrOf st) (sa+na+j)) hk (eS (by (first|lia|omega))).2 (fun j hj=>eS (by (first|lia|omega))) (fun j1 j2 h12 h2 hb => ?_) (by (first|lia|omega)) fun n2 hn2 m1 m2 => ?_)
 ·unfold bey at hb ⊢
  have:=sB (sa+na+j1) (sa+na+j2) (by (first|lia|omega)) (by (first|lia|omega)) (by (first|lia|omega))
  simp at hb ⊢
  (first|lia|omega)
 dsimp only
 have m1':∀ i,i<n2->κ (atK (arrOf st) (sa+na+i))<κ (atK (arrOf st) (sa+na - 1)):=fun i hi=>by
  have:=m1 i hi
  unfold bey at this
  simpa using this
 have m2':∀ i,n2<=i->i<nb->κ (atK (arrOf st) (sa+na - 1))<=κ (atK (arrOf st) (sa+na+i)):=fun i h1 h2=>by
  have:=m2 i h1 h2
  unfold bey at this
  simpa using this
 by_cases c2:n2=0
 ·rw [if_pos (by simpa using c2)]
  refine wpS_pure (asIs (Sg.join sA sB fun i j a1 a2 a3 a4 => ?_))
  have z1:=sA i (sa+na - 1) (by (first|lia|omega)) (by (first|lia|omega)) (by (first|lia|omega))
  have z2:=m2' (j - (sa+na)) (by (first|lia|omega)) (by (first|lia|omega))
  rw [show sa+na+(j - (sa+na))=j by (first|lia|omega)] at z2
  (first|lia|omega)
 rw [if_neg (by simpa using c2)]
 have post:∀ (r:Array Keyed) (st':SortSt),r.toList.Perm (((arrOf st).extract (sa+k) (sa+na)).toList++((arrOf st).extract (sa+na) (sa+na+n2)).toList)->Srt κ r.toList->kindOf st'=kd->arrOf st'=arrOf st->pendingOf st'=pe->failedOf st'=failedOf st ->
   Q true (SortSt.mk' (kindOf st') (r.toList.zipIdx.foldl (fun a (x:Keyed × Nat)=>a.setIfInBounds (sa+k+x.2) x.1) (arrOf st')) (pendingOf st') (gallopOf st') (failedOf st')):=fun r st' rp rs b1 b2 b3 b4=>by
  rw [b1,b2,b3,b4]
  have rl:r.toList.length=na - k+n2:=by
   rw [rp.length_eq,List.length_append,Array.length_toList,Array.length_toList,Array.size_extract,Array.size_extract]
   (first|lia|omega)
  have pt:Put (arrOf st) (r.toList.zipIdx.foldl (fun a (x:Keyed × Nat)=>a.setIfInBounds (sa+k+x.2) x.1) (arrOf st)) (sa+k) r.toList:=⟨set_all r.toList (arrOf st) (sa+k) 0 (by (first|lia|omega)),by (first|lia|omega)⟩
  generalize r.toList.zipIdx.foldl (fun a (x:Keyed × Nat)=>a.setIfInBounds (sa+k+x.2) x.1) (arrOf st)=ys at *
  have rin:∀ j,sa+k<=j->j<sa+na+n2->∃ m,sa+k<=m/\m<sa+na+n2/\atK ys j=atK (arrOf st) m:=fun j h1 h2=>by
   have e:=pt.in h1 (by (first|lia|omega))
   have hm:r.toList[j - (sa+k)]? = some (r.toList[j - (sa+k)]'(by (first|lia|omega))):=List.getElem?_eq_getElem _
   have mem:=List.mem_of_getElem? hm
   rw [rp.mem_iff,List.mem_append] at mem
   have ea:atK ys j=r.toList[j - (sa+k)]'(by (first|lia|omega)):=by unfold atK; rw [e,hm]; rfl
   rw [ea]
   rcases mem with z | z
   ·obtain ⟨m,a1,a2,_,a4⟩ := mem_ext z
    exact ⟨m,a1,by (first|lia|omega),a4⟩
   ·obtain ⟨m,a1,a2,_,a4⟩ := mem_ext z
    exact ⟨m,by (first|lia|omega),a2,a4⟩
  have rsrt:∀ i j,sa+k<=i->i<=j->j<sa+na+n2->κ (atK ys i)<=κ (atK ys j):=fun i j h1 h2 h3=>by
   have ei:=pt.in h1 (by (first|lia|omega))
   have ej:=pt.in (show sa+k<=j by (first|lia|omega)) (by (first|lia|omega))
   rw [Array.getElem?_toList] at ei ej
   rw [yV ei,yV ej]
   exact kB rs (by (first|lia|omega)) (by rw [<- Array.length_toList]; (first|lia|omega))
  have rout:∀ j,¬ (sa+k<=j/\j<sa+na+n2)->atK ys j=atK (arrOf st) j:=fun j h=>atK_congr (pt.out (by (first|lia|omega)))
  refine q _ rfl hf ?_ (fun j hj=>pt.out (by (first|lia|omega))) (fun i j h1 h2 h3 => ?_) hpd
  ·refine pt.perm (m:=sa+na+n2) (by (first|lia|omega)) ?_
   have:=Array.extract_append_extract (as:=arrOf st) (i:=sa+k) (j:=sa+na) (k:=sa+na+n2)
   rw [<- Array.toList_append,this,Nat.min_eq_left (by (first|lia|omega)),Nat.max_eq_right (by (first|lia|omega))] at rp
   exact rp
  by_cases i1:i<sa+k
  ·rw [rout i (by (first|lia|omega))]
   have z1:=k1' (i - sa) (by (first|lia|omega))
   rw [show sa+(i - sa)=i by (first|lia|omega)] at z1
   by_cases j1:j<sa+k
   ·rw [rout j (by (first|lia|omega))]
    exact sA i j h1 h2 (by (first|lia|omega))
   by_cases j2:j<sa+na+n2
   ·obtain ⟨m,a1,a2,a3⟩ := rin j (by (first|lia|omega)) j2
    rw [a3]
    by_cases m1:m<sa+na
    ·have:=k2' (m - sa) (by (first|lia|omega)) (by (first|lia|omega))
     rw [show sa+(m - sa)=m by (first|lia|omega)] at this
     (first|lia|omega)
    ·have:=sB (sa+na) m (by (first|lia|omega)) (by (first|lia|omega)) (by (first|lia|omega))
     (first|lia|omega)
   ·rw [rout j (by (first|lia|omega))]
    have:=sB (sa+na) j (by (first|lia|omega)) (by (first|lia|omega)) (by (first|lia|omega))
    (first|lia|omega)
  by_cases i2:i<sa+na+n2
  ·by_cases j2:j<sa+na+n2
   ·exact rsrt i j (by (first|lia|omega)) h2 j2
   ·obtain ⟨m,a1,a2,a3⟩ := rin i (by (first|lia|omega)) i2
    rw [a3,rout j (by (first|lia|omega))]
    by_cases m1:m<sa+na
    ·have y1:=sA m (sa+na - 1) (by (first|lia|omega)) (by (first|lia|omega)) (by (first|lia|omega))
     have y2:=m2' (j - (sa+na)) (by (first|lia|omega)) (by (first|lia|omega))
     rw [show sa+na+(j - (sa+na))=j by (first|lia|omega)] at y2
     (first|lia|omega)
    ·exact sB m j (by (first|lia|omega)) (by (first|lia|omega)) (by (first|lia|omega))
  ·rw [rout i (by (first|lia|omega)),rout j (by (first|lia|omega))]
   exact sB i j (by (first|lia|omega)) h2 (by (first|lia|omega))
 have oka:∀ x∈((arrOf st).extract (sa+k) (sa+na)).toList,ok x:=fun x hx=>by
  obtain ⟨m,_,_,a3,rfl⟩ := mem_ext hx
  exact (eS a3).2
 have okb:∀ x∈((arrOf st).extract (sa+na) (sa+na+n2)).toList,ok x:=fun x hx=>by
  obtain ⟨m,_,_,a3,rfl⟩ := mem_ext hx
  exact (eS a3).2
 have sra:Srt κ ((arrOf st).extract (sa+k) (sa+na)).toList:=Sg.srt (sA.mono (by (first|lia|omega)) (by (first|lia|omega))) (by (first|lia|omega))
 have srb:Srt κ ((arrOf st).extract (sa+na) (sa+na+n2)).toList:=Sg.srt (sB.mono (by (first|lia|omega)) (by (first|lia|omega))) (by (first|lia|omega))
 have za : 0<((arrOf st).extract (sa+k) (sa+na)).size:=by rw [Array.size_extract]; (first|lia|omega)
 have zb : 0<((arrOf st).extract (sa+na) (sa+na+n2)).size:=by rw [Array.size_extract]; (first|lia|omega)
 have hF:∀ x,((arrOf st).extract (sa+na) (sa+na+n2)).toList[0]? = some x->∀ y∈((arrOf st).extract (sa+k) (sa+na)).toList,κ x<=κ y:=fun x hx y hy=>by
  rw [Array.getElem?_toList,ext_get (by (first|lia|omega))] at hx
  obtain ⟨m,a1,a2,_,rfl⟩ := mem_ext hy
  have ex:x=atK (arrOf st) (sa+na):=by unfold atK; rw [Nat.add_zero] at hx; rw [hx]; rfl
  have:=k2' (m - sa) (by (first|lia|omega)) (by (first|lia|omega))
  rw [show sa+(m - sa)=m by (first|lia|omega)] at this
  rw [ex]
  (first|lia|omega)
 have hL:∀ x,((arrOf st).extract (sa+k) (sa+na)).toList[((arrOf st).extract (sa+k) (sa+na)).size - 1]? = some x->∀ y∈((arrOf st).extract (sa+na) (sa+na+n2)).toList,κ y<=κ x:=fun x hx y hy=>by
  have sz:((arrOf st).extract (sa+k) (sa+na)).size - 1=na - k - 1:=by rw [Array.size_extract]; (first|lia|omega)
  rw [Array.getElem?_toList,sz,ext_get (by (first|lia|omega)),show sa+k+(na - k - 1)=sa+na - 1 by (first|lia|omega)] at hx
  obtain ⟨m,a1,a2,_,rfl⟩ := mem_ext hy
  have ex:x=atK (arrOf st) (sa+na - 1):=by unfold atK; rw [hx]; rfl
  have:=m1' (m - (sa+na)) (by (first|lia|omega))
  rw [show sa+na+(m - (sa+na))=m by (first|lia|omega)] at this
  rw [ex]
  (first|lia|omega)
 by_cases c3:na - k<=n2
 ·rw [if_pos c3]
  refine wpS_bind (wpS_mergeLo L hk oka okb sra srb za zb hF hL fun r st' b1 b2 b3 b4 b5 b6 => ?_)
  refine wpS_bind (wpS_modify (wpS_bind (wpS_get (wpS_pure ?_))))
  have z:=post r st' b1 b2 b3 b4 b5 b6
  have hfn:failedOf st'=none:=b6.trans hf
  show Q (failedOf st').isNone _
  rw [hfn]
  exact z
 ·rw [if_neg c3]
  refine wpS_bind (wpS_mergeHi L hk oka okb sra srb za zb hF hL fun r st' b1 b2 b3 b4 b5 b6 => ?_)
  refine wpS_bind (wpS_modify (wpS_bind (wpS_get (wpS_pure ?_))))
  have z:=post r st' b1 b2 b3 b4 b5 b6
  have hfn:failedOf st'=none:=b6.trans hf
  show Q (failedOf st').isNone _
  rw [hfn]
  exact z
end
end L2

namespace L2
open PySem PyProof.Rows
section
variable {M:Model} {A:Around} {E:Value->Shared->Prop} {s:Shared} {κ:Keyed->Int} {ok:Keyed->Prop} {kd:SortKind}
theorem wpS_ltA (L:LtOk M A E s κ ok kd) {st:SortSt} {i j:Nat} {Q:Option Bool->SortSt->Prop} (hk:kindOf st=kd) (okx:∀ x∈(arrOf st).toList,ok x) (hi:i<(arrOf st).size) (hj:j<(arrOf st).size) (q:Q (some (decide (κ (atK (arrOf st) i)<κ (atK (arrOf st) j)))) st):wpS M A E s (ltAt' i j) Q st:=by
 rw [ltAt'_eq]
 refine wpS_bind (wpS_get ?_)
 obtain ⟨e1,m1⟩ := yO hi
 obtain ⟨e2,m2⟩ := yO hj
 exact wpS_bind (yL e1 (wpS_bind (yL e2 (L.lt _ _ _ _ (okx _ m1) (okx _ m2) hk q))))
noncomputable def Dst (κ:Keyed->Int) (xs:Array Keyed):Prop:=∀ i j,i<xs.size->j<xs.size->i≠j->κ (atK xs i)≠κ (atK xs j)
noncomputable abbrev Cs:=Option (Option Nat) × Nat
theorem asc_loop {st:SortSt} {lo n0 nrem:Nat} {f:Nat->Cs->StateT SortSt Sem (ForInStep Cs)} {R:Cs->SortSt->Prop} (h0 : 1<=n0) (hn0:n0<=nrem) (s0:Sg κ (arrOf st) lo n0)
  (hf:∀ x n,1<=n->n<nrem->∀ R':ForInStep Cs->SortSt->Prop,(κ (atK (arrOf st) (lo+n))<κ (atK (arrOf st) (lo+n - 1))->R' (.done (none,n)) st)->(¬ κ (atK (arrOf st) (lo+n))<κ (atK (arrOf st) (lo+n - 1))->R' (.yield (none,n+1)) st)->wpS M A E s (f x (none,n)) R' st)
  (q:∀ m,n0<=m->m<=nrem->Sg κ (arrOf st) lo m->(m<nrem->κ (atK (arrOf st) (lo+m))<κ (atK (arrOf st) (lo+m - 1)))->R (none,m) st):wpS M A E s (forIn [n0:nrem] (none,n0) f) R st:=by
 refine wpS_forRange (I:=fun x c st'=>st'=st/\c=(none,x)/\n0<=x/\x<=nrem/\Sg κ (arrOf st) lo x) ?_ ?_ ⟨rfl,rfl,Nat.le_refl _,hn0,s0⟩
 ·rintro x c st' _ hx ⟨rfl,rfl,a1,a2,a3⟩
  refine hf x x (by (first|lia|omega)) hx _ (fun z=>q x a1 a2 a3 fun _=>z) (fun z=>⟨rfl,rfl,by (first|lia|omega),by (first|lia|omega),fun i j b1 b2 b3 => ?_⟩)
  by_cases c:j<lo+x
  ·exact a3 i j b1 b2 c
  ·have:j=lo+x:=by (first|lia|omega)
   subst this
   by_cases c2:i=lo+x
   ·rw [c2]; exact Int.le_refl _
   ·have:=a3 i (lo+x - 1) b1 (by (first|lia|omega)) (by (first|lia|omega))
    (first|lia|omega)
 ·rintro c st' ⟨rfl,rfl,a1,a2,a3⟩
  rw [Nat.max_eq_right hn0]
  rw [Nat.max_eq_right hn0] at a3
  exact q nrem hn0 (Nat.le_refl _) a3 fun z=>absurd z (Nat.lt_irrefl _)
theorem wpS_countG (L:LtOk M A E s κ ok kd) {st:SortSt} {lo nrem:Nat} {Q:Option Nat->SortSt->Prop} (hk:kindOf st=kd) (okx:∀ x∈(arrOf st).toList,ok x) (hd:Dst κ (arrOf st)) (h1 : 1<=nrem) (hn:lo+nrem<=(arrOf st).size)
  (q:∀ m st',1<=m->m<=nrem->kindOf st'=kd->failedOf st'=failedOf st->pendingOf st'=pendingOf st->(arrOf st').toList.Perm (arrOf st).toList->(∀ j,j<lo->(arrOf st')[j]? = (arrOf st)[j]?)->Sg κ (arrOf st') lo m->Q (some m) st'):wpS M A E s (countRun' lo nrem) Q st:=by
 have hA:∀ (st1:SortSt),kindOf st1=kd->(∀ x∈(arrOf st1).toList,ok x)->lo+nrem<=(arrOf st1).size->∀ n,1<=n->n<nrem->∀ R':Option Bool->SortSt->Prop,R' (some (decide (κ (atK (arrOf st1) (lo+n))<κ (atK (arrOf st1) (lo+n - 1))))) st1->wpS M A E s (ltAt' (lo+n) (lo+n - 1)) R' st1:=fun st1 k1 o1 z1 n a b R' h=>wpS_ltA L k1 o1 (by (first|lia|omega)) (by (first|lia|omega)) h
 have s1:Sg κ (arrOf st) lo 1:=fun i j b1 b2 b3=>by
  have:i=j:=by (first|lia|omega)
  rw [this]
  exact Int.le_refl _
 refine wpS_bind (asc_loop (Nat.le_refl 1) h1 s1 (fun x n a1 a2 R' hy hno => ?_) fun n n1 nr sn hs => ?_)
 ·refine wpS_bind (hA st hk okx hn n a1 a2 _ ?_)
  dsimp only
  by_cases c : κ (atK (arrOf st) (lo+n))<κ (atK (arrOf st) (lo+n - 1))
  ·rw [if_pos (decide_eq_true c)]
   exact wpS_pure (hy c)
  ·rw [if_neg (by simpa using c)]
   exact wpS_pure (hno c)
 dsimp only
 have asIs:Q (some n) st:=q n st n1 nr hk rfl rfl (List.Perm.refl _) (fun _ _=>rfl) sn
 by_cases c1:n=nrem
 ·rw [if_pos (by simpa using c1)]
  exact wpS_pure asIs
 rw [if_neg (by simpa using c1)]
 by_cases c2:n > 1
 ·rw [if_pos c2]
  refine wpS_bind (wpS_ltA L hk okx (by (first|lia|omega)) (by (first|lia|omega)) ?_)
  dsimp only
  have z1:=sn lo (lo+n - 1) (Nat.le_refl _) (by (first|lia|omega)) (by (first|lia|omega))
  have z2:=hd lo (lo+n - 1) (by (first|lia|omega)) (by (first|lia|omega)) (by (first|lia|omega))
  rw [if_pos (decide_eq_true (by (first|lia|omega)))]
  exact wpS_pure asIs
 rw [if_neg c2]
 have n1':n=1:=by (first|lia|omega)
 subst n1'
 have hs':=hs (by (first|lia|omega))
 refine wpS_bind (wpS_lift (wpAny_rule ⟨rfl,?_⟩))
 refine wpS_bind (wpS_mono (wpS_forRange (I:=fun x c st'=>st'=st/\c=(none,x,0)/\2<=x/\x<=nrem/\∀ i j,lo<=i->i<=j->j<lo+x->κ (atK (arrOf st) j)<=κ (atK (arrOf st) i))
  (Q:=fun c st'=>st'=st/\∃ x,c=(none,x,0)/\2<=x/\x<=nrem/\∀ i j,lo<=i->i<=j->j<lo+x->κ (atK (arrOf st) j)<=κ (atK (arrOf st) i)) ?_ ?_ ⟨rfl,rfl,Nat.le_refl _,by (first|lia|omega),fun i j b1 b2 b3 => ?_⟩) ?_)
 ·rintro x c st' _ hx ⟨rfl,rfl,a1,a2,a3⟩
  dsimp only
  refine wpS_bind (hA _ hk okx hn x (by (first|lia|omega)) hx _ ?_)
  dsimp only
  by_cases c : κ (atK (arrOf st') (lo+x))<κ (atK (arrOf st') (lo+x - 1))
  ·rw [if_pos (decide_eq_true c),if_neg (by (first|lia|omega))]
   refine wpS_pure ⟨rfl,rfl,by (first|lia|omega),by (first|lia|omega),fun i j b1 b2 b3 => ?_⟩
   by_cases c4:j<lo+x
   ·exact a3 i j b1 b2 c4
   ·have:j=lo+x:=by (first|lia|omega)
    subst this
    by_cases c5:i=lo+x
    ·rw [c5]; exact Int.le_refl _
    ·have:=a3 i (lo+x - 1) b1 (by (first|lia|omega)) (by (first|lia|omega))
     (first|lia|omega)
  ·rw [if_neg (by simpa using c)]
   refine wpS_bind (wpS_ltA L hk okx (by (first|lia|omega)) (by (first|lia|omega)) ?_)
   dsimp only
   have z2:=hd (lo+x - 1) (lo+x) (by (first|lia|omega)) (by (first|lia|omega)) (by (first|lia|omega))
   rw [if_pos (decide_eq_true (by (first|lia|omega)))]
   exact wpS_pure ⟨rfl,x,rfl,a1,a2,a3⟩
 ·rintro c st' ⟨rfl,rfl,a1,a2,a3⟩
  exact ⟨rfl,_,rfl,a1,a2,a3⟩
 ·by_cases c5:i=j
  ·rw [c5]; exact Int.le_refl _
  ·have ei:i=lo:=by (first|lia|omega)
   have ej:j=lo+1:=by (first|lia|omega)
   rw [ei,ej]
   rw [show lo+1 - 1=lo by (first|lia|omega)] at hs'
   (first|lia|omega)
 rintro c st' ⟨rfl,x,rfl,a1,a2,a3⟩
 dsimp only
 rw [if_neg (by (first|lia|omega))]
 refine wpS_bind (wpS_modify ?_)
 have hsz:lo+x<=(arrOf st').size:=by (first|lia|omega)
 have mi:∀ k,(mirror (arrOf st') lo (lo+x) ((lo+x - lo) / 2))[k]? = if lo<=k/\k<lo+x then (arrOf st')[lo+(lo+x) - 1 - k]? else (arrOf st')[k]?:=fun k=>getElem?_mirror_all hsz k
 have mp:(mirror (arrOf st') lo (lo+x) ((lo+x - lo) / 2)).toList.Perm (arrOf st').toList:=Array.perm_iff_toList_perm.mp (mirror_perm _ _ _ _)
 have ms:(mirror (arrOf st') lo (lo+x) ((lo+x - lo) / 2)).size=(arrOf st').size:=mirror_size _ _ _ _
 have se:Sg κ (mirror (arrOf st') lo (lo+x) ((lo+x - lo) / 2)) lo x:=fun i j b1 b2 b3=>by
  have ei:=mi i
  have ej:=mi j
  rw [if_pos (by (first|lia|omega))] at ei ej
  rw [yV ei,yV ej]
  exact a3 _ _ (by (first|lia|omega)) (by (first|lia|omega)) (by (first|lia|omega))
 show wpS M A E s _ Q (SortSt.mk' (kindOf st') (mirror (arrOf st') lo (lo+x) ((lo+x - lo) / 2)) (pendingOf st') (gallopOf st') (failedOf st'))
 generalize hst2:SortSt.mk' (kindOf st') (mirror (arrOf st') lo (lo+x) ((lo+x - lo) / 2)) (pendingOf st') (gallopOf st') (failedOf st')=st2
 have e2:arrOf st2=mirror (arrOf st') lo (lo+x) ((lo+x - lo) / 2):=by rw [<- hst2]
 rw [<- e2] at mi mp ms se
 have k2:kindOf st2=kd:=by rw [<- hst2]; exact hk
 have ok2:∀ x∈(arrOf st2).toList,ok x:=fun x hx=>okx x (mp.mem_iff.mp hx)
 have f2:failedOf st2=failedOf st':=by rw [<- hst2]
 have p2:pendingOf st2=pendingOf st':=by rw [<- hst2]
 refine wpS_bind (asc_loop (show 1<=x by (first|lia|omega)) a2 se (fun y n b1 b2 R' hy hno => ?_) fun m m1 m2 m3 _ => ?_)
 ·refine wpS_bind (hA st2 k2 ok2 (by (first|lia|omega)) n b1 b2 _ ?_)
  dsimp only
  by_cases c : κ (atK (arrOf st2) (lo+n))<κ (atK (arrOf st2) (lo+n - 1))
  ·rw [if_pos (decide_eq_true c)]
   exact wpS_pure (hy c)
  ·rw [if_neg (by simpa using c)]
   exact wpS_pure (hno c)
 exact wpS_pure (q m st2 (by (first|lia|omega)) m2 k2 f2 p2 mp (fun j hj=>by have:=mi j; rw [if_neg (by (first|lia|omega))] at this; exact this) m3)
theorem wpS_binG (L:LtOk M A E s κ ok kd) {st:SortSt} {lo n m0:Nat} {Q:Bool->SortSt->Prop} (hk:kindOf st=kd) (okx:∀ x∈(arrOf st).toList,ok x) (h1 : 1<=m0) (hm:m0<=n) (hn:lo+n<=(arrOf st).size) (s0:Sg κ (arrOf st) lo m0)
  (q:∀ st',kindOf st'=kd->failedOf st'=failedOf st->pendingOf st'=pendingOf st->(arrOf st').toList.Perm (arrOf st).toList->(∀ j,j<lo->(arrOf st')[j]? = (arrOf st)[j]?)->Sg κ (arrOf st') lo n->Q true st'):wpS M A E s (binarySort' lo n m0) Q st:=by
 have em:max m0 1=m0:=by (first|lia|omega)
 refine wpS_bind (wpS_mono (wpS_forRange (I:=fun k c st'=>c=(none,())/\(kindOf st'=kd/\failedOf st'=failedOf st/\pendingOf st'=pendingOf st/\(arrOf st').toList.Perm (arrOf st).toList/\∀ j,j<lo->(arrOf st')[j]? = (arrOf st)[j]?)/\Sg κ (arrOf st') lo k)
  (Q:=fun c st'=>c=(none,())/\(kindOf st'=kd/\failedOf st'=failedOf st/\pendingOf st'=pendingOf st/\(arrOf st').toList.Perm (arrOf st).toList/\∀ j,j<lo->(arrOf st')[j]? = (arrOf st)[j]?)/\Sg κ (arrOf st') lo n) ?_ ?_ ⟨rfl,⟨hk,rfl,rfl,List.Perm.refl _,fun _ _=>rfl⟩,by rw [em]; exact s0⟩) ?_)
 ·rintro k c st1 hk0 hkn ⟨rfl,⟨k1,f1,p1,pm1,pr1⟩,s1⟩
  rw [em] at hk0
  dsimp only
  have sz1:(arrOf st1).size=(arrOf st).size:=by rw [<- Array.length_toList,<- Array.length_toList]; exact pm1.length_eq
  have ok1:∀ x∈(arrOf st1).toList,ok x:=fun x hx=>okx x (pm1.mem_iff.mp hx)
  refine wpS_bind (wpS_mono (wpS_forRange (I:=fun x c st2=>st2=st1/\∃ l r,c=(none,l,r)/\l<=r/\r<=k/\(∀ i,i<l->κ (atK (arrOf st1) (lo+i))<=κ (atK (arrOf st1) (lo+k)))/\(∀ i,r<=i->i<k->κ (atK (arrOf st1) (lo+k))<κ (atK (arrOf st1) (lo+i)))/\r - l+x<=k)
   (Q:=fun c st2=>st2=st1/\∃ l r,c=(none,l,r)/\l=r/\r<=k/\(∀ i,i<l->κ (atK (arrOf st1) (lo+i))<=κ (atK (arrOf st1) (lo+k)))/\(∀ i,r<=i->i<k->κ (atK (arrOf st1) (lo+k))<κ (atK (arrOf st1) (lo+i)))) ?_ ?_ ⟨rfl,0,k,rfl,Nat.zero_le _,Nat.le_refl _,fun i hi=>by (first|lia|omega),fun i h1 h2=>by (first|lia|omega),by (first|lia|omega)⟩) ?_)
  ·rintro x c st2 _ hx ⟨rfl,l,r,rfl,lr,rk,b1,b2,b3⟩
   dsimp only
   by_cases c1:l ≥ r
   ·rw [if_pos c1]
    exact wpS_pure ⟨rfl,l,r,rfl,by (first|lia|omega),rk,b1,b2⟩
   rw [if_neg c1]
   refine wpS_bind (wpS_ltA L k1 ok1 (by (first|lia|omega)) (by (first|lia|omega)) ?_)
   dsimp only
   by_cases c2 : κ (atK (arrOf st2) (lo+k))<κ (atK (arrOf st2) (lo+(l+r) / 2))
   ·rw [if_pos (decide_eq_true c2)]
    refine wpS_pure ⟨rfl,l,(l+r) / 2,rfl,by (first|lia|omega),by (first|lia|omega),b1,fun i h1 h2 => ?_,by (first|lia|omega)⟩
    have:=s1 (lo+(l+r) / 2) (lo+i) (by (first|lia|omega)) (by (first|lia|omega)) (by (first|lia|omega))
    (first|lia|omega)
   ·rw [if_neg (by simpa using c2)]
    refine wpS_pure ⟨rfl,(l+r) / 2+1,r,rfl,by (first|lia|omega),rk,fun i hi => ?_,b2,by (first|lia|omega)⟩
    have:=s1 (lo+i) (lo+(l+r) / 2) (by (first|lia|omega)) (by (first|lia|omega)) (by (first|lia|omega))
    (first|lia|omega)
  ·rintro c st2 ⟨rfl,l,r,rfl,lr,rk,b1,b2,b3⟩
   exact ⟨rfl,l,r,rfl,by (first|lia|omega),rk,b1,b2⟩
  ·rintro c st2 ⟨rfl,l,r,rfl,rfl,rk,b1,b2⟩
   dsimp only
   refine wpS_bind (wpS_modify (wpS_pure ?_))
   have bu:∀ j,(bubble (arrOf st2) (lo+k) (lo+k - (lo+l)))[j]? = if j=lo+k - (lo+k - (lo+l)) then (arrOf st2)[lo+k]? else if lo+k - (lo+k - (lo+l))<j/\j<=lo+k then (arrOf st2)[j - 1]? else (arrOf st2)[j]?:=fun j=>getElem?_bubble (by (first|lia|omega)) _ (by (first|lia|omega)) j
   have e0:lo+k - (lo+k - (lo+l))=lo+l:=by (first|lia|omega)
   rw [e0] at bu
   refine ⟨rfl,⟨k1,f1,p1,(Array.perm_iff_toList_perm.mp (bubble_perm _ _ _)).trans pm1,fun j hj => ?_⟩,fun i j h1 h2 h3 => ?_⟩
   ·have:=bu j
    rw [if_neg (by (first|lia|omega)),if_neg (by (first|lia|omega))] at this
    exact this.trans (pr1 j hj)
   ·show κ (atK (bubble (arrOf st2) (lo+k) (lo+k - (lo+l))) i)<=κ (atK (bubble (arrOf st2) (lo+k) (lo+k - (lo+l))) j)
    have bi:=bu i
    have bj:=bu j
    by_cases i1:i<lo+l
    ·rw [if_neg (by (first|lia|omega)),if_neg (by (first|lia|omega))] at bi
     rw [yV bi]
     by_cases j1:j<lo+l
     ·rw [if_neg (by (first|lia|omega)),if_neg (by (first|lia|omega))] at bj
      rw [yV bj]
      exact s1 i j h1 h2 (by (first|lia|omega))
     by_cases j2:j=lo+l
     ·rw [if_pos j2] at bj
      rw [yV bj]
      have:=b1 (i - lo) (by (first|lia|omega))
      rw [show lo+(i - lo)=i by (first|lia|omega)] at this
      exact this
     ·rw [if_neg j2,if_pos (by (first|lia|omega))] at bj
      rw [yV bj]
      exact s1 i (j - 1) h1 (by (first|lia|omega)) (by (first|lia|omega))
    by_cases i2:i=lo+l
    ·rw [if_pos i2] at bi
     rw [yV bi]
     by_cases j2:j=lo+l
     ·rw [if_pos j2] at bj
      rw [yV bj]
      exact Int.le_refl _
     ·rw [if_neg j2,if_pos (by (first|lia|omega))] at bj
      rw [yV bj]
      have:=b2 (j - 1 - lo) (by (first|lia|omega)) (by (first|lia|omega))
      rw [show lo+(j - 1 - lo)=j - 1 by (first|lia|omega)] at this
      (first|lia|omega)
    ·rw [if_neg i2,if_pos (by (first|lia|omega))] at bi
     rw [if_neg (by (first|lia|omega)),if_pos (by (first|lia|omega))] at bj
     rw [yV bi,yV bj]
     exact s1 (i - 1) (j - 1) (by (first|lia|omega)) (by (first|lia|omega)) (by (first|lia|omega))
 ·rintro c st1 ⟨rfl,b,s1⟩
  rw [em,Nat.max_eq_right hm] at s1
  exact ⟨rfl,b,s1⟩
 ·rintro c st1 ⟨rfl,⟨k1,f1,p1,pm1,pr1⟩,s1⟩
  exact wpS_pure (q st1 k1 f1 p1 pm1 pr1 s1)
end
end L2

namespace L2
open PySem PyProof.Rows
section
variable {κ:Keyed->Int} {xs ys:Array Keyed}
noncomputable def Rns (κ:Keyed->Int) (xs:Array Keyed):List (Nat × Nat)->Nat->Nat->Prop
 | [],f,t=>f=t
 | (s,n) :: r,f,t=>s=f/\0<n/\f+n<=t/\Sg κ xs s n/\Rns κ xs r (f+n) t
theorem Rns.le:∀ {p:List (Nat × Nat)} {f t:Nat},Rns κ xs p f t->f<=t/\p.length<=t - f
 | [],f,t,h=>by cases h; exact ⟨Nat.le_refl _,Nat.zero_le _⟩
 | (s,n) :: r,f,t,h=>by
  obtain ⟨a,b,c,d,e⟩ := h
  have:=Rns.le e
  rw [List.length_cons]
  (first|lia|omega)
theorem Rns.app:∀ {p q:List (Nat × Nat)} {f t:Nat},Rns κ xs (p++q) f t->∃ m,Rns κ xs p f m/\Rns κ xs q m t/\m<=t
 | [],q,f,t,h=>⟨f,rfl,h,(Rns.le h).1⟩
 | (s,n) :: r,q,f,t,h=>by
  obtain ⟨a,b,c,d,e⟩ := h
  obtain ⟨m,e1,e2,e3⟩ := Rns.app e
  exact ⟨m,⟨a,b,(Rns.le e1).1,d,e1⟩,e2,e3⟩
theorem Rns.join:∀ {p q:List (Nat × Nat)} {f m t:Nat},Rns κ xs p f m->Rns κ xs q m t->m<=t->Rns κ xs (p++q) f t
 | [],q,f,m,t,h,g,_=>by cases h; exact g
 | (s,n) :: r,q,f,m,t,h,g,l=>by
  obtain ⟨a,b,c,d,e⟩ := h
  exact ⟨a,b,by (first|lia|omega),d,Rns.join e g l⟩
theorem Rns.congr:∀ {p:List (Nat × Nat)} {f t:Nat},Rns κ xs p f t->(∀ j,f<=j->j<t->ys[j]? = xs[j]?)->Rns κ ys p f t
 | [],f,t,h,_=>h
 | (s,n) :: r,f,t,h,g=>by
  obtain ⟨a,b,c,d,e⟩ := h
  subst a
  exact ⟨rfl,b,c,d.congr fun j h1 h2=>g j h1 (by (first|lia|omega)),Rns.congr e fun j h1 h2=>g j (by (first|lia|omega)) h2⟩
noncomputable def prj (p:Array (Nat × Nat × Nat)):List (Nat × Nat):=p.toList.map fun x=>(x.1,x.2.1)
theorem prj_len (p:Array (Nat × Nat × Nat)):(prj p).length=p.size:=by unfold prj; rw [List.length_map,Array.length_toList]
theorem prj_push (p:Array (Nat × Nat × Nat)) (a b c:Nat):prj (p.push (a,b,c))=prj p++[(a,b)]:=by unfold prj; rw [Array.toList_push,List.map_append]; rfl
theorem prj_mod (p:Array (Nat × Nat × Nat)) (i w:Nat):prj (p.modify i fun x=>(x.1,x.2.1,w))=prj p:=by
 unfold prj
 refine List.ext_getElem? fun j => ?_
 rw [List.getElem?_map,List.getElem?_map,Array.getElem?_toList,Array.getElem?_toList,Array.getElem?_modify]
 split
 ·cases p[j]? <;> rfl
 ·rfl
noncomputable def dst_of {a₀:Array Keyed} (h:(a₀.toList.map κ).Nodup) (p:xs.toList.Perm a₀.toList):Dst κ xs:=fun i j hi hj hij e=>by
 have nd:(xs.toList.map κ).Nodup:=(p.map κ).nodup_iff.mpr h
 have e1:=(yO hi).1
 have e2:=(yO hj).1
 rw [<- Array.getElem?_toList] at e1 e2
 have g1:(xs.toList.map κ)[i]? = some (κ (atK xs i)):=by rw [List.getElem?_map,e1]; rfl
 have g2:(xs.toList.map κ)[j]? = some (κ (atK xs i)):=by rw [List.getElem?_map,e2,e]; rfl
 exact hij ((List.getElem?_inj (by rw [List.length_map,Array.length_toList]; exact hi) nd).mp (g1.trans g2.symm))
end
section
variable {M:Model} {A:Around} {E:Value->Shared->Prop} {s:Shared} {κ:Keyed->Int} {ok:Keyed->Prop} {kd:SortKind} {a₀:Array Keyed}
structure SoI (κ:Keyed->Int) (kd:SortKind) (a₀:Array Keyed) (st:SortSt) (lo:Nat):Prop where
 kind:kindOf st=kd
 failed:failedOf st=none
 perm:(arrOf st).toList.Perm a₀.toList
 runs:Rns κ (arrOf st) (prj (pendingOf st)) 0 lo
 lo:lo<=a₀.size
theorem SoI.size {st:SortSt} {lo:Nat} (h:SoI κ kd a₀ st lo):(arrOf st).size=a₀.size:=by
 rw [<- Array.length_toList,<- Array.length_toList]; exact h.perm.length_eq
theorem wpS_mergeS (L:LtOk M A E s κ ok kd) {st:SortSt} {lo i:Nat} {Q:Bool->SortSt->Prop} (h:SoI κ kd a₀ st lo) (okx:∀ x∈a₀.toList,ok x) (hi:i+1<(pendingOf st).size)
  (q:∀ st',SoI κ kd a₀ st' lo->(pendingOf st').size+1=(pendingOf st).size->(∀ j,lo<=j->(arrOf st')[j]? = (arrOf st)[j]?)->Q true st'):wpS M A E s (mergeAt' i) Q st:=by
 have hl:i+1<(pendingOf st).toList.length:=by rw [Array.length_toList]; exact hi
 have e:(pendingOf st).toList=(pendingOf st).toList.take i++(pendingOf st).toList[i] :: (pendingOf st).toList[i+1] :: (pendingOf st).toList.drop (i+2):=by
  rw [<- List.drop_eq_getElem_cons hl,<- List.drop_eq_getElem_cons (by (first|lia|omega)),List.take_append_drop]
 have li:((pendingOf st).toList.take i).length=i:=by rw [List.length_take]; (first|lia|omega)
 generalize (pendingOf st).toList.take i=p1 at *
 generalize (pendingOf st).toList[i]=x at *
 generalize (pendingOf st).toList[i+1]=y at *
 generalize (pendingOf st).toList.drop (i+2)=p2 at *
 obtain ⟨sa,na,pw⟩ := x
 obtain ⟨sb,nb,pw2⟩ := y
 have r:=h.runs
 unfold prj at r
 rw [e,List.map_append] at r
 obtain ⟨m,r1,r2,r3⟩ := r.app
 obtain ⟨b1,b2,b3,b4,c1,c2,c3,c4,c5⟩ := r2
 dsimp only at b1 b2 b3 b4 c1 c2 c3 c4 c5
 subst b1
 have hsz:=h.size
 have hlo:=h.lo
 rw [<- li]
 refine wpS_mergeAt L h.kind rfl (fun x hx=>okx x (h.perm.mem_iff.mp hx)) e h.failed c1 b2 c2 (by (first|lia|omega)) b4 c4 fun st' d1 d2 d3 d4 d5 d6 => ?_
 have rc:=(Rns.le c5).1
 refine q st' ⟨d1,d2,d3.trans h.perm,?_,hlo⟩ ?_ fun j hj=>d4 j (by (first|lia|omega))
 ·unfold prj
  rw [d6,List.map_append]
  have rr:Rns κ (arrOf st') (p1.map fun x=>(x.1,x.2.1)) 0 sa:=r1.congr fun j _ hj=>d4 j (by (first|lia|omega))
  have r5:Rns κ (arrOf st') (p2.map fun x=>(x.1,x.2.1)) (sa+(na+nb)) lo:=by
   rw [<- Nat.add_assoc]
   exact c5.congr fun j h1 _=>d4 j (by (first|lia|omega))
  exact rr.join ⟨rfl,Nat.add_pos_left b2 nb,(by (first|lia|omega):sa+(na+nb)<=lo),d5,r5⟩ r3
 ·rw [<- Array.length_toList,<- Array.length_toList,d6,e]
  simp
  (first|lia|omega)
theorem SoI.add {st st':SortSt} {lo n:Nat} (h:SoI κ kd a₀ st lo) (k:kindOf st'=kindOf st) (f:failedOf st'=failedOf st) (a:arrOf st'=arrOf st) (p:prj (pendingOf st')=prj (pendingOf st)++[(lo,n)]) (g:Sg κ (arrOf st) lo n) (n0 : 0<n) (hn:lo+n<=a₀.size):SoI κ kd a₀ st' (lo+n):=by
 refine ⟨k.trans h.kind,f.trans h.failed,by rw [a]; exact h.perm,?_,hn⟩
 rw [p,a]
 exact h.runs.join ⟨rfl,n0,Nat.le_refl _,g,rfl⟩ (Nat.le_add_right _ _)
theorem wpS_sortG (L:LtOk M A E s κ ok kd) {st:SortSt} {Q:Unit->SortSt->Prop} (hk:kindOf st=kd) (ha:arrOf st=a₀) (hp:pendingOf st = #[]) (hf:failedOf st=none) (okx:∀ x∈a₀.toList,ok x) (nd:(a₀.toList.map κ).Nodup) (h1 : 1<=a₀.size)
  (q:∀ st',(arrOf st').toList.Perm a₀.toList->failedOf st'=none->Srt κ (arrOf st').toList->Q () st'):wpS M A E s sortRuns' Q st:=by
 refine wpS_bind (wpS_get ?_)
 dsimp only
 have sz:(arrOf st).size=a₀.size:=by rw [ha]
 have S0:SoI κ kd a₀ st 0:=⟨hk,hf,by rw [ha],by unfold prj; rw [hp]; rfl,Nat.zero_le _⟩
 have okS:∀ {st':SortSt} {lo:Nat},SoI κ kd a₀ st' lo->∀ x∈(arrOf st').toList,ok x:=fun h x hx=>okx x (h.perm.mem_iff.mp hx)
 show wpS M A E s _ Q st
 rw [show (PyProof.Rows.arrOf st).size=a₀.size from sz]
 refine wpS_bind (wpS_mono (wpS_forRange (I:=fun x c st'=>∃ lo,c=(none,lo)/\SoI κ kd a₀ st' lo/\x<=lo) (Q:=fun c st'=>c=(none,a₀.size)/\SoI κ kd a₀ st' a₀.size) ?_ ?_ ⟨0,rfl,S0,Nat.le_refl _⟩) ?_)
 ·rintro x c st1 _ hx ⟨lo,rfl,S1,hxl⟩
  dsimp only
  by_cases c0:lo ≥ a₀.size
  ·rw [if_pos c0]
   have:=S1.lo
   have e:lo=a₀.size:=by (first|lia|omega)
   subst e
   exact wpS_pure ⟨rfl,S1⟩
  rw [if_neg c0]
  have sz1:=S1.size
  refine wpS_bind (wpS_countG L S1.kind (okS S1) (dst_of nd S1.perm) (by (first|lia|omega)) (by (first|lia|omega)) fun m st2 m1 m2 k2 f2 p2 pm2 pr2 sg2 => ?_)
  dsimp only
  have S2:SoI κ kd a₀ st2 lo:=⟨k2,f2.trans S1.failed,pm2.trans S1.perm,by rw [p2]; exact S1.runs.congr fun j _ hj=>pr2 j hj,S1.lo⟩
  generalize (sortPriv% PySem.Builtin.minRun) a₀.size a₀.size 0=mr
  by_cases c1:m<mr
  ·rw [if_pos c1]
   have sz2:=S2.size
   refine wpS_bind (wpS_lift (wpAny_rule ⟨rfl,?_⟩))
   refine wpS_bind (wpS_binG L k2 (okS S2) m1 (by (first|lia|omega)) (by (first|lia|omega)) sg2 fun st3 k3 f3 p3 pm3 pr3 sg3 => ?_)
   have S3:SoI κ kd a₀ st3 lo:=⟨k3,f3.trans S2.failed,pm3.trans S2.perm,by rw [p3]; exact S2.runs.congr fun j _ hj=>pr3 j hj,S2.lo⟩
   have n0 : 0<min (a₀.size - lo) mr:=by (first|lia|omega)
   have hn:lo+min (a₀.size - lo) mr<=a₀.size:=by (first|lia|omega)
   refine wpS_bind (wpS_get ?_)
   cases hb:(pendingOf st3).back? with
   | none =>
    dsimp only
    exact wpS_bind (wpS_modify (wpS_pure ⟨_,rfl,S3.add (st':=SortSt.mk' (kindOf st3) (arrOf st3) ((pendingOf st3).push (lo,(min (a₀.size - lo) mr),0)) (gallopOf st3) (failedOf st3)) rfl rfl rfl (prj_push _ _ _ _) sg3 n0 hn,by (first|lia|omega)⟩))
   | some z =>
    obtain ⟨s1,n1,pw⟩ := z
    dsimp only
    refine wpS_bind (wpS_mono (wpS_forRange (I:=fun _ c st'=>c=(none,())/\SoI κ kd a₀ st' lo/\Sg κ (arrOf st') lo (min (a₀.size - lo) mr)) (Q:=fun c st'=>c=(none,())/\SoI κ kd a₀ st' lo/\Sg κ (arrOf st') lo (min (a₀.size - lo) mr)) ?_ (fun c st' h=>h) ⟨rfl,S3,sg3⟩) ?_)
    ·rintro y c st4 _ _ ⟨rfl,S4,g4⟩
     refine wpS_bind (wpS_get ?_)
     by_cases c:(pendingOf st4).size > 1
     ·rw [if_pos c]
      have hz:(pendingOf st4)[(pendingOf st4).size - 2]? = some ((pendingOf st4)[(pendingOf st4).size - 2]'(by (first|lia|omega))):=Array.getElem?_eq_getElem _
      rw [hz]
      generalize (pendingOf st4)[(pendingOf st4).size - 2]'(by (first|lia|omega))=z at *
      obtain ⟨z1,z2,z3⟩ := z
      dsimp only
      split
      ·exact wpS_pure ⟨rfl,S4,g4⟩
      ·refine wpS_bind (wpS_mergeS L S4 okx (show (pendingOf st4).size - 2+1<(pendingOf st4).size by (first|lia|omega)) fun st5 S5 l5 o5 => ?_)
       exact wpS_pure ⟨rfl,S5,g4.congr fun j h1 h2=>o5 j h1⟩
     ·rw [if_neg c]
      exact wpS_pure ⟨rfl,S4,g4⟩
    ·rintro c st5 ⟨rfl,S5,g5⟩
     dsimp only
     refine wpS_bind (wpS_modify (wpS_bind (wpS_modify (wpS_pure ⟨_,rfl,?_,by (first|lia|omega)⟩))))
     exact S5.add rfl rfl rfl ((prj_push _ _ _ _).trans (by rw [prj_mod])) g5 n0 hn
  ·rw [if_neg c1]
   have n0 : 0<m:=m1
   have hn:lo+m<=a₀.size:=by (first|lia|omega)
   refine wpS_bind (wpS_get ?_)
   cases hb:(pendingOf st2).back? with
   | none =>
    dsimp only
    exact wpS_bind (wpS_modify (wpS_pure ⟨_,rfl,S2.add (st':=SortSt.mk' (kindOf st2) (arrOf st2) ((pendingOf st2).push (lo,m,0)) (gallopOf st2) (failedOf st2)) rfl rfl rfl (prj_push _ _ _ _) sg2 n0 hn,by (first|lia|omega)⟩))
   | some z =>
    obtain ⟨s1,n1,pw⟩ := z
    dsimp only
    refine wpS_bind (wpS_mono (wpS_forRange (I:=fun _ c st'=>c=(none,())/\SoI κ kd a₀ st' lo/\Sg κ (arrOf st') lo m) (Q:=fun c st'=>c=(none,())/\SoI κ kd a₀ st' lo/\Sg κ (arrOf st') lo m) ?_ (fun c st' h=>h) ⟨rfl,S2,sg2⟩) ?_)
    ·rintro y c st4 _ _ ⟨rfl,S4,g4⟩
     refine wpS_bind (wpS_get ?_)
     by_cases c:(pendingOf st4).size > 1
     ·rw [if_pos c]
      have hz:(pendingOf st4)[(pendingOf st4).size - 2]? = some ((pendingOf st4)[(pendingOf st4).size - 2]'(by (first|lia|omega))):=Array.getElem?_eq_getElem _
      rw [hz]
      generalize (pendingOf st4)[(pendingOf st4).size - 2]'(by (first|lia|omega))=z at *
      obtain ⟨z1,z2,z3⟩ := z
      dsimp only
      split
      ·exact wpS_pure ⟨rfl,S4,g4⟩
      ·refine wpS_bind (wpS_mergeS L S4 okx (show (pendingOf st4).size - 2+1<(pendingOf st4).size by (first|lia|omega)) fun st5 S5 l5 o5 => ?_)
       exact wpS_pure ⟨rfl,S5,g4.congr fun j h1 h2=>o5 j h1⟩
     ·rw [if_neg c]
      exact wpS_pure ⟨rfl,S4,g4⟩
    ·rintro c st5 ⟨rfl,S5,g5⟩
     dsimp only
     refine wpS_bind (wpS_modify (wpS_bind (wpS_modify (wpS_pure ⟨_,rfl,?_,by (first|lia|omega)⟩))))
     exact S5.add rfl rfl rfl ((prj_push _ _ _ _).trans (by rw [prj_mod])) g5 n0 hn
 ·rintro c st1 ⟨lo,rfl,S1,hxl⟩
  have:=S1.lo
  have e:lo=a₀.size:=by (first|lia|omega)
  subst e
  exact ⟨rfl,S1⟩
 ·rintro c st1 ⟨rfl,S1⟩
  dsimp only
  refine wpS_bind (wpS_mono (wpS_forRange (I:=fun x c st'=>c=(none,())/\SoI κ kd a₀ st' a₀.size/\((pendingOf st').size<=1\/(pendingOf st').size+x<=a₀.size)) (Q:=fun c st'=>c=(none,())/\SoI κ kd a₀ st' a₀.size/\(pendingOf st').size<=1) ?_ ?_ ⟨rfl,S1,.inr (by have:=(Rns.le S1.runs).2; rw [prj_len] at this; (first|lia|omega))⟩) ?_)
  ·rintro y c st4 _ _ ⟨rfl,S4,g4⟩
   refine wpS_bind (wpS_get ?_)
   by_cases c:(pendingOf st4).size<=1
   ·rw [if_pos c]
    exact wpS_pure ⟨rfl,S4,c⟩
   rw [if_neg c]
   have hi:∀ b:Bool,(if b=true then (pendingOf st4).size - 2 - 1 else (pendingOf st4).size - 2)+1<(pendingOf st4).size:=fun b=>by
    cases b
    ·rw [if_neg (by decide)]; (first|lia|omega)
    ·rw [if_pos rfl]; (first|lia|omega)
   refine wpS_bind (wpS_mergeS L S4 okx (hi _) fun st5 S5 l5 o5 => ?_)
   exact wpS_pure ⟨rfl,S5,by (first|lia|omega)⟩
  ·rintro c st4 ⟨rfl,S4,g4⟩
   exact ⟨rfl,S4,by (first|lia|omega)⟩
  ·rintro c st4 ⟨rfl,S4,g4⟩
   dsimp only
   refine wpS_pure (q st4 S4.perm S4.failed ?_)
   have r:=S4.runs
   have pl:=prj_len (pendingOf st4)
   have sz4:=S4.size
   match e:prj (pendingOf st4),r with
   | [],r =>
    have : 0=a₀.size:=r
    (first|lia|omega)
   | (s1,n1) :: rest,r =>
    rw [e,List.length_cons] at pl
    have rn:rest=[]:=List.length_eq_zero_iff.mp (by (first|lia|omega))
    subst rn
    obtain ⟨b1,b2,b3,b4,b5⟩ := r
    have e0 : 0+n1=a₀.size:=b5
    have:=Sg.srt (i:=0) (j:=a₀.size) (xs:=arrOf st4) (by rw [b1] at b4; rw [Nat.sub_zero,<- e0,Nat.zero_add]; exact b4) (by (first|lia|omega))
    rw [wV,List.take_of_length_le (by rw [Array.length_toList]; (first|lia|omega))] at this
    exact this
end
end L2

namespace L2
open PySem PySem.Spec PyProof.Rows
section
variable {pg:Program} {wd:World} {B:Around} {xs:Value->Shared->Prop}
theorem drawL {j l:Addr} {us:Array Value} (ne:l≠j):∀ (m k:Nat) (t:Shared) (R:List Value->Shared->Prop),t.heap.IsListIter j l k->t.heap.IsList l us->k+m<=us.size ->
  (∀ g,g.IsListIter j l (k+m)->Heap.SameBut j t.heap g->R ((us.toList.drop k).take m) { t with heap:=g })->wpAny (model pg wd) B (draw (.ref j) m) R xs t
 | 0,k,t,R,a,_,_,q=>by
  show wpAny _ _ (pure []) R xs t
  exact wpAny_pure (by simpa using q t.heap a (Heap.SameBut.refl ..))
 | m+1,k,t,R,a,b,c,q=>by
  have kl:k<us.size:=by (first|lia|omega)
  show wpAny _ _ (pyNext (.ref j) >>= _) R xs t
  refine wpAny_bind (wpAny_pyNext_list_item a b (x:=us[k]) (by simp [kl]) fun g1 a1 b1 => ?_)
  refine wpAny_bind (wpAny_holding (drawL ne m (k+1) _ _ a1 (b.extBut b1.extBut ne) (by (first|lia|omega)) fun g2 a2 b2=>wpAny_pure ?_))
  have e:us.toList.drop k=us[k] :: us.toList.drop (k+1):=by simp [List.drop_eq_getElem_cons,kl]
  have z:=q g2 (by rw [show k+(m+1)=k+1+m by (first|lia|omega)]; exact a2) (b1.trans b2)
  rw [e,List.take_succ_cons] at z
  exact z
theorem unpItems {t:Shared} {l:Addr} {us:Array Value} {R:List Value->Shared->Prop} (hh:B.handled=none) (b:t.heap.IsList l us)
  (q:∀ g,Heap.ExtBut t.heap.objs.size t.heap g->R us.toList { t with heap:=g }):wpAny (model pg wd) B (unpackItems (.ref l) us.size none) R xs t:=by
 have ne:l≠t.heap.objs.size:=by obtain ⟨o,e,_⟩ := b; exact Nat.ne_of_lt (Heap.lt_size e)
 unfold unpackItems
 refine wpAny_bind ?_
 unfold notIterableAtAll
 refine wpAny_bind (wpAny_specialOf b.typeIs PySem.slot_list_iter.lookup (wpAny_pure ?_))
 rw [if_neg Bool.false_ne_true]
 refine wpAny_bind (wpAny_holding (wpAny_pyIter_list b (wpAny_bind (wpAny_holding (drawL ne us.size 0 _ _ ⟨_,Heap.get?_push_size _ rfl,rfl,rfl⟩ (b.push _) (by (first|lia|omega)) fun g1 a1 s1 => ?_)))))
 have e:List.take us.size (List.drop 0 us.toList)=us.toList:=by rw [List.drop_zero]; exact List.take_of_length_le (by simp)
 rw [e,if_neg (by simp)]
 refine wpAny_bind (wpAny_holding (wpAny_pyNext_list_end hh a1 ((b.push _).extBut s1.extBut ne) (by simp) fun g2 e2 => ?_))
 rw [if_neg (by simp)]
 exact wpAny_pure (q g2 fun c o hc z=>e2 c o hc (s1.extBut c o hc (Heap.get?_push_of_some _ z)))
end
section
variable {X:Cx} {pos:Pos}
inductive gLst (K:PySem.W.Frag) (n:Nat) (t:TGs) (v:V) (σ:St) (H:Hp) (Q:St->Hp->Prop):Prop
 | mk (a xs : _) (h0:v = .ref a) (h1:SqL K H a xs) (h2:xs.length=n) (h3:t xs σ H Q):gLst K n t v σ H Q
theorem pg_lst {es:List Expr} {k:Nat} {t:TGs} {n:Nat} (hc:X.calm=true) (h:PGs X es t) (hn:(assignEach es X.env).length=n:=by rfl) (hst:(assignEach es X.env).findIdx? (·.1)=none:=by rfl):PG X (.Tuple es k pos) (gLst X.K n t):=by
 refine ⟨?_⟩
 intro pins s σ H v u Q I r hw
 obtain ⟨a,zs,rfl,hq,hl,hw⟩ := hw
 cases r
 obtain ⟨us,rv,hp,_⟩ := I.list hq
 have e:(assignEach es X.env).length=us.toArray.size:=by rw [hn,<- hl,rv.length]; simp
 have go:wpAny (model X.prog X.w) X.A (unpack (.ref a) (assignEach es X.env)) (fun _ s'=>∃ σ' H',Inv X pins σ' H' s'/\Q σ' H') X.xe s:=by
  unfold unpack
  rw [e,hst]
  refine wpAny_bind (wpAny_holding (unpItems (I.ok.hd hc) hp.isList fun g hx => ?_))
  have I1:Inv X pins σ H { s with heap:=g }:=I.kept (t':=s.toks) fun b o z=>hx b o (Nat.ne_of_lt (Heap.lt_size z)) z
  exact h pins _ σ H zs _ Q I1 (by simpa using rv) hw
 rw [PyProof.Rows.assign_Tuple]
 exact wpAny_bind (wpAny_standAt go)
end
end L2

namespace L2
open PySem PySem.Spec PyProof.Rows
section
variable {prog:Program} {w:World} {A:Around} {R:Result->Shared->Prop}
end
section
variable {X:Cx}
theorem vals_refs:∀ (as:List Addr),Vals (as.map V.ref) (as.map Value.ref)
 | [] => .nil
 | a :: r => .cons rfl (vals_refs r)
theorem refs_vals:∀ {as:List Addr} {us:List Value},Vals (as.map V.ref) us->us=as.map Value.ref
 | [],_,.nil=>rfl
 | n :: ns,_,.cons h t=>by
  rw [refs_vals t,List.map_cons]
  congr 1
end
end L2

namespace L2
open PySem PySem.Spec PyProof.Rows PySem.W
noncomputable def Tri (h:Heap) (v:Value) (k:Int):Prop:=∃ (a:Addr) (o:Obj) (b c:Int) (t1 t2 t3:Tok) (n:Nat),v = .ref a/\h.get? a=some o/\o.cls = .type "tuple" /\ o.data = .seq #[.int k t1,.int b t2,.int c t3] n
theorem Tri.one {h:Heap} {v:Value} {k k':Int} (x:Tri h v k) (y:Tri h v k'):k=k':=by
 obtain ⟨a,o,b,c,t1,t2,t3,n,rfl,e,_,d⟩ := x
 obtain ⟨a',o',b',c',u1,u2,u3,n',ea,e',_,d'⟩ := y
 cases ea
 rw [e] at e'
 cases e'
 rw [d] at d'
 injection d' with d1 d2
 have:=congrArg (fun z:Array Value=>z[0]?) d1
 simp at this
 exact this.1
noncomputable def kf (h:Heap) (v:Value):Int:=open Classical in if e:∃ k,Tri h v k then e.choose else 0
theorem kf_is {h:Heap} {v:Value} {k:Int} (x:Tri h v k):kf h v=k:=by
 unfold kf
 rw [dif_pos ⟨k,x⟩]
 exact Tri.one (Exists.choose_spec (p:=fun k=>Tri h v k) ⟨k,x⟩) x
theorem Tri.kept {h h':Heap} (g:∀ b o,h.get? b=some o->h'.get? b=some o) {v:Value} {k:Int} (x:Tri h v k):Tri h' v k:=by
 obtain ⟨a,o,b,c,t1,t2,t3,n,e,g1,r⟩ := x
 exact ⟨a,o,b,c,t1,t2,t3,n,e,g _ _ g1,r⟩
section
variable {prog:Program} {w:World} {A:Around} {E:Value->Shared->Prop} {s:Shared}
theorem tri_lt {h:Heap} (eh:s.heap=h) {vs:List Value} {ks:List Int} (T:∀ v∈vs,∃ k,Tri h v k) (inj:∀ v∈vs,∀ v'∈vs,kf h v=kf h v'->v=v') :
  LtOk (model prog w) A E s (fun x=>kf h x.1) (fun x=>x.1∈vs) (tuples' true):=⟨fun x y st Q hx hy hk q=>by
 obtain ⟨k,tx⟩ := T _ hx
 obtain ⟨k',ty⟩ := T _ hy
 have e1:=kf_is tx
 have e2:=kf_is ty
 have same:k=k'->x.1=y.1:=fun e=>inj _ hx _ hy (by rw [e1,e2,e])
 rw [lt'_eq]
 refine wpS_bind (wpS_get ?_)
 rw [hk]
 rw [e1,e2] at q
 refine wpS_bind (wpS_lift (wpAny_attempt ?_))
 have go:wpAny (model prog w) A (keyLt' (tuples' true) x.1 y.1) (fun b s'=>s'=s/\b=decide (k<k')) (fun _ _=>False) s:=by
  obtain ⟨a,o,b,c,t1,t2,t3,n,ea,ga,_,da⟩ := tx
  obtain ⟨a',o',b',c',u1,u2,u3,n',eb,gb,_,db⟩ := ty
  rw [ea,eb]
  refine kat_lt (eh ▸ ga) da (eh ▸ gb) db (kat_cons (wpAny_eqBool_int ?_))
  by_cases z:k=k'
  ·have ee:=same z
   rw [ea,eb] at ee
   cases ee
   rw [ga] at gb
   cases gb
   rw [da] at db
   injection db with d1 d2
   have f1:=congrArg (fun z:Array Value=>z[1]?) d1
   have f2:=congrArg (fun z:Array Value=>z[2]?) d1
   simp at f1 f2
   rw [z,f1.1,f2.1]
   simp only [beq_self_eq_true]
   refine kat_yes (kat_cons (wpAny_eqBool_int ?_))
   simp only [beq_self_eq_true]
   refine kat_yes (kat_cons (wpAny_eqBool_int ?_))
   simp only [beq_self_eq_true]
   refine kat_yes (kat_nil ⟨rfl,?_⟩)
   simp
  ·rw [show (k == k')=false from beq_eq_false_iff_ne.mpr z]
   exact kat_no (oneLt_int ⟨rfl,rfl⟩)
 refine wpAny_mono go (fun b s' h' => ?_) (fun _ _ z=>z.elim)
 obtain ⟨rfl,rfl⟩ := h'
 exact ⟨rfl,wpS_pure q⟩⟩
theorem zip_self {α:Type}:∀ l:List α,l.zip l=l.map fun v=>(v,v)
 | []=>rfl
 | x :: r=>by rw [List.zip_cons_cons,zip_self r]; rfl
theorem tups_of {h:Heap}:∀ vs:List Value,(∀ v∈vs,∃ k,Tri h v k)->∃ fs,KatTups h vs fs/\(∀ f∈fs,∃ k t,f=Value.int k t)/\fs.length=vs.length
 | [],_=>⟨[],.nil,fun f hf=>(nomatch hf),rfl⟩
 | v :: r,T=>by
  obtain ⟨fs,a,b,c⟩ := tups_of r fun x hx=>T x (List.mem_cons_of_mem _ hx)
  obtain ⟨k,ad,o,p,q,t1,t2,t3,n,rfl,g,cl,d⟩ := T v (List.mem_cons_self ..)
  refine ⟨.int k t1 :: fs,KatTups.cons g cl d rfl a,fun f hf => ?_,by rw [List.length_cons,List.length_cons,c]⟩
  rcases List.mem_cons.mp hf with z | z
  ·exact ⟨k,t1,z⟩
  ·exact b f z
theorem tri_sort {a:Addr} {vs:List Value} {n:Nat} {P:PySem.Fin->Shared->Prop} (ho:s.heap.get? a=some (seqObj "list" vs.toArray n)) (hz:vs.length<=1000000) (T:∀ v∈vs,∃ k,Tri s.heap v k) (nd:(vs.map (kf s.heap)).Nodup) (na:∀ k,¬ Tri s.heap (.ref a) k)
  (h:∀ out:Array Value,out.toList.Perm vs->(out.toList.Pairwise fun x y=>kf s.heap x<=kf s.heap y)->P (.done (.ret .none)) { s with heap:=sortedHeap s.heap a vs out }):wpAny (model prog w) A (Builtin.«list.sort» ⟨[.ref a],[]⟩) P E s:=by
 have la:a<s.heap.objs.size:=Heap.lt_size ho
 have zz:vs.length<=sizeLine:=Nat.le_trans hz (by decide)
 have z2:vs.toArray.size=vs.length:=by simp
 rw [list_sort_plain]
 refine wpAny_bind (listItems_at ho rfl (wpAny_bind (listUpdate_at ho rfl ?_ (by rw [z2]; exact Nat.le_trans hz (by decide)) (Nat.zero_le _))))
 obtain ⟨e1,g1⟩ : ∃ e1,(s.heap.update a (Obj.mapSeq fun _ => #[])).get? a=some (seqObj "list" #[] e1):=⟨_,get?_update_seq ho (fun _ => #[])⟩
 refine wpAny_bind (seqEpoch_at g1 rfl (wpAny_bind (wpAny_newTuple (wpAny_bind (wpAny_newList (wpAny_holding ?_) (Nat.zero_le _))) zz)))
 generalize h3e:((s.heap.update a (Obj.mapSeq fun _ => #[])).push (seqObj "tuple" vs.toArray 0)).push (seqObj "list" #[] 0)=h3
 have kp:∀ b o,b≠a->s.heap.get? b=some o->h3.get? b=some o:=fun b o nb e=>by
  rw [<- h3e]
  refine Heap.get?_push_of_some _ (Heap.get?_push_of_some _ ?_)
  rw [Heap.get?_update_ne _ _ _ _ nb]
  exact e
 have g3:h3.get? a=some (seqObj "list" #[] e1):=by
  rw [<- h3e]
  exact Heap.get?_push_of_some _ (Heap.get?_push_of_some _ g1)
 have T3:∀ v∈vs,Tri h3 v (kf s.heap v):=fun v hv=>by
  obtain ⟨k,x⟩ := T v hv
  rw [kf_is x]
  obtain ⟨b,o,p,q,t1,t2,t3,m,e,g,r⟩ := x
  refine ⟨b,o,p,q,t1,t2,t3,m,e,kp b o (fun z=>na k ?_) g,r⟩
  rw [<- z]
  exact ⟨b,o,p,q,t1,t2,t3,m,rfl,g,r⟩
 have kf3:∀ v∈vs,kf h3 v=kf s.heap v:=fun v hv=>kf_is (T3 v hv)
 have fin:∀ st':SortSt,(arrOf st').toList.Perm (vs.toArray.zip vs.toArray).toList->failedOf st'=none->((arrOf st').toList.Pairwise fun x y=>kf h3 x.1<=kf h3 y.1)->P (.done (.ret .none)) { s with heap:=h3.update a (Obj.mapSeq fun _=>(arrOf st').map (·.2)) }:=fun st' p f r=>by
  have pv:((arrOf st').map (·.2)).toList.Perm vs:=by
   rw [Array.toList_map]
   refine (p.map _).trans ?_
   rw [Array.toList_zip,List.map_snd_zip (Nat.le_refl _)]
  have same:∀ x∈(arrOf st').toList,x.1=x.2/\x.2∈vs:=fun x hx=>by
   have:=p.mem_iff.mp hx
   rw [Array.toList_zip,zip_self] at this
   obtain ⟨v,hv,rfl⟩ := List.mem_map.mp this
   exact ⟨rfl,hv⟩
  have:=h ((arrOf st').map (·.2)) pv (by
   rw [Array.toList_map,List.pairwise_map]
   refine List.Pairwise.imp_of_mem (fun {x y} hx hy z => ?_) r
   obtain ⟨a1,a2⟩ := same x hx
   obtain ⟨b1,b2⟩ := same y hy
   rw [a1,b1,kf3 _ a2,kf3 _ b2] at z
   exact z)
  unfold sortedHeap at this
  rw [h3e] at this
  exact this
 show wpAny (model prog w) A _ P E { s with heap:=h3 }
 dsimp only
 by_cases c:vs.toArray.size<2
 ·rw [if_pos c,if_pos c]
  refine wpAny_bind (wpAny_pure ?_)
  rw [StateT.run_pure]
  refine wpAny_bind (wpAny_pure ?_)
  dsimp only
  refine wpAny_bind (seqEpoch_at (s:={ s with heap:=h3 }) g3 rfl (wpAny_bind (listUpdate_at g3 rfl ?_ (Nat.zero_le _) (by rw [Array.size_map]; show (vs.toArray.zip vs.toArray).size<=_; rw [Array.size_zip]; exact Nat.le_trans (Nat.min_le_left _ _) (by rw [z2]; exact Nat.le_trans hz (by decide))))))
  simp only [bne_self_eq_false,Bool.false_eq_true,if_false]
  refine wpAny_pure (fin (SortSt.mk' general' (vs.toArray.zip vs.toArray) #[] 7 none) (List.Perm.refl _) rfl ?_)
  show ((vs.toArray.zip vs.toArray).toList.Pairwise fun x y=>kf h3 x.1<=kf h3 y.1)
  rw [Array.toList_zip,zip_self]
  clear h T nd ho T3 kf3 fin
  cases vs with
  | nil=>exact .nil
  | cons x r =>
   cases r with
   | nil=>exact List.pairwise_singleton _ _
   | cons y r =>
    rw [z2,List.length_cons,List.length_cons] at c
    (first|lia|omega)
 ·rw [if_neg c,if_neg c]
  obtain ⟨fs,k1,k2,k3⟩ := tups_of (h:=h3) vs fun v hv=>⟨_,T3 v hv⟩
  refine wpAny_bind (kat_kind (s:={ s with heap:=h3 }) (T:=.type "int") k1 (by (first|lia|omega)) (fun v hv => ?_) rfl ?_)
  ·obtain ⟨k,t,rfl⟩ := k2 v hv
   exact .now
  have ndz:((vs.toArray.zip vs.toArray).toList.map fun x:Keyed=>kf h3 x.1).Nodup:=by
   rw [Array.toList_zip,zip_self,List.map_map]
   have:(vs.map (kf s.heap))=vs.map ((fun x:Keyed=>kf h3 x.1) ∘ fun v=>(v,v)):=List.map_congr_left fun v hv=>(kf3 v hv).symm
   rw [this] at nd
   exact nd
  have okz:∀ x∈(vs.toArray.zip vs.toArray).toList,x.1∈vs:=fun x hx=>by
   rw [Array.toList_zip,zip_self] at hx
   obtain ⟨v,hv,rfl⟩ := List.mem_map.mp hx
   exact hv
  have inj:∀ v∈vs,∀ v'∈vs,kf h3 v=kf h3 v'->v=v':=fun v hv v' hv' e=>by
   rw [kf3 v hv,kf3 v' hv'] at e
   obtain ⟨i,hi⟩ := List.getElem?_of_mem hv
   obtain ⟨j,hj⟩ := List.getElem?_of_mem hv'
   have e1:(vs.map (kf s.heap))[i]? = (vs.map (kf s.heap))[j]?:=by rw [List.getElem?_map,List.getElem?_map,hi,hj]; exact congrArg some e
   have ij:=(List.getElem?_inj (by rw [List.length_map]; exact (List.getElem?_eq_some_iff.mp hi).1) nd).mp e1
   subst ij
   rw [hi] at hj
   injection hj
  refine wpAny_bind (wpAny_mono (wpS_sortG (s:={ s with heap:=h3 }) (E:=E) (Q:=fun _ st'=>(arrOf st').toList.Perm (vs.toArray.zip vs.toArray).toList/\failedOf st'=none/\Srt (fun x=>kf h3 x.1) (arrOf st').toList) (a₀:=vs.toArray.zip vs.toArray) (tri_lt (ks:=[]) rfl (fun v hv=>⟨_,T3 v hv⟩) inj) (st:=SortSt.mk' (tuples' true) (vs.toArray.zip vs.toArray) #[] 7 none) rfl rfl rfl rfl okz ndz (by rw [Array.size_zip]; (first|lia|omega)) fun st' a1 a2 a3=>⟨a1,a2,a3⟩) ?_ fun _ _ e=>e)
  rintro ⟨⟨⟩,st'⟩ s' ⟨rfl,a1,a2,a3⟩
  dsimp only
  refine wpAny_bind (seqEpoch_at (s:={ s with heap:=h3 }) g3 rfl (wpAny_bind (listUpdate_at g3 rfl ?_ (Nat.zero_le _) ?_)))
  ·rw [a2]
   simp only [bne_self_eq_false,Bool.false_eq_true,if_false]
   exact wpAny_pure (fin st' a1 a2 a3)
  ·rw [Array.size_map,<- Array.length_toList,a1.length_eq,Array.length_toList,Array.size_zip]
   exact Nat.le_trans (Nat.min_le_left _ _) (by rw [z2]; exact Nat.le_trans hz (by decide))
theorem tri_sorted {l:Addr} {vs:List Value} {Q:Value->Shared->Prop} (hl:s.heap.IsList l vs.toArray) (hz:vs.length<=1000000) (T:∀ v∈vs,∃ k,Tri s.heap v k) (nd:(vs.map (kf s.heap)).Nodup)
  (h:∀ out:Array Value,out.toList.Perm vs->(out.toList.Pairwise fun x y=>kf s.heap x<=kf s.heap y)->Q (.ref (s.heap.objs.size+1)) { s with heap:=sortedAll s.heap vs out }):wpAny (model prog w) A (call (.builtin "sorted") [.ref l]) Q E s:=by
 have zz:vs.length<=sizeLine:=Nat.le_trans hz (by decide)
 refine Calls.call_function_entry kind_sorted plain_sorted entry_sorted (args_sorted1 _) (show wpAny (model prog w) _ (Builtin.«sorted» _) _ _ s from ?_)
 unfold Builtin.«sorted»
 refine wpAny_bind (m:=checkCount "sorted" 1 1 _) (wpAny_pure (wpAny_bind (collect_list hl (wpAny_bind (wpAny_newList ?_ zz)) zz)))
 have sz:((s.heap.push (seqObj "list" #[] 0)).update s.heap.objs.size (Obj.mapSeq (· ++ vs.toArray))).objs.size=s.heap.objs.size+1:=by rw [Heap.size_update,size_push']
 have g:(((s.heap.push (seqObj "list" #[] 0)).update s.heap.objs.size (Obj.mapSeq (· ++ vs.toArray))).push (seqObj "list" vs.toArray 0)).get? (s.heap.objs.size+1)=some (seqObj "list" vs.toArray 0):=by rw [<- sz]; exact Heap.get?_push_size _ rfl
 have kp:∀ b o,s.heap.get? b=some o->(((s.heap.push (seqObj "list" #[] 0)).update s.heap.objs.size (Obj.mapSeq (· ++ vs.toArray))).push (seqObj "list" vs.toArray 0)).get? b=some o:=fun b o e=>by
  have lt:=Heap.lt_size e
  refine Heap.get?_push_of_some _ ?_
  rw [Heap.get?_update_ne _ _ _ _ (Nat.ne_of_lt lt)]
  exact Heap.get?_push_of_some _ e
 have kfe:∀ v∈vs,kf (((s.heap.push (seqObj "list" #[] 0)).update s.heap.objs.size (Obj.mapSeq (· ++ vs.toArray))).push (seqObj "list" vs.toArray 0)) v=kf s.heap v:=fun v hv=>by
  obtain ⟨k,x⟩ := T v hv
  rw [kf_is x,kf_is (x.kept kp)]
 show wpAny _ _ _ _ _ { s with heap:=((s.heap.push (seqObj "list" #[] 0)).update s.heap.objs.size (Obj.mapSeq (· ++ vs.toArray))).push (seqObj "list" vs.toArray 0) }
 rw [sz]
 refine wpAny_bind (wpAny_holding (wpAny_call_entry slot_list_sort ⟨_,g,rfl⟩ entry_list_sort (tri_sort g hz (fun v hv => ?_) ?_ (fun k x => ?_) fun out a1 a2=>⟨_,rfl,wpAny_pure ⟨_,rfl,h out a1 ?_⟩⟩) (args_list_sort _)))
 ·obtain ⟨k,x⟩ := T v hv
  exact ⟨k,x.kept kp⟩
 ·rw [List.map_congr_left kfe]
  exact nd
 ·obtain ⟨b,o,p,q,t1,t2,t3,m,e,e2,c,d⟩ := x
  cases e
  have e2':=g.symm.trans e2
  injection e2' with e2'
  rw [<- e2'] at c
  injection c with c
  exact absurd c (by decide)
 ·refine List.Pairwise.imp_of_mem (fun {x y} hx hy z => ?_) a2
  rw [<- kfe x (a1.mem_iff.mp hx),<- kfe y (a1.mem_iff.mp hy)]
  exact z
end
section
variable {X:Cx}
noncomputable def Tri3 (H:Hp) (a:Addr) (x:Int × Int × Int):Prop:=H a=some (.tup [.int x.1,.int x.2.1,.int x.2.2])
inductive rSorted3 (xs:List V) (H:Hp) (Q:VK):Prop
 | mk (l:Addr) (as:List Addr) (ls:List (Int × Int × Int)) (h0:xs=[.ref l]) (h1:H l=some (.lst (as.map V.ref))) (h2:Paired (Tri3 H) as ls) (h3:(ls.map (·.1)).Nodup) (h4:as.length<=1000000) (h5:∀ (p:Addr) (as':List Addr) (ls':List (Int × Int × Int)),H p=none->Paired (Tri3 H) as' ls'->ls'.Perm ls->(ls'.Pairwise fun x y=>x.1<=y.1)->Q (.ref p) (upd H p (.lst (as'.map V.ref)))):rSorted3 xs H Q
theorem vals_3 {x y z:V} {us:List Value} (r:Vals [x,y,z] us):∃ u v w',us=[u,v,w']/\RelV x u/\RelV y v/\RelV z w':=by
 cases r with
 | cons h1 t1 =>
  obtain ⟨v,w',rfl,h2,h3⟩ := vals2 t1
  exact ⟨_,v,w',rfl,h1,h2,h3⟩
noncomputable def lnAt (H:Hp) (a:Addr):Int × Int × Int:=match H a with
 | some (.tup [.int x,.int y,.int z])=>(x,y,z)
 | _=>(0,0,0)
theorem lnAt_is {H:Hp} {a:Addr} {x:Int × Int × Int} (h:Tri3 H a x):lnAt H a=x:=by
 unfold lnAt
 rw [h]
theorem lns_is {H:Hp}:∀ {as:List Addr} {ls:List (Int × Int × Int)},Paired (Tri3 H) as ls->ls=as.map (lnAt H)/\∀ a∈as,Tri3 H a (lnAt H a)
 | [],_,.nil=>⟨rfl,fun a h=>(nomatch h)⟩
 | a :: as,x :: ls,.cons h t=>by
  obtain ⟨e,g⟩ := lns_is t
  have ea:=lnAt_is h
  refine ⟨by rw [List.map_cons,ea,e],fun b hb => ?_⟩
  rcases List.mem_cons.mp hb with z | z
  ·rw [z,ea]; exact h
  ·exact g b z
theorem lns_at {H:Hp}:∀ {as:List Addr},(∀ a∈as,Tri3 H a (lnAt H a))->Paired (Tri3 H) as (as.map (lnAt H))
 | [],_ => .nil
 | a :: as,h => .cons (h a (List.mem_cons_self ..)) (lns_at fun b hb=>h b (List.mem_cons_of_mem _ hb))
noncomputable def unref:Value->Addr
 | .ref a=>a
 | _=>0
theorem tri_at {pins:List (Addr × Obj)} {σ:St} {H:Hp} {s:Shared} (I:Inv X pins σ H s) {a:Addr} {x:Int × Int × Int} (h:Tri3 H a x):Tri s.heap (.ref a) x.1:=by
 obtain ⟨its,r,⟨o,e,c,n,d⟩,_⟩ := I.tuple (.of h)
 obtain ⟨u1,u2,u3,rfl,r1,r2,r3⟩ := vals_3 r
 obtain ⟨t1,rfl⟩ := r1
 obtain ⟨t2,rfl⟩ := r2
 obtain ⟨t3,rfl⟩ := r3
 exact ⟨a,o,_,_,t1,t2,t3,n,rfl,e,c,d⟩
theorem call_sorted3:CallR X (.builtin "sorted") rSorted3:=by
 intro pins s σ H xs us Q I r h
 obtain ⟨l,as,ls,rfl,hl,hp,nd,hz,q⟩ := h
 obtain ⟨u,rfl,ru⟩ := vals1 r
 cases ru
 obtain ⟨zl,its,n,rv,hli,he⟩ := I.lstM hl
 have e0:=refs_vals rv
 subst e0
 obtain ⟨el,gl⟩ := lns_is hp
 have T:∀ a∈as,Tri s.heap (.ref a) (lnAt H a).1:=fun a ha=>tri_at I (gl a ha)
 have kfa:∀ a∈as,kf s.heap (.ref a)=(lnAt H a).1:=fun a ha=>kf_is (T a ha)
 have km:(as.map Value.ref).map (kf s.heap)=ls.map (·.1):=by
  rw [el,List.map_map,List.map_map]
  exact List.map_congr_left fun a ha=>kfa a ha
 refine tri_sorted ⟨_,he,rfl,_,rfl⟩ (by rw [List.length_map]; exact hz) (fun v hv => ?_) (by rw [km]; exact nd) fun out p1 p2 => ?_
 ·obtain ⟨a,ha,rfl⟩ := List.mem_map.mp hv
  exact ⟨_,T a ha⟩
 have eo:out.toList=(out.toList.map unref).map Value.ref:=by
  rw [List.map_map]
  have:out.toList.map (Value.ref ∘ unref)=out.toList.map id:=List.map_congr_left fun v hv=>by
   obtain ⟨a,ha,rfl⟩ := List.mem_map.mp (p1.mem_iff.mp hv)
   rfl
  rw [this,List.map_id]
 have pa:(out.toList.map unref).Perm as:=by
  have:=p1.map unref
  rw [List.map_map] at this
  have e:as.map (unref ∘ Value.ref)=as:=List.map_id _
  rw [e] at this
  exact this
 generalize out.toList.map unref=as' at *
 have ga:∀ a∈as',Tri3 H a (lnAt H a):=fun a ha=>gl a (pa.mem_iff.mp ha)
 obtain ⟨e,ge⟩ := sortedAll_at s.heap (as.map Value.ref) out
 have kk:∀ b o,s.heap.get? b=some o->(sortedAll s.heap (as.map Value.ref) out).get? b=some o:=fun b o z=>sortedAll_old z
 have eout:out=(as'.map Value.ref).toArray:=by rw [<- eo]
 have len:as'.length=as.length:=pa.length_eq
 have rv':Vals (as'.map V.ref) (as'.map Value.ref):=vals_refs as'
 refine ⟨.ref (s.heap.objs.size+1),_,I.laid (o:=.lst (as'.map V.ref)) kk (Nat.le_succ _) ⟨?_,_,e,rv',?_⟩,rfl,q _ as' _ (I.hok.fresh (Nat.le_succ _)) (lns_at ga) ?_ ?_⟩
 ·rw [List.length_map,len]
  exact Nat.le_trans hz (by decide)
 ·rw [ge,eout]
 ·rw [el]
  exact pa.map _
 ·rw [List.pairwise_map]
  rw [eo,List.pairwise_map] at p2
  refine List.Pairwise.imp_of_mem (fun {x y} hx hy z => ?_) p2
  rw [kfa x (pa.mem_iff.mp hx),kfa y (pa.mem_iff.mp hy)] at z
  exact z
end
end L2

namespace L2
open PySem PySem.Spec PyProof.Rows
section
variable {X:Cx}
end
end L2

namespace L2
open PySem PySem.W PySem.Spec PySem.Calls PyProof.Rows
section
variable {prog:Program} {w:World} {A:Around} {E:Value->Shared->Prop} {K:Frag} {C:Addr} {s:Shared} {x:Addr} {ox:Obj} {od:Option Obj}
end
end L2

namespace L2
open PySem PySem.Spec PyProof.Rows
section
variable {X:Cx}
end
end L2

namespace L2
open PySem PySem.Spec PyProof.Rows PySem.W
section
variable {X:Cx} {pos:Pos} {e:Expr}
end
end L2

namespace L2
open PySem
noncomputable abbrev Prs:=List (Int × Int)
noncomputable def jmp (rs:Prs) (i:Nat):Prop:=∃ n,rs[i]? = some (4,n)
instance (rs:Prs) (i:Nat):Decidable (jmp rs i) :=
 match h:rs[i]? with
 | none=>isFalse fun ⟨n,e⟩=>by rw [h] at e; cases e
 | some (op,n)=>if e:op=4 then isTrue ⟨n,by rw [h,e]⟩ else isFalse fun ⟨m,z⟩=>by rw [h] at z; cases z; exact e rfl
noncomputable def stp (rs:Prs) (i:Nat):Nat:=match rs[i]? with
 | some (op,n)=>if op=4 then n.toNat else i
 | none=>i
noncomputable def its (rs:Prs):Nat->Nat->Nat
 | 0,i=>i
 | k+1,i=>stp rs (its rs k i)
end L2
namespace L2
open PySem
end L2

namespace L2
open PySem
inductive Out where
 | go (pc:Nat) (held:List Int) (br:Int)
 | bad (w:Str) (n:Int)
 | done (v:Int)
noncomputable def pop (held:List Int) (f:List Int->Int->Out):Out:=match held.getLast? with
 | none => .bad "stray" 0
 | some v=>f held.dropLast v
structure Ads where
 (m dm hd sp rw r0 r1 bd d dd bx hl:Addr)
noncomputable def MO (CM:Addr) (A:Ads) (br va:Int):HO:=.ins CM A.dm [("heads",.ref A.hd),("steps",.ref A.sp),("rows",.ref A.rw),("breaths",.int br),("being_done",.ref A.bd),("value",.int va)]
section
variable {CM CD:Addr} {H0 H:Hp} {A:Ads} {rs:Prs} {pc:Nat} {held:List Int} {br:Int}
end
structure Made1 (CM:Addr) (H H':Hp) (A:Ads) (hs rs:List (List Int)) (br:Int):Prop where
 keep:∀ b o,b≠A.m->H b=some o->H' b=some o
 m:H' A.m=some (MO CM A br 0)
 heads:GrpAt H' A.hd hs
 steps:GrpAt H' A.sp rs
 rw:H' A.rw=some (.lst [.ref A.r0,.ref A.r1])
 r1:H' A.r1=some (.lst [])
 bd:H' A.bd=some (.lst [])
 br:A.bd≠A.rw
 ba:A.bd≠A.r1
 bs:A.bd≠A.sp
 bh:A.bd≠A.hd
 nb:H A.bd=none
inductive spInitM (K:PySem.W.Frag) (CM:Addr) (vs:List V) (H:Hp) (Q:VK) (E:XK):Prop
 | mk (x dx co gv:Addr) (br:Int) (hs rs:List (List Int)) (gs:List V) (h0:vs=[.ref x,.ref co,.ref gv,.int br]) (h1:H x=some (.ins CM dx [])) (h2:H co=some (.lst ((codeL hs rs).map V.int))) (h3:CodeParts hs rs) (h4:H gv=some (.lst gs)) (h5:∀ A H',A.m=x->A.dm=dx->Made1 CM H H' A hs rs br->Q .non H'):spInitM K CM vs H Q E
section
variable {rs:Prs} {f pc a:Nat} {held h:List Int} {br b v n:Int} {w:Str} {r:Int × Int}
end
section
variable {rs:Prs} {f pc a:Nat} {held h:List Int} {br b v n:Int} {w:Str} {r:Int × Int}
end
end L2

namespace L2
open PySem
inductive Ro where
 | m | bd | hd | sp | rw
 | row (i:Nat)
 | d (i:Nat)
 | bx (i:Nat)
 | hl (i:Nat)
structure Fr where
 pc:Nat
 bx:List Int
 hl:List Int
structure MS where
 rows:List (List Int)
 frs:List Fr
 br:Int
 va:Int
structure Pl where
 ad:Ro->Addr
 dd:Nat->Addr
 dm:Addr
 uh:List V
 us:List V
noncomputable def MS.f (s:MS) (i:Nat):Fr:=s.frs.getD i ⟨0,[],[]⟩
noncomputable def MG (CM:Addr) (A:Pl) (br va:Int):HO:=.ins CM A.dm [("heads",.ref (A.ad .hd)),("steps",.ref (A.ad .sp)),("rows",.ref (A.ad .rw)),("breaths",.int br),("being_done",.ref (A.ad .bd)),("value",.int va)]
noncomputable def DG (CD:Addr) (A:Pl) (i:Nat) (pc:Int):HO:=.ins CD (A.dd i) [("at",.int pc),("boxes",.ref (A.ad (.bx i))),("held",.ref (A.ad (.hl i)))]
noncomputable def bdL (A:Pl) (n:Nat):List V:=(List.range n).map fun i=>V.ref (A.ad (.d i))
noncomputable def rwL (A:Pl) (n:Nat):List Addr:=(List.range n).map fun i=>A.ad (.row i)
noncomputable def cont (CM CD:Addr) (A:Pl) (s:MS):Ro->HO
 | .m=>MG CM A s.br s.va
 | .bd => .lst (bdL A s.frs.length)
 | .hd => .lst A.uh
 | .sp => .lst A.us
 | .rw => .lst ((rwL A s.rows.length).map V.ref)
 | .row i => .lst ((s.rows.getD i []).map V.int)
 | .d i=>DG CD A i (s.f i).pc
 | .bx i => .lst ((s.f i).bx.map V.int)
 | .hl i => .lst ((s.f i).hl.map V.int)
section
variable {CM CD:Addr} {H0 H:Hp} {A:Pl} {hs rs:List (List Int)} {s:MS}
end
section
variable {CM CD:Addr} {H0 H H1:Hp} {A:Pl} {hs rs:List (List Int)} {s:MS}
end
section
variable {CM CD:Addr} {H0 H H1:Hp} {A:Pl} {hs rs:List (List Int)} {s:MS} {x dx bx hl:Addr} {pc:Nat} {zs:List Int}
end
section
variable {CM CD:Addr} {H0 H H1:Hp} {A:Pl} {hs rs:List (List Int)} {s:MS}
end
section
variable {hs rs:List (List Int)} {s s':MS} {fuel:Nat} {op n k:Int} {w:Str} {rows:List (List Int)}
end
noncomputable def Vb (v:Int):Prop:=v.natAbs<2 ^ 2000
section
variable {CM CD:Addr} {H0 H:Hp} {A:Pl} {hs rs:List (List Int)} {s:MS}
end
end L2

namespace L2
open PySem
theorem Vb.small {v:Int} (h:v.natAbs<=100000):Vb v:=Nat.lt_of_le_of_lt h (show 100000<2 ^ 2000 by decide +kernel)
section
variable {j:Nat} {s s':MS} {n:Int} {hs:List (List Int)}
end
end L2

namespace L2
open PySem
end L2

namespace L2
open PySem
noncomputable abbrev Hn:=Int × List Int
noncomputable abbrev Stk:=List (Nat × Int)
noncomputable def hnOf:Nd->Hn
 | .mk k _ own _=>(k,own)
noncomputable def plOf:Nd->Nat
 | .mk _ p _ _=>p
noncomputable def flatH (xs:List Hn):List Int:=xs.flatMap fun x=>x.1 :: x.2
noncomputable def hns (n:Nd):List Hn:=(pre n).map hnOf
noncomputable def hnsL (ns:List Nd):List Hn:=(preL ns).map hnOf
theorem hns_mk (k:Int) (p:Nat) (own:List Int) (ps:List Nd):hns (.mk k p own ps)=(k,own) :: hnsL ps:=by
 unfold hns hnsL
 rw [pre,List.map_cons] <;> rfl
theorem kT (a:Nd) (r:List Nd):hnsL (a :: r)=hns a++hnsL r:=by
 unfold hns hnsL
 rw [preL,List.map_append]
theorem kR (xs ys:List Hn):flatH (xs++ys)=flatH xs++flatH ys:=List.flatMap_append
theorem flatH_cons (x:Hn) (ys:List Hn):flatH (x :: ys)=(x.1 :: x.2)++flatH ys:=List.flatMap_cons
theorem Sub.join {ns:List Int}:∀ {xs ys:List Int} {p:Nat},Sub ns p xs->Sub ns (p+xs.length) ys->Sub ns p (xs++ys)
 | [],_,_,_,h=>h
 | x :: xs,ys,p,h,g=>⟨h.1,Sub.join h.2 (by rw [show p+1+xs.length=p+(x :: xs).length by simp; (first|lia|omega)]; exact g)⟩
inductive Run (hs:Hds):Stk->List Hn->Stk->Prop where
 | nil {S:Stk}:Run hs S [] S
 | cons {d:Nat} {b k:Int} {own:List Int} {r:Stk} {xs:List Hn} {S:Stk} (k0 : 0<=k) (k1:k<=19) (f:OwnFit hs b k own) (h:Run hs (List.replicate (dueM hs k own).toNat (d,b)++r) xs S):Run hs ((d+1,b) :: r) ((k,own) :: xs) S
theorem Run.append {hs:Hds} {S S1 S2:Stk} {xs ys:List Hn} (h:Run hs S xs S1) (g:Run hs S1 ys S2):Run hs S (xs++ys) S2:=by
 induction h with
 | nil=>exact g
 | cons k0 k1 f _ ih=>exact .cons k0 k1 f (ih g)
theorem own_fits {ns:List Int} {hs:Hds} {b k:Int} {p:Nat} {own:List Int} (k0 : 0<=k) (h:ownM ns hs b k p = .ok own):OwnFit hs b k own:=by
 unfold ownM at h
 by_cases c0:k=0
 ·rw [if_pos c0] at h; obtain ⟨n,e,rfl⟩ := jB h; exact .inl ⟨c0,n,rfl⟩
 rw [if_neg c0] at h
 by_cases c1:k=1\/k=2
 ·rw [if_pos c1] at h; obtain ⟨n,e,rfl⟩ := jB h; exact .inr (.inl ⟨c1,n,rfl,(yA e).2⟩)
 rw [if_neg c1] at h
 by_cases c3:k=3
 ·rw [if_pos c3] at h; obtain ⟨n,e,rfl⟩ := jB h; exact .inr (.inr (.inl ⟨c3,n,rfl,(yA e).2⟩))
 rw [if_neg c3] at h
 by_cases c4:k=4
 ·rw [if_pos c4] at h; obtain ⟨n,e,rfl⟩ := jB h; exact .inr (.inr (.inr (.inl ⟨c4,n,rfl,(yA e).2⟩)))
 rw [if_neg c4] at h
 by_cases c6:k=6
 ·rw [if_pos c6] at h; obtain ⟨n,e,rfl⟩ := jB h; exact .inr (.inr (.inr (.inr (.inl ⟨c6,n,rfl,(yA e).2⟩))))
 rw [if_neg c6] at h
 cases h
 exact .inr (.inr (.inr (.inr (.inr ⟨by (first|lia|omega),rfl⟩))))
mutual
noncomputable def depN:Nd->Nat
 | .mk _ _ _ ps=>1+depL ps
noncomputable def depL:List Nd->Nat
 | []=>0
 | a :: r=>max (depN a) (depL r)
end
mutual
noncomputable def FitN (hs:Hds) (b:Int):Nd->Prop
 | .mk k _ own ps=>0<=k/\k<=19/\OwnFit hs b k own/\ps.length=(dueM hs k own).toNat/\FitL hs b ps
noncomputable def FitL (hs:Hds) (b:Int):List Nd->Prop
 | []=>True
 | a :: r=>FitN hs b a/\FitL hs b r
end
mutual
noncomputable def PlN:Nat->Nd->Prop
 | p,.mk k q own ps=>q=p/\PlL (p+1+own.length) ps
noncomputable def PlL:Nat->List Nd->Prop
 | _,[]=>True
 | p,a :: r=>PlN p a/\PlL (p+(flatH (hns a)).length) r
end
theorem parts_fit {ns:List Int} {hs:Hds} {b:Int} {d:Nat} {f:Nat->Except Bad (Nd × Nat)} (hf:∀ p nd z,f p = .ok (nd,z)->FitN hs b nd/\depN nd<=d/\PlN p nd/\Sub ns p (flatH (hns nd))/\z=p+(flatH (hns nd)).length) :
  ∀ {n p z:Nat} {ps:List Nd},partsM f n p = .ok (ps,z)->ps.length=n/\FitL hs b ps/\depL ps<=d/\PlL p ps/\Sub ns p (flatH (hnsL ps))/\z=p+(flatH (hnsL ps)).length
 | 0,p,z,ps,h=>by cases h; exact ⟨rfl,trivial,Nat.zero_le _,trivial,trivial,rfl⟩
 | n+1,p,z,ps,h=>by
  cases ps with
  | nil=>exact absurd (parts_nil h).1 (by (first|lia|omega))
  | cons a ps =>
   obtain ⟨q,e1,e2⟩ := parts_cons h
   obtain ⟨a1,a2,a3,a4,a5⟩ := hf _ _ _ e1
   obtain ⟨b0,b1,b2,b3,b4,b5⟩ := parts_fit hf e2
   subst a5
   refine ⟨by simp [b0],⟨a1,b1⟩,by simp only [depL]; (first|lia|omega),⟨a3,b3⟩,?_,?_⟩
   ·rw [kT,kR]
    exact Sub.join a4 b4
   ·rw [b5,kT,kR,List.length_append]; (first|lia|omega)
theorem node_fit {ns:List Int} {hs:Hds} {b:Int}:∀ {d p z:Nat} {nd:Nd},nodeM ns hs b d p = .ok (nd,z)->FitN hs b nd/\depN nd<=d/\PlN p nd/\Sub ns p (flatH (hns nd))/\z=p+(flatH (hns nd)).length
 | 0,_,_,_,h=>by cases h
 | d+1,p,z,nd,h=>by
  obtain ⟨k,own,ps,rfl,k0,k1,ek,eo,ep⟩ := node_ok h
  obtain ⟨b0,b1,b2,b3,b4,b5⟩ := parts_fit (fun p nd z e=>node_fit (d:=d) e) ep
  refine ⟨⟨k0,k1,own_fits k0 eo,b0,b1⟩,by simp only [depN]; (first|lia|omega),⟨rfl,b3⟩,?_,?_⟩
  ·rw [hns_mk,flatH_cons]
   exact Sub.join (xs:=k :: own) ⟨ek,own_sub k0 eo⟩ (by rw [show p+(k :: own).length=p+1+own.length by simp; (first|lia|omega)]; exact b4)
  ·rw [b5,hns_mk,flatH_cons,List.length_append]
   simp only [List.length_cons]
   (first|lia|omega)
noncomputable def PlB:Nat->List Nd->Prop
 | _,[]=>True
 | p,a :: r=>PlN p a/\PlB (p+(flatH (hns a)).length) r
noncomputable def FitB (hs:Hds):Hds->List Nd->Prop
 | [],[]=>True
 | h :: todo,a :: r=>FitN hs h.2 a/\depN a<=10/\FitB hs todo r
 | _,_=>False
theorem bodies_fit {ns:List Int} {hs:Hds}:∀ {todo:Hds} {p z:Nat} {nds:List Nd},bodiesM ns hs todo p = .ok (nds,z)->FitB hs todo nds/\PlB p nds/\Sub ns p (flatH (hnsL nds))/\z=p+(flatH (hnsL nds)).length
 | [],p,z,nds,h=>by cases h; exact ⟨trivial,trivial,trivial,rfl⟩
 | x :: todo,p,z,nds,h=>by
  obtain ⟨nd,r,q,rfl,e1,e2⟩ := bodies_cons h
  obtain ⟨a1,a2,a3,a4,a5⟩ := node_fit e1
  subst a5
  obtain ⟨b1,b2,b3,b4⟩ := bodies_fit e2
  refine ⟨⟨a1,a2,b1⟩,⟨a3,b2⟩,?_,?_⟩
  ·rw [kT,kR]
   exact Sub.join a4 b3
  ·rw [b4,kT,kR,List.length_append]; (first|lia|omega)
noncomputable def sheetL (hs:Hds) (xs:List Hn):List Int:=(hs.length:Int) :: (flat hs++flatH xs)
noncomputable def HdsRead (hs:Hds):Prop:=∀ zs:List Int,headsAllM ((hs.length:Int) :: (flat hs++zs)) = .ok hs
structure Ctx (hs:Hds) (S0 R:Stk) (all:List Hn) (p0 i:Nat) (m:Nd) (e:Nat) (b:Int):Prop where
 ex:∃ X Y r,all=X++(hns m++Y)/\X.length=i/\Run hs S0 X ((e,b) :: r)/\Run hs r Y R/\plOf m=p0+(flatH X).length
 fit:FitN hs b m
 dep:depN m<=e
theorem Ctx.before {hs:Hds} {S0 R1 R:Stk} {Z all:List Hn} {p0 i:Nat} {m:Nd} {e:Nat} {b:Int} (c:Ctx hs S0 R1 all p0 i m e b) (h:Run hs R1 Z R):Ctx hs S0 R (all++Z) p0 i m e b:=by
 obtain ⟨⟨X,Y,r,e1,e2,e3,e4,e5⟩,f,d⟩ := c
 exact ⟨⟨X,Y++Z,r,by rw [e1,List.append_assoc,List.append_assoc],e2,e3,e4.append h,e5⟩,f,d⟩
end L2

namespace L2
open PySem
structure ES where
 rows:List (List Int)
 br:Int
 bx:List Int
 ct:Nat
inductive ER where
 | val (v:Int) (s:ES)
 | bad (w:Str) (n:Int) (rows:List (List Int)) (ct:Nat × Int)
mutual
noncomputable def FitT (hs:Hds) (b:Int):Nat->Tr->Prop
 | 0,_=>False
 | n+1,.mk k own ps=>0<=k/\k<=19/\OwnFit hs b k own/\ps.length=(dueM hs k own).toNat/\(∀ v∈own,Vb v)/\FitTs hs b n ps
noncomputable def FitTs (hs:Hds) (b:Int):Nat->List Tr->Prop
 | _,[]=>True
 | n,a :: r=>FitT hs b n a/\FitTs hs b n r
end
mutual
noncomputable def szT:Tr->Nat
 | .mk _ _ ps=>1+szTs ps
noncomputable def szTs:List Tr->Nat
 | []=>0
 | a :: r=>szT a+szTs r
end
section
variable {g M N U U' c0 c1 bl:Nat} {br0 br1:Int} {r:ER} {f:Int->ES->ER} {s:ES} {hs:Hds} {b:Int} {k:Int} {own vs:List Int}
end
end L2

namespace L2
open PySem
section
variable {ns:List Int} {hs:Hds} {b:Int}
theorem partsW_ok {n:Nat} (ih:∀ (t:Tr) (p:Nat),FitT hs b n t->Sub ns p (nums t)->∃ nd,nodeM ns hs b n p = .ok (nd,p+(nums t).length)/\bare nd=t) :
  ∀ (ps:List Tr) (p:Nat),FitTs hs b n ps->Sub ns p (numsL ps)->∃ nds,partsM (nodeM ns hs b n) ps.length p = .ok (nds,p+(numsL ps).length)/\bareL nds=ps
 | [],p,_,_=>⟨[],rfl,rfl⟩
 | t :: ps,p,f,s=>by
  unfold FitTs at f
  have e:numsL (t :: ps)=nums t++numsL ps:=rfl
  rw [e] at s ⊢
  obtain ⟨s1,s2⟩ := Sub.append s
  obtain ⟨nd,e1,b1⟩ := ih t p f.1 s1
  obtain ⟨nds,e2,b2⟩ := partsW_ok ih ps _ f.2 s2
  refine ⟨nd :: nds,?_,?_⟩
  ·rw [List.length_cons]
   unfold partsM
   rw [e1]
   dsimp only
   rw [e2]
   dsimp only
   rw [List.length_append,Nat.add_assoc]
  ·show bare nd :: bareL nds=_
   rw [b1,b2]
theorem nodeW_ok:∀ (n:Nat) (t:Tr) (p:Nat),FitT hs b n t->Sub ns p (nums t)->∃ nd,nodeM ns hs b n p = .ok (nd,p+(nums t).length)/\bare nd=t
 | 0,t,p,f,_=>by unfold FitT at f; exact f.elim
 | n+1,.mk k own ps,p,f,s=>by
  unfold FitT at f
  obtain ⟨k0,k1,of,lp,_,fp⟩ := f
  have e:nums (.mk k own ps)=(k :: own)++numsL ps:=rfl
  rw [e] at s ⊢
  obtain ⟨s1,s2⟩ := Sub.append (xs:=k :: own) s
  obtain ⟨nds,e2,b2⟩ := partsW_ok (nodeW_ok n) ps _ fp s2
  refine ⟨.mk k p own nds,?_,?_⟩
  ·unfold nodeM
   rw [xP s1.1 k0 k1]; dsimp only
   rw [own_fit of s1.2]; dsimp only
   rw [show p+1+own.length=p+(k :: own).length by rw [List.length_cons]; (first|lia|omega),<- lp,e2]
   dsimp only
   rw [List.length_append,Nat.add_assoc]
  ·show Tr.mk k own (bareL nds)=_
   rw [b2]
theorem bodiesW_ok:∀ (fs:List Fn) (p:Nat),(∀ f∈fs,FitT hs f.1.2 10 f.2)->Sub ns p (bodiesW fs)->∃ nds,bodiesM ns hs (fs.map Prod.fst) p = .ok (nds,p+(bodiesW fs).length)/\bareL nds=fs.map Prod.snd
 | [],p,_,_=>⟨[],rfl,rfl⟩
 | f :: fs,p,h,s=>by
  have e:bodiesW (f :: fs)=nums f.2++bodiesW fs:=List.flatMap_cons ..
  rw [e] at s ⊢
  obtain ⟨s1,s2⟩ := Sub.append s
  obtain ⟨nd,e1,b1⟩ := nodeW_ok 10 f.2 p (h f (List.mem_cons_self ..)) s1
  obtain ⟨nds,e2,b2⟩ := bodiesW_ok fs _ (fun g hg=>h g (List.mem_cons_of_mem _ hg)) s2
  refine ⟨nd :: nds,?_,?_⟩
  ·rw [List.map_cons]
   unfold bodiesM
   rw [e1]
   dsimp only
   rw [e2]
   dsimp only
   rw [List.length_append,Nat.add_assoc]
  ·show bare nd :: bareL nds=_
   rw [b1,b2] <;> rfl
theorem qS:∀ fs:List Fn,headsW fs=flat (fs.map Prod.fst)
 | []=>rfl
 | f :: fs=>by
  show f.1.1 :: f.1.2 :: headsW fs=f.1.1 :: f.1.2 :: flat (fs.map Prod.fst)
  rw [qS fs]
theorem zip_fns:∀ fs:List Fn,(fs.map Prod.fst).zip (fs.map Prod.snd)=fs
 | []=>rfl
 | f :: fs=>by
  show (f.1,f.2) :: (fs.map Prod.fst).zip (fs.map Prod.snd)=_
  rw [zip_fns fs]
theorem fns_wr {fs:List Fn} (g:HdsGood (fs.map Prod.fst)) (h:∀ f∈fs,FitT (fs.map Prod.fst) f.1.2 10 f.2):∃ nds,functionsM (wr fs) = .ok (fs.map Prod.fst,nds)/\fnsOf (fs.map Prod.fst,nds)=fs:=by
 have lm:(fs.map Prod.fst).length=fs.length:=List.length_map ..
 have ew:wr fs=((fs.length:Int) :: flat (fs.map Prod.fst))++bodiesW fs:=by
  unfold wr
  rw [qS] <;> rfl
 have s:=Sub.self (wr fs)
 rw [ew] at s ⊢
 obtain ⟨s1,s2⟩ := Sub.append (xs:=(fs.length:Int) :: flat (fs.map Prod.fst)) s
 have l : 0+((fs.length:Int) :: flat (fs.map Prod.fst)).length=1+2 * (fs.map Prod.fst).length:=by rw [List.length_cons,qG]; (first|lia|omega)
 rw [l] at s2
 obtain ⟨nds,e,bb⟩ := bodiesW_ok (hs:=fs.map Prod.fst) fs _ h s2
 refine ⟨nds,?_,?_⟩
 ·have g1:=g.lo
  have g2:=g.hi
  have eh:headsAllM (((fs.length:Int) :: flat (fs.map Prod.fst))++bodiesW fs) = .ok (fs.map Prod.fst):=by
   unfold headsAllM
   rw [xP s1.1 (by (first|lia|omega)) (by (first|lia|omega))]
   dsimp only
   rw [Int.toNat_natCast]
   have:=g.heads s1.2
   rw [lm] at this
   exact this
  unfold functionsM
  rw [eh]; dsimp only
  rw [e]
  refine if_neg ?_
  dsimp only
  rw [List.length_append,List.length_cons,qG]
  (first|lia|omega)
 ·show (fs.map Prod.fst).zip (bareL nds)=fs
  rw [bb]
  exact zip_fns fs
end
end L2

namespace L2
open PySem
theorem heads_good:∀ {ns:List Int} {n:Nat} {most:Int} {p:Nat} {hs:Hds},most<=4->headsM ns n most p = .ok hs->hs.length=n/\Sub ns p (flat hs)/\∀ (i:Nat) (h:Int × Int),hs[i]? = some h->0<=h.1/\h.1<=4/\h.1<=h.2/\h.2<=12/\(i=0->h.1<=most)
 | ns,0,_,_,_,_,e=>by cases e; exact ⟨rfl,trivial,fun i h q=>by simp at q⟩
 | ns,n+1,most,p,hs,hm,e=>by
  unfold headsM at e
  cases e1:withinM ns p 0 most with
  | error b=>rw [e1] at e; cases e
  | ok a =>
   rw [e1] at e; simp only at e
   cases e2:withinM ns (p+1) a 12 with
   | error b=>rw [e2] at e; cases e
   | ok c =>
    rw [e2] at e; simp only at e
    cases e3:headsM ns n 4 (p+2) with
    | error b=>rw [e3] at e; cases e
    | ok r =>
     rw [e3] at e; cases e
     obtain ⟨a1,a2,a3⟩ := yA e1
     obtain ⟨c1,c2,c3⟩ := yA e2
     obtain ⟨l,s,g⟩ := heads_good (Int.le_refl 4) e3
     refine ⟨by simp [l],⟨a1,c1,s⟩,fun i h q => ?_⟩
     cases i with
     | zero=>cases q; simp only; (first|lia|omega)
     | succ i =>
      have:=g i h (by simpa using q)
      (first|lia|omega)
theorem sheet_shape {ns:List Int} {hs:Hds} {nds:List Nd} (h:functionsM ns = .ok (hs,nds)):HdsGood hs/\HdsRead hs/\ns=sheetL hs (hnsL nds)/\FitB hs hs nds/\PlB (1+2 * hs.length) nds:=by
 obtain ⟨h1,h2,h3⟩ := fns_ok h
 simp only at h1 h2 h3
 obtain ⟨f,pl,s,ez⟩ := bodies_fit h2
 have hh:=h1
 unfold headsAllM at hh
 cases e1:withinM ns 0 1 16 with
 | error b=>rw [e1] at hh; cases hh
 | ok n =>
  rw [e1] at hh; simp only at hh
  obtain ⟨n1,n2,n3⟩ := yA e1
  obtain ⟨l,s0,g⟩ := heads_good (by decide) hh
  have good:HdsGood hs:=⟨by (first|lia|omega),by (first|lia|omega),fun i x q=>by have:=g i x q; (first|lia|omega)⟩
  have el:(hs.length:Int)=n:=by (first|lia|omega)
  refine ⟨good,fun zs => ?_,?_,f,pl⟩
  ·have s1:=Sub.self ((hs.length:Int) :: (flat hs++zs))
   unfold headsAllM
   rw [xP s1.1 (by (first|lia|omega)) (by (first|lia|omega))]
   simp only
   rw [Int.toNat_natCast]
   exact good.heads (Sub.append s1.2).1
  ·have t1:=take_sub (Sub.join (xs:=n :: flat hs) (ys:=flatH (hnsL nds)) (p:=0) ⟨n1,s0⟩ (by rw [List.length_cons,qG,Nat.zero_add,Nat.add_comm]; exact s))
   rw [List.take_zero,List.nil_append,List.take_of_length_le (by rw [List.length_append,List.length_cons,qG]; (first|lia|omega))] at t1
   rw [t1]
   unfold sheetL
   rw [el,List.cons_append]
end L2

namespace L2
open PySem
mutual
noncomputable def rl:Tr->Nat
 | .mk k _ ps=>if k=3 then rls ps+(ps.length - 1) else if k=4 then rls ps+2 * (ps.length - 1)+1 else if k=5 then rls ps+5 else rls ps+1
noncomputable def rls:List Tr->Nat
 | []=>0
 | p :: r=>rl p+rls r
end
noncomputable def pkS (b:Nat) (first:Bool):List Tr->List Nat
 | []=>[]
 | p :: r=>if first=true then b :: pkS (b+rl p) false r else (b+1) :: pkS (b+1+rl p) false r
noncomputable def ownR (k:Int) (own:List Int):List Int :=
 if k=0\/k=1\/k=2 then [k,own.headD 0] else if k=6 then [6,own.headD 0] else if k=7 then [8,0] else [10,k]
mutual
noncomputable def mkT (b:Nat):Tr->List (List Int)
 | .mk k own ps=>if k=3 then mkA b true ps else if k=4 then mkK b ps else if k=5 then mkL b ps else mkS b ps++[ownR k own]
noncomputable def mkS (b:Nat):List Tr->List (List Int)
 | []=>[]
 | p :: r=>mkT b p++mkS (b+rl p) r
noncomputable def mkA (b:Nat) (first:Bool):List Tr->List (List Int)
 | []=>[]
 | p :: r=>if first=true then mkT b p++mkA (b+rl p) false r else [3,0] :: (mkT (b+1) p++mkA (b+1+rl p) false r)
noncomputable def mkP (b last:Nat) (first:Bool):List Tr->List (List Int)
 | []=>[]
 | p :: r=>if first=true then mkT b p++mkP (b+rl p) last false r else [4,(last:Int)] :: (mkT (b+1) p++mkP (b+1+rl p) last false r)
noncomputable def mkK (b:Nat):List Tr->List (List Int)
 | []=>[]
 | p :: r=>mkT b p++([11,(r.length:Int)] :: ((pkS (b+rl p+r.length+2) true r).map (fun s:Nat=>[4,(s:Int)])++([4,((b+rl p+r.length+2+rls r+(r.length - 1):Nat):Int)] :: mkP (b+rl p+r.length+2) (b+rl p+r.length+1) true r)))
noncomputable def mkL (b:Nat):List Tr->List (List Int)
 | []=>[]
 | x :: r=>[9,0] :: (mkT (b+1) x++([5,((b+rl x+rls r+4:Nat):Int)] :: (mkS (b+rl x+2) r++[[3,0],[4,(b:Int)],[0,0]])))
end
theorem kP:∀ (ps:List Tr) (b:Nat) (f:Bool),(pkS b f ps).length=ps.length
 | [],_,_=>by unfold pkS; rfl
 | p :: r,b,f=>by
  unfold pkS
  split
  ·rw [List.length_cons,kP r,List.length_cons]
  ·rw [List.length_cons,kP r,List.length_cons]
mutual
noncomputable def GdT:Tr->Prop
 | .mk k _ ps=>(k=3->ps≠[])/\(k=4->2<=ps.length)/\(k=5->ps.length=2)/\GdTs ps
noncomputable def GdTs:List Tr->Prop
 | []=>True
 | p :: r=>GdT p/\GdTs r
end
mutual
theorem yE:∀ (t:Tr) (b:Nat),GdT t->(mkT b t).length=rl t
 | .mk k own ps,b,h=>by
  unfold GdT at h
  obtain ⟨h3,h4,h5,hp⟩ := h
  unfold mkT rl
  by_cases c3:k=3
  ·rw [if_pos c3,if_pos c3,mkA_len ps b true hp,if_pos rfl]
  rw [if_neg c3,if_neg c3]
  by_cases c4:k=4
  ·rw [if_pos c4,if_pos c4,mkK_len ps b hp (h4 c4)]
  rw [if_neg c4,if_neg c4]
  by_cases c5:k=5
  ·rw [if_pos c5,if_pos c5,mkL_len ps b hp (h5 c5)]
  rw [if_neg c5,if_neg c5,List.length_append,wR ps b hp]
  rfl
theorem wR:∀ (ps:List Tr) (b:Nat),GdTs ps->(mkS b ps).length=rls ps
 | [],b,_=>by unfold mkS rls; rfl
 | p :: r,b,h=>by
  unfold GdTs at h
  unfold mkS rls
  rw [List.length_append,yE p b h.1,wR r _ h.2]
theorem mkA_len:∀ (ps:List Tr) (b:Nat) (f:Bool),GdTs ps->(mkA b f ps).length=rls ps+(if f=true then ps.length - 1 else ps.length)
 | [],b,f,_=>by unfold mkA rls; cases f <;> rfl
 | p :: r,b,f,h=>by
  unfold GdTs at h
  unfold mkA rls
  cases f with
  | true =>
   rw [if_pos rfl,if_pos rfl,List.length_append,yE p b h.1,mkA_len r _ false h.2,if_neg (by decide),List.length_cons]
   (first|lia|omega)
  | false =>
   rw [if_neg (by decide),if_neg (by decide),List.length_cons,List.length_append,yE p _ h.1,mkA_len r _ false h.2,if_neg (by decide),List.length_cons]
   (first|lia|omega)
theorem mkP_len:∀ (ps:List Tr) (b l:Nat) (f:Bool),GdTs ps->(mkP b l f ps).length=rls ps+(if f=true then ps.length - 1 else ps.length)
 | [],b,l,f,_=>by unfold mkP rls; cases f <;> rfl
 | p :: r,b,l,f,h=>by
  unfold GdTs at h
  unfold mkP rls
  cases f with
  | true =>
   rw [if_pos rfl,if_pos rfl,List.length_append,yE p b h.1,mkP_len r _ l false h.2,if_neg (by decide),List.length_cons]
   (first|lia|omega)
  | false =>
   rw [if_neg (by decide),if_neg (by decide),List.length_cons,List.length_append,yE p _ h.1,mkP_len r _ l false h.2,if_neg (by decide),List.length_cons]
   (first|lia|omega)
theorem mkK_len:∀ (ps:List Tr) (b:Nat),GdTs ps->2<=ps.length->(mkK b ps).length=rls ps+2 * (ps.length - 1)+1
 | [],b,_,z=>by cases z
 | p :: r,b,h,z=>by
  unfold GdTs at h
  unfold mkK rls
  rw [List.length_cons] at z ⊢
  rw [List.length_append,yE p b h.1,List.length_cons,List.length_append,List.length_map,kP,List.length_cons,mkP_len r _ _ true h.2,if_pos rfl]
  (first|lia|omega)
theorem mkL_len:∀ (ps:List Tr) (b:Nat),GdTs ps->ps.length=2->(mkL b ps).length=rls ps+5
 | [],b,_,z=>by cases z
 | x :: r,b,h,z=>by
  unfold GdTs at h
  unfold mkL rls
  rw [List.length_cons,List.length_append,yE x _ h.1,List.length_cons,List.length_append,wR r _ h.2]
  show rl x+(rls r+3+1)+1=_
  (first|lia|omega)
end
noncomputable def mv (c:Nat) (g:List Int):List Int:=match g with
 | [op,n]=>[op,if op=4\/op=5 then n+c else n]
 | g=>g
theorem mv_own (c:Nat) (k:Int) (own:List Int) (h3:k≠3) (h4:k≠4) (h5:k≠5):mv c (ownR k own)=ownR k own:=by
 unfold ownR
 split
 ·rename_i z
  unfold mv
  dsimp only
  rw [if_neg (by (first|lia|omega))]
 ·split
  ·rfl
  ·split
   ·rfl
   ·rfl
theorem pkS_mv (c:Nat):∀ (ps:List Tr) (b:Nat) (f:Bool),pkS (b+c) f ps=(pkS b f ps).map (· + c)
 | [],_,_=>by unfold pkS; rfl
 | p :: r,b,f=>by
  unfold pkS
  cases f with
  | true =>
   rw [if_pos rfl,if_pos rfl,List.map_cons,<- pkS_mv c r,show b+c+rl p=b+rl p+c by (first|lia|omega)]
  | false =>
   rw [if_neg (by decide),if_neg (by decide),List.map_cons,<- pkS_mv c r,show b+c+1+rl p=b+1+rl p+c by (first|lia|omega),show b+c+1=b+1+c by (first|lia|omega)]
mutual
theorem mkT_mv (c:Nat):∀ (t:Tr) (b:Nat),mkT (b+c) t=(mkT b t).map (mv c)
 | .mk k own ps,b=>by
  unfold mkT
  by_cases c3:k=3
  ·rw [if_pos c3,if_pos c3]; exact mkA_mv c ps b true
  rw [if_neg c3,if_neg c3]
  by_cases c4:k=4
  ·rw [if_pos c4,if_pos c4]; exact mkK_mv c ps b
  rw [if_neg c4,if_neg c4]
  by_cases c5:k=5
  ·rw [if_pos c5,if_pos c5]; exact mkL_mv c ps b
  rw [if_neg c5,if_neg c5,List.map_append,mkS_mv c ps b]
  show _=_++[mv c (ownR k own)]
  rw [mv_own c k own c3 c4 c5]
theorem mkS_mv (c:Nat):∀ (ps:List Tr) (b:Nat),mkS (b+c) ps=(mkS b ps).map (mv c)
 | [],b=>by unfold mkS; rfl
 | p :: r,b=>by
  unfold mkS
  rw [List.map_append,mkT_mv c p b,<- mkS_mv c r,show b+c+rl p=b+rl p+c by (first|lia|omega)]
theorem mkA_mv (c:Nat):∀ (ps:List Tr) (b:Nat) (f:Bool),mkA (b+c) f ps=(mkA b f ps).map (mv c)
 | [],b,f=>by unfold mkA; rfl
 | p :: r,b,f=>by
  unfold mkA
  cases f with
  | true=>rw [if_pos rfl,if_pos rfl,List.map_append,mkT_mv c p b,<- mkA_mv c r,show b+c+rl p=b+rl p+c by (first|lia|omega)]
  | false =>
   rw [if_neg (by decide),if_neg (by decide),List.map_cons,List.map_append,<- mkT_mv c p,<- mkA_mv c r,show b+c+1+rl p=b+1+rl p+c by (first|lia|omega),show b+c+1=b+1+c by (first|lia|omega)]
   rfl
theorem mkP_mv (c:Nat):∀ (ps:List Tr) (b l:Nat) (f:Bool),mkP (b+c) (l+c) f ps=(mkP b l f ps).map (mv c)
 | [],b,l,f=>by unfold mkP; rfl
 | p :: r,b,l,f=>by
  unfold mkP
  cases f with
  | true=>rw [if_pos rfl,if_pos rfl,List.map_append,mkT_mv c p b,<- mkP_mv c r,show b+c+rl p=b+rl p+c by (first|lia|omega)]
  | false =>
   rw [if_neg (by decide),if_neg (by decide),List.map_cons,List.map_append,<- mkT_mv c p,<- mkP_mv c r,show b+c+1+rl p=b+1+rl p+c by (first|lia|omega),show b+c+1=b+1+c by (first|lia|omega)]
   rfl
theorem mkK_mv (c:Nat):∀ (ps:List Tr) (b:Nat),mkK (b+c) ps=(mkK b ps).map (mv c)
 | [],b=>by unfold mkK; rfl
 | p :: r,b=>by
  unfold mkK
  rw [List.map_append,List.map_cons,List.map_append,List.map_cons,mkT_mv c p b,<- mkP_mv c r,show b+c+rl p+r.length+2=b+rl p+r.length+2+c by (first|lia|omega),show b+c+rl p+r.length+1=b+rl p+r.length+1+c by (first|lia|omega),pkS_mv c r,List.map_map,List.map_map]
  congr 1
  congr 1
  congr 1
  congr 1
  show [4,((b+rl p+r.length+2+c+rls r+(r.length - 1):Nat):Int)]=[4,((b+rl p+r.length+2+rls r+(r.length - 1):Nat):Int)+(c:Int)]
  congr 2
  (first|lia|omega)
theorem mkL_mv (c:Nat):∀ (ps:List Tr) (b:Nat),mkL (b+c) ps=(mkL b ps).map (mv c)
 | [],b=>by unfold mkL; rfl
 | x :: r,b=>by
  unfold mkL
  rw [List.map_cons,List.map_append,List.map_cons,List.map_append,<- mkT_mv c x,<- mkS_mv c r,show b+c+1=b+1+c by (first|lia|omega),show b+c+rl x+2=b+rl x+2+c by (first|lia|omega)]
  congr 1
  congr 1
  congr 1
  ·show [5,((b+c+rl x+rls r+4:Nat):Int)]=[5,((b+rl x+rls r+4:Nat):Int)+(c:Int)]
   congr 2
   (first|lia|omega)
end

theorem row4 {n:Int} {nf nr:Nat} (h0 : 0<=n) (h1:n<(nr:Int)):isRow [4,n] nf nr:=⟨4,n,rfl,.inr (.inr (.inl ⟨.inl rfl,h0,h1⟩))⟩
theorem row5 {n:Int} {nf nr:Nat} (h0 : 0<=n) (h1:n<(nr:Int)):isRow [5,n] nf nr:=⟨5,n,rfl,.inr (.inr (.inl ⟨.inr rfl,h0,h1⟩))⟩
theorem row0 {n:Int} {nf nr:Nat}:isRow [0,n] nf nr:=⟨0,n,rfl,.inl rfl⟩
theorem row3 {nf nr:Nat}:isRow [3,0] nf nr:=⟨3,0,rfl,by unfold RowOk; (first|lia|omega)⟩
theorem row7 {nf nr:Nat}:isRow [7,0] nf nr:=⟨7,0,rfl,by unfold RowOk; (first|lia|omega)⟩
theorem row9 {nf nr:Nat}:isRow [9,0] nf nr:=⟨9,0,rfl,by unfold RowOk; (first|lia|omega)⟩
theorem row11 {n:Int} {nf nr:Nat} (h0 : 2<=n) (h1:n<=12):isRow [11,n] nf nr:=⟨11,n,rfl,by unfold RowOk; (first|lia|omega)⟩
theorem row_own {hs:Hds} {bx k:Int} {own:List Int} {nr:Nat} (of:OwnFit hs bx k own) (k0 : 0<=k) (k19:k<=19) (h3:k≠3) (h4:k≠4) (h5:k≠5) (hb:bx<=12):isRow (ownR k own) hs.length nr:=by
 rcases of with ⟨rfl,n,rfl⟩ | ⟨hk,n,rfl,a,b⟩ | ⟨rfl,_⟩ | ⟨rfl,_⟩ | ⟨rfl,n,rfl,a,b⟩ | ⟨hk,rfl⟩
 ·exact row0
 ·refine ⟨k,n,?_,?_⟩
  ·unfold ownR
   rw [if_pos (by (first|lia|omega))]
   rfl
  ·unfold RowOk; (first|lia|omega)
 ·exact absurd rfl h3
 ·exact absurd rfl h4
 ·exact ⟨6,n,rfl,by unfold RowOk; (first|lia|omega)⟩
 ·by_cases c:k=7
  ·subst c
   exact ⟨8,0,rfl,by unfold RowOk; (first|lia|omega)⟩
  ·refine ⟨10,k,?_,by unfold RowOk; (first|lia|omega)⟩
   unfold ownR
   rw [if_neg (by (first|lia|omega)),if_neg (by (first|lia|omega)),if_neg c]
theorem pkS_le:∀ (ps:List Tr) (b:Nat) (f:Bool),∀ s∈pkS b f ps,s<=b+rls ps+(if f=true then ps.length - 1 else ps.length)
 | [],b,f,s,h=>by unfold pkS at h; cases h
 | p :: r,b,f,s,h=>by
  unfold pkS at h
  unfold rls
  rw [List.length_cons]
  cases f with
  | true =>
   rw [if_pos rfl] at h ⊢
   rcases List.mem_cons.mp h with z | z
   ·(first|lia|omega)
   ·have:=pkS_le r _ _ s z
    rw [if_neg (by decide)] at this
    (first|lia|omega)
  | false =>
   rw [if_neg (by decide)] at h ⊢
   rcases List.mem_cons.mp h with z | z
   ·(first|lia|omega)
   ·have:=pkS_le r _ _ s z
    rw [if_neg (by decide)] at this
    (first|lia|omega)
mutual
theorem xY {hs:Hds} {bx:Int}:∀ (d:Nat) (t:Tr),FitT hs bx d t->GdT t
 | 0,t,h=>by unfold FitT at h; exact h.elim
 | d+1,.mk k own ps,h=>by
  unfold FitT at h
  obtain ⟨k0,k1,of,lp,_,fp⟩ := h
  unfold GdT
  refine ⟨fun z => ?_,fun z => ?_,fun z => ?_,fit_gds d ps fp⟩
  ·subst z
   rcases of with ⟨z,_⟩ | ⟨z,_⟩ | ⟨_,n,rfl,a,b⟩ | ⟨z,_⟩ | ⟨z,_⟩ | ⟨z,_⟩ <;> try (first|lia|omega)
   intro e
   rw [e] at lp
   have:(dueM hs 3 [n]).toNat=n.toNat:=rfl
   rw [this] at lp
   show False
   simp at lp
   (first|lia|omega)
  ·subst z
   rcases of with ⟨z,_⟩ | ⟨z,_⟩ | ⟨z,_⟩ | ⟨_,n,rfl,a,b⟩ | ⟨z,_⟩ | ⟨z,_⟩ <;> try (first|lia|omega)
   have:(dueM hs 4 [n]).toNat=(1+n).toNat:=rfl
   rw [this] at lp
   (first|lia|omega)
  ·subst z
   exact lp
theorem fit_gds {hs:Hds} {bx:Int}:∀ (d:Nat) (ts:List Tr),FitTs hs bx d ts->GdTs ts
 | _,[],_=>by unfold GdTs; trivial
 | d,a :: r,h=>by
  unfold FitTs at h
  unfold GdTs
  exact ⟨xY d a h.1,fit_gds d r h.2⟩
end
section
variable {hs:Hds} {bx:Int} {nr:Nat}
mutual
theorem wQ (hb:bx<=12):∀ (d:Nat) (t:Tr) (b:Nat),FitT hs bx d t->b+rl t<nr->∀ g∈mkT b t,isRow g hs.length nr
 | 0,t,b,h,_=>by unfold FitT at h; exact h.elim
 | d+1,.mk k own ps,b,h,hn=>by
  have gd:=xY (d+1) _ h
  unfold GdT at gd
  unfold FitT at h
  obtain ⟨k0,k1,of,lp,_,fp⟩ := h
  unfold mkT
  unfold rl at hn
  by_cases c3:k=3
  ·rw [if_pos c3] at hn ⊢
   exact mkA_ok hb d ps b true fp (by rw [if_pos rfl]; (first|lia|omega))
  rw [if_neg c3] at hn ⊢
  by_cases c4:k=4
  ·rw [if_pos c4] at hn ⊢
   subst c4
   rcases of with ⟨z,_⟩ | ⟨z,_⟩ | ⟨z,_⟩ | ⟨_,n,rfl,a,b'⟩ | ⟨z,_⟩ | ⟨z,_⟩ <;> try (first|lia|omega)
   have:(dueM hs 4 [n]).toNat=(1+n).toNat:=rfl
   rw [this] at lp
   exact mkK_ok hb d ps b fp (by (first|lia|omega)) (by (first|lia|omega)) (by (first|lia|omega))
  rw [if_neg c4] at hn ⊢
  by_cases c5:k=5
  ·rw [if_pos c5] at hn ⊢
   exact mkL_ok hb d ps b fp (by (first|lia|omega))
  rw [if_neg c5] at hn ⊢
  intro g hg
  rcases List.mem_append.mp hg with z | z
  ·exact mkS_ok hb d ps b fp (by (first|lia|omega)) g z
  ·rw [List.mem_singleton.mp z]
   exact row_own of k0 k1 c3 c4 c5 hb
theorem mkS_ok (hb:bx<=12):∀ (d:Nat) (ps:List Tr) (b:Nat),FitTs hs bx d ps->b+rls ps<nr->∀ g∈mkS b ps,isRow g hs.length nr
 | _,[],b,_,_,g,hg=>by unfold mkS at hg; cases hg
 | d,p :: r,b,h,hn,g,hg=>by
  unfold FitTs at h
  unfold rls at hn
  unfold mkS at hg
  rcases List.mem_append.mp hg with z | z
  ·exact wQ hb d p b h.1 (by (first|lia|omega)) g z
  ·exact mkS_ok hb d r _ h.2 (by (first|lia|omega)) g z
theorem mkA_ok (hb:bx<=12):∀ (d:Nat) (ps:List Tr) (b:Nat) (f:Bool),FitTs hs bx d ps->b+rls ps+(if f=true then ps.length - 1 else ps.length)<nr->∀ g∈mkA b f ps,isRow g hs.length nr
 | _,[],b,f,_,_,g,hg=>by unfold mkA at hg; cases hg
 | d,p :: r,b,f,h,hn,g,hg=>by
  unfold FitTs at h
  unfold rls at hn
  rw [List.length_cons] at hn
  unfold mkA at hg
  cases f with
  | true =>
   rw [if_pos rfl] at hg hn
   rcases List.mem_append.mp hg with z | z
   ·exact wQ hb d p b h.1 (by (first|lia|omega)) g z
   ·exact mkA_ok hb d r _ false h.2 (by rw [if_neg (by decide)]; (first|lia|omega)) g z
  | false =>
   rw [if_neg (by decide)] at hg hn
   rcases List.mem_cons.mp hg with z | z
   ·rw [z]; exact row3
   rcases List.mem_append.mp z with z | z
   ·exact wQ hb d p _ h.1 (by (first|lia|omega)) g z
   ·exact mkA_ok hb d r _ false h.2 (by rw [if_neg (by decide)]; (first|lia|omega)) g z
theorem mkP_ok (hb:bx<=12):∀ (d:Nat) (ps:List Tr) (b l:Nat) (f:Bool),FitTs hs bx d ps->b+rls ps+(if f=true then ps.length - 1 else ps.length)<nr->l<nr->∀ g∈mkP b l f ps,isRow g hs.length nr
 | _,[],b,l,f,_,_,_,g,hg=>by unfold mkP at hg; cases hg
 | d,p :: r,b,l,f,h,hn,hl,g,hg=>by
  unfold FitTs at h
  unfold rls at hn
  rw [List.length_cons] at hn
  unfold mkP at hg
  cases f with
  | true =>
   rw [if_pos rfl] at hg hn
   rcases List.mem_append.mp hg with z | z
   ·exact wQ hb d p b h.1 (by (first|lia|omega)) g z
   ·exact mkP_ok hb d r _ l false h.2 (by rw [if_neg (by decide)]; (first|lia|omega)) hl g z
  | false =>
   rw [if_neg (by decide)] at hg hn
   rcases List.mem_cons.mp hg with z | z
   ·rw [z]; exact row4 (by (first|lia|omega)) (by (first|lia|omega))
   rcases List.mem_append.mp z with z | z
   ·exact wQ hb d p _ h.1 (by (first|lia|omega)) g z
   ·exact mkP_ok hb d r _ l false h.2 (by rw [if_neg (by decide)]; (first|lia|omega)) hl g z
theorem mkK_ok (hb:bx<=12):∀ (d:Nat) (ps:List Tr) (b:Nat),FitTs hs bx d ps->3<=ps.length->ps.length<=13->b+rls ps+2 * (ps.length - 1)+1<nr->∀ g∈mkK b ps,isRow g hs.length nr
 | _,[],b,_,z,_,_,_,_=>by cases z
 | d,p :: r,b,h,z2,z13,hn,g,hg=>by
  unfold FitTs at h
  unfold rls at hn
  rw [List.length_cons] at hn z2 z13
  unfold mkK at hg
  rcases List.mem_append.mp hg with z | z
  ·exact wQ hb d p b h.1 (by (first|lia|omega)) g z
  rcases List.mem_cons.mp z with z | z
  ·rw [z]; exact row11 (by (first|lia|omega)) (by (first|lia|omega))
  rcases List.mem_append.mp z with z | z
  ·obtain ⟨s,hs',rfl⟩ := List.mem_map.mp z
   have:=pkS_le r _ _ s hs'
   rw [if_pos rfl] at this
   exact row4 (by (first|lia|omega)) (by (first|lia|omega))
  rcases List.mem_cons.mp z with z | z
  ·rw [z]; exact row4 (by (first|lia|omega)) (by (first|lia|omega))
  ·exact mkP_ok hb d r _ _ true h.2 (by rw [if_pos rfl]; (first|lia|omega)) (by (first|lia|omega)) g z
theorem mkL_ok (hb:bx<=12):∀ (d:Nat) (ps:List Tr) (b:Nat),FitTs hs bx d ps->b+rls ps+5<nr->∀ g∈mkL b ps,isRow g hs.length nr
 | _,[],b,_,_,g,hg=>by unfold mkL at hg; cases hg
 | d,x :: r,b,h,hn,g,hg=>by
  unfold FitTs at h
  unfold rls at hn
  unfold mkL at hg
  rcases List.mem_cons.mp hg with z | z
  ·rw [z]; exact row9
  rcases List.mem_append.mp z with z | z
  ·exact wQ hb d x _ h.1 (by (first|lia|omega)) g z
  rcases List.mem_cons.mp z with z | z
  ·rw [z]; exact row5 (by (first|lia|omega)) (by (first|lia|omega))
  rcases List.mem_append.mp z with z | z
  ·exact mkS_ok hb d r _ h.2 (by (first|lia|omega)) g z
  rcases List.mem_cons.mp z with z | z
  ·rw [z]; exact row3
  rcases List.mem_cons.mp z with z | z
  ·rw [z]; exact row4 (by (first|lia|omega)) (by (first|lia|omega))
  rw [List.mem_singleton.mp z]
  exact row0
end
end
noncomputable def nxB (k:Int) (m i b:Nat) (t:Tr):Nat:=b+rl t+(if k=3\/k=5 then 1 else if k=4 then (if i=0 then m+2 else 1) else 0)
mutual
noncomputable def poN (b:Nat):Nd->List (List Int)
 | .mk k p own ps=>poS k (ps.length - 1) 0 (b+if k=5 then 1 else 0) ps++[[(p:Int),(b:Int),((b+rl (.mk k own (bareL ps)):Nat):Int)]]
noncomputable def poS (k:Int) (m i b:Nat):List Nd->List (List Int)
 | []=>[]
 | t :: r=>poN b t++poS k m (i+1) (nxB k m i b (bare t)) r
end
mutual
noncomputable def ndN:Nd->Nat
 | .mk _ _ _ ps=>1+ndS ps
noncomputable def ndS:List Nd->Nat
 | []=>0
 | t :: r=>ndN t+ndS r
end
noncomputable def bgS (k:Int) (m i b:Nat):List Tr->Nat
 | []=>b
 | t :: r=>bgS k m (i+1) (nxB k m i b t) r
theorem jC:∀ (a b:List Nd),bareL (a++b)=bareL a++bareL b
 | [],b=>by unfold bareL; rfl
 | x :: r,b=>by
  rw [List.cons_append]
  unfold bareL
  rw [jC r b,List.cons_append]
  cases b <;> rfl
theorem poS_snoc (k:Int) (m:Nat):∀ (l:List Nd) (x:Nd) (i b:Nat),poS k m i b (l++[x])=poS k m i b l++poN (bgS k m i b (bareL l)) x
 | [],x,i,b=>by
  rw [List.nil_append]
  unfold poS bareL bgS
  unfold poS
  rw [List.append_nil,List.nil_append]
 | t :: r,x,i,b=>by
  rw [List.cons_append]
  unfold poS bareL bgS
  rw [poS_snoc k m r x,List.append_assoc]
theorem yX (p:Tr) (r:List Tr):rls (p :: r)=rl p+rls r:=by rw [rls]
theorem xX (p:Nd) (r:List Nd):ndS (p :: r)=ndN p+ndS r:=by rw [ndS]
theorem xJ (p:Tr) (r:List Tr):GdTs (p :: r)=(GdT p/\GdTs r):=by rw [GdTs]
theorem wO:∀ a b:List Tr,rls (a++b)=rls a+rls b
 | [],b=>by
  rw [List.nil_append]
  show rls b=rls []+rls b
  have:rls []=0:=by unfold rls; rfl
  (first|lia|omega)
 | x :: r,b=>by
  rw [List.cons_append,yX,yX,wO r b]
  (first|lia|omega)
theorem ndS_app:∀ a b:List Nd,ndS (a++b)=ndS a+ndS b
 | [],b=>by
  rw [List.nil_append]
  have:ndS []=0:=by unfold ndS; rfl
  (first|lia|omega)
 | x :: r,b=>by
  rw [List.cons_append,xX,xX,ndS_app r b]
  (first|lia|omega)
theorem bgS_all (m:Nat):∀ (l:List Tr) (i b:Nat),bgS 3 m i b l=b+rls l+l.length
 | [],i,b=>by unfold bgS rls; rfl
 | t :: r,i,b=>by
  unfold bgS rls
  rw [bgS_all m r]
  unfold nxB
  rw [if_pos (.inl rfl),List.length_cons]
  (first|lia|omega)
theorem bgS_seq {k:Int} (h3:k≠3) (h4:k≠4) (h5:k≠5) (m:Nat):∀ (l:List Tr) (i b:Nat),bgS k m i b l=b+rls l
 | [],i,b=>by unfold bgS rls; rfl
 | t :: r,i,b=>by
  unfold bgS rls
  rw [bgS_seq h3 h4 h5 m r]
  unfold nxB
  rw [if_neg (by (first|lia|omega)),if_neg h4]
  (first|lia|omega)
theorem bgS_pick (m:Nat):∀ (l:List Tr) (i b:Nat),0<i->bgS 4 m i b l=b+rls l+l.length
 | [],i,b,_=>by unfold bgS rls; rfl
 | t :: r,i,b,h=>by
  unfold bgS rls
  rw [bgS_pick m r _ _ (Nat.succ_pos _)]
  unfold nxB
  rw [if_neg (by decide),if_pos rfl,if_neg (by (first|lia|omega)),List.length_cons]
  (first|lia|omega)
theorem gds_app:∀ a b:List Tr,GdTs (a++b)->GdTs a/\GdTs b
 | [],b,h=>⟨by unfold GdTs; trivial,h⟩
 | x :: r,b,h=>by
  rw [List.cons_append,xJ] at h
  obtain ⟨h1,h2⟩ := h
  obtain ⟨a1,a2⟩ := gds_app r b h2
  rw [xJ]
  exact ⟨⟨h1,a1⟩,a2⟩
theorem mkS_snoc:∀ (l:List Tr) (x:Tr) (b:Nat),mkS b (l++[x])=mkS b l++mkT (b+rls l) x
 | [],x,b=>by
  rw [List.nil_append]
  unfold mkS rls
  unfold mkS
  rw [List.append_nil]
  rfl
 | p :: r,x,b=>by
  rw [List.cons_append]
  unfold mkS rls
  rw [mkS_snoc r x,List.append_assoc,show b+rl p+rls r=b+(rl p+rls r) by (first|lia|omega)]
theorem mkA_more:∀ (l:List Tr) (x:Tr) (b:Nat),mkA b false (l++[x])=mkA b false l++([3,0] :: mkT (b+rls l+l.length+1) x)
 | [],x,b=>by
  rw [List.nil_append]
  unfold mkA rls
  rw [if_neg (by decide)]
  unfold mkA
  rw [List.append_nil]
  rfl
 | p :: r,x,b=>by
  rw [List.cons_append]
  unfold mkA rls
  rw [if_neg (by decide),if_neg (by decide),mkA_more r x,List.length_cons,List.cons_append,List.append_assoc,show b+1+rl p+rls r+r.length+1=b+(rl p+rls r)+(r.length+1)+1 by (first|lia|omega)]
theorem mkA_snoc (p:Tr) (l:List Tr) (x:Tr) (b:Nat):mkA b true (p :: l++[x])=mkA b true (p :: l)++([3,0] :: mkT (b+rls (p :: l)+(p :: l).length) x):=by
 rw [List.cons_append]
 unfold mkA
 rw [if_pos rfl,if_pos rfl,mkA_more l x,List.append_assoc]
 congr 4
 rw [List.length_cons]
 show b+rl p+rls l+l.length+1=b+(rl p+rls l)+(l.length+1)
 (first|lia|omega)
theorem mkP_more (la:Nat):∀ (l:List Tr) (x:Tr) (b:Nat),mkP b la false (l++[x])=mkP b la false l++([4,(la:Int)] :: mkT (b+rls l+l.length+1) x)
 | [],x,b=>by
  rw [List.nil_append]
  unfold mkP rls
  rw [if_neg (by decide)]
  unfold mkP
  rw [List.append_nil]
  rfl
 | p :: r,x,b=>by
  rw [List.cons_append]
  unfold mkP rls
  rw [if_neg (by decide),if_neg (by decide),mkP_more la r x,List.length_cons,List.cons_append,List.append_assoc,show b+1+rl p+rls r+r.length+1=b+(rl p+rls r)+(r.length+1)+1 by (first|lia|omega)]
theorem mkP_snoc (la:Nat) (l:List Tr) (x:Tr) (b:Nat):mkP b la true (l++[x])=mkP b la true l++((if l.length=0 then [] else [[4,(la:Int)]])++mkT (b+rls l+l.length) x):=by
 cases l with
 | nil =>
  rw [List.nil_append]
  unfold mkP
  rw [if_pos rfl]
  unfold mkP
  rw [List.append_nil,List.nil_append]
  have:rls []=0:=by unfold rls; rfl
  show mkT b x=[]++mkT (b+rls []+0) x
  rw [this]
  rfl
 | cons p r =>
  rw [List.cons_append]
  unfold mkP
  rw [if_pos rfl,if_pos rfl,mkP_more la r x,List.append_assoc,List.length_cons,if_neg (by (first|lia|omega)),yX,show b+rl p+rls r+r.length+1=b+(rl p+rls r)+(r.length+1) by (first|lia|omega)]
  rfl
theorem pkS_more:∀ (l:List Tr) (x:Tr) (b:Nat),pkS b false (l++[x])=pkS b false l++[b+rls l+l.length+1]
 | [],x,b=>by
  rw [List.nil_append]
  unfold pkS
  rw [if_neg (by decide)]
  unfold pkS rls
  rfl
 | p :: r,x,b=>by
  rw [List.cons_append]
  unfold pkS rls
  rw [if_neg (by decide),if_neg (by decide),pkS_more r x,List.length_cons,List.cons_append,show b+1+rl p+rls r+r.length+1=b+(rl p+rls r)+(r.length+1)+1 by (first|lia|omega)]
theorem pkS_snoc (l:List Tr) (x:Tr) (b:Nat):pkS b true (l++[x])=pkS b true l++[b+rls l+l.length]:=by
 cases l with
 | nil =>
  rw [List.nil_append]
  unfold pkS
  rw [if_pos rfl]
  unfold pkS
  have:rls []=0:=by unfold rls; rfl
  rw [this]
  rfl
 | cons p r =>
  rw [List.cons_append]
  unfold pkS
  rw [if_pos rfl,if_pos rfl,pkS_more r x,List.cons_append,List.length_cons,yX,show b+rl p+rls r+r.length+1=b+(rl p+rls r)+(r.length+1) by (first|lia|omega)]
noncomputable abbrev FnN:=(Int × Int) × Nd
noncomputable def rlF:List FnN->Nat
 | []=>0
 | f :: r=>rl (bare f.2)+1+rlF r
noncomputable def mkF (b:Nat):List FnN->List (List Int)
 | []=>[]
 | f :: r=>mkT b (bare f.2)++([7,0] :: mkF (b+rl (bare f.2)+1) r)
noncomputable def hdF (b:Nat):List FnN->List (List Int)
 | []=>[]
 | f :: r=>[(b:Int),f.1.1,f.1.2] :: hdF (b+rl (bare f.2)+1) r
noncomputable def poF (b:Nat):List FnN->List (List Int)
 | []=>[]
 | f :: r=>poN b f.2++poF (b+rl (bare f.2)+1) r
noncomputable def ndF:List FnN->Nat
 | []=>0
 | f :: r=>ndN f.2+ndF r
theorem rlF_app:∀ a b:List FnN,rlF (a++b)=rlF a+rlF b
 | [],b=>by rw [List.nil_append]; show rlF b=0+rlF b; (first|lia|omega)
 | x :: r,b=>by
  show rl (bare x.2)+1+rlF (r++b)=rl (bare x.2)+1+rlF r+rlF b
  rw [rlF_app r b]
  (first|lia|omega)
theorem ndF_app:∀ a b:List FnN,ndF (a++b)=ndF a+ndF b
 | [],b=>by rw [List.nil_append]; show ndF b=0+ndF b; (first|lia|omega)
 | x :: r,b=>by
  show ndN x.2+ndF (r++b)=ndN x.2+ndF r+ndF b
  rw [ndF_app r b]
  (first|lia|omega)
theorem mkF_snoc:∀ (l:List FnN) (x:FnN) (b:Nat),mkF b (l++[x])=mkF b l++(mkT (b+rlF l) (bare x.2)++[[7,0]])
 | [],x,b=>rfl
 | f :: r,x,b=>by
  show mkT b (bare f.2)++([7,0] :: mkF (b+rl (bare f.2)+1) (r++[x]))=mkT b (bare f.2)++([7,0] :: mkF (b+rl (bare f.2)+1) r)++(mkT (b+(rl (bare f.2)+1+rlF r)) (bare x.2)++[[7,0]])
  rw [mkF_snoc r x,show b+rl (bare f.2)+1+rlF r=b+(rl (bare f.2)+1+rlF r) by (first|lia|omega),List.append_assoc]
  rfl
theorem hdF_snoc:∀ (l:List FnN) (x:FnN) (b:Nat),hdF b (l++[x])=hdF b l++[[((b+rlF l:Nat):Int),x.1.1,x.1.2]]
 | [],x,b=>rfl
 | f :: r,x,b=>by
  show _ :: hdF (b+rl (bare f.2)+1) (r++[x])=_ :: hdF (b+rl (bare f.2)+1) r++[[((b+(rl (bare f.2)+1+rlF r):Nat):Int),x.1.1,x.1.2]]
  rw [hdF_snoc r x,show b+rl (bare f.2)+1+rlF r=b+(rl (bare f.2)+1+rlF r) by (first|lia|omega)]
  rfl
theorem poF_snoc:∀ (l:List FnN) (x:FnN) (b:Nat),poF b (l++[x])=poF b l++poN (b+rlF l) x.2
 | [],x,b=>by show poN b x.2++[]=[]++poN (b+0) x.2; rw [List.append_nil]; rfl
 | f :: r,x,b=>by
  show poN b f.2++poF (b+rl (bare f.2)+1) (r++[x])=poN b f.2++poF (b+rl (bare f.2)+1) r++poN (b+(rl (bare f.2)+1+rlF r)) x.2
  rw [poF_snoc r x,show b+rl (bare f.2)+1+rlF r=b+(rl (bare f.2)+1+rlF r) by (first|lia|omega),List.append_assoc]
end L2

namespace HT
open PySem PySem.Spec PyProof.Rows
section
variable {prog:Program} {w:World} {A:Around} {E:Value->Shared->Prop} {s:Shared}
end
end HT
namespace L2
open PySem PySem.Spec PyProof.Rows
section
variable {X:Cx}
end
theorem cutV_drop {xs:List V} (n:Nat):cutV xs (some (n:Int)) none=xs.drop n:=by
 unfold cutV
 rw [HT.sIx_none,HT.sIx_nat]
 by_cases h:n<=xs.length
 ·rw [Nat.min_eq_left h,List.take_of_length_le (by rw [List.length_drop]; (first|lia|omega))]
 ·rw [Nat.min_eq_right (by (first|lia|omega)),Nat.sub_self,List.take_zero,List.drop_eq_nil_of_le (by (first|lia|omega))]
end L2

namespace L2
open PySem PySem.Spec PyProof.Rows
section
variable {prog:Program} {w:World} {A:Around} {E:Value->Shared->Prop} {s:Shared}
theorem nextOf_tup {it t:Addr} {i:Nat} {items:Array Value} {x:Value} {Q:Value->Shared->Prop} (hit:s.heap.IsTupleIter it t i) (ht:s.heap.IsTuple t items) (hx:items[i]? = some x)
  (q:∀ h',h'.IsTupleIter it t (i+1)->Heap.SameBut it s.heap h'->Q x { s with heap:=h' }):wpAny (model prog w) A (Builtin.SmallTypes.nextOf (.ref it)) Q E s:=by
 obtain ⟨o,g,cl,da⟩ := id hit
 obtain ⟨ot,gt,_,nt,dt⟩ := ht
 unfold Builtin.SmallTypes.nextOf
 refine wpAny_bind (wpAny_callSpecial?_slot (name:=Str.ofString "__next__") hit.typeIs F.slot_tuple_iterator_next (wpAny_call_entry F.slot_tuple_iterator_next hit.typeIs F.entry_tuple_iterator_next (show wpAny _ _ (field (.ref it) 0 >>= _) _ _ s from ?_) (F.args_tuple_iterator_next_1 _)))
 refine wpAny_bind (wpAny_field g da (x:=.ref t) rfl (show wpAny _ _ (if (Value.ref t == Value.none)=true then _ else _) _ _ s from ?_))
 rw [if_neg (by exact Bool.false_ne_true)]
 refine wpAny_bind (m:=field (.ref it) 1) (wpAny_field g da (x:=.int i 0) rfl (wpAny_bind (m:=seqItems? (.ref t)) (wpAny_seqItems gt dt ?_)))
 simp only [Int.toNat_natCast,hx]
 refine wpAny_bind (wpAny_setField g da (by simp) (wpAny_pure ⟨x,rfl,wpAny_pure (q _ ⟨_,Heap.get?_update_self _ g (Obj.isFreed_of_fields (Obj.data_mapFields da _)),(Obj.cls_mapFields ..).trans cl,?_⟩ (Heap.SameBut.update ..))⟩))
 rw [Obj.data_mapFields da]
 simp [rawInt]
theorem nextOf_tup_end {it t:Addr} {i:Nat} {items:Array Value} {Q:Value->Shared->Prop} (hh:A.handled=none) (hit:s.heap.IsTupleIter it t i) (ht:s.heap.IsTuple t items) (hx:items[i]? = none)
  (q:∀ h' e,Heap.ExtBut it s.heap h'->(∃ o,h'.get? e=some o/\o.cls = .type "StopIteration")->E (.ref e) { s with heap:=h' }):wpAny (model prog w) A (Builtin.SmallTypes.nextOf (.ref it)) Q E s:=by
 obtain ⟨o,g,cl,da⟩ := id hit
 obtain ⟨ot,gt,_,nt,dt⟩ := ht
 unfold Builtin.SmallTypes.nextOf
 refine wpAny_bind (wpAny_callSpecial?_slot (name:=Str.ofString "__next__") hit.typeIs F.slot_tuple_iterator_next (wpAny_call_entry F.slot_tuple_iterator_next hit.typeIs F.entry_tuple_iterator_next (show wpAny _ _ (field (.ref it) 0 >>= _) _ _ s from ?_) (F.args_tuple_iterator_next_1 _)))
 refine wpAny_bind (wpAny_field g da (x:=.ref t) rfl (show wpAny _ _ (if (Value.ref t == Value.none)=true then _ else _) _ _ s from ?_))
 rw [if_neg (by exact Bool.false_ne_true)]
 refine wpAny_bind (m:=field (.ref it) 1) (wpAny_field g da (x:=.int i 0) rfl (wpAny_bind (m:=seqItems? (.ref t)) (wpAny_seqItems gt dt ?_)))
 simp only [Int.toNat_natCast,hx]
 refine wpAny_bind (wpAny_rule (wpAny_bind (wpAny_setField g da (by simp) (show wpAny _ _ (newExc (.type "StopIteration") [] >>= _) _ _ _ from wpAny_bind ?_))))
 simp only [newExc,newTuple]
 refine wpAny_bind (wpAny_newObj_type (wpAny_bind (m:=firstArgMember _ _) (wpAny_of_eq (a:=Value.none) (by first | rfl | (simp only [firstArgMember]; rfl)) (wpAny_newObj_type ?_ (by size_fits)))) (by size_fits))
 simp only [raiseNew]
 refine wpAny_bind (wpAny_handled ?_)
 first | rw [show A.in1.handled=none from hh] | rw [hh]
 exact wpAny_bind (wpAny_pure (wpAny_throw (q _ _ (((Heap.SameBut.update ..).extBut.push _).push _) ⟨_,Heap.get?_push_size _ rfl,rfl⟩)))
theorem draws_tup (hh:A.handled=none) (it t:Addr) (hne:t≠it) (items:Array Value):Draws prog w A it [it,t] items.size (fun i v=>items[i]? = some v) (fun i h=>h.IsTupleIter it t i/\h.IsTuple t items) where
 live:=fun _ _ st=>by obtain ⟨⟨o,ho,_⟩,_⟩ := st; exact ⟨o,ho⟩
 frame:=fun _ _ _ st hk=>by
  obtain ⟨⟨o,ho,r⟩,o2,ho2,r2⟩ := st
  exact ⟨⟨o,hk it (by simp) _ ho,r⟩,o2,hk t (by simp) _ ho2,r2⟩
 item:=fun i s Q E hi st hQ=>nextOf_tup st.1 st.2 (x:=items[i]) (by simp [hi]) fun h' a b=>hQ _ h' s.toks (by simp [hi]) ⟨a,st.2.extBut b.extBut hne⟩ b
 done:=fun s Q E st hE=>nextOf_tup_end hh st.1 st.2 (by simp) hE
theorem meets_enumT (l:Addr) (items:Array Value) (n:Nat) (dct:Option Addr) (sl:Array (Option Value)):Meets (Builtin.«enumerate.__new__» ⟨[.type "enumerate",.ref l],[]⟩) (fun _ R s=>s.heap.get? l=some { cls:=.type "tuple",dict:=dct,data:=.seq items n,slots:=sl } /\
  R (.ok (.ret (.ref (s.heap.push { cls:=.type "tuple_iterator",data:=.fields #[.ref l,.int 0 0] }).objs.size))) { s with heap:=(s.heap.push { cls:=.type "tuple_iterator",data:=.fields #[.ref l,.int 0 0] }).push { cls:=.type "enumerate",data:=.fields #[.none,.bool false,.ref s.heap.objs.size,rawInt 0,.none,.none] } }) :=
 .of_wp fun prog w A R s h=>by
  obtain ⟨hp,g,d,tk,os⟩ := s
  obtain ⟨hl,h⟩ := h
  have hsub:=sub_enumerate
  have tt:Heap.IsTuple (Shared.heap ⟨hp,g,d,tk,os⟩) l items:=⟨_,hl,rfl,n,rfl⟩
  wp_walk using AutoSeq1.wpAny_loadPart' hl
  refine wpAny_stack_any fun st=>wpAny_pure ?_
  split
  ·rename_i c _ _ _ _ _
   cases (c == Value.type "enumerate")
   all_goals
    wp_walk using AutoSeq1.wpAny_loadPart' hl,wpAny_pyIter_tuple tt
    exact ⟨_,rfl,h⟩
  ·wp_walk using AutoSeq1.wpAny_loadPart' hl,wpAny_pyIter_tuple tt
   exact ⟨_,rfl,h⟩
theorem call_enumT {l:Addr} {items:Array Value} {Q:Value->Shared->Prop} (hT:s.heap.IsTuple l items)
  (q:∀ h',IsEnum h' (s.heap.objs.size+1) s.heap.objs.size 0 .none->h'.IsTupleIter s.heap.objs.size l 0->h'.objs.size=s.heap.objs.size+2->(∀ b o,s.heap.get? b=some o->h'.get? b=some o)->Q (.ref (s.heap.objs.size+1)) { s with heap:=h' }):wpAny (model prog w) A (call (.type "enumerate") [.ref l]) Q E s:=by
 obtain ⟨⟨c,dct,dt,sl⟩,hl,hc,n,hd⟩ := hT
 dsimp only at hc hd
 subst hc hd
 refine callType_new F.called_enumerate (by decide) (F.typeCall_enumerate_1 _) (F.newCall_enumerate_1 _) (fun obj=>F.args_object_init_2 obj _) F.entry_enumerate_new (meets_enumT l items n dct sl) ⟨hl,?_⟩
 have z1:(s.heap.push { cls:=.type "tuple_iterator",data:=.fields #[.ref l,.int 0 0] }).objs.size=s.heap.objs.size+1:=Heap.size_push ..
 show _/\_
 rw [z1]
 have he:IsEnum ((s.heap.push { cls:=.type "tuple_iterator",data:=.fields #[.ref l,.int 0 0] }).push { cls:=.type "enumerate",data:=.fields #[.none,.bool false,.ref s.heap.objs.size,rawInt 0,.none,.none] }) (s.heap.objs.size+1) s.heap.objs.size 0 .none:=by
  have:=Heap.get?_push_size (s.heap.push { cls:=.type "tuple_iterator",data:=.fields #[.ref l,.int 0 0] }) (o:={ cls:=.type "enumerate",data:=.fields #[.none,.bool false,.ref s.heap.objs.size,rawInt 0,.none,.none] }) rfl
  rw [z1] at this
  exact this
 exact ⟨⟨_,he,rfl⟩,q _ he ⟨_,Heap.get?_push_of_some _ (Heap.get?_push_size _ rfl),rfl,rfl⟩ (by rw [Heap.size_push,z1]) fun b o x=>Heap.get?_push_of_some _ (Heap.get?_push_of_some _ x)⟩
end
theorem stop_enumT {prog:Program} {w:World} {A:Around} {E:Value->Shared->Prop} {s:Shared} (hh:A.in1.handled=none) {e it t:Addr} {k:Int} {i:Nat} {items:Array Value} {old:Value} {Q:Option Value->Shared->Prop} (he:IsEnum s.heap e it k old) (hit:s.heap.IsTupleIter it t i) (ht:s.heap.IsTuple t items) (hx:items[i]? = none)
  (q:∀ h',Heap.ExtBut it s.heap h'->Q none { s with heap:=h' }):wpAny (model prog w) A (pyNext (.ref e)) Q E s:=by
 have ty:s.TypeIs (.ref e) "enumerate" := ⟨_,he,rfl⟩
 unfold pyNext
 refine wpAny_bind (wpAny_attempt (wpAny_callSpecial?_slot (name:=Str.ofString "__next__") ty F.slot_enumerate_next (wpAny_call_entry F.slot_enumerate_next ty F.entry_enumerate_next (show wpAny _ _ (field (.ref e) 2 >>= _) _ _ _ from wpAny_bind (wpAny_field he rfl (x:=.ref it) rfl (wpAny_bind (nextOf_tup_end hh hit ht hx fun h' x a b => ?_)))) (F.args_enumerate_next_1 _))))
 obtain ⟨o,ho,hc⟩ := b
 exact wpAny_bind (wpAny_isInstance (T := "StopIteration") (b:=true) ⟨o,ho,hc⟩ isSubtype_stop (wpAny_pure (q _ a)))
noncomputable def IteT (K:PySem.W.Frag) (a:Addr):It :=
 ⟨fun i H=>∃ xs x,SqT K H a xs/\xs[i]? = some x,fun i H y H'=>∃ t x,y = .ref t/\H t=none/\H'=upd H t (.tup [.int (i:Nat),x])/\∀ xs,SqT K H a xs->xs[i]? = some x,fun i H=>∃ xs,SqT K H a xs/\xs.length<=i⟩
theorem turn_enumT {P:Program} {w:World} {K:PySem.W.Frag} {elts:List Expr} {x1:Nat} {pos:Pos} (a e it:Addr) (hne:e≠it) :
  Turn P w K (.Tuple elts x1 pos) (IteT K a) [e,it] e (fun i h=>(∃ old,IsEnum h e it (i:Nat) old)/\h.IsTupleIter it a i) where
 mem:=by simp
 obj:=fun i h st b hb=>by
  obtain ⟨⟨old,he⟩,o,e1,c,d⟩ := st
  rcases List.mem_cons.mp hb with z | z
  ·subst z; exact ⟨_,he,fun v z=>by cases z⟩
  ·rw [List.mem_singleton.mp z]; exact ⟨o,e1,fun v z=>by rw [d] at z; cases z⟩
 keep:=fun i h h' st k=>⟨⟨_,k e (by simp) _ st.1.choose_spec⟩,(by obtain ⟨o9,g9,r9⟩ := st.2; exact ⟨o9,k it (by simp) o9 g9,r9⟩)⟩
 item:=by
  intro X hP hw hK hc i pins s σ H E I hf st hg
  subst hP hw hK
  obtain ⟨xs,x,hq,hx⟩ := hg
  obtain ⟨its,rv,p,hz⟩ := I.tuple hq
  obtain ⟨u,hu,ru⟩ := rv.get hx
  obtain ⟨⟨old,he⟩,hit⟩ := st
  have fe:=hf e (by simp)
  have fi:=hf it (by simp)
  have lt:i<its.toArray.size:=by
   have:=(List.getElem?_eq_some_iff.mp hu).1
   simpa using this
  have na:a≠it:=fun z=>by
   obtain ⟨o1,g1,c1,_⟩ := hit
   obtain ⟨o2,g2,c2,_⟩ := p
   rw [z,g1] at g2
   cases g2
   rw [c1] at c2
   injection c2 with c2
   exact absurd c2 (by decide)
  have ne':e≠a:=fun z=>by
   obtain ⟨o2,g2,c2,_⟩ := p
   rw [<- z] at g2
   have g3:=he.symm.trans g2
   injection g3 with g3
   rw [<- g3] at c2
   injection c2 with c2
   exact absurd c2 (by decide)
  refine wpAny_pyNext_enum_itemD (draws_tup (show X.A.in1.handled=none from I.ok.hd hc) it a na its.toArray) he ⟨hit,p⟩ lt hne (by simp [hne,ne']) fun x' h' tk px out st' htup hsz hk => ?_
  have hit':=st'.1
  have ex:x'=u:=by
   rw [show its.toArray[i]? = some u by simpa using hu] at px
   injection px with px
   exact px.symm
  subst ex
  have elt:e<s.heap.objs.size:=Heap.lt_size he
  have ilt:it<s.heap.objs.size:=by
   obtain ⟨o,ho,_⟩ := hit
   exact Heap.lt_size ho
  refine ⟨.ref s.heap.objs.size,rfl,wpAny_letOwnedTupleGo_enum out fun h'' he'' hs'' => ?_⟩
  have fresh:=I.hok.fresh (Nat.le_refl s.heap.objs.size)
  have I1:=I.laid (a:=s.heap.objs.size) (o:=.tup [.int (i:Nat),x]) (h':=s.heap.push { cls:=.type "tuple",data:=.seq #[.int (i:Nat) tk,x'] }) (t':=s.toks) (fun b o q=>Heap.get?_push_of_some _ q) (Nat.le_refl _)
   ⟨sm2,[.int (i:Nat) tk,x'],.cons ⟨_,rfl⟩ (.cons ru .nil),IsTup.new _ _⟩
  have fe':FpOk X pins (upd H s.heap.objs.size (.tup [.int (i:Nat),x])) e:=⟨by rw [zK (Nat.ne_of_lt elt)]; exact fe.1,fe.2⟩
  have fi':FpOk X pins (upd H s.heap.objs.size (.tup [.int (i:Nat),x])) it:=⟨by rw [zK (Nat.ne_of_lt ilt)]; exact fi.1,fi.2⟩
  have I2:=I1.turned2 (h':=h'') (t':=tk+1) (fun b o hbe hbi q => ?_) fe' fi'
  ·refine ⟨.ref s.heap.objs.size,_,I2,rfl,⟨s.heap.objs.size,x,rfl,fresh,rfl,fun ys hy=>by rw [I.tuple_inj hy hq]; exact hx⟩,⟨⟨_,he''⟩,(by obtain ⟨o9,g9,r9⟩ := hit'; exact ⟨o9,(hs''.2 it (Ne.symm hne)).trans g9,r9⟩)⟩,fun b hb => ?_⟩
   rcases List.mem_cons.mp hb with z | z
   ·rw [z]; exact fe'.1
   ·rw [List.mem_singleton.mp z]; exact fi'.1
  ·rw [hs''.2 b hbe]
   by_cases hb:b=s.heap.objs.size
   ·subst hb
    rw [htup]
    rw [<- q]
    exact (Heap.get?_push_size _ rfl).symm
   ·refine hk b o hbe hbi ?_
    rcases Heap.get?_push_cases q with ⟨z,_⟩ | z
    ·exact absurd z hb
    ·exact z
 done:=by
  intro X hP hw hK hc i pins s σ H E I hf st hg
  subst hP hw hK
  obtain ⟨xs,hq,hx⟩ := hg
  obtain ⟨its,rv,p,hz⟩ := I.tuple hq
  obtain ⟨⟨old,he⟩,hit⟩ := st
  have hl:=rv.length
  obtain ⟨f0,f1,f2,f3,f4,f5⟩ := hf it (by simp)
  exact stop_enumT (show X.A.in1.handled=none from I.ok.hd hc) he hit p (by simp; (first|lia|omega)) fun h' eb=>⟨rfl,I.turned (t':=s.toks) (fun b o hb q=>eb b o hb q) f0 f1 f3 f4 f5⟩
 self:=fun _ _ _ _ _ st h=>by
  obtain ⟨⟨old,he⟩,_⟩ := st
  exact wpAny_pyIter_enum he h
inductive iEnumTR (K:PySem.W.Frag) (vs:List V) (H1:Hp) (R:It->Hp->Prop):Prop
 | mk (a xs : _) (h0:vs=[.ref a]) (h1:SqT K H1 a xs) (h2:R (IteT K a) H1):iEnumTR K vs H1 R
noncomputable def iEnumT (K:PySem.W.Frag) (ta:TA):TI:=fun σ H R=>ta σ H fun vs H1=>iEnumTR K vs H1 R
theorem pi_enumT {X:Cx} {elts:List Expr} {x1:Nat} {tpos:Pos} {l:Expr} {ta:TA} {p pos:Pos} (hg:Gl X "enumerate") (hm:X.mg "enumerate" = none) (ha:PA X [l] ta) (hs:starEach [l] X.env=[(false,eval l X.env)]:=by rfl):PI X (.Tuple elts x1 tpos) (.Call (.Name "enumerate" p) [l] [] pos) (iEnumT X.K ta):=by
 refine ⟨?_⟩
 intro pins s σ H R I h
 refine Call_ (ld_blt I hg hm bt_enumerate (PyProof.Rows.callWith_type1 (thn (ha pos pins s σ H _ I h) fun us s1 ⟨vs,H1,I1,r1,q1⟩ => ?_) hs rfl))
 obtain ⟨a,xs,e,hq,q⟩ := q1
 subst e
 obtain ⟨u,rfl,ru⟩ := vals1 r1
 cases ru
 obtain ⟨its,rv,pl,hz⟩ := I1.tuple hq
 refine call_enumT pl fun h' he hit hsz hk => ?_
 refine wpAny_pyIter_enum (s:={ s1 with heap:=h' }) he ?_
 have I2:Inv X pins σ H1 { s1 with heap:=h' }:=I1.kept (t':=s1.toks) hk
 refine ⟨_,[s1.heap.objs.size+1,s1.heap.objs.size],_,_,H1,rfl,I2,turn_enumT a (s1.heap.objs.size+1) s1.heap.objs.size (Nat.succ_ne_self _),⟨⟨_,he⟩,hit⟩,fun b hb => ?_,q⟩
 rcases List.mem_cons.mp hb with z | z
 ·rw [z]; exact I1.fpOk (Nat.le_succ _) (I1.hok.fresh (Nat.le_succ _))
 ·rw [List.mem_singleton.mp z]; exact I1.fpOk (Nat.le_refl _) (I1.hok.fresh (Nat.le_refl _))
theorem for_enumT {K:PySem.W.Frag} {a:Addr} {xs:List V} {g:TG} {tb:TS} {D:Ends} {σ:St} {H:Hp} (Pv:Nat->St->Hp->Prop) (h0:Pv 0 σ H) (hl:∀ i σ H,i<=xs.length->Pv i σ H->SqT K H a xs)
  (hs:∀ i x σ H t,xs[i]? = some x->Pv i σ H->H t=none->g (.ref t) σ (upd H t (.tup [.int (i:Nat),x])) fun σ2 H2=>tb { D with nx:=Pv (i+1),ct:=Pv (i+1),bk:=D.nx } σ2 H2) (hd:∀ σ H,Pv xs.length σ H->D.nx σ H) :
  ∃ W:Nat->Nat->St->Hp->Prop,(∃ m,W 0 m σ H)/\∀ i m σ H,W i m σ H ->
   ((IteT K a).stop i H/\D.nx σ H)\/((IteT K a).go i H/\∃ N:St->Hp->Prop,(∀ σ' H',N σ' H'->∃ m',m'<m/\W (i+1) m' σ' H')/\∀ x H',(IteT K a).yld i H x H'->g x σ H' fun σ2 H2=>tb { D with nx:=N,ct:=N,bk:=D.nx } σ2 H2):=by
 refine ⟨fun i m σ H=>m=xs.length - i/\i<=xs.length/\Pv i σ H,⟨xs.length,by simp,Nat.zero_le _,h0⟩,?_⟩
 rintro i m σ H ⟨rfl,hi,p⟩
 have q:=hl i σ H hi p
 by_cases hlt:i<xs.length
 ·refine .inr ⟨⟨xs,xs[i],q,List.getElem?_eq_getElem hlt⟩,Pv (i+1),fun σ' H' p'=>⟨xs.length - (i+1),by (first|lia|omega),rfl,hlt,p'⟩,fun y H' yd => ?_⟩
  obtain ⟨t,x,rfl,ht,rfl,hx⟩ := yd
  exact hs i x σ H t (hx xs q) p ht
 ·have e:i=xs.length:=by (first|lia|omega)
  subst e
  exact .inl ⟨⟨xs,q,Nat.le_refl _⟩,hd σ H p⟩
end L2

namespace L2
open PySem
noncomputable def Tr3 (H:Hp):Nat->V->Tr->Prop
 | 0,_,_=>False
 | d+1,v,.mk k own ps=>∃ t o q vs,v = .ref t/\H t=some (.tup [.int k,.ref o,.ref q])/\H o=some (.tup (own.map V.int))/\H q=some (.tup vs)/\Paired (Tr3 H d) vs ps
theorem Tr3.tups {H H':Hp} (h:Tups H H'):∀ {d:Nat} {v:V} {n:Tr},Tr3 H d v n->Tr3 H' d v n
 | 0,_,_,z=>z.elim
 | d+1,v,.mk k own ps,⟨t,o,q,vs,e,h1,h2,h3,r⟩=>⟨t,o,q,vs,e,h _ _ h1,h _ _ h2,h _ _ h3,Paired.imp (fun _ _ z=>Tr3.tups h z) r⟩
theorem Tr3.same {H H':Hp} (h:Same H H') {d:Nat} {v:V} {n:Tr} (t:Tr3 H d v n):Tr3 H' d v n:=t.tups fun b xs e=>h _ _ e
theorem Tr3.more {H:Hp}:∀ {d:Nat} {v:V} {n:Tr},Tr3 H d v n->Tr3 H (d+1) v n
 | 0,_,_,z=>z.elim
 | d+1,v,.mk k own ps,⟨t,o,q,vs,e,h1,h2,h3,r⟩=>⟨t,o,q,vs,e,h1,h2,h3,Paired.imp (fun _ _ z=>Tr3.more z) r⟩
noncomputable def F3At (H:Hp) (d:Nat) (v:V) (f:Fn):Prop:=∃ t b,v = .ref t/\H t=some (.tup [.int f.1.1,.int f.1.2,b])/\Tr3 H d b f.2
theorem F3At.same {H H':Hp} (h:Same H H') {d:Nat} {v:V} {n:Fn}:F3At H d v n->F3At H' d v n:=fun ⟨t,b,e,q,z⟩=>⟨t,b,e,h _ _ q,z.same h⟩
inductive spNumbers (d:Nat) (vs:List V) (H:Hp) (Q:VK) (E:XK):Prop
 | mk (v:V) (t:Tr) (h0:vs=[v]) (h1:Tr3 H d v t) (h2:(nums t).length<=100000) (h3:∀ l H',Same H H'->H l=none->H' l=some (.lst ((nums t).map V.int))->Q (.ref l) H'):spNumbers d vs H Q E
inductive spSheetL (d:Nat) (vs:List V) (H:Hp) (Q:VK) (E:XK):Prop
 | mk (l:Addr) (rs:List V) (fs:List Fn) (h0:vs=[.ref l]) (h1:H l=some (.lst rs)) (h2:Paired (F3At H d) rs fs) (h3:(wr fs).length<=100000) (h4:∀ l' H',Same H H'->H l'=none->H' l'=some (.lst ((wr fs).map V.int))->Q (.ref l') H'):spSheetL d vs H Q E
end L2

namespace L2
open PySem
noncomputable def Draw4 (K:PySem.W.Frag) (H:Hp) (st:Addr) (w:Int):Prop:=∃ a ns k c,H st=some (.lst [.ref a,.int k,.int c,.int w])/\Scr K H a ns/\ns.length<=63/\0<=k/\0<=c
structure Drawn4 (K:PySem.W.Frag) (st:Addr) (w:Int) (H H':Hp):Prop where
 draw:Draw4 K H' st w
 keep:Keep st H H'
section
variable {K:PySem.W.Frag} {st b p:Addr} {w w':Int} {H H1 H':Hp}
theorem Drawn4.trans (a:Drawn4 K st w H H1) (b:Drawn4 K st w' H1 H'):Drawn4 K st w' H H':=⟨b.draw,a.keep.trans b.keep⟩
theorem Draw4.refl (d:Draw4 K H st w):Drawn4 K st w H H:=⟨d,Keep.refl st H⟩
theorem Draw4.is (d:Draw4 K H st w):∃ xs,H st=some (.lst xs):=by
 obtain ⟨a,ns,k,c,e,_⟩ := d
 exact ⟨_,e⟩
theorem Draw4.ne (d:Draw4 K H st w) (h:H b=none):st≠b:=by
 obtain ⟨xs,e⟩ := d.is
 exact zO e h
theorem Draw4.same (d:Draw4 K H st w) (h:Same H H'):Draw4 K H' st w:=by
 obtain ⟨a,ns,k,c,e,s,r⟩ := d
 exact ⟨a,ns,k,c,h _ _ e,s.keep e (Keep.same h),r⟩
theorem Draw4.more (d:Draw4 K H st w) (g:Same H H'):Drawn4 K st w H H':=⟨d.same g,Keep.same g⟩
theorem Draw4.new (d:Draw4 K H st w) (h:H p=none) (o:HO):Drawn4 K st w H (upd H p o):=d.more (zE h o)
theorem Draw4.put {xs ys:List V} (d:Draw4 K H st w) (hp:H p=some (.lst xs)) (n:p≠st):Draw4 K (upd H p (.lst ys)) st w:=by
 obtain ⟨a,ns,k,c,e,s,r⟩ := d
 refine ⟨a,ns,k,c,(by rw [zK (Ne.symm n)]; exact e),?_,r⟩
 rcases s with ⟨o,s⟩ | s
 ·exact .inl ⟨o,by rw [zK (fun z=>by rw [z,hp] at s; cases s)]; exact s⟩
 ·exact .inr s
theorem Drawn4.tups (d:Draw4 K H st w) (h:Drawn4 K st w' H H'):Tups H H':=by
 obtain ⟨xs,e⟩ := d.is
 exact fun b vs z=>h.keep b _ (fun y=>by rw [y,e] at z; cases z) z
end
inductive spCellW (K:PySem.W.Frag) (vs:List V) (H:Hp) (Q:VK) (E:XK):Prop
 | mk (a:Addr) (ns:List Int) (k:Int) (h0:vs=[.ref a,.int k]) (h1:Scr K H a ns) (h2 : 0<=k) (h3:∀ r:Int,Q (.int r) H):spCellW K vs H Q E
inductive spTakeW (K:PySem.W.Frag) (vs:List V) (H:Hp) (Q:VK) (E:XK):Prop
 | mk (st:Addr) (many w:Int) (h0:vs=[.ref st,.int many]) (h1 : 0<many) (h2:many<1073741824) (h3:Draw4 K H st w) (h4:∀ (r:Int) (H':Hp),0<=r->r<many->Drawn4 K st w H H'->Q (.int r) H'):spTakeW K vs H Q E
inductive spIntW (K:PySem.W.Frag) (B:Int->Prop) (vs:List V) (H:Hp) (Q:VK) (E:XK):Prop
 | mk (st:Addr) (w:Int) (h0:vs=[.ref st]) (h1:Draw4 K H st w) (h2:∀ (r:Int) (H':Hp),B r->Drawn4 K st w H H'->Q (.int r) H'):spIntW K B vs H Q E
end L2

namespace L2
open PySem PySem.Spec PyProof.Rows
section
variable {X:Cx}
theorem int_items:∀ {ns:List Int} {us:List Value},Vals (ns.map V.int) us->∃ xs:List (Int × Tok),us=xs.map (fun p => .int p.1 p.2)/\xs.map (·.1)=ns
 | [],_,.nil=>⟨[],rfl,rfl⟩
 | n :: ns,u :: us,.cons h t=>by
  obtain ⟨xs,e1,e2⟩ := int_items t
  obtain ⟨k,rfl⟩ := (show ∃ k,u=Value.int n k from h)
  exact ⟨(n,k) :: xs,by rw [e1]; rfl,by rw [<- e2]; rfl⟩
inductive rSumI (xs:List V) (H:Hp) (Q:VK):Prop
 | mk (l:Addr) (ns:List Int) (h0:xs=[.ref l]) (h1:H l=some (.lst (ns.map V.int))) (h2:Q (.int ns.sum) H):rSumI xs H Q
theorem call_sumI (hc:X.calm=true):CallR X (.builtin "sum") rSumI:=by
 intro pins s σ H xs us Q I r h
 obtain ⟨l,ns,rfl,hl,q⟩ := h
 obtain ⟨u,rfl,ru⟩ := vals1 r
 cases ru
 obtain ⟨zl,its,n,rv,hli,he⟩ := I.lstM hl
 obtain ⟨xs,rfl,e2⟩ := int_items rv
 have il:s.heap.IsList l (intItems xs.toArray):=⟨_,he,rfl,n,by unfold intItems; simp⟩
 refine sum_intListG (I.ok.hd hc) il fun h' tk t' hk => ?_
 refine ⟨.int ns.sum,H,I.kept hk,⟨t',?_⟩,q⟩
 rw [preSum_eq,List.take_of_length_le (by simp)]
 rw [<- e2]
end
end L2

namespace L2
open PySem
theorem nxf {t:TS} {nx bk ct:St->Hp->Prop} {rt:VK} {σ:St} {H:Hp} (h:∀ N B C,t ⟨N,rt,B,C⟩ σ H):t ⟨nx,rt,bk,ct⟩ σ H:=h _ _ _
theorem nxg {t:TS} {nx bk ct:St->Hp->Prop} {rt:VK} {σ:St} {H:Hp} (h:∀ N B C,(∀ σ H,nx σ H->N σ H)->t ⟨N,rt,B,C⟩ σ H):t ⟨nx,rt,bk,ct⟩ σ H:=h _ _ _ fun _ _ z=>z
end L2

namespace L2
open PySem PySem.W PySem.W.X
theorem walkX_of {q:Program} {loose:List Str} {XP:(Str->Option Value)->Heap->Prop} {as:List Addr} {K:Params->Frag} {n t:Nat} {r:RowW} {d:DefRec} {kwd:List (Str × Expr)} {run:Value->List Value->Sem Value} (e:∀ P,as=(K P).map (·.1))
  (h:WalkO q loose XP (fun w h=>(K w.params).In h) r d kwd run):WalkX q loose XP (obsZ as) (valZ K n t) r d kwd run:=by
 intro w s₀ s₁ mg mb G y a o pm cd doc dV kV h1 h2 h3 h4 h5 h6 args vals as' L h7 h8 h9 h10 h11
 have Y:(K w.params).In s₁.heap:=InK.keeps (K:=K) w s₀.heap s₁.heap (z_facts e y).2.1 L.keeps
 exact h w s₀ s₁ mg mb G Y a o pm cd doc dV kV h1 h2 h3 h4 h5 h6 args vals as' h7 h8 h9 h10 h11
end L2


















namespace OcL
open PySem L2
noncomputable def top (i:Nat):Stmt:=PySem.Challenge.pw_ownchain_k31_codes_and_papers_made.main.body.getD i (.Pass ⟨0,0,0,0⟩)
noncomputable abbrev jI:Stmt:=inClass (top 2) 0
theorem sc_NoSheet___init__:FnScope ["self", "place", "word"] ["self", "place", "word"] (defScope jI):=⟨rfl,rfl,rfl,by decide +kernel,rfl,by decide +kernel,by decide +kernel⟩
noncomputable abbrev s_parts_of:Stmt:=top 16
theorem sc_parts_of:FnScope ["kind"] ["kind"] (defScope s_parts_of):=⟨rfl,rfl,rfl,by decide +kernel,rfl,by decide +kernel,by decide +kernel⟩
noncomputable abbrev wL:Stmt:=top 25
theorem sc_is_whole:FnScope ["thing"] ["thing"] (defScope wL):=⟨rfl,rfl,rfl,by decide +kernel,rfl,by decide +kernel,by decide +kernel⟩
noncomputable abbrev kK:Stmt:=inClass (top 26) 0
theorem sc_Look___init__:FnScope ["self", "numbers"] ["self", "numbers"] (defScope kK):=⟨rfl,rfl,rfl,by decide +kernel,rfl,by decide +kernel,by decide +kernel⟩
noncomputable abbrev s_Look_take:Stmt:=inClass (top 26) 1
theorem sc_Look_take:FnScope ["self", "number"] ["self"] (defScope s_Look_take):=⟨rfl,rfl,rfl,by decide +kernel,rfl,by decide +kernel,by decide +kernel⟩
noncomputable abbrev jJ:Stmt:=inClass (top 26) 2
theorem jE:FnScope ["self", "least", "most", "place", "number"] ["self", "least", "most"] (defScope jJ):=⟨rfl,rfl,rfl,by decide +kernel,rfl,by decide +kernel,by decide +kernel⟩
noncomputable abbrev wI:Stmt:=top 27
theorem xU:FnScope ["look", "heads", "most_params", "function", "params"] ["look"] (defScope wI):=⟨rfl,rfl,rfl,by decide +kernel,rfl,by decide +kernel,by decide +kernel⟩
noncomputable abbrev s_take_own:Stmt:=top 28
theorem sc_take_own:FnScope ["look", "kind", "heads", "boxes"] ["look", "kind", "heads", "boxes"] (defScope s_take_own):=⟨rfl,rfl,rfl,by decide +kernel,rfl,by decide +kernel,by decide +kernel⟩
noncomputable abbrev s_parts_due:Stmt:=top 29
theorem sc_parts_due:FnScope ["kind", "numbers", "heads"] ["kind", "numbers", "heads"] (defScope s_parts_due):=⟨rfl,rfl,rfl,by decide +kernel,rfl,by decide +kernel,by decide +kernel⟩
noncomputable abbrev qH:Stmt:=top 30
theorem xZ:FnScope ["look", "heads", "boxes", "deep", "place", "kind", "numbers", "parts", "part"] ["look", "heads", "boxes", "deep"] (defScope qH):=⟨rfl,rfl,rfl,by decide +kernel,rfl,by decide +kernel,by decide +kernel⟩
noncomputable abbrev s_functions:Stmt:=top 31
theorem jA:FnScope ["sheet", "look", "heads", "told", "params", "boxes"] ["sheet"] (defScope s_functions):=⟨rfl,rfl,rfl,by decide +kernel,rfl,by decide +kernel,by decide +kernel⟩
noncomputable abbrev s_is_head:Stmt:=top 47
theorem kX:FnScope ["head", "function", "many_rows", "start", "params", "boxes", "most_params"] ["head", "function", "many_rows"] (defScope s_is_head):=⟨rfl,rfl,rfl,by decide +kernel,rfl,by decide +kernel,by decide +kernel⟩
noncomputable abbrev kZ:Stmt:=top 48
theorem sc_stands_alone:FnScope ["op"] ["op"] (defScope kZ):=⟨rfl,rfl,rfl,by decide +kernel,rfl,by decide +kernel,by decide +kernel⟩
noncomputable abbrev s_is_row:Stmt:=top 49
theorem sc_is_row:FnScope ["row", "many_functions", "many_rows", "op", "number"] ["row", "many_functions", "many_rows"] (defScope s_is_row):=⟨rfl,rfl,rfl,by decide +kernel,rfl,by decide +kernel,by decide +kernel⟩
noncomputable abbrev s_grouped:Stmt:=top 50
theorem sc_grouped:FnScope ["numbers", "size"] ["numbers", "size"] (defScope s_grouped):=⟨rfl,rfl,rfl,by decide +kernel,rfl,by decide +kernel,by decide +kernel⟩
noncomputable abbrev s_heads_in:Stmt:=top 51
theorem sc_heads_in:FnScope ["numbers"] ["numbers"] (defScope s_heads_in):=⟨rfl,rfl,rfl,by decide +kernel,rfl,by decide +kernel,by decide +kernel⟩
noncomputable abbrev s_rows_in:Stmt:=top 52
theorem sc_rows_in:FnScope ["numbers"] ["numbers"] (defScope s_rows_in):=⟨rfl,rfl,rfl,by decide +kernel,rfl,by decide +kernel,by decide +kernel⟩
noncomputable abbrev xK:Stmt:=top 53
theorem sc_is_list_of_wholes:FnScope ["thing"] ["thing"] (defScope xK):=⟨rfl,rfl,rfl,by decide +kernel,rfl,by decide +kernel,by decide +kernel⟩
noncomputable abbrev s_is_code:Stmt:=top 54
theorem kY:FnScope ["thing", "many_numbers", "many_rows", "function", "head"] ["thing"] (defScope s_is_code):=⟨rfl,rfl,rfl,by decide +kernel,rfl,by decide +kernel,by decide +kernel⟩
noncomputable abbrev s_joined:Stmt:=top 55
theorem sc_joined:FnScope ["things", "size", "numbers", "thing"] ["things", "size"] (defScope s_joined):=⟨rfl,rfl,rfl,by decide +kernel,rfl,by decide +kernel,by decide +kernel⟩
noncomputable abbrev s_code_of:Stmt:=top 56
theorem sc_code_of:FnScope ["heads", "rows", "numbers", "code"] ["heads", "rows"] (defScope s_code_of):=⟨rfl,rfl,rfl,by decide +kernel,rfl,by decide +kernel,by decide +kernel⟩
noncomputable abbrev jR:Stmt:=inClass (top 58) 0
theorem sc_Making___init__:FnScope ["self"] ["self"] (defScope jR):=⟨rfl,rfl,rfl,by decide +kernel,rfl,by decide +kernel,by decide +kernel⟩
noncomputable abbrev wJ:Stmt:=top 59
theorem sc_make_all:FnScope ["making", "parts", "part"] ["making", "parts"] (defScope wJ):=⟨rfl,rfl,rfl,by decide +kernel,rfl,by decide +kernel,by decide +kernel⟩
noncomputable abbrev qI:Stmt:=top 60
theorem xQ:FnScope ["making", "parts", "many", "first_jump", "last_jump", "jump", "number", "part"] ["making", "parts"] (defScope qI):=⟨rfl,rfl,rfl,by decide +kernel,rfl,by decide +kernel,by decide +kernel⟩
noncomputable abbrev qK:Stmt:=top 61
theorem wH:FnScope ["making", "parts", "around", "unless"] ["making", "parts"] (defScope qK):=⟨rfl,rfl,rfl,by decide +kernel,rfl,by decide +kernel,by decide +kernel⟩
noncomputable abbrev s_own_row:Stmt:=top 62
theorem sc_own_row:FnScope ["kind", "numbers"] ["kind", "numbers"] (defScope s_own_row):=⟨rfl,rfl,rfl,by decide +kernel,rfl,by decide +kernel,by decide +kernel⟩
noncomputable abbrev qJ:Stmt:=top 63
theorem xR:FnScope ["making", "node", "kind", "place", "numbers", "parts", "begin", "part"] ["making", "node"] (defScope qJ):=⟨rfl,rfl,rfl,by decide +kernel,rfl,by decide +kernel,by decide +kernel⟩
noncomputable abbrev s_making_of:Stmt:=top 64
theorem jN:FnScope ["program", "making", "params", "boxes", "body"] ["program"] (defScope s_making_of):=⟨rfl,rfl,rfl,by decide +kernel,rfl,by decide +kernel,by decide +kernel⟩
noncomputable abbrev s_made:Stmt:=top 65
theorem sc_made:FnScope ["sheet", "making"] ["sheet"] (defScope s_made):=⟨rfl,rfl,rfl,by decide +kernel,rfl,by decide +kernel,by decide +kernel⟩
noncomputable abbrev wK:Stmt:=top 66
theorem sc_made_paper:FnScope ["sheet"] ["sheet"] (defScope wK):=⟨rfl,rfl,rfl,by decide +kernel,rfl,by decide +kernel,by decide +kernel⟩
noncomputable abbrev s__law_cell:Stmt:=top 68
theorem sc__law_cell:FnScope ["_law_script", "_law_k"] ["_law_script", "_law_k"] (defScope s__law_cell):=⟨rfl,rfl,rfl,by decide +kernel,rfl,by decide +kernel,by decide +kernel⟩
noncomputable abbrev s__law_take:Stmt:=top 69
theorem xH:FnScope ["_law_state", "_law_most", "_law_script", "_law_at", "_law_left", "_law_cell_here", "_law_number_here"] ["_law_state", "_law_most"] (defScope s__law_take):=⟨rfl,rfl,rfl,by decide +kernel,rfl,by decide +kernel,by decide +kernel⟩
noncomputable abbrev qU:Stmt:=top 70
theorem sc__law_number:FnScope ["_law_state", "_law_way"] ["_law_state"] (defScope qU):=⟨rfl,rfl,rfl,by decide +kernel,rfl,by decide +kernel,by decide +kernel⟩
noncomputable abbrev kF:Stmt:=top 71
theorem yJ:FnScope ["_law_state", "_law_heads", "_law_boxes", "_law_deep", "_law_kind", "_law_numbers", "_law_many"] ["_law_state", "_law_heads", "_law_boxes", "_law_deep"] (defScope kF):=⟨rfl,rfl,rfl,by decide +kernel,rfl,by decide +kernel,by decide +kernel⟩
noncomputable abbrev jX:Stmt:=top 72
theorem zZ:FnScope ["_law_script", "_law_state", "_law_heads", "_law_k", "_law_params", "_law_found", "_law_boxes", "_law_body"] ["_law_script"] (defScope jX):=⟨rfl,rfl,rfl,by decide +kernel,rfl,by decide +kernel,by decide +kernel⟩
noncomputable abbrev jQ:Stmt:=top 73
theorem jG:FnScope ["_law_node_here", "_law_found", "_law_part"] ["_law_node_here"] (defScope jQ):=⟨rfl,rfl,rfl,by decide +kernel,rfl,by decide +kernel,by decide +kernel⟩
noncomputable abbrev wM:Stmt:=top 74
theorem yQ:FnScope ["_law_told", "_law_found", "_law_params", "_law_boxes", "_law_body"] ["_law_told"] (defScope wM):=⟨rfl,rfl,rfl,by decide +kernel,rfl,by decide +kernel,by decide +kernel⟩
noncomputable abbrev kN:Stmt:=top 75
theorem sc__law_moved:FnScope ["_law_rows_here", "_law_by"] ["_law_rows_here", "_law_by"] (defScope kN):=⟨rfl,rfl,rfl,by decide +kernel,rfl,by decide +kernel,by decide +kernel⟩
noncomputable abbrev qV:Stmt:=top 76
theorem jP:FnScope ["_law_pieces", "_law_found", "_law_piece"] ["_law_pieces"] (defScope qV):=⟨rfl,rfl,rfl,by decide +kernel,rfl,by decide +kernel,by decide +kernel⟩
noncomputable abbrev jK:Stmt:=top 77
theorem zV:FnScope ["_law_node_here", "_law_kind", "_law_numbers", "_law_parts", "_law_done", "_law_some", "_law_piece", "_law_begin", "_law_starts", "_law_found", "_law_out", "_law_k", "_law_behind", "_law_last"] ["_law_node_here"] (defScope jK):=⟨rfl,rfl,rfl,by decide +kernel,rfl,by decide +kernel,by decide +kernel⟩
noncomputable abbrev qL:Stmt:=top 78
theorem yS:FnScope ["_law_told", "_law_pieces", "_law_found", "_law_start", "_law_k", "_law_one", "_law_op", "_law_number_here"] ["_law_told"] (defScope qL):=⟨rfl,rfl,rfl,by decide +kernel,rfl,by decide +kernel,by decide +kernel⟩
noncomputable abbrev kE:Stmt:=top 79
theorem jO:FnScope ["_law_node_here", "_law_kind", "_law_numbers", "_law_parts", "_law_many"] ["_law_node_here"] (defScope kE):=⟨rfl,rfl,rfl,by decide +kernel,rfl,by decide +kernel,by decide +kernel⟩
noncomputable abbrev kO:Stmt:=top 80
theorem yH:FnScope ["_law_node_here", "_law_place", "_law_begin", "_law_kind", "_law_numbers", "_law_parts", "_law_found", "_law_k", "_law_part"] ["_law_node_here", "_law_place", "_law_begin"] (defScope kO):=⟨rfl,rfl,rfl,by decide +kernel,rfl,by decide +kernel,by decide +kernel⟩
noncomputable abbrev wN:Stmt:=top 81
theorem yR:FnScope ["_law_told", "_law_found", "_law_place", "_law_begin", "_law_params", "_law_boxes", "_law_body"] ["_law_told"] (defScope wN):=⟨rfl,rfl,rfl,by decide +kernel,rfl,by decide +kernel,by decide +kernel⟩
noncomputable abbrev kC:Stmt:=top 82
theorem sc__law_wholes:FnScope ["_law_some"] ["_law_some"] (defScope kC):=⟨rfl,rfl,rfl,by decide +kernel,rfl,by decide +kernel,by decide +kernel⟩
noncomputable abbrev s_law:Stmt:=top 83
theorem qT:FnScope ["_law_script", "_law_told", "_law_sheet_here", "_law_handed", "_law_code_here", "_law_lines_here", "_law_turn", "_law_found", "_law_paper_here", "_law_line"] ["_law_script"] (defScope s_law):=⟨rfl,rfl,rfl,by decide +kernel,rfl,by decide +kernel,by decide +kernel⟩
structure Txt (K:PySem.W.Frag) (mg:Str->Option Value):Prop where
 n_len:mg "len" = none
 n_range:mg "range" = none
 n_all:mg "all" = none
 n_max:mg "max" = none
 n_enumerate:mg "enumerate" = none
 n_isinstance:mg "isinstance" = none
 n_int:mg "int" = none
 n_bool:mg "bool" = none
 n_tuple:mg "tuple" = none
 n_list:mg "list" = none
 m_ADD:GInt mg "ADD" 8
 m_NEW:GInt mg "NEW" 19
 m_MOST_FUNCTIONS:GInt mg "MOST_FUNCTIONS" 16
 m_MOST_PARAMS:GInt mg "MOST_PARAMS" 4
 m_MOST_BOXES:GInt mg "MOST_BOXES" 12
 m_MOST_MANY:GInt mg "MOST_MANY" 12
 m_LEAST_PICK:GInt mg "LEAST_PICK" 2
 m_OP_PUSH:GInt mg "OP_PUSH" 0
 m_OP_GET:GInt mg "OP_GET" 1
 m_OP_SET:GInt mg "OP_SET" 2
 m_OP_DROP:GInt mg "OP_DROP" 3
 m_OP_JUMP:GInt mg "OP_JUMP" 4
 m_OP_UNLESS:GInt mg "OP_UNLESS" 5
 m_OP_CALL:GInt mg "OP_CALL" 6
 m_OP_BACK:GInt mg "OP_BACK" 7
 m_OP_FAIL:GInt mg "OP_FAIL" 8
 m_OP_BREATH:GInt mg "OP_BREATH" 9
 m_OP_DO:GInt mg "OP_DO" 10
 m_OP_PICK:GInt mg "OP_PICK" 11
 m_HEAD_SIZE:GInt mg "HEAD_SIZE" 3
 m_ROW_SIZE:GInt mg "ROW_SIZE" 2
 kint:PySem.W.kitOne K (.type "int") (.type "int")=some true
 kbool:PySem.W.kitOne K (.type "int") (.type "bool")=some false
 klist:PySem.W.kitOne K (.type "list") (.type "list")=some true
 kal:PySem.W.kitAny K (.type "list") [.type "list",.type "tuple"]=some true
 kat:PySem.W.kitAny K (.type "tuple") [.type "list",.type "tuple"]=some true
 ktup:PySem.W.kitOne K (.type "tuple") (.type "tuple")=some true
structure TxtN (K:PySem.W.Frag) (mg:Str->Option Value) (aP CL CN:Addr):Prop where
 n_len:mg "len" = none
 n_abs:mg "abs" = none
 n_range:mg "range" = none
 n_isinstance:mg "isinstance" = none
 n_int:mg "int" = none
 n_bool:mg "bool" = none
 n_list:mg "list" = none
 n_tuple:mg "tuple" = none
 m_NUMBER:GInt mg "NUMBER" 0
 m_GET:GInt mg "GET" 1
 m_SET:GInt mg "SET" 2
 m_ALL:GInt mg "ALL" 3
 m_PICK:GInt mg "PICK" 4
 m_LOOP:GInt mg "LOOP" 5
 m_CALL:GInt mg "CALL" 6
 m_FAIL:GInt mg "FAIL" 7
 m_NEW:GInt mg "NEW" 19
 m_MOST_FUNCTIONS:GInt mg "MOST_FUNCTIONS" 16
 m_MOST_PARAMS:GInt mg "MOST_PARAMS" 4
 m_MOST_BOXES:GInt mg "MOST_BOXES" 12
 m_MOST_DEEP:GInt mg "MOST_DEEP" 10
 m_MOST_MANY:GInt mg "MOST_MANY" 12
 m_LEAST_ALL:GInt mg "LEAST_ALL" 1
 m_LEAST_PICK:GInt mg "LEAST_PICK" 2
 m_PARTS:mg "PARTS" = some (.ref aP)
 m_NoSheet:mg "NoSheet" = some (.ref CN)
 parts:∀ H,SqT K H aP (partsN.map V.int)
 kint:PySem.W.kitOne K (.type "int") (.type "int")=some true
 kbool:PySem.W.kitOne K (.type "int") (.type "bool")=some false
 klist:PySem.W.kitOne K (.type "list") (.type "list")=some true
 ktup:PySem.W.kitOne K (.type "tuple") (.type "tuple")=some true
 look:Cls K CL
 lnum:NoAttr K CL "numbers"
 lplace:NoAttr K CL "place"
 exc:ExCls K CN
 xplace:NoAttr K CN "place"
 xword:NoAttr K CN "word"
 mch:Mch K CN CN

section
variable {P:Program} {w:World} {K:PySem.W.Frag} {mg:Str->Option Value} {base:Heap} {f:Addr} {fd:FuncData} {aP CL CN:Addr}
set_option maxHeartbeats 4000000

theorem ok_initX (T:TxtN K mg aP CL CN) (F:Fun K "__init__" "NoSheet.__init__" jI f fd):FnOk P w K mg base (CXE P w) 1 f fd ["self", "place", "word"] (spInitX CN):=by
 refine F.okN sc_NoSheet___init__ (fun vs H Q E h => ?_) (fun cdv A outer s H vs Q E hr h => ?_)
 ·obtain ⟨x,y,z,rfl,_⟩ := h
  rfl
 obtain ⟨x,y,z,rfl,hx,q⟩ := h
 refine ⟨_,(zD (ps_fldX (pv 0) (pv 1))
   (zG (ps_fldX (pv 0) (pv 2)))),?_⟩
 try dsimp only [Cx.nox,Cx.exc,Cx.wish,zX]
 refine ⟨_,rfl,_,rfl,x,CN,none,rfl,hx,T.exc,T.xplace,.inl ⟨rfl,fun d hd => ?_⟩⟩
 have nd:d≠x:=fun e=>by rw [e,hx] at hd; cases hd
 refine ⟨_,rfl,_,rfl,x,CN,some d,rfl,zB,T.exc,T.xword,.inr ⟨d,[("place",y)],rfl,by rw [zK nd]; exact zB,(show 1<1000 by decide),?_⟩⟩
 refine q d _ nd hd (fun b o nb e => ?_) ?_ zB
 ·rw [zK (zO e hd),zK nb,zK (zO e hd)]; exact e
 ·rw [zK (Ne.symm nd)]; exact zB
theorem ok_initL (T:TxtN K mg aP CL CN) (F:Fun K "__init__" "Look.__init__" kK f fd):FnOk P w K mg base (CXE P w) 1 f fd ["self", "numbers"] (spInitL CL):=by
 refine F.okN sc_Look___init__ (fun vs H Q E h => ?_) (fun cdv A outer s H vs Q E hr h => ?_)
 ·obtain ⟨x,dx,a,rfl,_⟩ := h
  rfl
 obtain ⟨x,dx,a,rfl,hx,q⟩ := h
 refine ⟨_,(zD (ps_fld (pv 0) (pv 1) rfl)
   (zG (ps_fld (pv 0) zF rfl))),?_⟩
 try dsimp only [Cx.nox,Cx.exc,Cx.wish,zX]
 refine ⟨_,rfl,_,rfl,x,CL,dx,_,rfl,hx,T.look,T.lnum,(show 0<1000 by decide),?_⟩
 refine ⟨_,rfl,x,CL,dx,_,rfl,zB,T.look,T.lplace,(show 1<1000 by decide),?_⟩
 refine q _ (fun b o nb e => ?_) zB
 rw [zK nb,zK nb]; exact e
theorem ok_whole (T:TxtN K mg aP CL CN) (F:Fun K "is_whole" "is_whole" wL f fd):FnOk P w K mg base (CXE P w) 1 f fd ["thing"] spWhole:=by
 refine F.okN sc_is_whole (fun vs H Q E h => ?_) (fun cdv A outer s H vs Q E hr h => ?_)
 ·obtain ⟨i,rfl,_⟩ := h
  rfl
 obtain ⟨i,rfl,q⟩ := h
 refine ⟨_,(zG (zS (pe_and (zR kJ rfl T.n_isinstance yM (zA (pv 0) (zA (xW (v:=.ty "int") rfl T.n_int bt_int rfl) zC))) (pe_one (pe_not (zR kJ rfl T.n_isinstance yM (zA (pv 0) (zA (xW (v:=.ty "bool") rfl T.n_bool bt_bool rfl) zC)))))))),?_⟩
 try dsimp only [Cx.nox,Cx.exc,Cx.wish,zX]
 refine ⟨_,rfl,.inl ⟨_,_,_,true,rfl,.int i,T.kint,_,rfl,iteT ?_⟩⟩
 exact ⟨_,rfl,.inl ⟨_,_,_,false,rfl,.int i,T.kbool,_,rfl,q⟩⟩
theorem ok_tk (T:TxtN K mg aP CL CN) (F:Fun K "take" "Look.take" s_Look_take f fd) (Cis_whole:Cal P w K mg base (CXE P w) 1 "is_whole" ["thing"] spWhole) (CNoSheet:CalX P w K mg base 1 "NoSheet" CN ["self", "place", "word"] (spInitX CN)) :
  FnOk P w K mg base (CXE P w) 3 f fd ["self"] (spTk CL CN):=by
 refine F.okX sc_Look_take (fun vs H Q E h => ?_) (fun cdv A outer s H vs Q E hr h => ?_)
 ·obtain ⟨lk,dx,a,p,ns,rfl,_⟩ := h
  rfl
 obtain ⟨lk,dx,a,p,ns,rfl,⟨hl,ha⟩,t1,t2⟩ := h
 refine ⟨_,(zD (zW (zN op_ge (yG (pv 0) rfl) (zR zM rfl T.n_len yI (zA (yG (pv 0) rfl) zC)) (nomark _)) (zG (qZ CNoSheet hr rfl (zA (yG (pv 0) rfl) (zA pe_str zC)))) zT)
   (zD (zJ (i:=1) sc_Look_take.nd rfl (Or.inl rfl) (yC yN (yG (pv 0) rfl) (yG (pv 0) rfl) (fun _ _=>rfl)))
   (zD (zW (qB (qA (zH Cis_whole hr rfl (zA (pv 1) zC) passX))) (zG (qZ CNoSheet hr rfl (zA (yG (pv 0) rfl) (zA pe_str zC)))) zT)
   (zD (ps_fldaug (pv 0) zF in_add)
   (zG (zS (pv 1))))))),?_⟩
 try dsimp only [Cx.nox,Cx.exc,Cx.wish,zX]
 refine ⟨_,rfl,lk,CL,dx,_,_,rfl,hl,T.look,T.lplace,rfl,_,rfl,lk,CL,dx,_,_,rfl,hl,T.look,T.lnum,rfl,a,_,rfl,.inl (.of ha),_,_,rfl,rfl,_,rfl,?_⟩
 have hz:(ns.map V.int).length=ns.length:=List.length_map ..
 refine ite2 (fun c => ?_) (fun c => ?_)
 ·have c':=of_decide_eq_true c
  have e:takeM ns p = .error (p, "end"):=by
   unfold takeM
   rw [List.getElem?_eq_none (by (first|lia|omega))]
  exact ⟨_,rfl,lk,CL,dx,_,_,rfl,hl,T.look,T.lplace,rfl,sm2,raised (t2 _ _ e) (Keep.refl _ _)⟩
 ·have hp:p<ns.length:=by
   refine Nat.lt_of_not_le fun z=>c (decide_eq_true ?_)
   (first|lia|omega)
  have ep:ns[p]? = some ns[p]:=List.getElem?_eq_getElem hp
  generalize ns[p]=n at ep
  have at_:atI (ns.map V.int) (p:Int)=some (.int n):=jH (by rw [List.getElem?_map,ep]; rfl)
  have e:takeM ns p = .ok n:=by unfold takeM; rw [ep]
  refine ⟨_,rfl,lk,CL,dx,_,_,rfl,hl,T.look,T.lnum,rfl,_,rfl,lk,CL,dx,_,_,rfl,hl,T.look,T.lplace,rfl,a,_,_,_,rfl,rfl,.of ha,at_,?_⟩
  refine ⟨_,rfl,n,rfl,_,rfl,iteF ?_⟩
  refine ⟨_,rfl,lk,CL,dx,_,_,rfl,hl,T.look,T.lplace,rfl,_,_,rfl,rfl,dx,_,hl,(show 2<1000 by decide),?_⟩
  exact ⟨_,rfl,t1 n e⟩
theorem ok_within (T:TxtN K mg aP CL CN) (F:Fun K "take_within" "Look.take_within" jJ f fd) (Mtake:CalM P w K mg base (CXE P w) 3 CL "take" ["self"] (spTk CL CN)) (CNoSheet:CalX P w K mg base 1 "NoSheet" CN ["self", "place", "word"] (spInitX CN)) :
  FnOk P w K mg base (CXE P w) 4 f fd ["self", "least", "most"] (spWithin CL CN):=by
 refine F.okX jE (fun vs H Q E h => ?_) (fun cdv A outer s H vs Q E hr h => ?_)
 ·obtain ⟨lk,dx,a,p,ns,lo,hi,rfl,_⟩ := h
  rfl
 obtain ⟨lk,dx,a,p,ns,lo,hi,rfl,⟨hl,ha⟩,t1,t2⟩ := h
 refine ⟨_,(zD (zJ (i:=3) jE.nd rfl (Or.inl rfl) (yG (pv 0) rfl))
   (zD (zJ (i:=4) jE.nd rfl (Or.inl rfl) (pe_methC0 (pv 0) Mtake hr passX))
   (zD (zW (PW.pt (kM (zN qQ (pv 4) (pv 1) (nomark _)) (jS (zN op_gt (pv 4) (pv 2) (nomark _))))) (zG (qZ CNoSheet hr rfl (zA (pv 3) (zA pe_str zC)))) zT)
   (zG (zS (pv 4)))))),?_⟩
 try dsimp only [Cx.nox,Cx.exc,Cx.wish,zX]
 refine ⟨_,rfl,lk,CL,dx,_,_,rfl,hl,T.look,T.lplace,rfl,?_⟩
 refine ⟨_,rfl,lk,dx,_,rfl,hl,rfl,lk,dx,a,p,ns,rfl,⟨hl,ha⟩,fun n e => ?_,fun pl wd e => ?_⟩
 ·have ep:ns[p]? = some n:=by
   unfold takeM at e
   cases q:ns[p]? with
   | none=>rw [q] at e; cases e
   | some m=>rw [q] at e; cases e; rfl
  have bad:n<lo\/hi<n->withinM ns p lo hi = .error (p, "range"):=fun c=>by unfold withinM; rw [ep]; exact if_pos c
  have k1:Keep lk H (upd H lk (LookO CL dx a (p+1))):=Keep.upd
  refine ⟨_,rfl,_,rfl,_,_,rfl,rfl,_,rfl,ite2 (fun c => ?_) (fun c => ?_)⟩
  ·exact iteT ⟨_,rfl,sm2,raised (t2 _ _ (bad (.inl (of_decide_eq_true c)))) k1⟩
  ·refine ⟨_,rfl,_,rfl,_,_,rfl,rfl,_,rfl,ite2 (fun c2 => ?_) (fun c2 => ?_)⟩
   ·exact ⟨_,rfl,sm2,raised (t2 _ _ (bad (.inr (of_decide_eq_true c2)))) k1⟩
   ·refine ⟨_,rfl,t1 n ?_⟩
    unfold withinM; rw [ep]
    exact if_neg (fun z=>z.elim (fun z=>c (decide_eq_true z)) fun z=>c2 (decide_eq_true z))
 ·refine t2 pl wd ?_
  unfold takeM at e
  unfold withinM
  cases q:ns[p]? with
  | none=>rw [q] at e; exact e
  | some m=>rw [q] at e; cases e
noncomputable def InvHeads (lk hd dx a:Addr) (H:Hp) (ns:List Int) (n:Int) (i:Nat) (σ':St) (H':Hp):Prop:=∃ (done:Hds) (rs:List V) (most:Int) (v3 v4:Option V),σ'=[some (.ref lk),some (.ref hd),some (.int most),v3,v4]/\most<=4/\done.length=i/\Keep lk H H' /\
   H' lk=some (LookO CL dx a (1+2 * i))/\H' hd=some (.lst rs)/\Paired (HeadAt H') rs done/\headsM ns n.toNat 0 1=joinM done (headsM ns (n.toNat - i) most (1+2 * i))
theorem ok_heads (T:TxtN K mg aP CL CN) (F:Fun K "take_heads" "take_heads" wI f fd) (Mtake_within:CalM P w K mg base (CXE P w) 4 CL "take_within" ["self", "least", "most"] (spWithin CL CN)) :
  FnOk P w K mg base (CXE P w) 5 f fd ["look"] (spHeads CL CN):=by
 refine F.okX xU (fun vs H Q E h => ?_) (fun cdv A outer s H vs Q E hr h => ?_)
 ·obtain ⟨lk,dx,a,ns,rfl,_⟩ := h
  rfl
 obtain ⟨lk,dx,a,ns,rfl,⟨hl,ha⟩,t1,t2⟩ := h
 refine ⟨_,(zD (zJ (i:=1) xU.nd rfl (Or.inl rfl) (yF zC))
   (zD (zJ (i:=2) xU.nd rfl (Or.inl rfl) zF)
   (zD (yY (own_fly rfl rfl) rfl (jZ rfl T.n_range (zA (kG (pv 0) Mtake_within hr (zA zF (zA (zI rfl T.m_MOST_FUNCTIONS) zC)) passX) zC)) (zL (i:=3) xU.nd rfl (Or.inl rfl)) (zD (zJ (i:=4) xU.nd rfl (Or.inl rfl) (kG (pv 0) Mtake_within hr (zA zF (zA (pv 2) zC)) passX))
   (zD (yB (jD PySem.F.plainAttrs_list PySem.F.slot_list_append PySem.F.type_list_append yD (pv 1) (zA (zU (zA (pv 4) (zA (kG (pv 0) Mtake_within hr (zA (pv 4) (zA (zI rfl T.m_MOST_BOXES) zC)) passX) zC))) zC)))
   (zG (zJ (i:=2) xU.nd rfl (Or.inl rfl) (zI rfl T.m_MOST_PARAMS))))))
   (zG (zS (pv 1)))))),?_⟩
 try dsimp only [Cx.nox,Cx.exc,Cx.wish,zX]
 refine ⟨sm0,fun hd hhd => ?_⟩
 have nlh:lk≠hd:=zO hl hhd
 have k1:Keep lk H (upd H hd (.lst [])):=Keep.new _ hhd
 have l1:Looks CL (upd H hd (.lst [])) lk dx a 0 ns:=Looks.go ⟨hl,ha⟩ k1 (by rw [zK nlh]; exact hl)
 refine ⟨_,rfl,lk,dx,_,rfl,l1.1,rfl,lk,dx,a,0,ns,1,16,rfl,l1,fun n e => ?_,fun p wd e => ?_⟩
 ·obtain ⟨_,n1,n16⟩ := yA e
  have eh:headsAllM ns=headsM ns n.toNat 0 1:=by unfold headsAllM; rw [e]
  refine ⟨n,rfl,by (first|lia|omega),by (first|lia|omega),kU (lo:=0) (n:=n.toNat) (InvHeads (CL:=CL) lk hd dx a H ns n) ⟨[],[],0,_,_,rfl,by decide,rfl,k1.trans Keep.upd,zB,?_,.nil,(joinM_nil _).symm⟩ ?_ ?_⟩
  ·rw [zK (Ne.symm nlh)]; exact zB
  ·rintro i σ' H' hi ⟨done,rs,most,v3,v4,rfl,hm,hn,kp,el,eh',pr,eq⟩
   obtain ⟨m,em⟩ : ∃ m,n.toNat - i=m+1:=⟨n.toNat - i - 1,by (first|lia|omega)⟩
   have L1:Looks CL H' lk dx a (1+2 * i) ns:=Looks.go ⟨hl,ha⟩ kp el
   refine ⟨_,rfl,lk,dx,_,rfl,el,rfl,_,rfl,lk,dx,a,_,ns,0,most,rfl,L1,fun x ex => ?_,fun p wd ex => ?_⟩
   ·have L2':Looks CL (upd H' lk (LookO CL dx a (1+2 * i+1))) lk dx a (1+2 * i+1) ns:=L1.go Keep.upd zB
    have eh2:(upd H' lk (LookO CL dx a (1+2 * i+1))) hd=some (.lst rs):=by rw [zK (Ne.symm nlh)]; exact eh'
    refine ⟨_,rfl,.inl ⟨rfl,_,.of eh2⟩,_,rfl,_,rfl,lk,dx,_,rfl,zB,rfl,_,rfl,lk,dx,a,_,ns,x,12,rfl,L2',fun y ey => ?_,fun p wd ey => ?_⟩
    ·refine ⟨sm2,fun q hq => ?_⟩
     generalize hH2:upd (upd H' lk (LookO CL dx a (1+2 * i+1))) lk (LookO CL dx a (1+2 * i+1+1))=H2 at hq
     have k2:Keep lk H' H2:=by rw [<- hH2]; exact Keep.trans Keep.upd Keep.upd
     have e2:H2 lk=some (LookO CL dx a (1+2 * i+1+1)):=by rw [<- hH2]; exact zB
     have h2:H2 hd=some (.lst rs):=k2 hd _ (Ne.symm nlh) eh'
     have nq:hd≠q:=zO h2 hq
     have ql:lk≠q:=zO e2 hq
     have h3:upd H2 q (.tup [.int x,.int y]) hd=some (.lst rs):=by rw [zK nq]; exact h2
     have len:rs.length<=16:=by have:=Paired.len pr; (first|lia|omega)
     refine ⟨hd,rs,_,rfl,rfl,h3,small1000 (by (first|lia|omega)),?_⟩
     have tp:Tups H' (upd (upd H2 q (.tup [.int x,.int y])) hd (.lst (rs++[.ref q]))):=.trans (.keep el k2) (.trans (.new hq) (.upd h3))
     refine ⟨done++[(x,y)],_,4,_,_,rfl,by decide,by simp [hn],(kp.trans (k2.trans (Keep.new _ hq))).fresh hhd,?_,zB,Paired.snoc (Paired.imp (fun _ _ z=>z.tups tp) pr) ⟨q,rfl,?_⟩,?_⟩
     ·rw [zK nlh,zK ql]; exact e2
     ·rw [zK (Ne.symm nq)]; exact zB
     ·rw [eq,em,show n.toNat - (i+1)=m by (first|lia|omega),show 1+2 * (i+1)=1+2 * i+2 by (first|lia|omega)]
      conv=>lhs; unfold headsM
      rw [ex]; simp only; rw [ey]; simp only
      cases headsM ns m 4 (1+2 * i+2) with
      | error b=>rfl
      | ok r=>show Except.ok _=Except.ok _; rw [List.append_assoc]; rfl
    ·refine (t2 p wd ?_).keep (kp.trans Keep.upd)
     rw [eh,eq,em]
     unfold headsM
     rw [ex]; simp only; rw [ey]; rfl
   ·refine (t2 p wd ?_).keep kp
    rw [eh,eq,em]
    unfold headsM
    rw [ex]; rfl
  ·rintro σ' H' ⟨done,rs,most,v3,v4,rfl,hm,hn,kp,el,eh',pr,eq⟩
   refine ⟨_,rfl,t1 done ?_ hd H' kp (by rw [hn]; exact el) ⟨rs,eh',pr⟩⟩
   rw [eh,eq,Nat.sub_self]
   show Except.ok (done++[])=_
   rw [List.append_nil]
 ·exact (t2 p wd (by unfold headsAllM; rw [e])).keep k1
theorem vt {i j:Int} (c:decide (V.int i=V.int j)=true):i=j:=by
 have:=of_decide_eq_true c
 injection this
theorem vf {i j:Int} (c:¬ decide (V.int i=V.int j)=true):i≠j:=fun z=>c (decide_eq_true (congrArg V.int z))
theorem ok_own (T:TxtN K mg aP CL CN) (F:Fun K "take_own" "take_own" s_take_own f fd) (Mtake:CalM P w K mg base (CXE P w) 3 CL "take" ["self"] (spTk CL CN)) (Mtake_within:CalM P w K mg base (CXE P w) 4 CL "take_within" ["self", "least", "most"] (spWithin CL CN)) :
  FnOk P w K mg base (CXE P w) 5 f fd ["look", "kind", "heads", "boxes"] (spOwn CL CN):=by
 refine F.okX sc_take_own (fun vs H Q E h => ?_) (fun cdv A outer s H vs Q E hr h => ?_)
 ·obtain ⟨lk,dx,a,p,ns,hd,hs,boxes,k,rfl,_⟩ := h
  rfl
 obtain ⟨lk,dx,a,p,ns,hd,hs,boxes,k,rfl,L1,hh,t1,t2⟩ := h
 refine ⟨_,(zD (zW (zN yK (pv 1) (zI rfl T.m_NUMBER) (nomark _)) (zG (zS (zU (zA (pe_methC0 (pv 0) Mtake hr passX) zC)))) zT)
   (zD (zW (PW.pt (kM (zN yK (pv 1) (zI rfl T.m_GET) (nomark _)) (jS (zN yK (pv 1) (zI rfl T.m_SET) (nomark _))))) (zG (zS (zU (zA (kG (pv 0) Mtake_within hr (zA zF (zA (zP jV (pv 3) zF) zC)) passX) zC)))) zT)
   (zD (zW (zN yK (pv 1) (zI rfl T.m_ALL) (nomark _)) (zG (zS (zU (zA (kG (pv 0) Mtake_within hr (zA (zI rfl T.m_LEAST_ALL) (zA (zI rfl T.m_MOST_MANY) zC)) passX) zC)))) zT)
   (zD (zW (zN yK (pv 1) (zI rfl T.m_PICK) (nomark _)) (zG (zS (zU (zA (kG (pv 0) Mtake_within hr (zA (zI rfl T.m_LEAST_PICK) (zA (zI rfl T.m_MOST_MANY) zC)) passX) zC)))) zT)
   (zD (zW (zN yK (pv 1) (zI rfl T.m_CALL) (nomark _)) (zG (zS (zU (zA (kG (pv 0) Mtake_within hr (zA zF (zA (zP jV (zR zM rfl T.n_len yI (zA (pv 2) zC)) zF) zC)) passX) zC)))) zT)
   (zG (zS (zU zC)))))))),?_⟩
 try dsimp only [Cx.nox,Cx.exc,Cx.wish,zX]
 have hl:=L1.1
 have fin:∀ n,ownM ns hs boxes k p = .ok [n]->tTupR [.int n] (upd H lk (LookO CL dx a (p+1))) Q:=fun n e=>by
  refine ⟨sm1,fun t ht=>t1 [n] e t _ (Keep.trans Keep.upd (Keep.new _ ht)) ?_ zB⟩
  rw [zK (zO (zB (H:=H) (a:=lk) (o:=LookO CL dx a (p+1))) ht)]
  exact zB
 refine ⟨_,rfl,rfl,_,rfl,ite2 (fun c => ?_) (fun c0 => ?_)⟩
 ·have o:ownM ns hs boxes k p=oneM (takeM ns p):=if_pos (vt c)
  exact ⟨_,rfl,lk,dx,_,rfl,hl,rfl,lk,dx,a,p,ns,rfl,L1,fun n e=>fin n (by rw [o,e]; rfl),fun pl wd e=>t2 _ _ (by rw [o,e]; rfl)⟩
 have n0:=vf c0
 have one:∀ lo hi,(∀ r,withinM ns p lo hi=r->ownM ns hs boxes k p=oneM r)->Looks CL H lk dx a p ns/\Tells (withinM ns p lo hi) (fun n=>tTupR [.int n] (upd H lk (LookO CL dx a (p+1))) Q) (Fails CN lk H E) :=
  fun lo hi o=>⟨L1,fun n e=>fin n (o _ e),fun pl wd e=>t2 _ _ (o _ e)⟩
 have br12:k=1\/k=2->∀ r,withinM ns p 0 (boxes - 1)=r->ownM ns hs boxes k p=oneM r:=fun z r e=>by unfold ownM; rw [if_neg n0,if_pos z,e]
 refine ⟨_,rfl,rfl,_,rfl,ite2 (fun c=>iteT ?_) (fun c1 => ?_)⟩
 ·have o:=one (0) (boxes - 1) ((br12 (.inl (vt c))))
  exact ⟨_,rfl,lk,dx,_,rfl,hl,rfl,_,rfl,_,_,rfl,rfl,lk,dx,a,p,ns,0,boxes - 1,rfl,o.1,o.2⟩
 refine ⟨_,rfl,rfl,_,rfl,ite2 (fun c => ?_) (fun c2 => ?_)⟩
 ·have o:=one (0) (boxes - 1) ((br12 (.inr (vt c))))
  exact ⟨_,rfl,lk,dx,_,rfl,hl,rfl,_,rfl,_,_,rfl,rfl,lk,dx,a,p,ns,0,boxes - 1,rfl,o.1,o.2⟩
 have n12:¬ (k=1\/k=2):=fun z=>z.elim (vf c1) (vf c2)
 refine ⟨_,rfl,rfl,_,rfl,ite2 (fun c => ?_) (fun c3 => ?_)⟩
 ·have o:=one (1) (12) (fun r e=>by unfold ownM; rw [if_neg n0,if_neg n12,if_pos (vt c),e])
  exact ⟨_,rfl,lk,dx,_,rfl,hl,rfl,lk,dx,a,p,ns,1,12,rfl,o.1,o.2⟩
 refine ⟨_,rfl,rfl,_,rfl,ite2 (fun c => ?_) (fun c4 => ?_)⟩
 ·have o:=one (2) (12) (fun r e=>by unfold ownM; rw [if_neg n0,if_neg n12,if_neg (vf c3),if_pos (vt c),e])
  exact ⟨_,rfl,lk,dx,_,rfl,hl,rfl,lk,dx,a,p,ns,2,12,rfl,o.1,o.2⟩
 refine ⟨_,rfl,rfl,_,rfl,ite2 (fun c => ?_) (fun c6 => ?_)⟩
 ·obtain ⟨rs,eh,pr⟩ := id hh
  have ln:rs.length=hs.length:=Paired.len pr
  have o:=one (0) _ (fun r e=>by unfold ownM; rw [if_neg n0,if_neg n12,if_neg (vf c3),if_neg (vf c4),if_pos (vt c),<- ln,e])
  exact ⟨_,rfl,lk,dx,_,rfl,hl,rfl,_,rfl,hd,_,rfl,.inl (.of eh),_,_,rfl,rfl,lk,dx,a,p,ns,0,_,rfl,o.1,o.2⟩
 ·refine ⟨sm0,fun t ht=>t1 [] ?_ t _ (Keep.new _ ht) ?_ zB⟩
  ·unfold ownM; rw [if_neg n0,if_neg n12,if_neg (vf c3),if_neg (vf c4),if_neg (vf c6)]
  ·rw [zK (zO hl ht)]; exact hl
inductive spParts (vs:List V) (H:Hp) (Q:VK) (E:XK):Prop
 | mk (k:Nat) (v:Int) (h0:vs=[.int (7+(k:Int))]) (h1:partsN[k]? = some v) (h2:Q (.int v) H):spParts vs H Q E
theorem ok_parts (T:TxtN K mg aP CL CN) (F:Fun K "parts_of" "parts_of" s_parts_of f fd):FnOk P w K mg base (CXE P w) 1 f fd ["kind"] spParts:=by
 refine F.okN sc_parts_of (fun vs H Q E h => ?_) (fun cdv A outer s H vs Q E hr h => ?_)
 ·obtain ⟨k,v,rfl,_⟩ := h
  rfl
 obtain ⟨k,v,rfl,hk,q⟩ := h
 refine ⟨_,(zG (zS (yC yU (pe_gref rfl T.m_PARTS) (zP jV (pv 0) (zI rfl T.m_FAIL)) (fun _ _=>rfl)))),?_⟩
 try dsimp only [Cx.nox,Cx.exc,Cx.wish,zX]
 refine ⟨_,rfl,_,_,rfl,rfl,aP,_,_,_,rfl,rfl,T.parts _,?_,q⟩
 rw [show (7:Int)+(k:Int) - 7=(k:Int) by (first|lia|omega)]
 exact jH (by rw [List.getElem?_map,hk]; rfl)
theorem ok_due (T:TxtN K mg aP CL CN) (F:Fun K "parts_due" "parts_due" s_parts_due f fd) (Cparts_of:Cal P w K mg base (CXE P w) 1 "parts_of" ["kind"] spParts) :
  FnOk P w K mg base (CXE P w) 2 f fd ["kind", "numbers", "heads"] spDue:=by
 refine F.okN sc_parts_due (fun vs H Q E h => ?_) (fun cdv A outer s H vs Q E hr h => ?_)
 ·obtain ⟨k,t,own,hd,hs,rfl,_⟩ := h
  rfl
 obtain ⟨k,t,own,hd,hs,rfl,ht,⟨rs,eh,pr⟩,⟨h0,h1,hk⟩,q⟩ := h
 refine ⟨_,(zD (zW (PW.pt (kM (zN yK (pv 0) (zI rfl T.m_NUMBER) (nomark _)) (jS (zN yK (pv 0) (zI rfl T.m_GET) (nomark _))))) (zG (zS zF)) zT)
   (zD (zW (zN yK (pv 0) (zI rfl T.m_SET) (nomark _)) (zG (zS zF)) zT)
   (zD (zW (zN yK (pv 0) (zI rfl T.m_ALL) (nomark _)) (zG (zS (yC yU (pv 1) zF (fun _ _=>rfl)))) zT)
   (zD (zW (zN yK (pv 0) (zI rfl T.m_PICK) (nomark _)) (zG (zS (zP zY zF (yC yU (pv 1) zF (fun _ _=>rfl))))) zT)
   (zD (zW (zN yK (pv 0) (zI rfl T.m_LOOP) (nomark _)) (zG (zS zF)) zT)
   (zD (zW (zN yK (pv 0) (zI rfl T.m_CALL) (nomark _)) (zG (zS (yC yU (yC yN (pv 2) (yC yU (pv 1) zF (fun _ _=>rfl)) (fun _ _=>rfl)) zF (fun _ _=>rfl)))) zT)
   (zG (zS (zH Cparts_of hr rfl (zA (pv 0) zC) passN))))))))),?_⟩
 try dsimp only [Cx.nox,Cx.exc,Cx.wish,zX]
 have due0:k=0\/k=1->dueM hs k own=0:=fun z=>if_pos z
 refine ⟨_,rfl,rfl,_,rfl,ite2 (fun c=>iteT ?_) (fun c0 => ?_)⟩
 ·rw [due0 (.inl (vt c))] at q; exact q
 refine ⟨_,rfl,rfl,_,rfl,ite2 (fun c => ?_) (fun c1 => ?_)⟩
 ·rw [due0 (.inr (vt c))] at q; exact q
 have n01:¬ (k=0\/k=1):=fun z=>z.elim (vf c0) (vf c1)
 unfold dueM at q
 rw [if_neg n01] at q
 refine ⟨_,rfl,rfl,_,rfl,ite2 (fun c => ?_) (fun c2 => ?_)⟩
 ·rw [if_pos (vt c)] at q; exact q
 rw [if_neg (vf c2)] at q
 refine ⟨_,rfl,rfl,_,rfl,ite2 (fun c => ?_) (fun c3 => ?_)⟩
 ·rw [if_pos (vt c)] at q
  obtain ⟨n,rfl,_⟩ := hk (.inl (vt c))
  exact ⟨_,rfl,t,_,_,_,rfl,rfl,.of ht,rfl,q⟩
 rw [if_neg (vf c3)] at q
 refine ⟨_,rfl,rfl,_,rfl,ite2 (fun c => ?_) (fun c4 => ?_)⟩
 ·rw [if_pos (vt c)] at q
  obtain ⟨n,rfl,_⟩ := hk (.inr (.inl (vt c)))
  exact ⟨_,rfl,t,_,_,_,rfl,rfl,.of ht,rfl,_,_,rfl,rfl,q⟩
 rw [if_neg (vf c4)] at q
 refine ⟨_,rfl,rfl,_,rfl,ite2 (fun c => ?_) (fun c5 => ?_)⟩
 ·rw [if_pos (vt c)] at q; exact q
 rw [if_neg (vf c5)] at q
 refine ⟨_,rfl,rfl,_,rfl,ite2 (fun c => ?_) (fun c6 => ?_)⟩
 ·rw [if_pos (vt c)] at q
  obtain ⟨n,rfl,n0,n1,_⟩ := hk (.inr (.inr (vt c)))
  have hn:n.toNat<hs.length:=by have:=n1 (vt c); (first|lia|omega)
  have ln:rs.length=hs.length:=Paired.len pr
  have e1:hs[n.toNat]? = some hs[n.toNat]:=List.getElem?_eq_getElem hn
  have e2:rs[n.toNat]? = some rs[n.toNat]:=List.getElem?_eq_getElem (by (first|lia|omega))
  obtain ⟨tt,er,et⟩ := Paired.get pr _ _ _ e2 e1
  have av:atI rs n=some (.ref tt):=by
   have:=jH (xs:=rs) e2
   rw [show ((n.toNat:Nat):Int)=n by (first|lia|omega),er] at this
   exact this
  refine ⟨_,rfl,_,rfl,t,_,_,_,rfl,rfl,.of ht,rfl,hd,rs,n,_,rfl,rfl,.of eh,av,tt,_,_,_,rfl,rfl,.of et,rfl,?_⟩
  have:(hs.getD ([n].headD 0).toNat (0,0)).1=hs[n.toNat].1:=by
   show (hs.getD n.toNat (0,0)).1=_
   rw [List.getD_eq_getElem?_getD,e1]; rfl
  rw [this] at q
  exact q
 ·rw [if_neg (vf c6)] at q
  have n0:=vf c0; have n1:=vf c1; have n2:=vf c2; have n3:=vf c3; have n4:=vf c4; have n5:=vf c5; have n6:=vf c6
  have hk7:(k - 7).toNat<13:=by (first|lia|omega)
  have e1:partsN[(k - 7).toNat]? = some (partsN.getD (k - 7).toNat 0):=by
   rw [List.getD_eq_getElem?_getD,List.getElem?_eq_getElem (by exact hk7)]; rfl
  exact ⟨_,rfl,(k - 7).toNat,_,(by rw [show (7:Int)+((k - 7).toNat:Int)=k by (first|lia|omega)]; rfl),e1,q⟩
noncomputable def spPrev (CL CN:Addr):Nat->Sp
 | 0=>fun _ _ _ _=>False
 | d+1=>spNode CL CN d
noncomputable def InvNode (lk hd dx a t ps:Addr) (boxes k N:Int) (d p:Nat) (own:List Int) (H:Hp) (ns:List Int) (hs:Hds) (i:Nat) (σ':St) (H':Hp):Prop:=∃ (done:List Nd) (vs:List V) (p':Nat) (v8:Option V),σ'=[some (.ref lk),some (.ref hd),some (.int boxes),some (.int (11 - ((d+1:Nat):Int))),some (.int (p:Int)),some (.int k),some (.ref t),some (.ref ps),v8]/\done.length=i/\Keep lk H H' /\
   H' lk=some (LookO CL dx a p')/\H' t=some (.tup (own.map V.int))/\H' ps=some (.lst vs)/\Paired (NodeAt H' d) vs done/\partsM (nodeM ns hs boxes d) N.toNat (p+1+own.length)=joinP done (partsM (nodeM ns hs boxes d) (N.toNat - i) p')
theorem ok_node (d:Nat) (hd10:d<=10) (T:TxtN K mg aP CL CN) (F:Fun K "take_node" "take_node" qH f fd) (CNoSheet:CalX P w K mg base 1 "NoSheet" CN ["self", "place", "word"] (spInitX CN)) (Mtake_within:CalM P w K mg base (CXE P w) 4 CL "take_within" ["self", "least", "most"] (spWithin CL CN))
  (Ctake_own:Cal P w K mg base (CXE P w) 5 "take_own" ["look", "kind", "heads", "boxes"] (spOwn CL CN)) (Cparts_due:Cal P w K mg base (CXE P w) 2 "parts_due" ["kind", "numbers", "heads"] spDue)
  (Ctake_node:Cal P w K mg base (CXE P w) (5+d) "take_node" ["look", "heads", "boxes", "deep"] (spPrev CL CN d)):FnOk P w K mg base (CXE P w) (5+d+1) f fd ["look", "heads", "boxes", "deep"] (spNode CL CN d):=by
 refine F.okX xZ (fun vs H Q E h => ?_) (fun cdv A outer s H vs Q E hr h => ?_)
 ·obtain ⟨lk,dx,a,p,ns,hd,hs,boxes,rfl,_⟩ := h
  rfl
 obtain ⟨lk,dx,a,p,ns,hd,hs,boxes,rfl,L1,hh,ho,t1,t2⟩ := h
 refine ⟨_,(zD (zJ (i:=4) xZ.nd rfl (Or.inl rfl) (yG (pv 0) rfl))
   (zD (zW (zN op_gt (pv 3) (zI rfl T.m_MOST_DEEP) (nomark _)) (zG (qZ CNoSheet hr rfl (zA (pv 4) (zA pe_str zC)))) zT)
   (zD (zJ (i:=5) xZ.nd rfl (Or.inl rfl) (kG (pv 0) Mtake_within hr (zA (zI rfl T.m_NUMBER) (zA (zI rfl T.m_NEW) zC)) passX))
   (zD (zJ (i:=6) xZ.nd rfl (Or.inl rfl) (zH Ctake_own hr rfl (zA (pv 0) (zA (pv 5) (zA (pv 1) (zA (pv 2) zC)))) passX))
   (zD (zJ (i:=7) xZ.nd rfl (Or.inl rfl) (yF zC))
   (zD (yY (own_fly rfl rfl) rfl (jZ rfl T.n_range (zA (zH Cparts_due hr rfl (zA (pv 5) (zA (pv 6) (zA (pv 1) zC))) passX) zC)) (zL (i:=8) xZ.nd rfl (Or.inl rfl)) (zG (yB (jD PySem.F.plainAttrs_list PySem.F.slot_list_append PySem.F.type_list_append yD (pv 7) (zA (zH Ctake_node hr rfl (zA (pv 0) (zA (pv 1) (zA (pv 2) (zA (zP zY (pv 3) zF) zC)))) passX) zC)))))
   (zG (zS (zU (zA (pv 5) (zA (pv 4) (zA (pv 6) (zA (xO qX rfl T.n_tuple wF (zA (pv 7) zC)) zC))))))))))))),?_⟩
 try dsimp only [Cx.nox,Cx.exc,Cx.wish,zX]
 have hl:=L1.1
 refine ⟨_,rfl,lk,CL,dx,_,_,rfl,hl,T.look,T.lplace,rfl,?_⟩
 refine ⟨_,rfl,_,_,rfl,rfl,_,rfl,ite2 (fun c => ?_) (fun c => ?_)⟩
 ·have d0:d=0:=by have:=of_decide_eq_true c; (first|lia|omega)
  subst d0
  exact ⟨_,rfl,sm2,raised (t2 p "deep" rfl) (Keep.refl _ _)⟩
 cases d with
 | zero=>exact absurd (decide_eq_true (by decide)) c
 | succ d =>
 refine ⟨_,rfl,lk,dx,_,rfl,hl,rfl,lk,dx,a,p,ns,0,19,rfl,L1,fun k ek => ?_,fun pl wd ek=>t2 pl wd (by unfold nodeM; rw [ek])⟩
 obtain ⟨_,k0,k19⟩ := yA ek
 have ka:Keep lk H (upd H lk (LookO CL dx a (p+1))):=Keep.upd
 have La:=L1.go ka zB
 refine ⟨_,rfl,_,rfl,_,rfl,_,rfl,lk,dx,a,p+1,ns,hd,hs,boxes,k,rfl,La,hh.keep hl ka,fun own eo t H2 k2 el2 et2 => ?_,fun pl wd eo => ?_⟩
 rotate_left
 ·exact (t2 pl wd (by unfold nodeM; rw [ek]; simp only; rw [eo])).keep ka
 have oo:=own_ok k0 k19 eo
 have kb:=ka.trans k2
 refine ⟨sm0,fun ps hps => ?_⟩
 have g3:=zE hps (.lst [])
 have nps:lk≠ps:=zO el2 hps
 have ntp:t≠ps:=zO et2 hps
 have kc:Keep lk H (upd H2 ps (.lst [])):=kb.trans (Keep.same g3)
 have elc:=g3 _ _ el2
 obtain ⟨j0,j13⟩ := due_ok oo ho
 generalize hN:dueM hs k own=N at j0 j13
 have nHp:H ps=none:=by
  cases e:H ps with
  | none=>rfl
  | some o=>rw [kb ps o (Ne.symm nps) e] at hps; cases hps
 refine ⟨_,rfl,_,rfl,_,rfl,k,t,own,hd,hs,rfl,g3 _ _ et2,hh.keep hl kc,oo,N,by rw [hN],by (first|lia|omega),by (first|lia|omega),?_⟩
 have en:nodeM ns hs boxes (d+1) p=match partsM (nodeM ns hs boxes d) N.toNat (p+1+own.length) with
   | .error b => .error b
   | .ok r => .ok (.mk k p own r.1,r.2):=by
  conv=>lhs; unfold nodeM
  rw [ek]; simp only; rw [eo]; simp only; rw [hN] <;> rfl
 refine kU (lo:=0) (n:=N.toNat) (InvNode (CL:=CL) lk hd dx a t ps boxes k N d p own H ns hs)
   ⟨[],[],_,_,rfl,rfl,kc,elc,g3 _ _ et2,zB,.nil,(joinP_nil _).symm⟩ ?_ ?_
 ·rintro i σ' H' hi ⟨done,vs,p',v8,rfl,hn,kp,el,et,ep,pr,eq⟩
  obtain ⟨m,em⟩ : ∃ m,N.toNat - i=m+1:=⟨N.toNat - i - 1,by (first|lia|omega)⟩
  have L2':Looks CL H' lk dx a p' ns:=L1.go kp el
  have ed:(11 - ((d+1:Nat):Int))+1=11 - (d:Int):=by (first|lia|omega)
  refine ⟨_,rfl,.inl ⟨rfl,_,.of ep⟩,_,rfl,_,rfl,_,rfl,_,rfl,_,_,rfl,rfl,lk,dx,a,p',ns,hd,hs,boxes,congrArg (fun z=>[V.ref lk,V.ref hd,V.int boxes,V.int z]) ed,L2',hh.keep hl kp,ho,fun r er v H3 k3 el3 nv => ?_,fun pl wd er => ?_⟩
  ·have ep3:H3 ps=some (.lst vs):=k3 ps _ (Ne.symm nps) ep
   have len:vs.length<=13:=by have:=Paired.len pr; (first|lia|omega)
   refine ⟨ps,vs,_,rfl,rfl,ep3,small1000 (by (first|lia|omega)),?_⟩
   have tp:Tups H' (upd H3 ps (.lst (vs++[v]))):=.trans (.keep el k3) (.upd ep3)
   have ntl:t≠lk:=fun z=>by rw [z,el] at et; cases et
   refine ⟨done++[r.1],_,r.2,_,rfl,by simp [hn],(kp.trans k3).fresh nHp,?_,?_,zB,Paired.snoc (Paired.imp (fun _ _ z=>z.tups tp) pr) (nv.tups (.upd ep3)),?_⟩
   ·rw [zK nps]; exact el3
   ·rw [zK ntp]; exact k3 t _ ntl et
   ·rw [eq,em,show N.toNat - (i+1)=m by (first|lia|omega)]
    conv=>lhs; unfold partsM
    rw [er]; simp only
    cases partsM (nodeM ns hs boxes d) m r.2 with
    | error b=>rfl
    | ok r=>show Except.ok _=Except.ok _; rw [List.append_assoc]; rfl
  ·refine (t2 pl wd ?_).keep kp
   rw [en,eq,em]
   conv=>lhs; unfold partsM
   rw [er]; rfl
 ·rintro σ' H' ⟨done,vs,p',v8,rfl,hn,kp,el,et,ep,pr,eq⟩
  rw [Nat.sub_self] at eq
  have eq':partsM (nodeM ns hs boxes d) N.toNat (p+1+own.length) = .ok (done,p'):=by rw [eq]; show Except.ok (done++[],p')=_; rw [List.append_nil]
  refine ⟨_,rfl,_,rfl,_,rfl,_,rfl,ps,vs,rfl,.inl ⟨.of ep,fun q hq => ?_⟩⟩
  refine ⟨sm4,fun u hu => ?_⟩
  have s1:=zE hq (.tup vs)
  have s2:=zE hu (.tup [.int k,.int (p:Int),.ref t,.ref q])
  refine t1 (.mk k p own done,p') (by rw [en,eq']) (.ref u) _ (kp.trans (Keep.same (s1.trans s2))) (s2 _ _ (s1 _ _ el)) ?_
  exact ⟨u,t,q,vs,rfl,zB,s2 _ _ (s1 _ _ et),s2 _ _ zB,Paired.imp (fun _ _ z=>z.tups (.same (s1.trans s2))) pr⟩
theorem ok_nodes (T:TxtN K mg aP CL CN) (F:Fun K "take_node" "take_node" qH f fd) (CNoSheet:CalX P w K mg base 1 "NoSheet" CN ["self", "place", "word"] (spInitX CN)) (Mtake_within:CalM P w K mg base (CXE P w) 4 CL "take_within" ["self", "least", "most"] (spWithin CL CN))
  (Ctake_own:Cal P w K mg base (CXE P w) 5 "take_own" ["look", "kind", "heads", "boxes"] (spOwn CL CN)) (Cparts_due:Cal P w K mg base (CXE P w) 2 "parts_due" ["kind", "numbers", "heads"] spDue)
  (hm:mg "take_node" = some (.ref f)) (hk:PySem.W.keepIn K (.ref f)=true) (hb:Binds K fd ["look", "heads", "boxes", "deep"] []):∀ d,d<=10->FnOk P w K mg base (CXE P w) (5+d+1) f fd ["look", "heads", "boxes", "deep"] (spNode CL CN d):=by
 intro d
 induction d with
 | zero=>exact fun h=>ok_node 0 h T F CNoSheet Mtake_within Ctake_own Cparts_due ⟨⟨_,_,fn_false,hm,hk,hb⟩⟩
 | succ d ih=>exact fun h=>ok_node (d+1) h T F CNoSheet Mtake_within Ctake_own Cparts_due ⟨⟨_,_,ih (by (first|lia|omega)),hm,hk,hb⟩⟩
noncomputable def InvFns (a lk hd tl dx:Addr) (rs:List V) (hs:Hds) (ns:List Int) (H1:Hp) (i:Nat) (σ':St) (H':Hp):Prop:=∃ (done:List Nd) (vs:List V) (p':Nat) (v4 v5:Option V),σ'=[some (.ref a),some (.ref lk),some (.ref hd),some (.ref tl),v4,v5]/\i<=rs.length/\done.length=i/\Keep lk H1 H'/\H' lk=some (LookO CL dx a p') /\
   H' hd=some (.lst rs)/\Paired (HeadAt H') rs hs/\H' tl=some (.lst vs)/\Paired (FnAt H') vs ((hs.take i).zip done)/\bodiesM ns hs hs (1+2 * hs.length)=joinP done (bodiesM ns hs (hs.drop i) p')
theorem ok_fns (T:TxtN K mg aP CL CN) (F:Fun K "functions" "functions" s_functions f fd) (CNoSheet:CalX P w K mg base 1 "NoSheet" CN ["self", "place", "word"] (spInitX CN)) (CLook:CalK P w K mg base (CXE P w) 1 "Look" CL ["self", "numbers"] (spInitL CL))
  (Ctake_heads:Cal P w K mg base (CXE P w) 5 "take_heads" ["look"] (spHeads CL CN)) (Ctake_node:Cal P w K mg base (CXE P w) 16 "take_node" ["look", "heads", "boxes", "deep"] (spNode CL CN 10)) :
  FnOk P w K mg base (CXE P w) 17 f fd ["sheet"] (spFns CN):=by
 refine F.okX jA (fun vs H Q E h => ?_) (fun cdv A outer s H vs Q E hr h => ?_)
 ·obtain ⟨a,ns,rfl,_⟩ := h
  rfl
 obtain ⟨a,ns,rfl,ha,t1,t2⟩ := h
 refine ⟨_,(zD (zJ (i:=1) jA.nd rfl (Or.inl rfl) (pe_makeC CLook hr rfl (zA (pv 0) zC) passX))
   (zD (zJ (i:=2) jA.nd rfl (Or.inl rfl) (zH Ctake_heads hr rfl (zA (pv 1) zC) passX))
   (zD (zJ (i:=3) jA.nd rfl (Or.inl rfl) (yF zC))
   (zD (yY (own_fly rfl rfl) rfl (xL (pv 2)) (xS rfl (zQ (zL (i:=4) jA.nd rfl (Or.inl rfl)) (zQ (zL (i:=5) jA.nd rfl (Or.inl rfl)) yW))) (zG (yB (jD PySem.F.plainAttrs_list PySem.F.slot_list_append PySem.F.type_list_append yD (pv 3) (zA (zU (zA (pv 4) (zA (pv 5) (zA (zH Ctake_node hr rfl (zA (pv 1) (zA (pv 2) (zA (pv 5) (zA zF zC)))) passX) zC)))) zC)))))
   (zD (zW (zN qQ (yG (pv 1) rfl) (zR zM rfl T.n_len yI (zA (pv 0) zC)) (nomark _)) (zG (qZ CNoSheet hr rfl (zA (yG (pv 1) rfl) (zA pe_str zC)))) zT)
   (zG (zS (pv 3)))))))),?_⟩
 try dsimp only [Cx.nox,Cx.exc,Cx.wish,zX]
 refine ⟨_,rfl,fun lk dx hlk hdx ndx=>⟨lk,dx,a,rfl,zB,fun H1 k1 el1=>⟨rfl,?_⟩⟩⟩
 have nla:a≠lk:=zO ha hlk
 have same0:∀ {H':Hp},Keep lk (upd (upd H dx (.own lk)) lk (.ins CL dx [])) H'->Same H H':=fun {H'} k b o e=>by
  refine k b o (zO e hlk) ?_
  rw [zK (zO e hlk),zK (zO e hdx)]; exact e
 have L1:Looks CL H1 lk dx a 0 ns:=⟨el1,same0 k1 _ _ ha⟩
 have bad:∀ {H':Hp} {p:Nat} {wd:Str},Keep lk H1 H'->functionsM ns = .error (p,wd)->Fails CN lk H' E p wd:=fun {H' p wd} k e d H'' k' ed=>t2 p wd e d H'' (same0 (k1.trans (k.trans k'))) ed
 refine ⟨_,rfl,lk,dx,a,ns,rfl,L1,fun hs eh hd H2 k2 el2 hh => ?_,fun p wd e=>bad (Keep.refl _ _) (by unfold functionsM; rw [e])⟩
 obtain ⟨ho,_,l1,l16,_⟩ := headsAllM_ok eh
 refine ⟨sm0,fun tl htl => ?_⟩
 have g3:=zE htl (.lst [])
 have nlt:lk≠tl:=zO el2 htl
 have kc:Keep lk H1 (upd H2 tl (.lst [])):=k2.trans (Keep.same g3)
 obtain ⟨rs,ehd,pr⟩ := id hh
 have nht:hd≠tl:=zO ehd htl
 have nhl:hd≠lk:=fun z=>by rw [z,el2] at ehd; cases ehd
 have lr:rs.length=hs.length:=Paired.len pr
 have ef:functionsM ns=match bodiesM ns hs hs (1+2 * hs.length) with
   | .error b => .error b
   | .ok r=>if r.2<ns.length then .error (r.2, "over") else .ok (hs,r.1):=by unfold functionsM; rw [eh] <;> rfl
 have nHt:H1 tl=none:=by
  cases e:H1 tl with
  | none=>rfl
  | some o=>rw [k2 tl o (Ne.symm nlt) e] at htl; cases htl
 have nH0:H tl=none:=(same0 k1).free nHt
 refine ⟨_,rfl,hd,rfl,⟨rs,.of (g3 _ _ ehd)⟩,xT (xs:=rs) (InvFns (CL:=CL) a lk hd tl dx rs hs ns H1)
   ⟨[],[],_,_,_,rfl,Nat.zero_le _,rfl,kc,g3 _ _ el2,g3 _ _ ehd,Paired.imp (fun _ _ z=>z.tups (.same g3)) pr,zB,.nil,(joinP_nil _).symm⟩ ?_ ?_ ?_⟩
 ·rintro i σ' H' _ ⟨done,vs,p',v4,v5,rfl,hi,hn,kp,el,eh',pr',et,pf,eq⟩
  exact .of eh'
 ·rintro i x σ' H' hx ⟨done,vs,p',v4,v5,rfl,_,hn,kp,el,eh',pr',et,pf,eq⟩
  have hi:i<rs.length:=(List.getElem?_eq_some_iff.mp hx).1
  have e1:hs[i]? = some hs[i]:=List.getElem?_eq_getElem (by (first|lia|omega))
  generalize hs[i]=hx1 at e1
  obtain ⟨u,rfl,eu⟩ := Paired.get pr' i _ _ hx e1
  have dr:hs.drop i=hx1 :: hs.drop (i+1):=by
   have:=List.drop_eq_getElem_cons (l:=hs) (i:=i) (by (first|lia|omega))
   rw [this]; congr 1
   exact Option.some.inj ((List.getElem?_eq_getElem (by (first|lia|omega))).symm.trans e1)
  have tk:hs.take (i+1)=hs.take i++[hx1]:=by rw [List.take_add_one,e1]; rfl
  refine ⟨u,_,rfl,.of eu,rfl,_,_,rfl,_,_,rfl,rfl,?_⟩
  have L2':Looks CL H' lk dx a p' ns:=L1.go kp el
  refine ⟨_,rfl,.inl ⟨rfl,_,.of et⟩,_,rfl,_,rfl,_,rfl,_,rfl,_,rfl,lk,dx,a,p',ns,hd,hs,hx1.2,rfl,L2',⟨rs,eh',pr'⟩,ho,fun r er v H3 k3 el3 nv => ?_,fun pl wd er => ?_⟩
  ·refine ⟨sm3,fun q hq => ?_⟩
   have s1:=zE hq (.tup [.int hx1.1,.int hx1.2,v])
   have et3:=s1 _ _ (k3 tl _ (Ne.symm nlt) et)
   have len:vs.length<=16:=by
    have:=Paired.len pf
    rw [List.length_zip,List.length_take] at this
    (first|lia|omega)
   refine ⟨tl,vs,_,rfl,rfl,et3,small1000 (by (first|lia|omega)),?_⟩
   have tq:Tups H3 (upd (upd H3 q (.tup [.int hx1.1,.int hx1.2,v])) tl (.lst (vs++[.ref q]))):=.trans (.same s1) (.upd et3)
   have tp:=Tups.trans (.keep el k3) tq
   have ntq:tl≠q:=zO (k3 tl _ (Ne.symm nlt) et) hq
   have nql:lk≠q:=zO el3 hq
   refine ⟨done++[r.1],_,r.2,_,_,rfl,hi,by simp [hn],(kp.trans (k3.trans (Keep.same s1))).fresh nHt,?_,?_,Paired.imp (fun _ _ z=>z.tups tp) pr',zB,?_,?_⟩
   ·rw [zK nlt]; exact s1 _ _ el3
   ·rw [zK nht]; exact s1 _ _ (k3 hd _ nhl eh')
   ·rw [tk,List.zip_append (by rw [List.length_take]; (first|lia|omega))]
    exact Paired.snoc (Paired.imp (fun _ _ z=>z.tups tp) pf) ⟨q,v,rfl,by rw [zK (Ne.symm ntq)]; exact zB,nv.tups tq⟩
   ·rw [eq,dr]
    conv=>lhs; unfold bodiesM
    rw [er]; simp only
    cases bodiesM ns hs (hs.drop (i+1)) r.2 with
    | error b=>rfl
    | ok r=>show Except.ok _=Except.ok _; rw [List.append_assoc]; rfl
  ·refine bad kp ?_
   rw [ef,eq,dr]
   conv=>lhs; unfold bodiesM
   rw [er]; rfl
 ·rintro σ' H' ⟨done,vs,p',v4,v5,rfl,_,hn,kp,el,eh',pr',et,pf,eq⟩
  rw [lr,List.drop_length] at eq
  have eq':bodiesM ns hs hs (1+2 * hs.length) = .ok (done,p'):=by rw [eq]; show Except.ok (done++[],p')=_; rw [List.append_nil]
  have ea:H' a=some (.lst (ns.map V.int)):=kp a _ nla L1.2
  have hz:(ns.map V.int).length=ns.length:=List.length_map ..
  refine ⟨_,rfl,lk,CL,dx,_,_,rfl,el,T.look,T.lplace,rfl,_,rfl,a,_,rfl,.inl (.of ea),_,_,rfl,rfl,_,rfl,ite2 (fun c => ?_) (fun c => ?_)⟩
  ·have c':p'<ns.length:=by have:=of_decide_eq_true c; (first|lia|omega)
   refine ⟨_,rfl,lk,CL,dx,_,_,rfl,el,T.look,T.lplace,rfl,sm2,raised (bad (p:=p') (wd := "over") kp ?_) (Keep.refl _ _)⟩
   rw [ef,eq']; exact if_pos c'
  ·refine ⟨_,rfl,t1 (hs,done) ?_ tl H' (same0 (k1.trans kp)) nH0 ⟨vs,et,by show hs.length=done.length; (first|lia|omega),?_⟩⟩
   ·rw [ef,eq']
    exact if_neg fun z=>c (decide_eq_true (by (first|lia|omega)))
   ·rw [lr,List.take_length] at pf; exact pf

end
section
variable {P:Program} {w:World} {K:PySem.W.Frag} {mg:Str->Option Value} {base:Heap} {f:Addr} {fd:FuncData}
set_option maxHeartbeats 4000000

theorem ok_wholeC (T:Txt K mg) (F:Fun K "is_whole" "is_whole" wL f fd):FnOk P w K mg base (CXE P w) 1 f fd ["thing"] spWhole:=by
 refine F.okN sc_is_whole (fun vs H Q E h => ?_) (fun cdv A outer s H vs Q E hr h => ?_)
 ·obtain ⟨i,rfl,_⟩ := h
  rfl
 obtain ⟨i,rfl,q⟩ := h
 refine ⟨_,(zG (zS (pe_and (zR kJ rfl T.n_isinstance yM (zA (pv 0) (zA (xW (v:=.ty "int") rfl T.n_int bt_int rfl) zC))) (pe_one (pe_not (zR kJ rfl T.n_isinstance yM (zA (pv 0) (zA (xW (v:=.ty "bool") rfl T.n_bool bt_bool rfl) zC)))))))),?_⟩
 try dsimp only [Cx.nox,Cx.exc,Cx.wish,zX]
 refine ⟨_,rfl,.inl ⟨_,_,_,true,rfl,.int i,T.kint,_,rfl,iteT ?_⟩⟩
 exact ⟨_,rfl,.inl ⟨_,_,_,false,rfl,.int i,T.kbool,_,rfl,q⟩⟩
theorem ok_is_head (T:Txt K mg) (F:Fun K "is_head" "is_head" s_is_head f fd):FnOk P w K mg base (CXE P w) 1 f fd ["head", "function", "many_rows"] spIsHead:=by
 refine F.okN kX (fun vs H Q E h => ?_) (fun cdv A outer s H vs Q E hr h => ?_)
 ·obtain ⟨t,s,p,b,fn,nr,rfl,_⟩ := h
  rfl
 obtain ⟨t,s,p,b,fn,nr,rfl,ht,q⟩ := h
 refine ⟨_,(zD (jY (pv 0) (xS rfl (zQ (zL (i:=3) kX.nd rfl (Or.inl rfl)) (zQ (zL (i:=4) kX.nd rfl (Or.inl rfl)) (zQ (zL (i:=5) kX.nd rfl (Or.inl rfl)) yW)))))
   (zD (zW (PW.pt (kM (zN qQ (pv 3) zF (nomark _)) (jS (zN op_ge (pv 3) (pv 2) (nomark _))))) (zG (zS pe_bl)) zT)
   (zD (zJ (i:=6) kX.nd rfl (Or.inl rfl) (pe_ifExp (zN yK (pv 1) zF (nomark _)) zF (zI rfl T.m_MOST_PARAMS)))
   (zG (zS (pe_and (qD op_le op_le zF (pv 4) (pv 6)) (pe_one (qD op_le op_le (pv 4) (pv 5) (zI rfl T.m_MOST_BOXES))))))))),?_⟩
 try dsimp only [Cx.nox,Cx.exc,Cx.wish,zX]
 refine ⟨_,rfl,t,_,rfl,SqT.of ht,rfl,_,_,rfl,_,_,rfl,_,_,rfl,rfl,?_⟩
 have no:∀ {z:Prop},z->(z->¬ HeadOk s p b fn nr)->Q (.bl false) H:=fun c g=>q false ⟨fun e=>(nomatch e),fun e=>absurd e (g c)⟩
 refine ⟨_,rfl,_,_,rfl,rfl,_,rfl,ite2 (fun c => ?_) (fun c => ?_)⟩
 ·exact iteT (no (of_decide_eq_true c) fun c e=>by obtain ⟨e,_⟩ := e; (first|lia|omega))
 have c1:=df c
 refine ⟨_,rfl,_,rfl,_,_,rfl,rfl,_,rfl,ite2 (fun c => ?_) (fun c => ?_)⟩
 ·exact no (of_decide_eq_true c) fun c e=>by obtain ⟨_,e,_⟩ := e; (first|lia|omega)
 have c2:=df c
 refine ⟨_,rfl,rfl,_,rfl,ite2 (fun c3 => ?_) (fun c3 => ?_)⟩
 ·have e:=vt c3
  dsimp only [tC,gName,tRet,tAndV]
  refine wE 0 p 0 (fun R h=>h) (fun R h=>⟨_,rfl,h⟩) (fun R h=>⟨_,rfl,h⟩) fun r z=>⟨_,rfl,ite2 (fun c => ?_) (fun c => ?_)⟩
  ·have c':=z.mp c
   exact wE p b 12 (fun R h=>⟨_,rfl,h⟩) (fun R h=>⟨_,rfl,h⟩) (fun R h=>h) fun r z=>q r (z.trans (by unfold HeadOk; (first|lia|omega)))
  ·exact no (fun y=>c (z.mpr y)) fun c y=>c (by unfold HeadOk at y; (first|lia|omega))
 ·have e:=vf c3
  dsimp only [tC,gName,tRet,tAndV]
  refine wE 0 p 4 (fun R h=>h) (fun R h=>⟨_,rfl,h⟩) (fun R h=>⟨_,rfl,h⟩) fun r z=>⟨_,rfl,ite2 (fun c => ?_) (fun c => ?_)⟩
  ·have c':=z.mp c
   exact wE p b 12 (fun R h=>⟨_,rfl,h⟩) (fun R h=>⟨_,rfl,h⟩) (fun R h=>h) fun r z=>q r (z.trans (by unfold HeadOk; (first|lia|omega)))
  ·exact no (fun y=>c (z.mpr y)) fun c y=>c (by unfold HeadOk at y; (first|lia|omega))
theorem ok_alone (T:Txt K mg) (F:Fun K "stands_alone" "stands_alone" kZ f fd):FnOk P w K mg base (CXE P w) 1 f fd ["op"] spAlone:=by
 refine F.okN sc_stands_alone (fun vs H Q E h => ?_) (fun cdv A outer s H vs Q E hr h => ?_)
 ·obtain ⟨op,rfl,_⟩ := h
  rfl
 obtain ⟨op,rfl,q⟩ := h
 refine ⟨_,(zG (zS (qO op_in_seq (pv 0) (zU (zA (zI rfl T.m_OP_DROP) (zA (zI rfl T.m_OP_BACK) (zA (zI rfl T.m_OP_FAIL) (zA (zI rfl T.m_OP_BREATH) zC))))) rfl))),?_⟩
 try dsimp only [Cx.nox,Cx.exc,Cx.wish,zX]
 refine ⟨_,rfl,sm4,fun u hu=>⟨u,_,rfl,.inr (SqT.of zB),rfl,rfl,q _ _ (zE hu _) ?_⟩⟩
 have ei:(if false=true then !inV (.int op) ([3,7,8,9].map V.int) else inV (.int op) ([3,7,8,9].map V.int))=decide (op∈[(3:Int),7,8,9]):=inV_ints op [3,7,8,9]
 have em:op∈[(3:Int),7,8,9] ↔ op=3\/op=7\/op=8\/op=9:=by simp
 rw [<- em]
 exact ⟨fun c=>of_decide_eq_true (ei ▸ c),fun c=>ei.trans (decide_eq_true c)⟩
theorem ok_is_row (T:Txt K mg) (F:Fun K "is_row" "is_row" s_is_row f fd) (Cstands_alone:Cal P w K mg base (CXE P w) 1 "stands_alone" ["op"] spAlone):FnOk P w K mg base (CXE P w) 2 f fd ["row", "many_functions", "many_rows"] spIsRow:=by
 refine F.okN sc_is_row (fun vs H Q E h => ?_) (fun cdv A outer s H vs Q E hr h => ?_)
 ·obtain ⟨t,op,n,nf,nr,rfl,_⟩ := h
  rfl
 obtain ⟨t,op,n,nf,nr,rfl,ht,q⟩ := h
 refine ⟨_,(zD (jY (pv 0) (xS rfl (zQ (zL (i:=3) sc_is_row.nd rfl (Or.inl rfl)) (zQ (zL (i:=4) sc_is_row.nd rfl (Or.inl rfl)) yW))))
   (zD (zW (zN yK (pv 3) (zI rfl T.m_OP_PUSH) (nomark _)) (zG (zS pe_bl)) zT)
   (zD (zW (PW.pt (kM (zN yK (pv 3) (zI rfl T.m_OP_GET) (nomark _)) (jS (zN yK (pv 3) (zI rfl T.m_OP_SET) (nomark _))))) (zG (zS (qD op_le qQ zF (pv 4) (zI rfl T.m_MOST_BOXES)))) zT)
   (zD (zW (PW.pt (kM (zN yK (pv 3) (zI rfl T.m_OP_JUMP) (nomark _)) (jS (zN yK (pv 3) (zI rfl T.m_OP_UNLESS) (nomark _))))) (zG (zS (qD op_le qQ zF (pv 4) (pv 2)))) zT)
   (zD (zW (zN yK (pv 3) (zI rfl T.m_OP_CALL) (nomark _)) (zG (zS (qD op_le qQ zF (pv 4) (pv 1)))) zT)
   (zD (zW (zN yK (pv 3) (zI rfl T.m_OP_DO) (nomark _)) (zG (zS (qD op_le op_le (zI rfl T.m_ADD) (pv 4) (zI rfl T.m_NEW)))) zT)
   (zD (zW (zN yK (pv 3) (zI rfl T.m_OP_PICK) (nomark _)) (zG (zS (qD op_le op_le (zI rfl T.m_LEAST_PICK) (pv 4) (zI rfl T.m_MOST_MANY)))) zT)
   (zG (zS (pe_and (zH Cstands_alone hr rfl (zA (pv 3) zC) passN) (pe_one (qO yK (pv 4) zF (nomark _))))))))))))),?_⟩
 try dsimp only [Cx.nox,Cx.exc,Cx.wish,zX]
 refine ⟨_,rfl,t,_,rfl,SqT.of ht,rfl,_,_,rfl,_,_,rfl,rfl,?_⟩
 have go:∀ (r:Bool),(r=true ↔ RowOk op n nf nr)->Q (.bl r) H:=fun r e=>q r H (Same.refl H) e
 refine ⟨_,rfl,rfl,_,rfl,ite2 (fun c => ?_) (fun c => ?_)⟩
 ·have e:=vt c
  exact go true ⟨fun _ => .inl e,fun _=>rfl⟩
 have n0:=vf c
 refine ⟨_,rfl,rfl,_,rfl,ite2 (fun c=>iteT ?_) (fun c => ?_)⟩
 ·have e:=vt c
  exact chain_lt 0 n 12 (fun R h=>h) (fun R h=>⟨_,rfl,h⟩) (fun R h=>h) fun r z=>go r (z.trans (by unfold RowOk; (first|lia|omega)))
 have n1:=vf c
 refine ⟨_,rfl,rfl,_,rfl,ite2 (fun c => ?_) (fun c => ?_)⟩
 ·have e:=vt c
  exact chain_lt 0 n 12 (fun R h=>h) (fun R h=>⟨_,rfl,h⟩) (fun R h=>h) fun r z=>go r (z.trans (by unfold RowOk; (first|lia|omega)))
 have n2:=vf c
 refine ⟨_,rfl,rfl,_,rfl,ite2 (fun c=>iteT ?_) (fun c => ?_)⟩
 ·have e:=vt c
  exact chain_lt 0 n nr (fun R h=>h) (fun R h=>⟨_,rfl,h⟩) (fun R h=>⟨_,rfl,h⟩) fun r z=>go r (z.trans (by unfold RowOk; (first|lia|omega)))
 have n4:=vf c
 refine ⟨_,rfl,rfl,_,rfl,ite2 (fun c => ?_) (fun c => ?_)⟩
 ·have e:=vt c
  exact chain_lt 0 n nr (fun R h=>h) (fun R h=>⟨_,rfl,h⟩) (fun R h=>⟨_,rfl,h⟩) fun r z=>go r (z.trans (by unfold RowOk; (first|lia|omega)))
 have n5:=vf c
 refine ⟨_,rfl,rfl,_,rfl,ite2 (fun c => ?_) (fun c => ?_)⟩
 ·have e:=vt c
  exact chain_lt 0 n nf (fun R h=>h) (fun R h=>⟨_,rfl,h⟩) (fun R h=>⟨_,rfl,h⟩) fun r z=>go r (z.trans (by unfold RowOk; (first|lia|omega)))
 have n6:=vf c
 refine ⟨_,rfl,rfl,_,rfl,ite2 (fun c => ?_) (fun c => ?_)⟩
 ·have e:=vt c
  exact wE 8 n 19 (fun R h=>h) (fun R h=>⟨_,rfl,h⟩) (fun R h=>h) fun r z=>go r (z.trans (by unfold RowOk; (first|lia|omega)))
 have n10:=vf c
 refine ⟨_,rfl,rfl,_,rfl,ite2 (fun c => ?_) (fun c => ?_)⟩
 ·have e:=vt c
  exact wE 2 n 12 (fun R h=>h) (fun R h=>⟨_,rfl,h⟩) (fun R h=>h) fun r z=>go r (z.trans (by unfold RowOk; (first|lia|omega)))
 have n11:=vf c
 refine ⟨_,rfl,op,rfl,fun r H' g z=>⟨_,rfl,?_⟩⟩
 cases r with
 | true =>
  have m:=z.mp rfl
  refine iteT ⟨_,rfl,rfl,q _ _ g ?_⟩
  rw [dec_int,beq_iff_eq]
  unfold RowOk
  (first|lia|omega)
 | false =>
  have m:¬ (op=3\/op=7\/op=8\/op=9):=fun y=>nomatch z.mpr y
  refine iteF (q _ _ g ⟨fun e=>(nomatch e),fun e=>absurd e ?_⟩)
  unfold RowOk
  (first|lia|omega)
theorem ok_grouped (T:Txt K mg) (F:Fun K "grouped" "grouped" s_grouped f fd):FnOk P w K mg base (CXE P w) 1 f fd ["numbers", "size"] spGrouped:=by
 refine F.okN sc_grouped (fun vs H Q E h => ?_) (fun cdv A outer s H vs Q E hr h => ?_)
 ·obtain ⟨a,ns,k,rfl,_⟩ := h
  rfl
 obtain ⟨a,ns,k,rfl,hk,ha,hl,q⟩ := h
 refine ⟨_,(zG (zS (qM (own:=["at"]) (ys:=["numbers", "size"]) rfl (pi_step rfl T.n_range (zA zF (zA (zR zM rfl T.n_len yI (zA (pv 0) zC)) (zA (pv 1) zC)))) (xV (sc:=defScope s_grouped) rfl (by decide +kernel)) (.cons (j:=0) rfl (.cons (j:=1) rfl .nil)) (fun _ _ _ _ _=>(zL (i:=0) (show List.Nodup [("at" : Str),("numbers" : Str),("size" : Str)] from (by decide +kernel)) rfl (Or.inl rfl))) (fun _ _ _ _ _=>kD) (fun _ _ _ _ _=>(xO (call_tuple_ofK K rfl) rfl T.n_tuple wF (zA (jU (sl_listK K rfl) (pv 1) (jT (pv 0)) (jT (zP zY (pv 0) (pv 2)))) zC)))))),?_⟩
 try dsimp only [Cx.nox,Cx.exc,Cx.wish,zX]
 have hz:(ns.map V.int).length=ns.length:=List.length_map ..
 refine ⟨_,rfl,a,_,rfl,.inl (SqL.of ha),_,rfl,_,_,_,(ns.length+(k - 1)) / k,rfl,⟨by (first|lia|omega),by (first|lia|omega),by (first|lia|omega),by (first|lia|omega)⟩,by (first|lia|omega),by rw [hz]; exact rangeSize_grp hk,fun p hp => ?_⟩
 have hap:a≠p:=fun z=>by rw [z,hp] at ha; cases ha
 refine comp_step (fun i σ' H'=>∃ ys,H' p=some (.lst ys)/\i<=(ns.length+(k - 1)) / k/\Same H H'/\Paired (TupAt H') ys ((grp k ns).take i)/\∃ x,σ'=[x,some (.ref a),some (.int k)]) ⟨[],zB,Nat.zero_le _,zE hp _,.nil,_,rfl⟩ ?_ ?_
 ·rintro i σ' H' hi ⟨ys,hy,_,sm,pr,x,rfl⟩
  have ea:(0:Int)+(i:Int) * (k:Int)=((i * k:Nat):Int):=by rw [Int.zero_add,Int.natCast_mul]
  have eb:(0:Int)+(i:Int) * (k:Int)+(k:Int)=((i * k+k:Nat):Int):=by rw [ea,Int.natCast_add]
  have ec:=cut_ints ns (i * k) (i * k+k)
  rw [<- ea,<- eb,Nat.add_sub_cancel_left] at ec
  dsimp only [gName,tYes]
  refine iteT ⟨_,rfl,_,rfl,_,rfl,_,rfl,_,rfl,_,_,rfl,rfl,_,rfl,a,_,rfl,SqL.of (sm _ _ ha),fun l hl1 => ?_⟩
  rw [ec]
  refine ⟨l,_,rfl,.inl ⟨SqL.of zB,fun l2 hl2 => ?_⟩⟩
  have s1:Same H' (upd (upd H' l (.lst (((ns.drop (i * k)).take k).map V.int))) l2 (.tup (((ns.drop (i * k)).take k).map V.int))):=(zE hl1 _).trans (zE hl2 _)
  have hy':=s1 _ _ hy
  have yl:ys.length<=1000000:=by
   have e1:=Paired.len pr
   have e2:=List.length_take_le i (grp k ns)
   have e3:(ns.length+(k - 1)) / k<=1000000:=by rcases hk with rfl | rfl <;> (first|lia|omega)
   (first|lia|omega)
  refine ⟨ys,hy',Nat.lt_of_le_of_lt yl (by decide),CW.next hi ⟨_,zB,hi,?_,?_,_,rfl⟩⟩
  ·exact (sm.trans s1).fresh hp
  ·rw [grp_next hi]
   refine Paired.append (Paired.imp (fun _ _ x=>(x.same s1).upd hy') pr) (.cons ?_ .nil)
   exact TupAt.upd ⟨l2,rfl,zB⟩ hy'
 ·rintro σ' H' ⟨ys,hy,_,sm,pr,_⟩
  have ht:(grp k ns).take ((ns.length+(k - 1)) / k)=grp k ns:=List.take_of_length_le (by unfold grp; simp)
  rw [ht] at pr
  exact q p H' sm hp ⟨ys,hy,pr⟩
theorem ok_heads_in (T:Txt K mg) (F:Fun K "heads_in" "heads_in" s_heads_in f fd) (Cgrouped:Cal P w K mg base (CXE P w) 1 "grouped" ["numbers", "size"] spGrouped):FnOk P w K mg base (CXE P w) 2 f fd ["numbers"] spHeadsIn:=by
 refine F.okN sc_heads_in (fun vs H Q E h => ?_) (fun cdv A outer s H vs Q E hr h => ?_)
 ·obtain ⟨a,ns,rfl,_⟩ := h
  rfl
 obtain ⟨a,ns,rfl,ha,hl,⟨n,ms,e,hn,hn'⟩,q⟩ := h
 refine ⟨_,(zG (zS (zH Cgrouped hr rfl (zA (jU wG (pv 0) (jT zF) (jT (zP zY zF (zP kL (zI rfl T.m_HEAD_SIZE) (yC yN (pv 0) zF (fun _ _=>rfl)))))) (zA (zI rfl T.m_HEAD_SIZE) zC)) passN))),?_⟩
 try dsimp only [Cx.nox,Cx.exc,Cx.wish,zX]
 refine ⟨_,rfl,_,rfl,_,rfl,a,_,_,_,rfl,rfl,SqL.of ha,at_zero e,_,_,rfl,rfl,mul3 hn hn',_,_,rfl,rfl,_,rfl,a,_,rfl,SqL.of ha,fun l hl1 => ?_⟩
 rw [head_cut e hn]
 have hh:(headNums ns).length<=ns.length:=by unfold headNums; simp; (first|lia|omega)
 exact ⟨l,headNums ns,3,rfl,.inr rfl,zB,by (first|lia|omega),fun r H' g1 g2 g3=>q r H' ((zE hl1 _).trans g1) ((zE hl1 _).free g2) g3⟩
theorem ok_rows_in (T:Txt K mg) (F:Fun K "rows_in" "rows_in" s_rows_in f fd) (Cgrouped:Cal P w K mg base (CXE P w) 1 "grouped" ["numbers", "size"] spGrouped):FnOk P w K mg base (CXE P w) 2 f fd ["numbers"] spRowsIn:=by
 refine F.okN sc_rows_in (fun vs H Q E h => ?_) (fun cdv A outer s H vs Q E hr h => ?_)
 ·obtain ⟨a,ns,rfl,_⟩ := h
  rfl
 obtain ⟨a,ns,rfl,ha,hl,⟨n,ms,e,hn,hn'⟩,q⟩ := h
 refine ⟨_,(zG (zS (zH Cgrouped hr rfl (zA (jU wG (pv 0) (jT (zP zY zF (zP kL (zI rfl T.m_HEAD_SIZE) (yC yN (pv 0) zF (fun _ _=>rfl))))) wP) (zA (zI rfl T.m_ROW_SIZE) zC)) passN))),?_⟩
 try dsimp only [Cx.nox,Cx.exc,Cx.wish,zX]
 refine ⟨_,rfl,_,rfl,a,_,_,_,rfl,rfl,SqL.of ha,at_zero e,_,_,rfl,rfl,mul3 hn hn',_,_,rfl,rfl,_,rfl,a,_,rfl,SqL.of ha,fun l hl1 => ?_⟩
 rw [row_cut e hn]
 have hh:(rowNums ns).length<=ns.length:=by unfold rowNums; simp
 exact ⟨l,rowNums ns,2,rfl,.inl rfl,zB,by (first|lia|omega),fun r H' g1 g2 g3=>q r H' ((zE hl1 _).trans g1) ((zE hl1 _).free g2) g3⟩
theorem ok_wholes (T:Txt K mg) (F:Fun K "is_list_of_wholes" "is_list_of_wholes" xK f fd) (Cis_whole:Cal P w K mg base (CXE P w) 1 "is_whole" ["thing"] spWhole):FnOk P w K mg base (CXE P w) 2 f fd ["thing"] spWholes:=by
 refine F.okN sc_is_list_of_wholes (fun vs H Q E h => ?_) (fun cdv A outer s H vs Q E hr h => ?_)
 ·obtain ⟨a,ns,rfl,_⟩ := h
  rfl
 obtain ⟨a,ns,rfl,ha,hl,q⟩ := h
 refine ⟨_,(zG (zS (pe_and (zR kJ rfl T.n_isinstance yM (zA (pv 0) (zA (xW (v:=.ty "list") rfl T.n_list wW rfl) zC))) (pe_one (zR (call_all rfl) rfl T.n_all bt_all (zA (qM (own:=["number"]) (ys:=[]) rfl (xL (pv 0)) (xV (sc:=defScope xK) rfl (by decide +kernel)) .nil (fun _ _ _ _ _=>(zL (i:=0) (show List.Nodup [("number" : Str)] from (by decide +kernel)) rfl (Or.inl rfl))) (fun _ _ _ _ _=>kD) (fun _ _ _ _ _=>(zH Cis_whole hr rfl (zA (pv 0) zC) passN))) zC)))))),?_⟩
 try dsimp only [Cx.nox,Cx.exc,Cx.wish,zX]
 refine ⟨_,rfl,.inl ⟨_,_,_,true,rfl,.lst ha,T.klist,_,rfl,iteT ?_⟩⟩
 refine ⟨_,rfl,a,rfl,⟨_,SqL.of ha⟩,fun p hp => ?_⟩
 refine wD (xs:=ns.map V.int) (fun i σ' H'=>H'=upd H p (.lst ((List.replicate i true).map V.bl))/\∃ x,σ'=[x]) ⟨rfl,_,rfl⟩ ?_ ?_ ?_
 ·rintro i σ' H' _ ⟨rfl,_⟩
  exact SqL.of (zE hp _ _ _ ha)
 ·rintro i x σ' H' hi hx ⟨rfl,y,rfl⟩
  obtain ⟨n,rfl⟩ : ∃ n,x = .int n:=by
   rw [List.getElem?_map] at hx
   cases e:ns[i]? with
   | none=>rw [e] at hx; cases hx
   | some n=>rw [e] at hx; cases hx; exact ⟨n,rfl⟩
  dsimp only [gName,tYes]
  have hi':i<ns.length:=by rw [List.length_map] at hi; exact hi
  refine iteT ⟨_,rfl,n,rfl,_,zB,?_,CW.next hi ⟨?_,_,rfl⟩⟩
  ·rw [List.length_map,List.length_replicate]
   exact Nat.lt_of_lt_of_le hi' (Nat.le_trans hl (by decide))
  ·have e:(List.replicate i true).map V.bl++[V.bl true]=(List.replicate (i+1) true).map V.bl:=by
    rw [List.replicate_succ',List.map_append] <;> rfl
   rw [e,upd_upd]
 ·rintro σ' H' ⟨rfl,_⟩
  refine ⟨p,_,rfl,SqL.of zB,?_⟩
  have e:(List.replicate (ns.map V.int).length true).all id=true:=by
   rw [List.all_eq_true]
   intro b hb
   rw [(List.mem_replicate.mp hb).2] <;> rfl
  rw [e]
  exact q _ (zE hp _)
theorem ok_is_code (T:Txt K mg) (F:Fun K "is_code" "is_code" s_is_code f fd) (Cis_list_of_wholes:Cal P w K mg base (CXE P w) 2 "is_list_of_wholes" ["thing"] spWholes) (Cheads_in:Cal P w K mg base (CXE P w) 2 "heads_in" ["numbers"] spHeadsIn) (Crows_in:Cal P w K mg base (CXE P w) 2 "rows_in" ["numbers"] spRowsIn)
  (Cis_head:Cal P w K mg base (CXE P w) 1 "is_head" ["head", "function", "many_rows"] spIsHead) (Cis_row:Cal P w K mg base (CXE P w) 2 "is_row" ["row", "many_functions", "many_rows"] spIsRow):FnOk P w K mg base (CXE P w) 3 f fd ["thing"] spIsCode:=by
 refine F.okN kY (fun vs H Q E h => ?_) (fun cdv A outer s H vs Q E hr h => ?_)
 ·obtain ⟨a,ns,rfl,_⟩ := h
  rfl
 obtain ⟨a,ns,rfl,ha,hl,q⟩ := h
 refine ⟨_,(zD (zW (PW.pt (kM (qB (qA (zH Cis_list_of_wholes hr rfl (zA (pv 0) zC) passN))) (jS (zN yK (zR zM rfl T.n_len yI (zA (pv 0) zC)) zF (nomark _))))) (zG (zS pe_bl)) zT)
   (zD (zW (PW.pt (kM (zN qQ (yC yN (pv 0) zF (fun _ _=>rfl)) zF (nomark _)) (jS (zN op_gt (yC yN (pv 0) zF (fun _ _=>rfl)) (zI rfl T.m_MOST_FUNCTIONS) (nomark _))))) (zG (zS pe_bl)) zT)
   (zD (zJ (i:=1) kY.nd rfl (Or.inl rfl) (zP jV (zP jV (zR zM rfl T.n_len yI (zA (pv 0) zC)) zF) (zP kL (zI rfl T.m_HEAD_SIZE) (yC yN (pv 0) zF (fun _ _=>rfl)))))
   (zD (zW (PW.pt (kM (zN qQ (pv 1) (zI rfl T.m_ROW_SIZE) (nomark _)) (jS (zN op_ne (zP op_mod (pv 1) (zI rfl T.m_ROW_SIZE)) zF (nomark _))))) (zG (zS pe_bl)) zT)
   (zD (zJ (i:=2) kY.nd rfl (Or.inr rfl) (zP qE (pv 1) (zI rfl T.m_ROW_SIZE)))
   (zD (yY PassesOwn.never rfl (pi_enum rfl T.n_enumerate (zA (zH Cheads_in hr rfl (zA (pv 0) zC) passN) zC)) (xS rfl (zQ (zL (i:=3) kY.nd rfl (Or.inl rfl)) (zQ (zL (i:=4) kY.nd rfl (Or.inl rfl)) yW))) (zG (zW (qB (qA (zH Cis_head hr rfl (zA (pv 4) (zA (pv 3) (zA (pv 2) zC))) passN))) (zG (zS pe_bl)) zT)))
   (zG (zS (zR (call_all rfl) rfl T.n_all bt_all (zA (qM (own:=["row"]) (ys:=["many_rows", "thing"]) rfl (xL (zH Crows_in hr rfl (zA (pv 0) zC) passN)) (xV (sc:=defScope s_is_code) rfl (by decide +kernel)) (.cons (j:=2) rfl (.cons (j:=0) rfl .nil)) (fun _ _ _ _ _=>(zL (i:=0) (show List.Nodup [("row" : Str),("many_rows" : Str),("thing" : Str)] from (by decide +kernel)) rfl (Or.inl rfl))) (fun _ _ _ _ _=>kD) (fun _ _ _ _ _=>(zH Cis_row hr rfl (zA (pv 0) (zA (yC (ix_listK K rfl) (pv 2) zF (fun _ _=>rfl)) (zA (pv 1) zC))) passN))) zC)))))))))),?_⟩
 try dsimp only [Cx.nox,Cx.exc,Cx.wish,zX]
 refine ⟨_,rfl,a,ns,rfl,ha,hl,fun H1 g1=>⟨_,rfl,iteF ?_⟩⟩
 have bad:∀ H',Same H H'->¬ CodeOk ns->Q (.bl false) H':=fun H' g c=>q false H' g ⟨fun e=>(nomatch e),fun e=>absurd e c⟩
 have ha1:=g1 _ _ ha
 refine ⟨_,rfl,a,_,rfl,.inl (SqL.of ha1),rfl,_,rfl,ite2 (fun c => ?_) (fun c => ?_)⟩
 ·have e0:=vt c
  refine bad H1 g1 fun z => ?_
  obtain ⟨n,ms,e,_⟩ := z.big
  rw [e] at e0
  rw [List.length_map,List.length_cons] at e0
  (first|lia|omega)
 have e0:=vf c
 obtain ⟨n,ms,e⟩ : ∃ n ms,ns=n :: ms:=by
  cases ns with
  | nil=>exact absurd rfl e0
  | cons n ms=>exact ⟨n,ms,rfl⟩
 have a0:=at_zero e
 refine ⟨_,rfl,a,_,_,_,rfl,rfl,SqL.of ha1,a0,_,_,rfl,rfl,_,rfl,ite2 (fun c=>iteT ?_) (fun c => ?_)⟩
 ·have c':=of_decide_eq_true c
  refine bad H1 g1 fun z => ?_
  obtain ⟨n',ms',e',h1,_⟩ := z.big
  rw [e] at e'
  injection e' with e' _
  (first|lia|omega)
 have n1:=df c
 refine ⟨_,rfl,a,_,_,_,rfl,rfl,SqL.of ha1,a0,_,_,rfl,rfl,_,rfl,ite2 (fun c => ?_) (fun c => ?_)⟩
 ·have c':=of_decide_eq_true c
  refine bad H1 g1 fun z => ?_
  obtain ⟨n',ms',e',_,h1,_⟩ := z.big
  rw [e] at e'
  injection e' with e' _
  (first|lia|omega)
 have n16:=df c
 have hlen:((ns.map V.int).length:Int)=ms.length+1:=by rw [e,List.length_map,List.length_cons] <;> rfl
 refine ⟨_,rfl,a,_,rfl,.inl (SqL.of ha1),_,_,rfl,rfl,_,rfl,a,_,_,_,rfl,rfl,SqL.of ha1,a0,_,_,rfl,rfl,mul3 (by (first|lia|omega)) (by (first|lia|omega)),_,_,rfl,rfl,?_⟩
 refine ⟨_,rfl,_,_,rfl,rfl,_,rfl,ite2 (fun c=>iteT ?_) (fun c => ?_)⟩
 ·have c':=of_decide_eq_true c
  refine bad H1 g1 fun z => ?_
  obtain ⟨n',ms',e',_,_,h1,_⟩ := z.big
  rw [e] at e'
  injection e' with e' e''
  subst e' e''
  (first|lia|omega)
 have n2:=df c
 refine ⟨_,rfl,_,_,rfl,rfl,(by decide:(0:Int)<2),rfl,_,rfl,ite2 (fun c => ?_) (fun c => ?_)⟩
 ·have c':(((ns.map V.int).length:Int) - 1 - 3 * n) % 2≠0:=fun z=>by
   have y:decide (V.int ((((ns.map V.int).length:Int) - 1 - 3 * n) % 2)=V.int 0)=true:=decide_eq_true (by rw [z])
   have c2:(!decide (V.int ((((ns.map V.int).length:Int) - 1 - 3 * n) % 2)=V.int 0))=true:=c
   rw [y] at c2
   exact nomatch c2
  refine bad H1 g1 fun z => ?_
  obtain ⟨n',ms',e',_,_,_,h1⟩ := z.big
  rw [e] at e'
  injection e' with e' e''
  subst e' e''
  (first|lia|omega)
 have even:(((ns.map V.int).length:Int) - 1 - 3 * n) % 2=0:=Decidable.byContradiction fun z=>c (by
  have:decide (V.int ((((ns.map V.int).length:Int) - 1 - 3 * n) % 2)=V.int 0)=false:=decide_eq_false fun y=>by injection y with y; exact z y
  show (!decide (V.int ((((ns.map V.int).length:Int) - 1 - 3 * n) % 2)=V.int 0))=true
  rw [this] <;> rfl)
 have hR:(rowNums ns).length=ms.length - 3 * n.toNat:=by
  rw [e]
  show (List.drop (1+3 * n.toNat) (n :: ms)).length=_
  rw [List.length_drop,List.length_cons]
  (first|lia|omega)
 have hHd:(headNums ns).length=3 * n.toNat:=by
  rw [e]
  show (List.take (3 * n.toNat) ms).length=_
  rw [List.length_take]
  (first|lia|omega)
 have hN:(ns.headD 0).toNat=n.toNat:=by rw [e] <;> rfl
 have big:∃ n ms,ns=n :: ms/\1<=n/\n<=16/\3 * n+2<=ms.length/\(ms.length - 3 * n.toNat) % 2=0:=⟨n,ms,e,by (first|lia|omega),by (first|lia|omega),by (first|lia|omega),by (first|lia|omega)⟩
 obtain ⟨mr,emr⟩ : ∃ mr:Nat,(((ns.map V.int).length:Int) - 1 - 3 * n) / 2=(mr:Int)/\mr=(rowNums ns).length / 2:=⟨(rowNums ns).length / 2,by (first|lia|omega),rfl⟩
 have hm:Same H H1/\(∃ n ms,ns=n :: ms/\0<=n/\n<=16):=⟨g1,n,ms,e,by (first|lia|omega),by (first|lia|omega)⟩
 refine ⟨_,rfl,_,_,rfl,rfl,⟨by decide,by decide⟩,?_⟩
 refine ⟨_,rfl,a,ns,rfl,ha1,hl,hm.2,fun l H2 g2 hl2 at2 => ?_⟩
 obtain ⟨rs,er,pr⟩ := at2
 obtain ⟨em1,em2⟩ := emr
 have g12:=g1.trans g2
 have ltH:∀ j g,(grp 3 (headNums ns))[j]? = some g->j<rs.length:=fun j g hg=>by
  rw [Paired.len pr]
  exact (List.getElem?_eq_some_iff.mp hg).1
 refine ⟨l,rs,rfl,SqL.of er,for_enum (xs:=rs) (fun i σ' H'=>∃ v3 v4,σ'=[some (.ref a),some (.int (((ns.map V.int).length:Int) - 1 - 3 * n)),some (.int (mr:Int)),v3,v4]/\Same H2 H'/\∀ j g,j<i->(grp 3 (headNums ns))[j]? = some g->isHead g j mr) ⟨_,_,by rw [<- em1]; rfl,Same.refl _,fun j g z=>absurd z (Nat.not_lt_zero j)⟩ ?_ ?_ ?_⟩
 ·rintro i σ' H' _ ⟨v3,v4,rfl,g,_⟩
  exact SqL.of (g _ _ er)
 ·rintro i x σ' H' t hx ⟨v3,v4,rfl,g3,hb⟩ ht
  obtain ⟨gx,hg,th,rfl,eth⟩ := Paired.yonder pr hx
  obtain ⟨s0,p0,b0,rfl⟩ := len3 (grp_get (.inr rfl) (by rw [hHd]; (first|lia|omega)) hg)
  have g4:=g3.trans (zE ht (.tup [.int (i:Nat),.ref th]))
  refine ⟨t,_,rfl,SqT.of zB,rfl,_,_,rfl,_,_,rfl,rfl,?_⟩
  refine ⟨_,rfl,_,rfl,_,rfl,th,s0,p0,b0,i,mr,rfl,g4 _ _ eth,fun r z=>⟨_,rfl,?_⟩⟩
  cases r with
  | false =>
   refine iteT (bad _ (g12.trans g4) fun y => ?_)
   obtain ⟨s1,p1,b1,e1,ok⟩ := y.heads i _ hg
   cases e1
   rw [<- em2] at ok
   exact nomatch z.mpr ok
  | true =>
   refine iteF ⟨_,_,rfl,g4,fun j g hj hg' => ?_⟩
   by_cases hji:j<i
   ·exact hb j g hji hg'
   ·have:j=i:=by (first|lia|omega)
    subst this
    rw [hg] at hg'
    cases hg'
    exact ⟨s0,p0,b0,rfl,z.mp rfl⟩
 ·rintro σ' H' ⟨v3,v4,rfl,g3,hb⟩
  have ha3:=g3 _ _ (g12 _ _ ha)
  refine ⟨_,rfl,a,ns,rfl,ha3,hl,hm.2,fun l3 H3 g4 hl3 at3 => ?_⟩
  obtain ⟨rs2,er2,pr2⟩ := at3
  have ltR:∀ j g,(grp 2 (rowNums ns))[j]? = some g->j<rs2.length:=fun j g hg=>by
   rw [Paired.len pr2]
   exact (List.getElem?_eq_some_iff.mp hg).1
  have rl:rs2.length<=1000000:=by
   rw [Paired.len pr2,grp_len,hR]
   rw [e,List.length_cons] at hl
   (first|lia|omega)
  refine ⟨l3,rfl,⟨_,SqL.of er2⟩,fun p hp => ?_⟩
  refine wD (xs:=rs2) (fun i σ' H'=>∃ bs:List Bool,H' p=some (.lst (bs.map V.bl))/\bs.length=i/\Same H3 H'/\(bs.all id=true ↔ ∀ j g,j<i->(grp 2 (rowNums ns))[j]? = some g->isRow g n.toNat mr)/\∃ x,σ'=[x,some (.int (mr:Int)),some (.ref a)]) ⟨[],zB,rfl,zE hp _,⟨fun _ j g z=>absurd z (Nat.not_lt_zero j),fun _=>rfl⟩,_,rfl⟩ ?_ ?_ ?_
  ·rintro i σ' H' _ ⟨bs,_,_,g,_⟩
   exact SqL.of (g _ _ er2)
  ·rintro i x σ' H' hi hx ⟨bs,eb,lb,g5,ib,y,rfl⟩
   obtain ⟨gx,hg,th,rfl,eth⟩ := Paired.yonder pr2 hx
   obtain ⟨op,nu,rfl⟩ := len2 (grp_get (.inl rfl) (by rw [hR]; (first|lia|omega)) hg)
   dsimp only [gName,tYes]
   refine iteT ⟨_,rfl,_,rfl,a,_,_,_,rfl,rfl,SqL.of (g5 _ _ (g4 _ _ ha3)),a0,_,rfl,th,op,nu,n,mr,rfl,g5 _ _ eth,fun r H5 g6 z => ?_⟩
   refine ⟨_,g6 _ _ eb,?_,CW.next hi ⟨bs++[r],?_,?_,(g5.trans g6).fresh hp,?_,_,rfl⟩⟩
   ·rw [List.length_map,lb]
    exact Nat.lt_of_lt_of_le hi (Nat.le_trans rl (by decide))
   ·rw [List.map_append]; exact zB
   ·rw [List.length_append,lb] <;> rfl
   ·have hnn:((n.toNat:Nat):Int)=n:=by (first|lia|omega)
    rw [all_snoc,ib,z]
    constructor
    ·rintro ⟨h1,h2⟩ j g hj hg'
     by_cases hji:j<i
     ·exact h1 j g hji hg'
     ·have:j=i:=by (first|lia|omega)
      subst this
      rw [hg] at hg'
      cases hg'
      exact ⟨op,nu,rfl,by rw [hnn]; exact h2⟩
    ·intro h
     refine ⟨fun j g hj hg'=>h j g (by (first|lia|omega)) hg',?_⟩
     obtain ⟨o1,n1',e1,ok⟩ := h i _ (Nat.lt_succ_self i) hg
     cases e1
     rw [hnn] at ok
     exact ok
  ·rintro σ' H' ⟨bs,eb,lb,g5,ib,_⟩
   refine ⟨p,bs,rfl,SqL.of eb,q _ _ (g12.trans (g3.trans (g4.trans g5))) (ib.trans ⟨fun h=>⟨big,fun j g hg => ?_,fun g hg => ?_⟩,fun z j g hj hg => ?_⟩)⟩
   ·rw [<- em2]
    exact hb j g (ltH j g hg) hg
   ·obtain ⟨j,hj⟩ := List.mem_iff_getElem?.mp hg
    rw [hN,<- em2]
    exact h j g (ltR j g hj) hj
   ·have:=z.rows g (List.mem_iff_getElem?.mpr ⟨j,hg⟩)
    rw [hN,<- em2] at this
    exact this

theorem is_seq (T:Txt K mg) {H:Hp} {a:Addr} {xs:List V} (h:Sq K H a xs):∃ TT,((TT = "list" /\ ∃ ys,SqL K H a ys)\/(TT = "tuple" /\ ∃ ys,SqT K H a ys))/\PySem.W.kitAny K (.type TT) (["list", "tuple"].map Value.type)=some true:=by
 rcases h with h | h
 ·exact ⟨"list",.inl ⟨rfl,xs,h⟩,T.kal⟩
 ·exact ⟨"tuple",.inr ⟨rfl,xs,h⟩,T.kat⟩
theorem ok_joined (T:Txt K mg) (F:Fun K "joined" "joined" s_joined f fd):FnOk P w K mg base (CXE P w) 1 f fd ["things", "size"] (spJoined K):=by
 refine F.okN sc_joined (fun vs H Q E h => ?_) (fun cdv A outer s H vs Q E hr h => ?_)
 ·obtain ⟨a,gs,xs,k,rfl,_⟩ := h
  rfl
 obtain ⟨a,gs,xs,k,rfl,hq,pr,hg,hgl,hk,q⟩ := h
 refine ⟨_,(zD (zW (qB (qA (zR call_isiT rfl T.n_isinstance yM (zA (pv 0) (zA (zU (zA (xW (v:=.ty "list") rfl T.n_list wW rfl) (zA (xW (v:=.ty "tuple") rfl T.n_tuple wF rfl) zC))) zC))))) (zG ps_never) zT)
   (zD (zJ (i:=2) sc_joined.nd rfl (Or.inl rfl) (yF zC))
   (zD (yY PassesOwn.never rfl (pi_seq (pv 0)) (zL (i:=3) sc_joined.nd rfl (Or.inl rfl)) (zD (zW (PW.pt (kM (qB (qA (zR call_isiT rfl T.n_isinstance yM (zA (pv 3) (zA (zU (zA (xW (v:=.ty "list") rfl T.n_list wW rfl) (zA (xW (v:=.ty "tuple") rfl T.n_tuple wF rfl) zC))) zC))))) (jS (zN op_ne (zR zM rfl T.n_len yI (zA (pv 3) zC)) (pv 1) (nomark _))))) (zG ps_never) zT)
   (zG (yB (jD PySem.F.plainAttrs_list PySem.F.slot_list_extend PySem.F.type_list_extend mt_extendU (pv 2) (zA (pv 3) zC))))))
   (zG (zS (pv 2)))))),?_⟩
 try dsimp only [Cx.nox,Cx.exc,Cx.wish,zX]
 refine ⟨_,rfl,sm2,fun tp htp => ?_⟩
 have g1:=zE htp (.tup (["list", "tuple"].map V.ty))
 obtain ⟨TT,h1,h2⟩ := is_seq T (Sq.same g1 hq)
 refine ⟨a,tp,["list", "tuple"],true,TT,rfl,zB,h1,h2,_,rfl,iteF ?_⟩
 refine ⟨sm0,fun l hl1 => ?_⟩
 have s1:Same H (upd (upd H tp (.tup (["list", "tuple"].map V.ty))) l (.lst [])):=g1.trans (zE hl1 _)
 have hl0:H l=none:=g1.free hl1
 refine ⟨_,rfl,a,rfl,for_seq (xs:=xs) hq (fun i σ' H'=>∃ v3,σ'=[some (.ref a),some (.int (k:Nat)),some (.ref l),v3]/\H' l=some (.lst ((gs.take i).flatten.map V.int))/\Same H H') ⟨_,rfl,zB,s1⟩ ?_ ?_ ?_⟩
 ·rintro i σ' H' _ ⟨v3,rfl,el,sm⟩
  exact sm
 ·rintro i x σ' H' hx ⟨v3,rfl,el,sm⟩
  obtain ⟨g,hgx,t,rfl,ht⟩ := Paired.yonder pr hx
  have hlg:=hg g (List.mem_iff_getElem?.mpr ⟨_,hgx⟩)
  refine ⟨_,rfl,sm2,fun tp2 htp2 => ?_⟩
  have g2:=zE htp2 (.tup (["list", "tuple"].map V.ty))
  have hsq:Sq K (upd H' tp2 (.tup (["list", "tuple"].map V.ty))) t (g.map V.int):=ht.imp (fun e=>SqL.of (g2 _ _ (sm _ _ e))) (fun e=>SqT.of (g2 _ _ (sm _ _ e)))
  obtain ⟨TT,h1,h2⟩ := is_seq T hsq
  refine ⟨t,tp2,["list", "tuple"],true,TT,rfl,zB,h1,h2,_,rfl,iteF ?_⟩
  refine ⟨_,rfl,t,_,rfl,hsq,_,rfl,rfl,_,rfl,iteNS (congrArg V.int (by rw [List.length_map,hlg])) ?_⟩
  have hl':=g2 _ _ el
  have hfl:(gs.take i).flatten.length<=3000:=by
   rw [fl_len (k:=k) fun x hx=>hg x (List.mem_of_mem_take hx)]
   have:(gs.take i).length<=1000:=Nat.le_trans (List.length_take_le' ..) hgl
   exact Nat.le_trans (Nat.mul_le_mul this hk) (by decide)
  have hb:((gs.take i).flatten.map V.int).length+(g.map V.int).length<=sizeLine:=by
   rw [List.length_map,List.length_map,hlg]
   exact Nat.le_trans (show _<=3003 by (first|lia|omega)) (by decide)
  have en:((gs.take i).flatten.map V.int)++(g.map V.int)=(gs.take (i+1)).flatten.map V.int:=by rw [fl_take hgx,List.map_append]
  refine ⟨_,rfl,.inl ⟨rfl,_,SqL.of hl'⟩,_,rfl,?_⟩
  rcases ht with ht | ht
  ·refine .inl ⟨l,t,_,_,rfl,rfl,hl',g2 _ _ (sm _ _ ht),hb,?_⟩
   rw [en]
   exact ⟨_,rfl,zB,(sm.trans g2).fresh hl0⟩
  ·refine .inr ⟨l,t,_,_,rfl,rfl,hl',g2 _ _ (sm _ _ ht),hb,?_⟩
   rw [en]
   exact ⟨_,rfl,zB,(sm.trans g2).fresh hl0⟩
 ·rintro σ' H' ⟨v3,rfl,el,sm⟩
  have e:gs.take xs.length=gs:=List.take_of_length_le (by rw [Paired.len pr]; exact Nat.le_refl _)
  rw [e] at el
  exact ⟨_,rfl,q l H' sm hl0 el⟩
theorem ok_code_of (T:Txt K mg) (F:Fun K "code_of" "code_of" s_code_of f fd) (Cjoined:Cal P w K mg base (CXE P w) 1 "joined" ["things", "size"] (spJoined K)) (Cis_code:Cal P w K mg base (CXE P w) 3 "is_code" ["thing"] spIsCode):FnOk P w K mg base (CXE P w) 4 f fd ["heads", "rows"] (spCodeOf K):=by
 refine F.okN sc_code_of (fun vs H Q E h => ?_) (fun cdv A outer s H vs Q E hr h => ?_)
 ·obtain ⟨a,b,hs,rs,xs,ys,rfl,_⟩ := h
  rfl
 obtain ⟨a,b,hs,rs,xs,ys,rfl,hqa,pra,h3,ha3,hqb,prb,h2,hb2,hk,q⟩ := h
 refine ⟨_,(zD (zJ (i:=2) sc_code_of.nd rfl (Or.inl rfl) (zH Cjoined hr rfl (zA (pv 0) (zA (zI rfl T.m_HEAD_SIZE) zC)) passN))
   (zD (zJ (i:=3) sc_code_of.nd rfl (Or.inl rfl) (zP xB (zP xB (yF (zA (zP qE (zR zM rfl T.n_len yI (zA (pv 2) zC)) (zI rfl T.m_HEAD_SIZE)) zC)) (pv 2)) (zH Cjoined hr rfl (zA (pv 1) (zA (zI rfl T.m_ROW_SIZE) zC)) passN)))
   (zD (zW (qB (qA (zH Cis_code hr rfl (zA (pv 3) zC) passN))) (zG ps_never) zT)
   (zG (zS (pv 3)))))),?_⟩
 try dsimp only [Cx.nox,Cx.exc,Cx.wish,zX]
 refine ⟨_,rfl,a,hs,xs,3,rfl,hqa,pra,h3,ha3,by decide,fun l H1 g1 hl1 el => ?_⟩
 have lh:=fl_len h3
 have lr:=fl_len h2
 have e3:((hs.flatten.map V.int).length:Int) / 3=hs.length:=by rw [List.length_map,lh]; (first|lia|omega)
 refine ⟨_,rfl,l,_,rfl,.inl (SqL.of el),_,_,rfl,rfl,⟨by decide,by decide⟩,sm1,fun o ho => ?_⟩
 have eo:upd H1 o (.lst [V.int (((hs.flatten.map V.int).length:Int) / 3)]) o=some (.lst [V.int (hs.length:Int)]):=by rw [e3]; exact zB
 have g2:Same H1 (upd H1 o (.lst [V.int (((hs.flatten.map V.int).length:Int) / 3)])):=zE ho _
 have lz:(hs.flatten.map V.int).length<=3000:=by rw [List.length_map,lh]; (first|lia|omega)
 have lz2:(rs.flatten.map V.int).length<=2000:=by rw [List.length_map,lr]; (first|lia|omega)
 refine ⟨_,rfl,o,l,_,_,rfl,rfl,eo,g2 _ _ el,Nat.le_trans (show _<=3001 by simp only [List.length_cons,List.length_nil]; (first|lia|omega)) (by decide),fun o2 ho2 => ?_⟩
 have g3:=g2.trans (zE ho2 (.lst ([V.int (hs.length:Int)]++hs.flatten.map V.int)))
 have g13:=g1.trans g3
 refine ⟨_,rfl,b,rs,ys,2,rfl,Sq.same g13 hqb,Paired.imp (fun _ _ x=>x.same g13) prb,h2,hb2,by decide,fun l2 H2 g4 hl2 el2 => ?_⟩
 refine ⟨o2,l2,_,_,rfl,rfl,g4 _ _ zB,el2,Nat.le_trans (show _<=5001 by rw [List.length_append]; simp only [List.length_cons,List.length_nil]; (first|lia|omega)) (by decide),fun o3 ho3 => ?_⟩
 have ec:[V.int (hs.length:Int)]++hs.flatten.map V.int++rs.flatten.map V.int=(codeL hs rs).map V.int:=by
  unfold codeL
  rw [List.map_cons,List.map_append,List.append_assoc] <;> rfl
 rw [ec]
 have g5:=g13.trans (g4.trans (zE ho3 (.lst ((codeL hs rs).map V.int))))
 have lc:(codeL hs rs).length<=1000000:=by
  unfold codeL
  rw [List.length_cons,List.length_append,lh,lr]
  (first|lia|omega)
 refine ⟨_,rfl,o3,codeL hs rs,rfl,zB,lc,fun r H5 g6 z=>⟨_,rfl,?_⟩⟩
 rw [z.mpr hk]
 exact iteF ⟨_,rfl,q o3 H5 (g5.trans g6) ((g13.trans g4).free ho3) (g6 _ _ zB)⟩

end
section
variable {P:Program} {w:World} {K:PySem.W.Frag} {mg:Str->Option Value} {base:Heap} {f:Addr} {fd:FuncData} {aP CL CN CM:Addr}
set_option maxHeartbeats 4000000

noncomputable def MakO (C dx ha ra pa:Addr):HO:=.ins C dx [("heads",.ref ha),("rows",.ref ra),("paper",.ref pa)]
structure TxtK (K:PySem.W.Frag) (mg:Str->Option Value) (CM:Addr):Prop where
 n_len:mg "len" = none
 n_range:mg "range" = none
 n_enumerate:mg "enumerate" = none
 n_sorted:mg "sorted" = none
 m_NUMBER:GInt mg "NUMBER" 0
 m_GET:GInt mg "GET" 1
 m_SET:GInt mg "SET" 2
 m_ALL:GInt mg "ALL" 3
 m_PICK:GInt mg "PICK" 4
 m_LOOP:GInt mg "LOOP" 5
 m_CALL:GInt mg "CALL" 6
 m_FAIL:GInt mg "FAIL" 7
 m_OP_PUSH:GInt mg "OP_PUSH" 0
 m_OP_GET:GInt mg "OP_GET" 1
 m_OP_SET:GInt mg "OP_SET" 2
 m_OP_DROP:GInt mg "OP_DROP" 3
 m_OP_JUMP:GInt mg "OP_JUMP" 4
 m_OP_UNLESS:GInt mg "OP_UNLESS" 5
 m_OP_CALL:GInt mg "OP_CALL" 6
 m_OP_BACK:GInt mg "OP_BACK" 7
 m_OP_FAIL:GInt mg "OP_FAIL" 8
 m_OP_BREATH:GInt mg "OP_BREATH" 9
 m_OP_DO:GInt mg "OP_DO" 10
 m_OP_PICK:GInt mg "OP_PICK" 11
 mak:Cls K CM
 mheads:NoAttr K CM "heads"
 mrows:NoAttr K CM "rows"
 mpaper:NoAttr K CM "paper"
noncomputable def Kp2 (ra pa:Addr) (H H':Hp):Prop:=∀ b o,b≠ra->b≠pa->H b=some o->H' b=some o
theorem Kp2.trans {ra pa:Addr} {H H1 H2:Hp} (a:Kp2 ra pa H H1) (b:Kp2 ra pa H1 H2):Kp2 ra pa H H2:=fun c o n1 n2 e=>b c o n1 n2 (a c o n1 n2 e)
theorem Kp2.same {ra pa:Addr} {H H1:Hp} (s:Same H H1):Kp2 ra pa H H1:=fun c o _ _ e=>s c o e
theorem Kp2.rows {ra pa:Addr} {H:Hp} {o:HO}:Kp2 ra pa H (upd H ra o):=fun c u n _ e=>by rw [zK n]; exact e
theorem Kp2.paper {ra pa:Addr} {H:Hp} {o:HO}:Kp2 ra pa H (upd H pa o):=fun c u _ n e=>by rw [zK n]; exact e
structure MkA (C:Addr) (H:Hp) (mk dx ha ra pa:Addr) (gs ls:List (List Int)):Prop where
 ob:H mk=some (MakO C dx ha ra pa)
 rows:GrpAt H ra gs
 pap:GrpAt H pa ls
 ne:ra≠pa
theorem MkA.tups {C:Addr} {H H':Hp} {mk dx ha ra pa:Addr} {gs ls:List (List Int)} (h:MkA C H mk dx ha ra pa gs ls) (k:Kp2 ra pa H H'):Tups H H':=fun b xs e=>by
 obtain ⟨rs,er,_⟩ := h.rows
 obtain ⟨qs,eq,_⟩ := h.pap
 exact k b _ (fun z=>by rw [z,er] at e; cases e) (fun z=>by rw [z,eq] at e; cases e) e
theorem MkA.obk {C:Addr} {H H':Hp} {mk dx ha ra pa:Addr} {gs ls:List (List Int)} (h:MkA C H mk dx ha ra pa gs ls) (k:Kp2 ra pa H H'):H' mk=some (MakO C dx ha ra pa):=by
 obtain ⟨rs,er,_⟩ := h.rows
 obtain ⟨qs,eq,_⟩ := h.pap
 have e:=h.ob
 exact k mk _ (fun z=>by rw [z,er] at e; cases e) (fun z=>by rw [z,eq] at e; cases e) e
theorem MkA.same {C:Addr} {H H':Hp} {mk dx ha ra pa:Addr} {gs ls:List (List Int)} (h:MkA C H mk dx ha ra pa gs ls) (s:Same H H'):MkA C H' mk dx ha ra pa gs ls:=⟨s _ _ h.ob,h.rows.same s,h.pap.same s,h.ne⟩
theorem MkA.row {C:Addr} {H:Hp} {mk dx ha ra pa t:Addr} {gs ls:List (List Int)} {g:List Int} {rs:List V} (h:MkA C H mk dx ha ra pa gs ls) (et:H t=some (.tup (g.map V.int))) (er:H ra=some (.lst rs)):MkA C (upd H ra (.lst (rs++[.ref t]))) mk dx ha ra pa (gs++[g]) ls:=by
 obtain ⟨rs',er',pr⟩ := h.rows
 rw [er] at er'
 cases er'
 refine ⟨h.obk Kp2.rows,GrpAt.push er pr ⟨t,rfl,et⟩,h.pap.put er (Ne.symm h.ne),h.ne⟩
theorem MkA.line {C:Addr} {H:Hp} {mk dx ha ra pa t:Addr} {gs ls:List (List Int)} {g:List Int} {rs:List V} (h:MkA C H mk dx ha ra pa gs ls) (et:H t=some (.tup (g.map V.int))) (er:H pa=some (.lst rs)):MkA C (upd H pa (.lst (rs++[.ref t]))) mk dx ha ra pa gs (ls++[g]):=by
 obtain ⟨rs',er',pr⟩ := h.pap
 rw [er] at er'
 cases er'
 refine ⟨h.obk Kp2.paper,h.rows.put er h.ne,GrpAt.push er pr ⟨t,rfl,et⟩,h.ne⟩
theorem MkA.setR {C:Addr} {H:Hp} {mk dx ha ra pa t:Addr} {gs ls:List (List Int)} {g:List Int} {rs:List V} (i:Nat) (h:MkA C H mk dx ha ra pa gs ls) (et:H t=some (.tup (g.map V.int))) (er:H ra=some (.lst rs)):MkA C (upd H ra (.lst (rs.set i (.ref t)))) mk dx ha ra pa (gs.set i g) ls:=by
 obtain ⟨rs',er',pr⟩ := h.rows
 rw [er] at er'
 cases er'
 refine ⟨h.obk Kp2.rows,GrpAt.setAt i er pr ⟨t,rfl,et⟩,h.pap.put er (Ne.symm h.ne),h.ne⟩
theorem MkA.len {C:Addr} {H:Hp} {mk dx ha ra pa:Addr} {gs ls:List (List Int)} {rs:List V} (h:MkA C H mk dx ha ra pa gs ls) (er:H ra=some (.lst rs)):rs.length=gs.length:=by
 obtain ⟨rs',er',pr⟩ := h.rows
 rw [er] at er'
 cases er'
 exact Paired.len pr
inductive spOwnRow (vs:List V) (H:Hp) (Q:VK) (E:XK):Prop
 | mk (k:Int) (o:Addr) (own:List Int) (hs:Hds) (bx:Int) (h0:vs=[.int k,.ref o]) (h1:H o=some (.tup (own.map V.int))) (h2:OwnFit hs bx k own) (h3:k≠3) (h4:k≠4) (h5:k≠5) (h6:∀ t,H t=none->Q (.ref t) (upd H t (.tup ((ownR k own).map V.int)))):spOwnRow vs H Q E
theorem ok_own_row (T:TxtK K mg CM) (F:Fun K "own_row" "own_row" s_own_row f fd):FnOk P w K mg base (CXE P w) 1 f fd ["kind", "numbers"] spOwnRow:=by
 refine F.okN sc_own_row (fun vs H Q E h => ?_) (fun cdv A outer s H vs Q E hr h => ?_)
 ·obtain ⟨k,o,own,hs,bx,rfl,_⟩ := h
  rfl
 obtain ⟨k,o,own,hs,bx,rfl,ho,of,h3,h4,h5,q⟩ := h
 refine ⟨_,(zD (zW (zN yK (pv 0) (zI rfl T.m_NUMBER) (nomark _)) (zG (zS (zU (zA (zI rfl T.m_OP_PUSH) (zA (yC yU (pv 1) zF (fun _ _=>rfl)) zC))))) zT)
   (zD (zW (zN yK (pv 0) (zI rfl T.m_GET) (nomark _)) (zG (zS (zU (zA (zI rfl T.m_OP_GET) (zA (yC yU (pv 1) zF (fun _ _=>rfl)) zC))))) zT)
   (zD (zW (zN yK (pv 0) (zI rfl T.m_SET) (nomark _)) (zG (zS (zU (zA (zI rfl T.m_OP_SET) (zA (yC yU (pv 1) zF (fun _ _=>rfl)) zC))))) zT)
   (zD (zW (zN yK (pv 0) (zI rfl T.m_CALL) (nomark _)) (zG (zS (zU (zA (zI rfl T.m_OP_CALL) (zA (yC yU (pv 1) zF (fun _ _=>rfl)) zC))))) zT)
   (zD (zW (zN yK (pv 0) (zI rfl T.m_FAIL) (nomark _)) (zG (zS (zU (zA (zI rfl T.m_OP_FAIL) (zA zF zC))))) zT)
   (zG (zS (zU (zA (zI rfl T.m_OP_DO) (zA (pv 0) zC)))))))))),?_⟩
 try dsimp only [Cx.nox,Cx.exc,Cx.wish,zX]
 have one:∀ n,own=[n]->atI (own.map V.int) 0=some (.int n):=fun n e=>by rw [e]; rfl
 have ow:∀ j n:Int,own=[n]->(ownR k own)=[j,n]->∀ t,H t=none->Q (.ref t) (upd H t (.tup [.int j,.int n])):=fun j n e er t ht=>by
  have:=q t ht
  rw [er] at this
  exact this
 refine ⟨_,rfl,rfl,_,rfl,ite2 (fun c => ?_) (fun c0 => ?_)⟩
 ·have e:=vt c
  subst e
  rcases of with ⟨_,n,en⟩ | ⟨z,_⟩ | ⟨z,_⟩ | ⟨z,_⟩ | ⟨z,_⟩ | ⟨z,_⟩ <;> try (first|lia|omega)
  exact ⟨_,rfl,o,_,_,_,rfl,rfl,.of ho,one n en,sm2,ow 0 n en (by rw [en]; rfl)⟩
 have n0:=vf c0
 refine ⟨_,rfl,rfl,_,rfl,ite2 (fun c => ?_) (fun c1 => ?_)⟩
 ·have e:=vt c
  subst e
  rcases of with ⟨z,_⟩ | ⟨_,n,en,_⟩ | ⟨z,_⟩ | ⟨z,_⟩ | ⟨z,_⟩ | ⟨z,_⟩ <;> try (first|lia|omega)
  exact ⟨_,rfl,o,_,_,_,rfl,rfl,.of ho,one n en,sm2,ow 1 n en (by rw [en]; rfl)⟩
 have n1:=vf c1
 refine ⟨_,rfl,rfl,_,rfl,ite2 (fun c => ?_) (fun c2 => ?_)⟩
 ·have e:=vt c
  subst e
  rcases of with ⟨z,_⟩ | ⟨_,n,en,_⟩ | ⟨z,_⟩ | ⟨z,_⟩ | ⟨z,_⟩ | ⟨z,_⟩ <;> try (first|lia|omega)
  exact ⟨_,rfl,o,_,_,_,rfl,rfl,.of ho,one n en,sm2,ow 2 n en (by rw [en]; rfl)⟩
 have n2:=vf c2
 refine ⟨_,rfl,rfl,_,rfl,ite2 (fun c => ?_) (fun c6 => ?_)⟩
 ·have e:=vt c
  subst e
  rcases of with ⟨z,_⟩ | ⟨z,_⟩ | ⟨z,_⟩ | ⟨z,_⟩ | ⟨_,n,en,_⟩ | ⟨z,_⟩ <;> try (first|lia|omega)
  exact ⟨_,rfl,o,_,_,_,rfl,rfl,.of ho,one n en,sm2,ow 6 n en (by rw [en]; rfl)⟩
 have n6:=vf c6
 refine ⟨_,rfl,rfl,_,rfl,ite2 (fun c => ?_) (fun c7 => ?_)⟩
 ·have e:=vt c
  subst e
  exact ⟨sm2,q⟩
 have n7:=vf c7
 refine ⟨_,rfl,sm2,fun t ht => ?_⟩
 have:=q t ht
 have er:ownR k own=[10,k]:=by
  unfold ownR
  rw [if_neg (by (first|lia|omega)),if_neg n6,if_neg n7]
 rw [er] at this
 exact this
inductive spInitM (CM:Addr) (vs:List V) (H:Hp) (Q:VK) (E:XK):Prop
 | mk (x dx : _) (h0:vs=[.ref x]) (h1:H x=some (.ins CM dx [])) (h2:∀ (ha ra pa:Addr) (H':Hp),H ha=none->H ra=none->H pa=none->ha≠ra->ha≠pa->(∀ b o,b≠x->H b=some o->H' b=some o)->MkA CM H' x dx ha ra pa [] []->H' ha=some (.lst [])->Q .non H'):spInitM CM vs H Q E
theorem ok_initM (T:TxtK K mg CM) (F:Fun K "__init__" "Making.__init__" jR f fd):FnOk P w K mg base (CXE P w) 1 f fd ["self"] (spInitM CM):=by
 refine F.okN sc_Making___init__ (fun vs H Q E h => ?_) (fun cdv A outer s H vs Q E hr h => ?_)
 ·obtain ⟨x,dx,rfl,_⟩ := h
  rfl
 obtain ⟨x,dx,rfl,hx,q⟩ := h
 refine ⟨_,(zD (ps_fld (pv 0) (yF zC) rfl)
   (zD (ps_fld (pv 0) (yF zC) rfl)
   (zG (ps_fld (pv 0) (yF zC) rfl)))),?_⟩
 try dsimp only [Cx.nox,Cx.exc,Cx.wish,zX]
 refine ⟨sm0,fun ha hha=>⟨_,rfl,x,CM,dx,_,rfl,zE hha _ _ _ hx,T.mak,T.mheads,(show 0<1000 by decide),?_⟩⟩
 have nx:x≠ha:=zO hx hha
 refine ⟨sm0,fun ra hra=>⟨_,rfl,x,CM,dx,_,rfl,zE hra _ _ _ zB,T.mak,T.mrows,(show 1<1000 by decide),?_⟩⟩
 have nxr:x≠ra:=fun z=>by rw [<- z,zB] at hra; cases hra
 rw [zK (Ne.symm nxr)] at hra
 have nhr:ha≠ra:=fun z=>by rw [<- z,zB] at hra; cases hra
 rw [zK (Ne.symm nhr)] at hra
 refine ⟨sm0,fun pa hpa=>⟨_,rfl,x,CM,dx,_,rfl,zE hpa _ _ _ zB,T.mak,T.mpaper,(show 2<1000 by decide),?_⟩⟩
 have nxp:x≠pa:=fun z=>by rw [<- z,zB] at hpa; cases hpa
 rw [zK (Ne.symm nxp)] at hpa
 have nrp:ra≠pa:=fun z=>by rw [<- z,zB] at hpa; cases hpa
 rw [zK (Ne.symm nrp),zK (Ne.symm nxp)] at hpa
 have nhp:ha≠pa:=fun z=>by rw [<- z,zB] at hpa; cases hpa
 rw [zK (Ne.symm nhp)] at hpa
 refine q ha ra pa _ hha hra hpa nhr nhp (fun b o nb e => ?_) ⟨zB,⟨[],?_,.nil⟩,⟨[],?_,.nil⟩,nrp⟩ ?_
 ·rw [zK nb,zK (zO e hpa),zK nb,zK (zO e hra),zK nb,zK (zO e hha)]
  exact e
 ·rw [zK (Ne.symm nxr),zK nrp,zK (Ne.symm nxr)]
  exact zB
 ·rw [zK (Ne.symm nxp)]
  exact zB
 ·rw [zK (Ne.symm nx),zK nhp,zK (Ne.symm nx),zK nhr,zK (Ne.symm nx)]
  exact zB
inductive spMakeN (CM:Addr) (hs:Hds) (d:Nat) (vs:List V) (H:Hp) (Q:VK) (E:XK):Prop
 | mk (mk dx ha ra pa:Addr) (v:V) (nd:Nd) (gs ls:List (List Int)) (bx:Int) (h0:vs=[.ref mk,v]) (h1:MkA CM H mk dx ha ra pa gs ls) (h2:NodeAt H d v nd) (h3:FitT hs bx d (bare nd)) (h4:gs.length+rl (bare nd)<=100000) (h5:ls.length+ndN nd<=100000) (h6:∀ H',Kp2 ra pa H H'->MkA CM H' mk dx ha ra pa (gs++mkT gs.length (bare nd)) (ls++poN gs.length nd)->Q .non H'):spMakeN CM hs d vs H Q E
inductive spMakeP (CM:Addr) (hs:Hds) (d:Nat) (k:Int) (ok:List Tr->Prop) (c:Nat->List Tr->List (List Int)) (more:Nat->Nat) (o:Nat) (vs:List V) (H:Hp) (Q:VK) (E:XK):Prop
 | mk (mk dx ha ra pa qa:Addr) (us:List V) (ps:List Nd) (gs ls:List (List Int)) (bx:Int) (h0:vs=[.ref mk,.ref qa]) (h1:MkA CM H mk dx ha ra pa gs ls) (h2:H qa=some (.tup us)) (h3:Paired (NodeAt H d) us ps) (h4:FitTs hs bx d (bareL ps)) (h5:ok (bareL ps)) (h6:gs.length+rls (bareL ps)+more ps.length<=100000) (h7:ls.length+ndS ps<=100000) (h8:∀ H',Kp2 ra pa H H'->MkA CM H' mk dx ha ra pa (gs++c gs.length (bareL ps)) (ls++poS k (ps.length - 1) 0 (gs.length+o) ps)->Q .non H'):spMakeP CM hs d k ok c more o vs H Q E
noncomputable abbrev spMakeA (CM:Addr) (hs:Hds) (d:Nat):Sp:=spMakeP CM hs d 3 (fun ps=>ps≠[]) (fun b ps=>mkA b true ps) (fun n=>n - 1) 0
noncomputable abbrev spMakeK (CM:Addr) (hs:Hds) (d:Nat):Sp:=spMakeP CM hs d 4 (fun ps=>2<=ps.length) mkK (fun n=>2 * (n - 1)+1) 0
noncomputable abbrev spMakeL (CM:Addr) (hs:Hds) (d:Nat):Sp:=spMakeP CM hs d 5 (fun ps=>ps.length=2) mkL (fun n=>5) 1
theorem fits_get {hs:Hds} {bx:Int} {d:Nat}:∀ {ps:List Nd} {i:Nat} {x:Nd},FitTs hs bx d (bareL ps)->ps[i]? = some x->FitT hs bx d (bare x)
 | [],i,x,_,h=>by simp at h
 | p :: r,0,x,f,h=>by
  have e:p=x:=by simpa using h
  subst e
  rw [show bareL (p :: r)=bare p :: bareL r from rfl] at f
  unfold FitTs at f
  exact f.1
 | p :: r,i+1,x,f,h=>by
  rw [show bareL (p :: r)=bare p :: bareL r from rfl] at f
  unfold FitTs at f
  exact fits_get f.2 (by simpa using h)
theorem rls_take (ps:List Nd) (i:Nat):rls (bareL (ps.take i))<=rls (bareL ps):=by
 have:=wO (bareL (ps.take i)) (bareL (ps.drop i))
 rw [<- jC,List.take_append_drop] at this
 (first|lia|omega)
theorem gds_take {ps:List Nd} (i:Nat) (h:GdTs (bareL ps)):GdTs (bareL (ps.take i)):=by
 rw [<- List.take_append_drop i ps,jC] at h
 exact (gds_app _ _ h).1
theorem ndS_take (ps:List Nd) (i:Nat):ndS (ps.take i)<=ndS ps:=by
 have:=ndS_app (ps.take i) (ps.drop i)
 rw [List.take_append_drop] at this
 (first|lia|omega)
mutual
theorem poN_len:∀ (nd:Nd) (b:Nat),(poN b nd).length=ndN nd
 | .mk k p own ps,b=>by
  unfold poN ndN
  rw [List.length_append,poS_len ps]
  show _+1=_
  (first|lia|omega)
theorem poS_len:∀ (ps:List Nd) (k:Int) (m i b:Nat),(poS k m i b ps).length=ndS ps
 | [],k,m,i,b=>by unfold poS ndS; rfl
 | t :: r,k,m,i,b=>by
  unfold poS ndS
  rw [List.length_append,poN_len t,poS_len r]
end
theorem pair_cons {F:V->Nd->Prop} {us:List V} {p:Nd} {ps:List Nd} (h:Paired F us (p :: ps)):∃ u us',us=u :: us'/\F u p/\Paired F us' ps:=by
 cases h with
 | cons a b=>exact ⟨_,_,rfl,a,b⟩
theorem at0 {u:V} {l:List V}:atI (u :: l) 0=some u:=by
 show atI (u :: l) ((0:Nat):Int)=some u
 exact jH rfl
theorem ok_make_all (d:Nat) (T:TxtK K mg CM) {hs:Hds} {kk:Nat} (F:Fun K "make_all" "make_all" wJ f fd) (Cmake_node:Cal P w K mg base (CXE P w) kk "make_node" ["making", "node"] (spMakeN CM hs d)):FnOk P w K mg base (CXE P w) (kk+1) f fd ["making", "parts"] (spMakeA CM hs d):=by
 refine F.okN sc_make_all (fun vs H Q E h => ?_) (fun cdv A outer s H vs Q E hr h => ?_)
 ·obtain ⟨mk,dx,ha,ra,pa,qa,us,ps,gs,ls,bx,rfl,_⟩ := h
  rfl
 obtain ⟨mk,dx,ha,ra,pa,qa,us,ps,gs,ls,bx,rfl,M,eq,pr,ft,ne,z1,z2,q⟩ := h
 refine ⟨_,(zD (yB (zH Cmake_node hr rfl (zA (pv 0) (zA (yC yU (pv 1) zF (fun _ _=>rfl)) zC)) passN))
   (zG (yY PassesOwn.never rfl (pi_tup (jU sl_tup (pv 1) (jT zF) wP)) (zL (i:=2) sc_make_all.nd rfl (Or.inl rfl)) (zD (yB (jD PySem.F.plainAttrs_list PySem.F.slot_list_append PySem.F.type_list_append yD (yG (pv 0) rfl) (zA (zU (zA (zI rfl T.m_OP_DROP) (zA zF zC))) zC)))
   (zG (yB (zH Cmake_node hr rfl (zA (pv 0) (zA (pv 2) zC)) passN))))))),?_⟩
 try dsimp only [Cx.nox,Cx.exc,Cx.wish,zX]
 cases ps with
 | nil=>exact absurd (show bareL []=[] from rfl) ne
 | cons p ps =>
 obtain ⟨u,us,rfl,pu,pr⟩ := pair_cons pr
 rw [show bareL (p :: ps)=bare p :: bareL ps from rfl] at ft z1 q
 unfold FitTs at ft
 rw [yX] at z1
 rw [xX] at z2
 rw [List.length_cons] at z1 q
 have z1:gs.length+(rl (bare p)+rls (bareL ps))+(ps.length+1 - 1)<=100000:=z1
 have gd1:=xY d _ ft.1
 have gd2:=fit_gds d _ ft.2
 refine ⟨_,rfl,_,rfl,qa,_,_,_,rfl,rfl,.of eq,at0,mk,dx,ha,ra,pa,u,p,gs,ls,bx,rfl,M,pu,ft.1,by (first|lia|omega),by (first|lia|omega),fun H1 k1 M1 => ?_⟩
 have t1:=M.tups k1
 have e1:=t1 _ _ eq
 refine ⟨_,rfl,_,rfl,qa,_,rfl,.of e1,?_,fun c hc => ?_⟩
 ·rintro ⟨z,_⟩
  have:HT.sIx (u :: us).length 0 (some (1:Int))=min 1 (u :: us).length:=HT.sIx_nat _ _ 1
  rw [this,List.length_cons] at z
  (first|lia|omega)
 have ec:cutV (u :: us) (some (1:Int)) none=us:=cutV_drop 1
 rw [ec]
 have sc:=zE hc (.tup us)
 have M2:=M1.same sc
 have k2:Kp2 ra pa H (upd H1 c (.tup us)):=k1.trans (.same sc)
 have e2:upd H1 c (.tup us) c=some (.tup us):=zB
 generalize upd H1 c (.tup us)=H2 at *
 refine ⟨c,rfl,⟨_,.of e2⟩,for_tup (xs:=us) (fun i σ' H'=>Kp2 ra pa H H'/\Tups H2 H'/\MkA CM H' mk dx ha ra pa (gs++mkA gs.length true (bareL (p :: ps.take i))) (ls++poS 3 (ps.length+1 - 1) 0 gs.length (p :: ps.take i))/\∃ v,σ'=[some (.ref mk),some (.ref qa),v]) ⟨k2,fun _ _ e=>e,?_,_,rfl⟩ (fun i σ' H' hi hh => .of (hh.2.1 _ _ e2)) ?_ ?_⟩
 ·have a1:mkA gs.length true (bareL (p :: ps.take 0))=mkT gs.length (bare p):=by
   rw [List.take_zero]
   show mkA gs.length true [bare p]=_
   unfold mkA
   rw [if_pos rfl]
   unfold mkA
   rw [List.append_nil]
  have a2:poS 3 (ps.length+1 - 1) 0 gs.length (p :: ps.take 0)=poN gs.length p:=by
   rw [List.take_zero]
   unfold poS
   unfold poS
   rw [List.append_nil]
  rw [a1,a2]
  exact M2
 ·rintro i v σ' H3 hv ⟨k3,t3,M3,v2,rfl⟩
  have hi:=(List.getElem?_eq_some_iff.mp hv).1
  have hl:=Paired.len pr
  have ex:ps[i]? = some (ps[i]'(by (first|lia|omega))):=List.getElem?_eq_getElem _
  have pv:=Paired.get pr _ _ _ hv ex
  have et:ps.take (i+1)=ps.take i++[ps[i]'(by (first|lia|omega))]:=by rw [List.take_succ,ex]; rfl
  generalize (ps[i]'(by (first|lia|omega)))=x at *
  obtain ⟨rs,er,_⟩ := id M3.rows
  refine ⟨_,rfl,mk,CM,dx,_,_,rfl,M3.ob,T.mak,T.mrows,rfl,.inl ⟨rfl,_,.of er⟩,sm2,fun t ht => ?_⟩
  have s3:=zE ht (.tup [.int 3,.int 0])
  have Mt:=M3.same s3
  have er3:=s3 _ _ er
  have ln:=M3.len er
  have lm:(mkA gs.length true (bareL (p :: ps.take i))).length=rls (bareL (p :: ps.take i))+i:=by
   rw [mkA_len _ _ _ (show GdTs (bareL (p :: ps.take i)) from by rw [show bareL (p :: ps.take i)=bare p :: bareL (ps.take i) from rfl,xJ]; exact ⟨gd1,gds_take i gd2⟩),if_pos rfl,xA,List.length_cons,List.length_take]
   (first|lia|omega)
  have lb:rls (bareL (p :: ps.take i))=rl (bare p)+rls (bareL (ps.take i)):=yX _ _
  have l1:=rls_take ps (i+1)
  rw [et,jC,wO,show rls (bareL [x])=rl (bare x) by rw [show bareL [x]=[bare x] from rfl,yX]; unfold rls; rfl] at l1
  have n1:=ndS_take ps (i+1)
  rw [et,ndS_app,show ndS [x]=ndN x by rw [xX]; unfold ndS; rfl] at n1
  rw [List.length_append,lm] at ln
  refine ⟨ra,rs,_,rfl,rfl,er3,Nat.lt_of_le_of_lt (show rs.length<=100000 by (first|lia|omega)) (by decide),?_⟩
  have M4:=Mt.row (g:=[3,0]) zB er3
  have k4:Kp2 ra pa H3 (upd (upd H3 t (.tup [.int 3,.int 0])) ra (.lst (rs++[.ref t]))):=(Kp2.same s3).trans Kp2.rows
  have t4:=M3.tups k4
  have tH:=M.tups (k3.trans k4)
  generalize upd (upd H3 t (.tup [.int 3,.int 0])) ra (.lst (rs++[.ref t]))=H4 at *
  have l4:(gs++mkA gs.length true (bareL (p :: ps.take i))++[[3,0]]).length=gs.length+rls (bareL (p :: ps.take i))+i+1:=by
   rw [List.length_append,List.length_append,lm]
   show gs.length+_+1=_
   (first|lia|omega)
  refine ⟨_,rfl,_,rfl,mk,dx,ha,ra,pa,v,x,_,_,bx,rfl,M4,pv.tups tH,fits_get ft.2 ex,by (first|lia|omega),?_,fun H5 k5 M5=>⟨k3.trans (k4.trans k5),fun b xs e=>M4.tups k5 _ _ (t4 _ _ (t3 _ _ e)),?_,_,rfl⟩⟩
  ·rw [List.length_append,poS_len,xX]
   (first|lia|omega)
  ·rw [l4] at M5
   rw [et]
   have a1:mkA gs.length true (bareL (p :: (ps.take i++[x])))=mkA gs.length true (bareL (p :: ps.take i))++([3,0] :: mkT (gs.length+rls (bareL (p :: ps.take i))+i+1) (bare x)):=by
    rw [show bareL (p :: (ps.take i++[x]))=bare p :: bareL (ps.take i)++[bare x] by rw [<- List.cons_append,jC]; rfl,mkA_snoc]
    rw [show (bare p :: bareL (ps.take i)).length=i+1 by rw [List.length_cons,xA,List.length_take]; (first|lia|omega)]
    rfl
   have a2:poS 3 (ps.length+1 - 1) 0 gs.length (p :: (ps.take i++[x]))=poS 3 (ps.length+1 - 1) 0 gs.length (p :: ps.take i)++poN (gs.length+rls (bareL (p :: ps.take i))+i+1) x:=by
    rw [<- List.cons_append,poS_snoc,bgS_all,xA,List.length_cons,List.length_take,show min i ps.length+1=i+1 by (first|lia|omega)]
    rfl
   rw [a1,a2]
   rw [List.append_assoc,List.append_assoc] at M5
   rw [List.append_assoc] at M5
   exact M5
 ·rintro σ' H3 ⟨k3,t3,M3,v2,rfl⟩
  have hl:=Paired.len pr
  rw [hl,List.take_length] at M3
  exact q H3 k3 M3
theorem pair_two {F:V->Nd->Prop} {us:List V} {ps:List Nd} (h:Paired F us ps) (l:ps.length=2):∃ u v x y,us=[u,v]/\ps=[x,y]/\F u x/\F v y:=by
 cases h with
 | nil=>cases l
 | cons a b =>
  cases b with
  | nil=>cases l
  | cons a2 b2 =>
   cases b2 with
   | nil=>exact ⟨_,_,_,_,rfl,rfl,a,a2⟩
   | cons _ _=>simp at l
theorem set_mid {α:Type} (A B:List α) (x g : α) {n:Nat} (h:n=A.length):(A++x :: B).set n g=A++g :: B:=by
 rw [h,List.set_append_right _ _ (Nat.le_refl _),Nat.sub_self]
 rfl
theorem ixN_lt {n i:Nat} (h:i<n):ixN n (i:Int)=some i:=by
 unfold ixN
 rw [if_pos (by (first|lia|omega)),if_pos (by (first|lia|omega)),Int.toNat_natCast]
theorem at1 {u v:V} {l:List V}:atI (u :: v :: l) 1=some v:=by
 show atI (u :: v :: l) ((1:Nat):Int)=some v
 exact jH rfl
theorem ok_make_loop (d:Nat) (T:TxtK K mg CM) {hs:Hds} {kk:Nat} (F:Fun K "make_loop" "make_loop" qK f fd) (Cmake_node:Cal P w K mg base (CXE P w) kk "make_node" ["making", "node"] (spMakeN CM hs d)):FnOk P w K mg base (CXE P w) (kk+1) f fd ["making", "parts"] (spMakeL CM hs d):=by
 refine F.okN wH (fun vs H Q E h => ?_) (fun cdv A outer s H vs Q E hr h => ?_)
 ·obtain ⟨mk,dx,ha,ra,pa,qa,us,ps,gs,ls,bx,rfl,_⟩ := h
  rfl
 obtain ⟨mk,dx,ha,ra,pa,qa,us,ps,gs,ls,bx,rfl,M,eq,pr,ft,ne,z1,z2,q⟩ := h
 refine ⟨_,(zD (zJ (i:=2) wH.nd rfl (Or.inl rfl) (zR zM rfl T.n_len yI (zA (yG (pv 0) rfl) zC)))
   (zD (yB (jD PySem.F.plainAttrs_list PySem.F.slot_list_append PySem.F.type_list_append yD (yG (pv 0) rfl) (zA (zU (zA (zI rfl T.m_OP_BREATH) (zA zF zC))) zC)))
   (zD (yB (zH Cmake_node hr rfl (zA (pv 0) (zA (yC yU (pv 1) zF (fun _ _=>rfl)) zC)) passN))
   (zD (zJ (i:=3) wH.nd rfl (Or.inl rfl) (zR zM rfl T.n_len yI (zA (yG (pv 0) rfl) zC)))
   (zD (yB (jD PySem.F.plainAttrs_list PySem.F.slot_list_append PySem.F.type_list_append yD (yG (pv 0) rfl) (zA (zU (zA (zI rfl T.m_OP_UNLESS) (zA zF zC))) zC)))
   (zD (yB (zH Cmake_node hr rfl (zA (pv 0) (zA (yC yU (pv 1) zF (fun _ _=>rfl)) zC)) passN))
   (zD (yB (jD PySem.F.plainAttrs_list PySem.F.slot_list_append PySem.F.type_list_append yD (yG (pv 0) rfl) (zA (zU (zA (zI rfl T.m_OP_DROP) (zA zF zC))) zC)))
   (zD (yB (jD PySem.F.plainAttrs_list PySem.F.slot_list_append PySem.F.type_list_append yD (yG (pv 0) rfl) (zA (zU (zA (zI rfl T.m_OP_JUMP) (zA (pv 2) zC))) zC)))
   (zD (jY (zU (zA (zI rfl T.m_OP_UNLESS) (zA (zR zM rfl T.n_len yI (zA (yG (pv 0) rfl) zC)) zC))) (pg_sub (yG (pv 0) rfl) (pv 3) qY))
   (zG (yB (jD PySem.F.plainAttrs_list PySem.F.slot_list_append PySem.F.type_list_append yD (yG (pv 0) rfl) (zA (zU (zA (zI rfl T.m_OP_PUSH) (zA zF zC))) zC))))))))))))),?_⟩
 try dsimp only [Cx.nox,Cx.exc,Cx.wish,zX]
 have ne:(bareL ps).length=2:=ne
 rw [xA] at ne
 obtain ⟨u,v,x,y,rfl,rfl,px,py⟩ := pair_two pr ne
 rw [show bareL [x,y]=[bare x,bare y] from rfl] at ft z1 q
 unfold FitTs at ft
 unfold FitTs at ft
 have z1:gs.length+(rl (bare x)+rl (bare y))+5<=100000:=by
  have:rls [bare x,bare y]=rl (bare x)+rl (bare y):=by rw [yX,yX]; unfold rls; rfl
  rw [this] at z1
  exact z1
 have z2:ls.length+(ndN x+ndN y)<=100000:=by
  have:ndS [x,y]=ndN x+ndN y:=by rw [xX,xX]; unfold ndS; rfl
  rw [this] at z2
  exact z2
 have gx:=xY d _ ft.1
 have gy:=xY d _ ft.2.1
 obtain ⟨rs,er,_⟩ := id M.rows
 have ln:=M.len er
 refine ⟨_,rfl,mk,CM,dx,_,_,rfl,M.ob,T.mak,T.mrows,rfl,ra,_,rfl,.inl (.of er),?_⟩
 refine ⟨_,rfl,mk,CM,dx,_,_,rfl,M.ob,T.mak,T.mrows,rfl,.inl ⟨rfl,_,.of er⟩,sm2,fun t ht => ?_⟩
 have s1:=zE ht (.tup [.int 9,.int 0])
 refine ⟨ra,rs,_,rfl,rfl,s1 _ _ er,Nat.lt_of_le_of_lt (show rs.length<=100000 by (first|lia|omega)) (by decide),?_⟩
 have M1:=(M.same s1).row (g:=[9,0]) zB (s1 _ _ er)
 have k1:Kp2 ra pa H (upd (upd H t (.tup [.int 9,.int 0])) ra (.lst (rs++[.ref t]))):=(Kp2.same s1).trans Kp2.rows
 have t1:=M.tups k1
 generalize upd (upd H t (.tup [.int 9,.int 0])) ra (.lst (rs++[.ref t]))=H1 at *
 have l1:(gs++[[9,0]]).length=gs.length+1:=by rw [List.length_append]; rfl
 refine ⟨_,rfl,_,rfl,qa,_,_,_,rfl,rfl,.of (t1 _ _ eq),at0,mk,dx,ha,ra,pa,u,x,_,_,bx,rfl,M1,px.tups t1,ft.1,by (first|lia|omega),by (first|lia|omega),fun H2 k2 M2 => ?_⟩
 rw [l1] at M2
 have lx:=yE (bare x) (gs.length+1) gx
 have l2:(gs++[[9,0]]++mkT (gs.length+1) (bare x)).length=gs.length+1+rl (bare x):=by rw [List.length_append,l1,lx]
 have t2:=M1.tups k2
 obtain ⟨r2,e2,_⟩ := id M2.rows
 have n2:=M2.len e2
 rw [l2] at n2
 refine ⟨_,rfl,mk,CM,dx,_,_,rfl,M2.ob,T.mak,T.mrows,rfl,ra,_,rfl,.inl (.of e2),?_⟩
 refine ⟨_,rfl,mk,CM,dx,_,_,rfl,M2.ob,T.mak,T.mrows,rfl,.inl ⟨rfl,_,.of e2⟩,sm2,fun t' ht' => ?_⟩
 have s2:=zE ht' (.tup [.int 5,.int 0])
 refine ⟨ra,r2,_,rfl,rfl,s2 _ _ e2,Nat.lt_of_le_of_lt (show r2.length<=100000 by (first|lia|omega)) (by decide),?_⟩
 have M3:=(M2.same s2).row (g:=[5,0]) zB (s2 _ _ e2)
 have k3:Kp2 ra pa H2 (upd (upd H2 t' (.tup [.int 5,.int 0])) ra (.lst (r2++[.ref t']))):=(Kp2.same s2).trans Kp2.rows
 have t3:=M2.tups k3
 generalize upd (upd H2 t' (.tup [.int 5,.int 0])) ra (.lst (r2++[.ref t']))=H3 at *
 have l3:(gs++[[9,0]]++mkT (gs.length+1) (bare x)++[[5,0]]).length=gs.length+rl (bare x)+2:=by
  rw [List.length_append,l2]
  show gs.length+1+rl (bare x)+1=_
  (first|lia|omega)
 have t13:Tups H H3:=fun b xs e=>t3 _ _ (t2 _ _ (t1 _ _ e))
 have lq:(ls++poN (gs.length+1) x).length=ls.length+ndN x:=by rw [List.length_append,poN_len]
 refine ⟨_,rfl,_,rfl,qa,_,_,_,rfl,rfl,.of (t13 _ _ eq),at1,mk,dx,ha,ra,pa,v,y,_,_,bx,rfl,M3,py.tups t13,ft.2.1,by (first|lia|omega),by (first|lia|omega),fun H4 k4 M4 => ?_⟩
 rw [l3] at M4
 have ly:=yE (bare y) (gs.length+rl (bare x)+2) gy
 have l4:(gs++[[9,0]]++mkT (gs.length+1) (bare x)++[[5,0]]++mkT (gs.length+rl (bare x)+2) (bare y)).length=gs.length+rl (bare x)+2+rl (bare y):=by rw [List.length_append,l3,ly]
 obtain ⟨r4,e4,_⟩ := id M4.rows
 have n4:=M4.len e4
 rw [l4] at n4
 refine ⟨_,rfl,mk,CM,dx,_,_,rfl,M4.ob,T.mak,T.mrows,rfl,.inl ⟨rfl,_,.of e4⟩,sm2,fun t5 ht5 => ?_⟩
 have s4:=zE ht5 (.tup [.int 3,.int 0])
 refine ⟨ra,r4,_,rfl,rfl,s4 _ _ e4,Nat.lt_of_le_of_lt (show r4.length<=100000 by (first|lia|omega)) (by decide),?_⟩
 have M5:=(M4.same s4).row (g:=[3,0]) zB (s4 _ _ e4)
 have k5:Kp2 ra pa H4 (upd (upd H4 t5 (.tup [.int 3,.int 0])) ra (.lst (r4++[.ref t5]))):=(Kp2.same s4).trans Kp2.rows
 have e5:upd (upd H4 t5 (.tup [.int 3,.int 0])) ra (.lst (r4++[.ref t5])) ra=some (.lst (r4++[.ref t5])):=zB
 generalize upd (upd H4 t5 (.tup [.int 3,.int 0])) ra (.lst (r4++[.ref t5]))=H5 at *
 have n5:(r4++[V.ref t5]).length=gs.length+rl (bare x)+rl (bare y)+3:=by
  rw [List.length_append,n4]
  show _+1=_
  (first|lia|omega)
 refine ⟨_,rfl,mk,CM,dx,_,_,rfl,M5.ob,T.mak,T.mrows,rfl,.inl ⟨rfl,_,.of e5⟩,_,rfl,sm2,fun t6 ht6 => ?_⟩
 rw [ln]
 have s5:=zE ht6 (.tup [.int 4,.int (gs.length:Nat)])
 refine ⟨ra,_,_,rfl,rfl,s5 _ _ e5,Nat.lt_of_le_of_lt (show (r4++[V.ref t5]).length<=100000 by (first|lia|omega)) (by decide),?_⟩
 have M6:=(M5.same s5).row (g:=[4,(gs.length:Int)]) zB (s5 _ _ e5)
 have k6:Kp2 ra pa H5 (upd (upd H5 t6 (.tup [.int 4,.int (gs.length:Nat)])) ra (.lst (r4++[.ref t5]++[.ref t6]))):=(Kp2.same s5).trans Kp2.rows
 have e6:upd (upd H5 t6 (.tup [.int 4,.int (gs.length:Nat)])) ra (.lst (r4++[.ref t5]++[.ref t6])) ra=some (.lst (r4++[.ref t5]++[.ref t6])):=zB
 generalize upd (upd H5 t6 (.tup [.int 4,.int (gs.length:Nat)])) ra (.lst (r4++[.ref t5]++[.ref t6]))=H6 at *
 have n6:(r4++[V.ref t5]++[V.ref t6]).length=gs.length+rl (bare x)+rl (bare y)+4:=by
  rw [List.length_append,n5]
  rfl
 refine ⟨_,rfl,mk,CM,dx,_,_,rfl,M6.ob,T.mak,T.mrows,rfl,ra,_,rfl,.inl (.of e6),sm2,fun t7 ht7 => ?_⟩
 have s6:=zE ht7 (.tup [.int 5,.int ((r4++[V.ref t5]++[V.ref t6]).length:Nat)])
 have M6':=M6.same s6
 have e6':=s6 _ _ e6
 refine ⟨_,rfl,mk,CM,dx,_,_,rfl,M6'.ob,T.mak,T.mrows,rfl,_,rfl,ra,_,_,_,rfl,rfl,e6',ixN_lt (show r2.length<_ by (first|lia|omega)),?_⟩
 have M7:=M6'.setR (g:=[5,((r4++[V.ref t5]++[V.ref t6]).length:Nat)]) r2.length zB e6'
 have k7:Kp2 ra pa H6 (upd (upd H6 t7 (.tup [.int 5,.int ((r4++[V.ref t5]++[V.ref t6]).length:Nat)])) ra (.lst ((r4++[V.ref t5]++[V.ref t6]).set r2.length (.ref t7)))):=(Kp2.same s6).trans Kp2.rows
 have e7:upd (upd H6 t7 (.tup [.int 5,.int ((r4++[V.ref t5]++[V.ref t6]).length:Nat)])) ra (.lst ((r4++[V.ref t5]++[V.ref t6]).set r2.length (.ref t7))) ra=some (.lst ((r4++[V.ref t5]++[V.ref t6]).set r2.length (.ref t7))):=zB
 generalize upd (upd H6 t7 (.tup [.int 5,.int ((r4++[V.ref t5]++[V.ref t6]).length:Nat)])) ra (.lst ((r4++[V.ref t5]++[V.ref t6]).set r2.length (.ref t7)))=H7 at *
 refine ⟨_,rfl,mk,CM,dx,_,_,rfl,M7.ob,T.mak,T.mrows,rfl,.inl ⟨rfl,_,.of e7⟩,sm2,fun t8 ht8 => ?_⟩
 have s7:=zE ht8 (.tup [.int 0,.int 0])
 refine ⟨ra,_,_,rfl,rfl,s7 _ _ e7,by rw [List.length_set]; exact Nat.lt_of_le_of_lt (show (r4++[V.ref t5]++[V.ref t6]).length<=100000 by (first|lia|omega)) (by decide),?_⟩
 have M8:=(M7.same s7).row (g:=[0,0]) zB (s7 _ _ e7)
 refine q _ (k1.trans (k2.trans (k3.trans (k4.trans (k5.trans (k6.trans (k7.trans ((Kp2.same s7).trans Kp2.rows)))))))) ?_
 have a1:gs++mkL gs.length [bare x,bare y]=((gs++[[9,0]]++mkT (gs.length+1) (bare x)++[[5,0]]++mkT (gs.length+rl (bare x)+2) (bare y)++[[3,0]]++[[4,(gs.length:Int)]]).set r2.length [5,((r4++[V.ref t5]++[V.ref t6]).length:Nat)])++[[0,0]]:=by
  have e0:gs++[[9,0]]++mkT (gs.length+1) (bare x)++[[5,0]]++mkT (gs.length+rl (bare x)+2) (bare y)++[[3,0]]++[[4,(gs.length:Int)]]=(gs++[[9,0]]++mkT (gs.length+1) (bare x))++[5,0] :: (mkT (gs.length+rl (bare x)+2) (bare y)++[[3,0]]++[[4,(gs.length:Int)]]):=by simp
  rw [e0,set_mid _ _ _ _ (by rw [n2,l2])]
  rw [n6]
  unfold mkL
  rw [yX]
  unfold mkS
  unfold mkS
  have r0:rls []=0:=by unfold rls; rfl
  rw [r0,show gs.length+rl (bare x)+(rl (bare y)+0)+4=gs.length+rl (bare x)+rl (bare y)+4 by (first|lia|omega)]
  simp
 have a2:poS 5 ([x,y].length - 1) 0 (gs.length+1) [x,y]=poN (gs.length+1) x++poN (gs.length+rl (bare x)+2) y:=by
  unfold poS
  unfold poS
  unfold poS
  unfold nxB
  rw [if_pos (.inr rfl),List.append_nil,show gs.length+1+rl (bare x)+1=gs.length+rl (bare x)+2 by (first|lia|omega)]
 rw [a1,a2,<- List.append_assoc]
 exact M8

end
section
variable {P:Program} {w:World} {K:PySem.W.Frag} {mg:Str->Option Value} {base:Heap} {f:Addr} {fd:FuncData} {aP CL CN CM:Addr}
set_option maxHeartbeats 4000000

theorem reps {n:Nat} {g:List Int}:List.replicate (n+1) g=List.replicate n g++[g]:=List.replicate_succ'
theorem ok_make_pick (d:Nat) (T:TxtK K mg CM) {hs:Hds} {kk:Nat} (F:Fun K "make_pick" "make_pick" qI f fd) (Cmake_node:Cal P w K mg base (CXE P w) kk "make_node" ["making", "node"] (spMakeN CM hs d)):FnOk P w K mg base (CXE P w) (kk+1) f fd ["making", "parts"] (spMakeK CM hs d):=by
 refine F.okN xQ (fun vs H Q E h => ?_) (fun cdv A outer s H vs Q E hr h => ?_)
 ·obtain ⟨mk,dx,ha,ra,pa,qa,us,ps,gs,ls,bx,rfl,_⟩ := h
  rfl
 obtain ⟨mk,dx,ha,ra,pa,qa,us,ps,gs,ls,bx,rfl,M,eq,pr,ft,ne,z1,z2,q⟩ := h
 refine ⟨_,(zD (zJ (i:=2) xQ.nd rfl (Or.inl rfl) (zP jV (zR zM rfl T.n_len yI (zA (pv 1) zC)) zF))
   (zD (yB (zH Cmake_node hr rfl (zA (pv 0) (zA (yC yU (pv 1) zF (fun _ _=>rfl)) zC)) passN))
   (zD (yB (jD PySem.F.plainAttrs_list PySem.F.slot_list_append PySem.F.type_list_append yD (yG (pv 0) rfl) (zA (zU (zA (zI rfl T.m_OP_PICK) (zA (pv 2) zC))) zC)))
   (zD (zJ (i:=3) xQ.nd rfl (Or.inl rfl) (zR zM rfl T.n_len yI (zA (yG (pv 0) rfl) zC)))
   (zD (zJ (i:=4) xQ.nd rfl (Or.inl rfl) (zP zY (pv 3) (pv 2)))
   (zD (yY PassesOwn.never rfl (jZ rfl T.n_range (zA (zP zY (pv 2) zF) zC)) (zL (i:=5) xQ.nd rfl (Or.inl rfl)) (zG (yB (jD PySem.F.plainAttrs_list PySem.F.slot_list_append PySem.F.type_list_append yD (yG (pv 0) rfl) (zA (zU (zA (zI rfl T.m_OP_JUMP) (zA zF zC))) zC)))))
   (zD (yY PassesOwn.never rfl (pi_enumT rfl T.n_enumerate (zA (jU sl_tup (pv 1) (jT zF) wP) zC)) (xS rfl (zQ (zL (i:=6) xQ.nd rfl (Or.inl rfl)) (zQ (zL (i:=7) xQ.nd rfl (Or.inl rfl)) yW))) (zD (qW (zW (zN op_gt (pv 6) zF (nomark _)) (zG (yB (jD PySem.F.plainAttrs_list PySem.F.slot_list_append PySem.F.type_list_append yD (yG (pv 0) rfl) (zA (zU (zA (zI rfl T.m_OP_JUMP) (zA (pv 4) zC))) zC)))) zT))
   (zD (jY (zU (zA (zI rfl T.m_OP_JUMP) (zA (zR zM rfl T.n_len yI (zA (yG (pv 0) rfl) zC)) zC))) (pg_sub (yG (pv 0) rfl) (zP zY (pv 3) (pv 6)) qY))
   (zG (yB (zH Cmake_node hr rfl (zA (pv 0) (zA (pv 7) zC)) passN))))))
   (zG (jY (zU (zA (zI rfl T.m_OP_JUMP) (zA (zR zM rfl T.n_len yI (zA (yG (pv 0) rfl) zC)) zC))) (pg_sub (yG (pv 0) rfl) (pv 4) qY)))))))))),?_⟩
 try dsimp only [Cx.nox,Cx.exc,Cx.wish,zX]
 have ne : 2<=(bareL ps).length:=ne
 rw [xA] at ne
 cases ps with
 | nil=>cases ne
 | cons p ps =>
 obtain ⟨u,us,rfl,pu,pr⟩ := pair_cons pr
 rw [show bareL (p :: ps)=bare p :: bareL ps from rfl] at ft z1 q
 unfold FitTs at ft
 rw [yX] at z1
 rw [xX] at z2
 rw [List.length_cons] at z1 q ne
 have z1:gs.length+(rl (bare p)+rls (bareL ps))+(2 * (ps.length+1 - 1)+1)<=100000:=z1
 have gd1:=xY d _ ft.1
 have gd2:=fit_gds d _ ft.2
 have hl:=Paired.len pr
 refine ⟨_,rfl,qa,_,rfl,.inr (.of eq),_,_,rfl,rfl,?_⟩
 have em:(((u :: us).length:Nat):Int) - 1=(ps.length:Nat):=by rw [List.length_cons,hl]; (first|lia|omega)
 dsimp only [gName,List.set]
 rw [em]
 refine ⟨_,rfl,_,rfl,qa,_,_,_,rfl,rfl,.of eq,at0,mk,dx,ha,ra,pa,u,p,gs,ls,bx,rfl,M,pu,ft.1,by (first|lia|omega),by (first|lia|omega),fun H1 k1 M1 => ?_⟩
 have lx:=yE (bare p) gs.length gd1
 have l1:(gs++mkT gs.length (bare p)).length=gs.length+rl (bare p):=by rw [List.length_append,lx]
 have t1:=M.tups k1
 obtain ⟨r1,e1,_⟩ := id M1.rows
 have n1:=M1.len e1
 rw [l1] at n1
 refine ⟨_,rfl,mk,CM,dx,_,_,rfl,M1.ob,T.mak,T.mrows,rfl,.inl ⟨rfl,_,.of e1⟩,_,rfl,sm2,fun t2 ht2 => ?_⟩
 have s1:=zE ht2 (.tup [.int 11,.int (ps.length:Nat)])
 refine ⟨ra,r1,_,rfl,rfl,s1 _ _ e1,Nat.lt_of_le_of_lt (show r1.length<=100000 by (first|lia|omega)) (by decide),?_⟩
 have M2:=(M1.same s1).row (g:=[11,(ps.length:Int)]) zB (s1 _ _ e1)
 have k2:Kp2 ra pa H1 (upd (upd H1 t2 (.tup [.int 11,.int (ps.length:Nat)])) ra (.lst (r1++[.ref t2]))):=(Kp2.same s1).trans Kp2.rows
 have e2:upd (upd H1 t2 (.tup [.int 11,.int (ps.length:Nat)])) ra (.lst (r1++[.ref t2])) ra=some (.lst (r1++[.ref t2])):=zB
 generalize upd (upd H1 t2 (.tup [.int 11,.int (ps.length:Nat)])) ra (.lst (r1++[.ref t2]))=H2 at *
 have n2:(r1++[V.ref t2]).length=gs.length+rl (bare p)+1:=by
  rw [List.length_append,n1]
  rfl
 refine ⟨_,rfl,mk,CM,dx,_,_,rfl,M2.ob,T.mak,T.mrows,rfl,ra,_,rfl,.inl (.of e2),?_⟩
 rw [n2]
 refine ⟨_,rfl,_,rfl,_,_,rfl,rfl,?_⟩
 refine ⟨_,rfl,_,_,rfl,rfl,_,rfl,by (first|lia|omega),by (first|lia|omega),?_⟩
 have l2:(gs++mkT gs.length (bare p)++[[11,(ps.length:Int)]]).length=gs.length+rl (bare p)+1:=by
  rw [List.length_append,l1]
  rfl
 generalize hG:gs++mkT gs.length (bare p)++[[11,(ps.length:Int)]]=G1 at *
 refine kU (lo:=0) (n:=((ps.length:Int)+1).toNat) (fun i σ' H'=>Kp2 ra pa H2 H'/\MkA CM H' mk dx ha ra pa (G1++List.replicate i [4,0]) (ls++poN gs.length p)/\∃ v5,σ'=[some (.ref mk),some (.ref qa),some (.int (ps.length:Nat)),some (.int ((gs.length+rl (bare p)+1:Nat):Int)),some (.int (((gs.length+rl (bare p)+1:Nat):Int)+(ps.length:Nat))),v5,none,none]) ⟨fun _ _ _ _ e=>e,by rw [List.replicate_zero,List.append_nil]; exact M2,_,rfl⟩ ?_ ?_
 ·rintro i σ' H3 hi ⟨k3,M3,v5,rfl⟩
  obtain ⟨r3,e3,_⟩ := id M3.rows
  have n3:=M3.len e3
  rw [List.length_append,l2,List.length_replicate] at n3
  refine ⟨_,rfl,mk,CM,dx,_,_,rfl,M3.ob,T.mak,T.mrows,rfl,.inl ⟨rfl,_,.of e3⟩,sm2,fun t ht => ?_⟩
  have s3:=zE ht (.tup [.int 4,.int 0])
  refine ⟨ra,r3,_,rfl,rfl,s3 _ _ e3,Nat.lt_of_le_of_lt (show r3.length<=100000 by (first|lia|omega)) (by decide),?_⟩
  have M4:=(M3.same s3).row (g:=[4,0]) zB (s3 _ _ e3)
  rw [List.append_assoc,<- reps] at M4
  exact ⟨k3.trans ((Kp2.same s3).trans Kp2.rows),M4,_,rfl⟩
 rintro σ' H3 ⟨k3,M3,v5,rfl⟩
 rw [show ((ps.length:Int)+1).toNat=ps.length+1 by (first|lia|omega)] at M3
 have t3:Tups H H3:=fun b xs e=>M2.tups k3 _ _ (M1.tups k2 _ _ (t1 _ _ e))
 refine ⟨_,rfl,_,rfl,qa,_,rfl,.of (t3 _ _ eq),?_,fun c hc => ?_⟩
 ·rintro ⟨z,_⟩
  have:HT.sIx (u :: us).length 0 (some (1:Int))=min 1 (u :: us).length:=HT.sIx_nat _ _ 1
  rw [this,List.length_cons] at z
  (first|lia|omega)
 have ec:cutV (u :: us) (some (1:Int)) none=us:=cutV_drop 1
 rw [ec]
 have sc:=zE hc (.tup us)
 have M4:=M3.same sc
 have k4:Kp2 ra pa H (upd H3 c (.tup us)):=k1.trans (k2.trans (k3.trans (.same sc)))
 have e4:upd H3 c (.tup us) c=some (.tup us):=zB
 generalize upd H3 c (.tup us)=H4 at *
 refine ⟨c,_,rfl,.of e4,for_enumT (xs:=us) (fun i σ' H'=>Kp2 ra pa H H'/\Tups H4 H'/\MkA CM H' mk dx ha ra pa (G1++(pkS (gs.length+rl (bare p)+ps.length+2) true (bareL (ps.take i))).map (fun s:Nat=>[4,(s:Int)])++List.replicate (ps.length+1 - i) [4,0]++mkP (gs.length+rl (bare p)+ps.length+2) (gs.length+rl (bare p)+ps.length+1) true (bareL (ps.take i))) (ls++poS 4 (ps.length+1 - 1) 0 gs.length (p :: ps.take i)) /\
  ∃ v5 v6 v7,σ'=[some (.ref mk),some (.ref qa),some (.int (ps.length:Nat)),some (.int ((gs.length+rl (bare p)+1:Nat):Int)),some (.int (((gs.length+rl (bare p)+1:Nat):Int)+(ps.length:Nat))),v5,v6,v7]) ⟨k4,fun _ _ e=>e,?_,_,_,_,rfl⟩ (fun i σ' H' _ hh => .of (hh.2.1 _ _ e4)) ?_ ?_⟩
 ·rw [List.take_zero]
  have a1:bareL []=[]:=rfl
  have a2:pkS (gs.length+rl (bare p)+ps.length+2) true []=[]:=by unfold pkS; rfl
  have a3:mkP (gs.length+rl (bare p)+ps.length+2) (gs.length+rl (bare p)+ps.length+1) true []=[]:=by unfold mkP; rfl
  have a4:poS 4 (ps.length+1 - 1) 0 gs.length [p]=poN gs.length p:=by
   unfold poS
   unfold poS
   rw [List.append_nil]
  rw [a1,a2,a3,a4,List.map_nil,List.append_nil,List.append_nil,Nat.sub_zero]
  exact M4
 ·rintro i v σ' H5 tt hv ⟨k5,t5,M5,v5,v6,v7,rfl⟩ htt
  have hi:=(List.getElem?_eq_some_iff.mp hv).1
  have ex:ps[i]? = some (ps[i]'(by (first|lia|omega))):=List.getElem?_eq_getElem _
  have pv:=Paired.get pr _ _ _ hv ex
  have et:ps.take (i+1)=ps.take i++[ps[i]'(by (first|lia|omega))]:=by rw [List.take_succ,ex]; rfl
  generalize (ps[i]'(by (first|lia|omega)))=x at *
  have sT:=zE htt (.tup [.int (i:Nat),v])
  have M5':=M5.same sT
  have t5':Tups H4 (upd H5 tt (.tup [.int (i:Nat),v])):=fun b xs e=>sT _ _ (t5 _ _ e)
  have k5':Kp2 ra pa H (upd H5 tt (.tup [.int (i:Nat),v])):=k5.trans (.same sT)
  refine ⟨tt,_,rfl,.of zB,rfl,_,_,rfl,_,_,rfl,rfl,?_⟩
  generalize upd H5 tt (.tup [.int (i:Nat),v])=H6 at *
  have li:(bareL (ps.take i)).length=i:=by rw [xA,List.length_take]; (first|lia|omega)
  have lP:(mkP (gs.length+rl (bare p)+ps.length+2) (gs.length+rl (bare p)+ps.length+1) true (bareL (ps.take i))).length=rls (bareL (ps.take i))+(i - 1):=by rw [mkP_len _ _ _ _ (gds_take i gd2),if_pos rfl,li]
  have lA:(G1++(pkS (gs.length+rl (bare p)+ps.length+2) true (bareL (ps.take i))).map (fun s:Nat=>[4,(s:Int)])).length=gs.length+rl (bare p)+1+i:=by rw [List.length_append,l2,List.length_map,kP,li]
  have l6:(G1++(pkS (gs.length+rl (bare p)+ps.length+2) true (bareL (ps.take i))).map (fun s:Nat=>[4,(s:Int)])++List.replicate (ps.length+1 - i) [4,0]++mkP (gs.length+rl (bare p)+ps.length+2) (gs.length+rl (bare p)+ps.length+1) true (bareL (ps.take i))).length=gs.length+rl (bare p)+ps.length+2+rls (bareL (ps.take i))+(i - 1):=by
   rw [List.length_append,List.length_append,lA,List.length_replicate,lP]
   (first|lia|omega)
  have lr:=rls_take ps (i+1)
  rw [et,jC,wO,show rls (bareL [x])=rl (bare x) by rw [show bareL [x]=[bare x] from rfl,yX]; unfold rls; rfl] at lr
  have nr:=ndS_take ps (i+1)
  rw [et,ndS_app,show ndS [x]=ndN x by rw [xX]; unfold ndS; rfl] at nr
  generalize hA:G1++(pkS (gs.length+rl (bare p)+ps.length+2) true (bareL (ps.take i))).map (fun s:Nat=>[4,(s:Int)])=A1 at *
  generalize hP:mkP (gs.length+rl (bare p)+ps.length+2) (gs.length+rl (bare p)+ps.length+1) true (bareL (ps.take i))=P1 at *
  refine ⟨fun σ' H'=>Kp2 ra pa H6 H'/\MkA CM H' mk dx ha ra pa (A1++List.replicate (ps.length+1 - i) [4,0]++P1++(if i=0 then [] else [[4,((gs.length+rl (bare p)+ps.length+1:Nat):Int)]])) (ls++poS 4 (ps.length+1 - 1) 0 gs.length (p :: ps.take i))/\σ'=[some (.ref mk),some (.ref qa),some (.int (ps.length:Nat)),some (.int ((gs.length+rl (bare p)+1:Nat):Int)),some (.int (((gs.length+rl (bare p)+1:Nat):Int)+(ps.length:Nat))),v5,some (.int (i:Nat)),some v],?_,?_⟩
  ·obtain ⟨r6,e6,_⟩ := id M5'.rows
   have n6:=M5'.len e6
   rw [l6] at n6
   refine ⟨_,rfl,_,_,rfl,rfl,_,rfl,ite2 (fun c => ?_) (fun c => ?_)⟩
   ·have c':(i:Int) > 0:=of_decide_eq_true c
    refine ⟨_,rfl,mk,CM,dx,_,_,rfl,M5'.ob,T.mak,T.mrows,rfl,.inl ⟨rfl,_,.of e6⟩,_,rfl,sm2,fun t ht => ?_⟩
    have s6:=zE ht (.tup [.int 4,.int (((gs.length+rl (bare p)+1:Nat):Int)+(ps.length:Nat))])
    refine ⟨ra,r6,_,rfl,rfl,s6 _ _ e6,Nat.lt_of_le_of_lt (show r6.length<=100000 by (first|lia|omega)) (by decide),?_⟩
    have M6:=(M5'.same s6).row (g:=[4,((gs.length+rl (bare p)+1:Nat):Int)+(ps.length:Nat)]) zB (s6 _ _ e6)
    rw [show ((gs.length+rl (bare p)+1:Nat):Int)+(ps.length:Nat)=((gs.length+rl (bare p)+ps.length+1:Nat):Int) by (first|lia|omega)] at M6
    refine ⟨(Kp2.same s6).trans Kp2.rows,?_,rfl⟩
    rw [if_neg (by (first|lia|omega)),show ((gs.length+rl (bare p)+1:Nat):Int)+(ps.length:Nat)=((gs.length+rl (bare p)+ps.length+1:Nat):Int) by (first|lia|omega)]
    exact M6
   ·have c':¬ (i:Int) > 0:=fun z=>c (decide_eq_true z)
    refine ⟨fun _ _ _ _ e=>e,?_,rfl⟩
    rw [if_pos (by (first|lia|omega)),List.append_nil]
    exact M5'
  ·rintro _ H7 ⟨k7,M7,rfl⟩
   have l7:(A1++List.replicate (ps.length+1 - i) [4,0]++P1++(if i=0 then [] else [[4,((gs.length+rl (bare p)+ps.length+1:Nat):Int)]])).length=gs.length+rl (bare p)+ps.length+2+rls (bareL (ps.take i))+i:=by
    rw [List.length_append,l6]
    split
    ·show _+0=_
     (first|lia|omega)
    ·show _+1=_
     (first|lia|omega)
   obtain ⟨r7,e7,_⟩ := id M7.rows
   have n7:=M7.len e7
   rw [l7] at n7
   refine ⟨_,rfl,mk,CM,dx,_,_,rfl,M7.ob,T.mak,T.mrows,rfl,ra,_,rfl,.inl (.of e7),sm2,fun t ht => ?_⟩
   have s7:=zE ht (.tup [.int 4,.int (r7.length:Nat)])
   have M7':=M7.same s7
   have e7':=s7 _ _ e7
   refine ⟨_,rfl,mk,CM,dx,_,_,rfl,M7'.ob,T.mak,T.mrows,rfl,_,rfl,_,rfl,_,_,rfl,rfl,ra,_,_,gs.length+rl (bare p)+1+i,rfl,rfl,e7',?_,?_⟩
   ·show ixN _ (((gs.length+rl (bare p)+1:Nat):Int)+(i:Nat))=_
    rw [show ((gs.length+rl (bare p)+1:Nat):Int)+(i:Nat)=((gs.length+rl (bare p)+1+i:Nat):Int) by (first|lia|omega)]
    exact ixN_lt (by (first|lia|omega))
   have M8:=M7'.setR (g:=[4,(r7.length:Nat)]) (gs.length+rl (bare p)+1+i) zB e7'
   have k8:Kp2 ra pa H7 (upd (upd H7 t (.tup [.int 4,.int (r7.length:Nat)])) ra (.lst (r7.set (gs.length+rl (bare p)+1+i) (.ref t)))):=(Kp2.same s7).trans Kp2.rows
   generalize upd (upd H7 t (.tup [.int 4,.int (r7.length:Nat)])) ra (.lst (r7.set (gs.length+rl (bare p)+1+i) (.ref t)))=H8 at *
   have es:(A1++List.replicate (ps.length+1 - i) [4,0]++P1++(if i=0 then [] else [[4,((gs.length+rl (bare p)+ps.length+1:Nat):Int)]])).set (gs.length+rl (bare p)+1+i) [4,(r7.length:Nat)]=A1++[[4,((gs.length+rl (bare p)+ps.length+2+rls (bareL (ps.take i))+i:Nat):Int)]]++List.replicate (ps.length+1 - (i+1)) [4,0]++P1++(if i=0 then [] else [[4,((gs.length+rl (bare p)+ps.length+1:Nat):Int)]]):=by
    rw [show ps.length+1 - i=ps.length+1 - (i+1)+1 by (first|lia|omega),List.replicate_succ,n7]
    rw [List.append_assoc,List.append_assoc,List.cons_append,set_mid _ _ _ _ lA.symm]
    simp
   rw [es] at M8
   have l8:(A1++[[4,((gs.length+rl (bare p)+ps.length+2+rls (bareL (ps.take i))+i:Nat):Int)]]++List.replicate (ps.length+1 - (i+1)) [4,0]++P1++(if i=0 then [] else [[4,((gs.length+rl (bare p)+ps.length+1:Nat):Int)]])).length=gs.length+rl (bare p)+ps.length+2+rls (bareL (ps.take i))+i:=by
    rw [<- es,List.length_set,l7]
   have t8:Tups H H8:=M.tups (k5'.trans (k7.trans k8))
   refine ⟨_,rfl,_,rfl,mk,dx,ha,ra,pa,v,x,_,_,bx,rfl,M8,pv.tups t8,fits_get ft.2 ex,by (first|lia|omega),?_,fun H9 k9 M9=>⟨k5'.trans (k7.trans (k8.trans k9)),fun b xs e=>M8.tups k9 _ _ (M7.tups k8 _ _ (M5'.tups k7 _ _ (t5' _ _ e))),?_,_,_,_,rfl⟩⟩
   ·rw [List.length_append,poS_len,xX]
    (first|lia|omega)
   ·rw [l8] at M9
    rw [et,jC,show bareL [x]=[bare x] from rfl,pkS_snoc,mkP_snoc,li,hP,List.map_append,<- List.append_assoc G1,hA]
    have a2:poS 4 (ps.length+1 - 1) 0 gs.length (p :: (ps.take i++[x]))=poS 4 (ps.length+1 - 1) 0 gs.length (p :: ps.take i)++poN (gs.length+rl (bare p)+ps.length+2+rls (bareL (ps.take i))+i) x:=by
     rw [<- List.cons_append,poS_snoc]
     rw [show bareL (p :: ps.take i)=bare p :: bareL (ps.take i) from rfl]
     unfold bgS
     rw [bgS_pick _ _ _ _ (Nat.succ_pos _),li]
     unfold nxB
     rw [if_neg (by decide),if_pos rfl,if_pos rfl,show gs.length+rl (bare p)+(ps.length+1 - 1+2)+rls (bareL (ps.take i))+i=gs.length+rl (bare p)+ps.length+2+rls (bareL (ps.take i))+i by (first|lia|omega)]
    rw [a2]
    rw [List.append_assoc ls] at M9
    have e9:A1++[[4,((gs.length+rl (bare p)+ps.length+2+rls (bareL (ps.take i))+i:Nat):Int)]]++List.replicate (ps.length+1 - (i+1)) [4,0]++P1++(if i=0 then [] else [[4,((gs.length+rl (bare p)+ps.length+1:Nat):Int)]])++mkT (gs.length+rl (bare p)+ps.length+2+rls (bareL (ps.take i))+i) (bare x)=A1++[[4,((gs.length+rl (bare p)+ps.length+2+rls (bareL (ps.take i))+i:Nat):Int)]]++List.replicate (ps.length+1 - (i+1)) [4,0]++(P1++((if i=0 then [] else [[4,((gs.length+rl (bare p)+ps.length+1:Nat):Int)]])++mkT (gs.length+rl (bare p)+ps.length+2+rls (bareL (ps.take i))+i) (bare x))):=by simp
    rw [e9] at M9
    exact M9
 ·rintro σ' H5 ⟨k5,t5,M5,v5,v6,v7,rfl⟩
  rw [hl,List.take_length,show ps.length+1 - ps.length=1 by (first|lia|omega),show List.replicate 1 ([4,0]:List Int)=[[4,0]] from rfl] at M5
  have lP:(mkP (gs.length+rl (bare p)+ps.length+2) (gs.length+rl (bare p)+ps.length+1) true (bareL ps)).length=rls (bareL ps)+(ps.length - 1):=by rw [mkP_len _ _ _ _ gd2,if_pos rfl,xA]
  have lA:(G1++(pkS (gs.length+rl (bare p)+ps.length+2) true (bareL ps)).map (fun s:Nat=>[4,(s:Int)])).length=gs.length+rl (bare p)+1+ps.length:=by rw [List.length_append,l2,List.length_map,kP,xA]
  have l5:(G1++(pkS (gs.length+rl (bare p)+ps.length+2) true (bareL ps)).map (fun s:Nat=>[4,(s:Int)])++[[4,0]]++mkP (gs.length+rl (bare p)+ps.length+2) (gs.length+rl (bare p)+ps.length+1) true (bareL ps)).length=gs.length+rl (bare p)+ps.length+2+rls (bareL ps)+(ps.length - 1):=by
   rw [List.length_append,List.length_append,lA,lP]
   show _+1+_=_
   (first|lia|omega)
  obtain ⟨r5,e5,_⟩ := id M5.rows
  have n5:=M5.len e5
  rw [l5] at n5
  refine ⟨_,rfl,mk,CM,dx,_,_,rfl,M5.ob,T.mak,T.mrows,rfl,ra,_,rfl,.inl (.of e5),sm2,fun t ht => ?_⟩
  have s5:=zE ht (.tup [.int 4,.int (r5.length:Nat)])
  have M5':=M5.same s5
  have e5':=s5 _ _ e5
  refine ⟨_,rfl,mk,CM,dx,_,_,rfl,M5'.ob,T.mak,T.mrows,rfl,_,rfl,ra,_,_,gs.length+rl (bare p)+1+ps.length,rfl,rfl,e5',?_,?_⟩
  ·rw [show ((gs.length+rl (bare p)+1:Nat):Int)+(ps.length:Nat)=((gs.length+rl (bare p)+1+ps.length:Nat):Int) by (first|lia|omega)]
   exact ixN_lt (by (first|lia|omega))
  have M8:=M5'.setR (g:=[4,(r5.length:Nat)]) (gs.length+rl (bare p)+1+ps.length) zB e5'
  refine q _ (k5.trans ((Kp2.same s5).trans Kp2.rows)) ?_
  have es:(G1++(pkS (gs.length+rl (bare p)+ps.length+2) true (bareL ps)).map (fun s:Nat=>[4,(s:Int)])++[[4,0]]++mkP (gs.length+rl (bare p)+ps.length+2) (gs.length+rl (bare p)+ps.length+1) true (bareL ps)).set (gs.length+rl (bare p)+1+ps.length) [4,(r5.length:Nat)]=gs++mkK gs.length (bare p :: bareL ps):=by
   rw [List.append_assoc,List.singleton_append,set_mid _ _ _ _ lA.symm,n5,<- hG]
   unfold mkK
   rw [xA]
   simp
  rw [es] at M8
  exact M8

end
section
variable {P:Program} {w:World} {K:PySem.W.Frag} {mg:Str->Option Value} {base:Heap} {f:Addr} {fd:FuncData} {aP CL CN CM:Addr}
set_option maxHeartbeats 4000000

theorem ok_make_node1 (d:Nat) (T:TxtK K mg CM) {hs:Hds} {kk:Nat} (F:Fun K "make_node" "make_node" qJ f fd) (Cmake_node:Cal P w K mg base (CXE P w) kk "make_node" ["making", "node"] (spMakeN CM hs d)) (Cmake_all:Cal P w K mg base (CXE P w) (kk+1) "make_all" ["making", "parts"] (spMakeA CM hs d))
  (Cmake_pick:Cal P w K mg base (CXE P w) (kk+1) "make_pick" ["making", "parts"] (spMakeK CM hs d)) (Cmake_loop:Cal P w K mg base (CXE P w) (kk+1) "make_loop" ["making", "parts"] (spMakeL CM hs d)) (Cown_row:Cal P w K mg base (CXE P w) 1 "own_row" ["kind", "numbers"] spOwnRow):FnOk P w K mg base (CXE P w) (kk+2) f fd ["making", "node"] (spMakeN CM hs (d+1)):=by
 refine F.okN xR (fun vs H Q E h => ?_) (fun cdv A outer s H vs Q E hr h => ?_)
 ·obtain ⟨mk,dx,ha,ra,pa,v,nd,gs,ls,bx,rfl,_⟩ := h
  rfl
 obtain ⟨mk,dx,ha,ra,pa,v,nd,gs,ls,bx,rfl,M,na,ft,z1,z2,q⟩ := h
 refine ⟨_,(zD (jY (pv 1) (xS rfl (zQ (zL (i:=2) xR.nd rfl (Or.inl rfl)) (zQ (zL (i:=3) xR.nd rfl (Or.inl rfl)) (zQ (zL (i:=4) xR.nd rfl (Or.inl rfl)) (zQ (zL (i:=5) xR.nd rfl (Or.inl rfl)) yW))))))
   (zD (zJ (i:=6) xR.nd rfl (Or.inl rfl) (zR zM rfl T.n_len yI (zA (yG (pv 0) rfl) zC)))
   (zD (qW (zW (zN yK (pv 2) (zI rfl T.m_ALL) (nomark _)) (zG (yB (zH Cmake_all hr rfl (zA (pv 0) (zA (pv 5) zC)) passN))) (zG (zW (zN yK (pv 2) (zI rfl T.m_PICK) (nomark _)) (zG (yB (zH Cmake_pick hr rfl (zA (pv 0) (zA (pv 5) zC)) passN))) (zG (zW (zN yK (pv 2) (zI rfl T.m_LOOP) (nomark _)) (zG (yB (zH Cmake_loop hr rfl (zA (pv 0) (zA (pv 5) zC)) passN))) (zD (yY PassesOwn.never rfl (pi_tup (pv 5)) (zL (i:=7) xR.nd rfl (Or.inl rfl)) (zG (yB (zH Cmake_node hr rfl (zA (pv 0) (zA (pv 7) zC)) passN))))
   (zG (yB (jD PySem.F.plainAttrs_list PySem.F.slot_list_append PySem.F.type_list_append yD (yG (pv 0) rfl) (zA (zH Cown_row hr rfl (zA (pv 2) (zA (pv 4) zC)) passN) zC)))))))))))
   (zG (yB (jD PySem.F.plainAttrs_list PySem.F.slot_list_append PySem.F.type_list_append yD (yG (pv 0) rfl) (zA (zU (zA (pv 3) (zA (pv 6) (zA (zR zM rfl T.n_len yI (zA (yG (pv 0) rfl) zC)) zC)))) zC))))))),?_⟩
 try dsimp only [Cx.nox,Cx.exc,Cx.wish,zX]
 obtain ⟨k,pl,own,ps⟩ := nd
 obtain ⟨t,o,qa,us,rfl,et,eo,eq,pr⟩ := na
 rw [show bare (.mk k pl own ps) = .mk k own (bareL ps) from rfl] at ft z1 q
 have gd:=xY _ _ ft
 unfold FitT at ft
 obtain ⟨k0,k1,of,lp,_,fp⟩ := ft
 unfold GdT at gd
 have z2:ls.length+(1+ndS ps)<=100000:=by rw [show ndN (.mk k pl own ps)=1+ndS ps by rw [ndN]] at z2; exact z2
 obtain ⟨rs,er,_⟩ := id M.rows
 have ln:=M.len er
 refine ⟨_,rfl,t,_,rfl,.of et,rfl,_,_,rfl,_,_,rfl,_,_,rfl,_,_,rfl,rfl,?_⟩
 refine ⟨_,rfl,mk,CM,dx,_,_,rfl,M.ob,T.mak,T.mrows,rfl,ra,_,rfl,.inl (.of er),?_⟩
 rw [ln]
 refine ⟨fun σ' H'=>Kp2 ra pa H H'/\MkA CM H' mk dx ha ra pa (gs++mkT gs.length (.mk k own (bareL ps))) (ls++poS k (ps.length - 1) 0 (gs.length+if k=5 then 1 else 0) ps)/\∃ v7,σ'=[some (.ref mk),some (.ref t),some (.int k),some (.int (pl:Nat)),some (.ref o),some (.ref qa),some (.int (gs.length:Nat)),v7],?_,?_⟩
 ·refine ⟨_,rfl,rfl,_,rfl,ite2 (fun c => ?_) (fun c3 => ?_)⟩
  ·have e:=vt c
   subst e
   have z:gs.length+rls (bareL ps)+(ps.length - 1)<=100000:=by
    rw [rl,if_pos rfl,xA] at z1
    (first|lia|omega)
   refine ⟨_,rfl,_,rfl,mk,dx,ha,ra,pa,qa,us,ps,gs,ls,bx,rfl,M,eq,pr,fp,gd.1 rfl,z,by (first|lia|omega),fun H' k' M'=>⟨k',?_,_,rfl⟩⟩
   rw [mkT,if_pos rfl]
   exact M'
  have n3:=vf c3
  refine ⟨_,rfl,rfl,_,rfl,ite2 (fun c => ?_) (fun c4 => ?_)⟩
  ·have e:=vt c
   subst e
   have z:gs.length+rls (bareL ps)+(2 * (ps.length - 1)+1)<=100000:=by
    rw [rl,if_neg (by decide),if_pos rfl,xA] at z1
    (first|lia|omega)
   refine ⟨_,rfl,_,rfl,mk,dx,ha,ra,pa,qa,us,ps,gs,ls,bx,rfl,M,eq,pr,fp,gd.2.1 rfl,z,by (first|lia|omega),fun H' k' M'=>⟨k',?_,_,rfl⟩⟩
   rw [mkT,if_neg (by decide),if_pos rfl]
   exact M'
  have n4:=vf c4
  refine ⟨_,rfl,rfl,_,rfl,ite2 (fun c => ?_) (fun c5 => ?_)⟩
  ·have e:=vt c
   subst e
   have z:gs.length+rls (bareL ps)+5<=100000:=by
    rw [rl,if_neg (by decide),if_neg (by decide),if_pos rfl] at z1
    (first|lia|omega)
   refine ⟨_,rfl,_,rfl,mk,dx,ha,ra,pa,qa,us,ps,gs,ls,bx,rfl,M,eq,pr,fp,gd.2.2.1 rfl,z,by (first|lia|omega),fun H' k' M'=>⟨k',?_,_,rfl⟩⟩
   rw [mkT,if_neg (by decide),if_neg (by decide),if_pos rfl]
   exact M'
  have n5:=vf c5
  have gp:=gd.2.2.2
  rw [rl,if_neg n3,if_neg n4,if_neg n5] at z1
  refine ⟨_,rfl,qa,rfl,⟨_,.of eq⟩,for_tup (xs:=us) (fun i σ' H'=>Kp2 ra pa H H'/\Tups H H'/\MkA CM H' mk dx ha ra pa (gs++mkS gs.length (bareL (ps.take i))) (ls++poS k (ps.length - 1) 0 gs.length (ps.take i))/\∃ v7,σ'=[some (.ref mk),some (.ref t),some (.int k),some (.int (pl:Nat)),some (.ref o),some (.ref qa),some (.int (gs.length:Nat)),v7]) ⟨fun _ _ _ _ e=>e,fun _ _ e=>e,?_,_,rfl⟩ (fun i σ' H' _ hh => .of (hh.2.1 _ _ eq)) ?_ ?_⟩
  ·rw [List.take_zero,show bareL []=[] from rfl,show mkS gs.length []=[] by rw [mkS],show poS k (ps.length - 1) 0 gs.length []=[] by rw [poS],List.append_nil,List.append_nil]
   exact M
  ·rintro i v σ' H3 hv ⟨k3,t3,M3,v7,rfl⟩
   have hl:=Paired.len pr
   have hi:=(List.getElem?_eq_some_iff.mp hv).1
   have ex:ps[i]? = some (ps[i]'(by (first|lia|omega))):=List.getElem?_eq_getElem _
   have pv:=Paired.get pr _ _ _ hv ex
   have et':ps.take (i+1)=ps.take i++[ps[i]'(by (first|lia|omega))]:=by rw [List.take_succ,ex]; rfl
   generalize (ps[i]'(by (first|lia|omega)))=x at *
   have lS:(gs++mkS gs.length (bareL (ps.take i))).length=gs.length+rls (bareL (ps.take i)):=by rw [List.length_append,wR _ _ (gds_take i gp)]
   have lr:=rls_take ps (i+1)
   rw [et',jC,wO,show rls (bareL [x])=rl (bare x) by rw [show bareL [x]=[bare x] from rfl,yX]; unfold rls; rfl] at lr
   have nr:=ndS_take ps (i+1)
   rw [et',ndS_app,show ndS [x]=ndN x by rw [xX]; unfold ndS; rfl] at nr
   refine ⟨_,rfl,_,rfl,mk,dx,ha,ra,pa,v,x,_,_,bx,rfl,M3,pv.tups t3,fits_get fp ex,by (first|lia|omega),?_,fun H5 k5 M5=>⟨k3.trans k5,fun b xs e=>M3.tups k5 _ _ (t3 _ _ e),?_,_,rfl⟩⟩
   ·rw [List.length_append,poS_len]
    (first|lia|omega)
   ·rw [lS] at M5
    rw [et',jC,show bareL [x]=[bare x] from rfl,mkS_snoc,poS_snoc,bgS_seq n3 n4 n5,<- List.append_assoc,<- List.append_assoc]
    exact M5
  ·rintro σ' H3 ⟨k3,t3,M3,v7,rfl⟩
   have hl:=Paired.len pr
   rw [hl,List.take_length] at M3
   obtain ⟨r3,e3,_⟩ := id M3.rows
   have l3:=M3.len e3
   rw [List.length_append,wR _ _ gp] at l3
   refine ⟨_,rfl,mk,CM,dx,_,_,rfl,M3.ob,T.mak,T.mrows,rfl,.inl ⟨rfl,_,.of e3⟩,_,rfl,_,rfl,k,o,own,hs,bx,rfl,t3 _ _ eo,of,n3,n4,n5,fun t4 ht4 => ?_⟩
   have s3:=zE ht4 (.tup ((ownR k own).map V.int))
   refine ⟨ra,r3,_,rfl,rfl,s3 _ _ e3,Nat.lt_of_le_of_lt (show r3.length<=100000 by (first|lia|omega)) (by decide),?_⟩
   have M4:=(M3.same s3).row (g:=ownR k own) zB (s3 _ _ e3)
   refine ⟨k3.trans ((Kp2.same s3).trans Kp2.rows),?_,_,rfl⟩
   rw [mkT,if_neg n3,if_neg n4,if_neg n5,if_neg n5,<- List.append_assoc]
   exact M4
 ·rintro σ' H5 ⟨k5,M5,v7,rfl⟩
  obtain ⟨r5,e5,_⟩ := id M5.rows
  obtain ⟨p5,f5,pp5⟩ := id M5.pap
  have lT:(gs++mkT gs.length (.mk k own (bareL ps))).length=gs.length+rl (.mk k own (bareL ps)):=by rw [List.length_append,yE _ _ (by unfold GdT; exact gd)]
  have l5:=M5.len e5
  rw [lT] at l5
  have lq:=Paired.len pp5
  rw [List.length_append,poS_len] at lq
  refine ⟨_,rfl,mk,CM,dx,_,_,rfl,M5.ob,T.mak,T.mpaper,rfl,.inl ⟨rfl,_,.of f5⟩,_,rfl,_,rfl,_,rfl,mk,CM,dx,_,_,rfl,M5.ob,T.mak,T.mrows,rfl,ra,_,rfl,.inl (.of e5),sm3,fun t6 ht6 => ?_⟩
  have s5:=zE ht6 (.tup [.int (pl:Nat),.int (gs.length:Nat),.int (r5.length:Nat)])
  refine ⟨pa,p5,_,rfl,rfl,s5 _ _ f5,Nat.lt_of_le_of_lt (show p5.length<=100000 by (first|lia|omega)) (by decide),?_⟩
  have M6:=(M5.same s5).line (g:=[(pl:Int),(gs.length:Int),(r5.length:Int)]) zB (s5 _ _ f5)
  refine q _ (k5.trans ((Kp2.same s5).trans Kp2.paper)) ?_
  rw [poN,<- List.append_assoc,<- l5]
  exact M6
theorem ok_maker (T:TxtK K mg CM) {hs:Hds} {fN fA fK fL:Addr} {dN dA dK dL:FuncData} (FN:Fun K "make_node" "make_node" qJ fN dN) (FA:Fun K "make_all" "make_all" wJ fA dA) (FK:Fun K "make_pick" "make_pick" qI fK dK) (FL:Fun K "make_loop" "make_loop" qK fL dL)
  (Cown_row:Cal P w K mg base (CXE P w) 1 "own_row" ["kind", "numbers"] spOwnRow) (cN:∀ {k:Nat} {sp:Sp},FnOk P w K mg base (CXE P w) k fN dN ["making", "node"] sp->Cal P w K mg base (CXE P w) k "make_node" ["making", "node"] sp) (cA:∀ {k:Nat} {sp:Sp},FnOk P w K mg base (CXE P w) k fA dA ["making", "parts"] sp->Cal P w K mg base (CXE P w) k "make_all" ["making", "parts"] sp)
  (cK:∀ {k:Nat} {sp:Sp},FnOk P w K mg base (CXE P w) k fK dK ["making", "parts"] sp->Cal P w K mg base (CXE P w) k "make_pick" ["making", "parts"] sp) (cL:∀ {k:Nat} {sp:Sp},FnOk P w K mg base (CXE P w) k fL dL ["making", "parts"] sp->Cal P w K mg base (CXE P w) k "make_loop" ["making", "parts"] sp) :
  ∀ d,Cal P w K mg base (CXE P w) (2 * d+1) "make_node" ["making", "node"] (spMakeN CM hs d)
 | 0=>cN ⟨fun vs H Q E h=>by
   obtain ⟨_,_,_,_,_,_,_,_,_,_,_,_,_,ft,_⟩ := h
   unfold FitT at ft
   exact ft.elim,fun _ _ _ _ _ _ _ _ _ _ _ _ _ h=>by
   obtain ⟨_,_,_,_,_,_,_,_,_,_,_,_,_,ft,_⟩ := h
   unfold FitT at ft
   exact ft.elim⟩
 | d+1=>by
  have ih:=ok_maker (hs:=hs) T FN FA FK FL Cown_row cN cA cK cL d
  exact cN (ok_make_node1 d T FN ih (cA (ok_make_all d T FA ih)) (cK (ok_make_pick d T FK ih)) (cL (ok_make_loop d T FL ih)) Cown_row)

end
section
variable {P:Program} {w:World} {K:PySem.W.Frag} {mg:Str->Option Value} {base:Heap} {f:Addr} {fd:FuncData} {aP CL CN CM:Addr}
set_option maxHeartbeats 4000000

theorem pe_makeC0 {X:Cx} {C:Addr} {x:Str} {p pos:Pos} {CX:CXT} {k n:Nat} {ps:List Str} {sp:Sp} {E:XK} (G:CalK X.prog X.w X.K X.mg X.base CX k x C ps sp) (hr:Room n X.A) (hg:Gl X x) (hx:Passes CX X E) (hk:k+1<=n:=by first | decide | (first|lia|omega)) (hdb:(x == ("__debug__" : Str))=false:=by decide):PE X (.Call (.Name x p) [] [] pos) (tMake C sp [] E tNil):=by
 obtain ⟨f,fd,M,F,hm,hb⟩ := G.ex
 exact pe_make0 M F (hr.mono hk) hg hm hb .nil hx hdb
theorem mkF_len:∀ (fs:List FnN) (b:Nat),(∀ f∈fs,GdT (bare f.2))->(mkF b fs).length=rlF fs
 | [],b,_=>rfl
 | f :: r,b,h=>by
  show (mkT b (bare f.2)++([7,0] :: mkF (b+rl (bare f.2)+1) r)).length=rl (bare f.2)+1+rlF r
  rw [List.length_append,yE _ _ (h f (List.mem_cons_self ..)),List.length_cons,mkF_len r _ fun g hg=>h g (List.mem_cons_of_mem _ hg)]
  (first|lia|omega)
theorem poF_len:∀ (fs:List FnN) (b:Nat),(poF b fs).length=ndF fs
 | [],b=>rfl
 | f :: r,b=>by
  show (poN b f.2++poF (b+rl (bare f.2)+1) r).length=ndN f.2+ndF r
  rw [List.length_append,poN_len,poF_len r]
theorem wU:∀ (fs:List FnN) (b:Nat),(hdF b fs).length=fs.length
 | [],b=>rfl
 | f :: r,b=>by
  show (hdF (b+rl (bare f.2)+1) r).length+1=r.length+1
  rw [wU r]
inductive spMakingOf (CM:Addr) (hs:Hds) (vs:List V) (H:Hp) (Q:VK) (E:XK):Prop
 | mk (l:Addr) (rs:List V) (fs:List FnN) (h0:vs=[.ref l]) (h1:H l=some (.lst rs)) (h2:Paired (FnAt H) rs fs) (h3:(∀ f∈fs,FitT hs f.1.2 10 (bare f.2))) (h4:rlF fs<=100000) (h5:ndF fs<=100000) (h6:fs.length<=16) (h7:∀ (mk dx ha ra pa:Addr) (H':Hp),Same H H'->MkA CM H' mk dx ha ra pa (mkF 0 fs) (poF 0 fs)->GrpAt H' ha (hdF 0 fs)->H mk=none->H ha=none->H ra=none->H pa=none->Q (.ref mk) H'):spMakingOf CM hs vs H Q E
theorem grp_kp2 {C:Addr} {H H':Hp} {mk dx ha ra pa:Addr} {gs ls hs:List (List Int)} (M:MkA C H mk dx ha ra pa gs ls) (k:Kp2 ra pa H H') (h:GrpAt H ha hs) (n1:ha≠ra) (n2:ha≠pa):GrpAt H' ha hs:=by
 obtain ⟨rs,e,p⟩ := h
 exact ⟨rs,k _ _ n1 n2 e,Paired.imp (fun v g ⟨t,e1,e2⟩=>⟨t,e1,M.tups k _ _ e2⟩) p⟩
theorem ok_making_of (T:TxtK K mg CM) {hs:Hds} (F:Fun K "making_of" "making_of" s_making_of f fd) (CMaking:CalK P w K mg base (CXE P w) 1 "Making" CM ["self"] (spInitM CM)) (Cmake_node:Cal P w K mg base (CXE P w) 21 "make_node" ["making", "node"] (spMakeN CM hs 10)):FnOk P w K mg base (CXE P w) 22 f fd ["program"] (spMakingOf CM hs):=by
 refine F.okN jN (fun vs H Q E h => ?_) (fun cdv A outer s H vs Q E hr h => ?_)
 ·obtain ⟨l,rs,fs,rfl,_⟩ := h
  rfl
 obtain ⟨l,rs,fs,rfl,el,pr,ft,z1,z2,z3,q⟩ := h
 refine ⟨_,(zD (zJ (i:=1) jN.nd rfl (Or.inl rfl) (pe_makeC0 CMaking hr rfl passN))
   (zD (yY PassesOwn.never rfl (xL (pv 0)) (xS rfl (zQ (zL (i:=2) jN.nd rfl (Or.inl rfl)) (zQ (zL (i:=3) jN.nd rfl (Or.inl rfl)) (zQ (zL (i:=4) jN.nd rfl (Or.inl rfl)) yW)))) (zD (yB (jD PySem.F.plainAttrs_list PySem.F.slot_list_append PySem.F.type_list_append yD (yG (pv 1) rfl) (zA (zU (zA (zR zM rfl T.n_len yI (zA (yG (pv 1) rfl) zC)) (zA (pv 2) (zA (pv 3) zC)))) zC)))
   (zD (yB (zH Cmake_node hr rfl (zA (pv 1) (zA (pv 4) zC)) passN))
   (zG (yB (jD PySem.F.plainAttrs_list PySem.F.slot_list_append PySem.F.type_list_append yD (yG (pv 1) rfl) (zA (zU (zA (zI rfl T.m_OP_BACK) (zA zF zC))) zC)))))))
   (zG (zS (pv 1))))),?_⟩
 try dsimp only [Cx.nox,Cx.exc,Cx.wish,zX]
 intro mk dx hmk hdx ndx
 refine ⟨mk,dx,rfl,zB,fun ha ra pa H1 n1 n2 n3 nhr nhp kp M1 e1=>⟨rfl,?_⟩⟩
 have hn:∀ {b:Addr},upd (upd H dx (.own mk)) mk (.ins CM dx []) b=none->H b=none:=fun {b} e=>by
  have nb:b≠mk:=fun z=>by rw [z,zB] at e; cases e
  rw [zK nb] at e
  have nd:b≠dx:=fun z=>by rw [z,zB] at e; cases e
  rw [zK nd] at e
  exact e
 have hha:=hn n1
 have hra:=hn n2
 have hpa:=hn n3
 have sH:Same H H1:=fun b o e=>kp b o (zO e hmk) (by rw [zK (zO e hmk),zK (zO e hdx)]; exact e)
 refine ⟨_,rfl,l,rfl,⟨_,.of (sH _ _ el)⟩,xT (xs:=rs) (fun i σ' H'=>Same H H'/\MkA CM H' mk dx ha ra pa (mkF 0 (fs.take i)) (poF 0 (fs.take i))/\GrpAt H' ha (hdF 0 (fs.take i))/\∃ v2 v3 v4,σ'=[some (.ref l),some (.ref mk),v2,v3,v4]) ⟨sH,by rw [List.take_zero]; exact M1,⟨[],e1,.nil⟩,_,_,_,rfl⟩ (fun i σ' H' _ hh => .of (hh.1 _ _ el)) ?_ ?_⟩
 ·rintro i v σ' H3 hv ⟨s3,M3,G3,v2,v3,v4,rfl⟩
  have hl:=Paired.len pr
  have hi:=(List.getElem?_eq_some_iff.mp hv).1
  have ex:fs[i]? = some (fs[i]'(by (first|lia|omega))):=List.getElem?_eq_getElem _
  have pv:=Paired.get pr _ _ _ hv ex
  have et':fs.take (i+1)=fs.take i++[fs[i]'(by (first|lia|omega))]:=by rw [List.take_succ,ex]; rfl
  have fx:=ft _ (List.mem_of_getElem? ex)
  generalize (fs[i]'(by (first|lia|omega)))=x at *
  obtain ⟨t,b,rfl,et,nb⟩ := pv
  have gds:∀ f∈fs.take i,GdT (bare f.2):=fun f hf=>xY _ _ (ft f (List.mem_of_mem_take hf))
  obtain ⟨r3,e3,_⟩ := id M3.rows
  obtain ⟨h3,f3,ph3⟩ := id G3
  have l3:=M3.len e3
  rw [mkF_len _ _ gds] at l3
  have lh:=Paired.len ph3
  rw [wU,List.length_take] at lh
  have lr:=rlF_app (fs.take (i+1)) (fs.drop (i+1))
  rw [List.take_append_drop,et',rlF_app,show rlF [x]=rl (bare x.2)+1 from rfl] at lr
  have nr:=ndF_app (fs.take (i+1)) (fs.drop (i+1))
  rw [List.take_append_drop,et',ndF_app,show ndF [x]=ndN x.2 from rfl] at nr
  refine ⟨t,_,rfl,.of (s3 _ _ et),rfl,_,_,rfl,_,_,rfl,_,_,rfl,rfl,?_⟩
  refine ⟨_,rfl,mk,CM,dx,_,_,rfl,M3.ob,T.mak,T.mheads,rfl,.inl ⟨rfl,_,.of f3⟩,_,rfl,mk,CM,dx,_,_,rfl,M3.ob,T.mak,T.mrows,rfl,ra,_,rfl,.inl (.of e3),_,rfl,_,rfl,sm3,fun t4 ht4 => ?_⟩
  have s4:=zE ht4 (.tup [.int (r3.length:Nat),.int x.1.1,.int x.1.2])
  refine ⟨ha,h3,_,rfl,rfl,s4 _ _ f3,Nat.lt_of_le_of_lt (show h3.length<=1000 by (first|lia|omega)) (by decide),?_⟩
  have ht4H:H t4=none:=s3.free ht4
  have G4:=GrpAt.push (g:=[(r3.length:Int),x.1.1,x.1.2]) (s4 _ _ f3) (Paired.imp (fun v g ⟨t,e1,e2⟩=>⟨t,e1,s4 _ _ e2⟩) ph3) ⟨t4,rfl,zB⟩
  have M3':=M3.same s4
  have M4:MkA CM (upd (upd H3 t4 (.tup [.int (r3.length:Nat),.int x.1.1,.int x.1.2])) ha (.lst (h3++[.ref t4]))) mk dx ha ra pa (mkF 0 (fs.take i)) (poF 0 (fs.take i)):=by
   refine ⟨?_,M3'.rows.put (s4 _ _ f3) (Ne.symm nhr),M3'.pap.put (s4 _ _ f3) (Ne.symm nhp),M3.ne⟩
   rw [zK (fun z=>by have:=M3'.ob; rw [z,s4 _ _ f3] at this; cases this)]
   exact M3'.ob
  have sH4:Same H (upd (upd H3 t4 (.tup [.int (r3.length:Nat),.int x.1.1,.int x.1.2])) ha (.lst (h3++[.ref t4]))):=fun b o e=>by
   rw [zK (zO e hha)]
   exact s4 _ _ (s3 _ _ e)
  generalize upd (upd H3 t4 (.tup [.int (r3.length:Nat),.int x.1.1,.int x.1.2])) ha (.lst (h3++[.ref t4]))=H4 at *
  have lf:(mkF 0 (fs.take i)).length=rlF (fs.take i):=mkF_len _ _ gds
  refine ⟨_,rfl,_,rfl,mk,dx,ha,ra,pa,b,x.2,_,_,x.1.2,rfl,M4,nb.tups fun c xs e=>sH4 _ _ e,fx,by (first|lia|omega),by rw [poF_len]; (first|lia|omega),fun H5 k5 M5 => ?_⟩
  have sH5:Same H H5:=fun c o e=>k5 c o (zO e hra) (zO e hpa) (sH4 _ _ e)
  have G5:=grp_kp2 M4 k5 G4 nhr nhp
  rw [lf] at M5
  obtain ⟨r5,e5,_⟩ := id M5.rows
  have l5:=M5.len e5
  rw [List.length_append,lf,yE _ _ (xY _ _ fx)] at l5
  refine ⟨_,rfl,mk,CM,dx,_,_,rfl,M5.ob,T.mak,T.mrows,rfl,.inl ⟨rfl,_,.of e5⟩,sm2,fun t6 ht6 => ?_⟩
  have s5:=zE ht6 (.tup [.int 7,.int 0])
  refine ⟨ra,r5,_,rfl,rfl,s5 _ _ e5,Nat.lt_of_le_of_lt (show r5.length<=100000 by (first|lia|omega)) (by decide),?_⟩
  have M6:=(M5.same s5).row (g:=[7,0]) zB (s5 _ _ e5)
  have k6:Kp2 ra pa H5 (upd (upd H5 t6 (.tup [.int 7,.int 0])) ra (.lst (r5++[.ref t6]))):=(Kp2.same s5).trans Kp2.rows
  refine ⟨fun c o e=>k6 c o (zO e hra) (zO e hpa) (sH5 _ _ e),?_,?_,_,_,_,rfl⟩
  ·rw [et',mkF_snoc,poF_snoc,Nat.zero_add,<- List.append_assoc]
   exact M6
  ·rw [et',hdF_snoc,Nat.zero_add,<- l3]
   exact grp_kp2 M5 k6 G5 nhr nhp
 ·rintro σ' H3 ⟨s3,M3,G3,v2,v3,v4,rfl⟩
  have hl:=Paired.len pr
  rw [hl,List.take_length] at M3 G3
  exact ⟨_,rfl,q mk dx ha ra pa H3 s3 M3 G3 hmk hha hra hpa⟩

end
section
variable {P:Program} {w:World} {K:PySem.W.Frag} {mg:Str->Option Value} {base:Heap} {f:Addr} {fd:FuncData} {aP CL CN CM:Addr}
set_option maxHeartbeats 4000000

theorem mkF_ok {hs:Hds} {nr:Nat}:∀ (fs:List FnN) (b:Nat),(∀ f∈fs,FitT hs f.1.2 10 (bare f.2)/\f.1.2<=12)->b+rlF fs<=nr->∀ g∈mkF b fs,isRow g hs.length nr
 | [],b,_,_,g,hg=>by cases hg
 | f :: r,b,h,hn,g,hg=>by
  have hn:b+(rl (bare f.2)+1+rlF r)<=nr:=hn
  have h1:=h f (List.mem_cons_self ..)
  rcases List.mem_append.mp (show g∈mkT b (bare f.2)++([7,0] :: mkF (b+rl (bare f.2)+1) r) from hg) with z | z
  ·exact wQ h1.2 10 _ b h1.1 (by (first|lia|omega)) g z
  rcases List.mem_cons.mp z with z | z
  ·rw [z]; exact row7
  ·exact mkF_ok r _ (fun x hx=>h x (List.mem_cons_of_mem _ hx)) (by (first|lia|omega)) g z
theorem hdF_at:∀ (fs:List FnN) (b i:Nat) (g:List Int),(hdF b fs)[i]? = some g->∃ (f:FnN) (s:Nat),fs[i]? = some f/\g=[(s:Int),f.1.1,f.1.2]/\s<b+rlF fs
 | [],b,i,g,h=>by simp [hdF] at h
 | f :: r,b,0,g,h=>by
  have e:[(b:Int),f.1.1,f.1.2]=g:=by simpa [hdF] using h
  exact ⟨f,b,rfl,e.symm,by show b<b+(rl (bare f.2)+1+rlF r); (first|lia|omega)⟩
 | f :: r,b,i+1,g,h=>by
  obtain ⟨x,s,e1,e2,e3⟩ := hdF_at r (b+rl (bare f.2)+1) i g (by simpa [hdF] using h)
  exact ⟨x,s,by simpa using e1,e2,by show s<b+(rl (bare f.2)+1+rlF r); (first|lia|omega)⟩
theorem code_made {hs:Hds} {fs:List FnN} (eh:fs.map (·.1)=hs) (g:HdsGood hs) (h:∀ f∈fs,FitT hs f.1.2 10 (bare f.2)) (hz:rlF fs<=900):CodeParts (hdF 0 fs) (mkF 0 fs):=by
 have le:hs.length=fs.length:=by rw [<- eh,List.length_map]
 have b12:∀ f∈fs,f.1.2<=12:=fun f hf=>by
  obtain ⟨i,e⟩ := List.getElem?_of_mem hf
  exact (g.all i f.1 (by rw [<- eh,List.getElem?_map,e]; rfl)).2.2.2.1
 have lm:(mkF 0 fs).length=rlF fs:=mkF_len fs 0 fun f hf=>xY _ _ (h f hf)
 have g1:=g.lo
 have g2:=g.hi
 have r1 : 1<=rlF fs:=by
  cases fs with
  | nil=>rw [le] at g1; cases g1
  | cons f r=>show 1<=rl (bare f.2)+1+rlF r; (first|lia|omega)
 refine ⟨by rw [wU]; (first|lia|omega),by rw [wU]; (first|lia|omega),by (first|lia|omega),by (first|lia|omega),fun i gg e => ?_,fun gg hg => ?_⟩
 ·obtain ⟨f,s,e1,rfl,e3⟩ := hdF_at fs 0 i gg e
  obtain ⟨a1,a2,a3,a4,a5⟩ := g.all i f.1 (by rw [<- eh,List.getElem?_map,e1]; rfl)
  rw [lm]
  exact ⟨s,f.1.1,f.1.2,rfl,by (first|lia|omega),by (first|lia|omega),a1,a2,fun z=>a5 (by (first|lia|omega)),a3,a4⟩
 ·rw [wU,lm,<- le]
  exact mkF_ok fs 0 (fun f hf=>⟨h f hf,b12 f hf⟩) (by (first|lia|omega)) gg hg

end
section
variable {P:Program} {w:World} {K:PySem.W.Frag} {mg:Str->Option Value} {base:Heap} {f:Addr} {fd:FuncData} {aP CL CN CM:Addr}
set_option maxHeartbeats 4000000

noncomputable def Makes (ns:List Int) (fs:List FnN):Prop:=∃ r:Hds × List Nd,functionsM ns = .ok r/\r.1.zip r.2=fs/\fs.map (·.1)=r.1/\HdsGood r.1/\(∀ f∈fs,FitT r.1 f.1.2 10 (bare f.2))/\rlF fs<=900/\ndF fs<=100000
inductive spMade (vs:List V) (H:Hp) (Q:VK) (E:XK):Prop
 | mk (a:Addr) (ns:List Int) (fs:List FnN) (h0:vs=[.ref a]) (h1:H a=some (.lst (ns.map V.int))) (h2:Makes ns fs) (h3:∀ l H',Same H H'->H l=none->H' l=some (.lst ((codeL (hdF 0 fs) (mkF 0 fs)).map V.int))->Q (.ref l) H'):spMade vs H Q E
theorem ok_made (T:TxtK K mg CM) (F:Fun K "made" "made" s_made f fd) (Cfunctions:Cal P w K mg base (CXE P w) 17 "functions" ["sheet"] (spFns CN)) (Cmaking_of:∀ hs,Cal P w K mg base (CXE P w) 22 "making_of" ["program"] (spMakingOf CM hs)) (Ccode_of:Cal P w K mg base (CXE P w) 4 "code_of" ["heads", "rows"] (spCodeOf K)):FnOk P w K mg base (CXE P w) 23 f fd ["sheet"] spMade:=by
 refine F.okN sc_made (fun vs H Q E h => ?_) (fun cdv A outer s H vs Q E hr h => ?_)
 ·obtain ⟨a,ns,fs,rfl,_⟩ := h
  rfl
 obtain ⟨a,ns,fs,rfl,ea,⟨r,er,rfl,em,hg,ft,z1,z2⟩,q⟩ := h
 replace Cmaking_of:=Cmaking_of r.1
 refine ⟨_,(zD (zJ (i:=1) sc_made.nd rfl (Or.inl rfl) (zH Cmaking_of hr rfl (zA (zH Cfunctions hr rfl (zA (pv 0) zC) passN) zC) passN))
   (zG (zS (zH Ccode_of hr rfl (zA (yG (pv 1) rfl) (zA (yG (pv 1) rfl) zC)) passN)))),?_⟩
 try dsimp only [Cx.nox,Cx.exc,Cx.wish,zX]
 refine ⟨_,rfl,a,ns,rfl,ea,fun r' er' l H1 s1 fr fa => ?_,fun p wd e=>by rw [er] at e; cases e⟩
 rw [er] at er'
 cases er'
 obtain ⟨rs,el,ln,pr⟩ := fa
 have cp:=code_made em hg ft z1
 have le:(r.1.zip r.2).length=r.1.length:=by rw [<- List.length_map (f:=(·.1)),em]
 refine ⟨l,rs,r.1.zip r.2,rfl,el,pr,ft,by (first|lia|omega),z2,by rw [le]; exact hg.hi,fun mk dx ha ra pa H2 s2 M2 G2 _ _ _ _ => ?_⟩
 obtain ⟨hv,eh,ph⟩ := G2
 obtain ⟨rv,ev,pv'⟩ := id M2.rows
 have r24:=cp.r24
 have lh:=Paired.len ph
 refine ⟨_,rfl,mk,CM,dx,_,_,rfl,M2.ob,T.mak,T.mheads,rfl,_,rfl,mk,CM,dx,_,_,rfl,M2.ob,T.mak,T.mrows,rfl,ha,ra,_,_,hv,rv,rfl,.inl (SqL.of eh),GrpAt.seqs ph,cp.h3,by have:=hg.hi; rw [wU,le]; (first|lia|omega),.inl (SqL.of ev),GrpAt.seqs pv',cp.r2,by (first|lia|omega),cp.ok,fun co H3 g3 hco eco => ?_⟩
 exact q co H3 (s1.trans (s2.trans g3)) ((s1.trans s2).free hco) eco

end
section
variable {P:Program} {w:World} {K:PySem.W.Frag} {mg:Str->Option Value} {base:Heap} {f:Addr} {fd:FuncData} {aP CL CN CM:Addr}
set_option maxHeartbeats 4000000

noncomputable abbrev Ln:=Int × Int × Int
noncomputable def l3 (x:Ln):List Int:=[x.1,x.2.1,x.2.2]
mutual
noncomputable def lnN (b:Nat):Nd->List Ln
 | .mk k p own ps=>((p:Int),(b:Int),((b+rl (.mk k own (bareL ps)):Nat):Int)) :: lnS k (ps.length - 1) 0 (b+if k=5 then 1 else 0) ps
noncomputable def lnS (k:Int) (m i b:Nat):List Nd->List Ln
 | []=>[]
 | t :: r=>lnN b t++lnS k m (i+1) (nxB k m i b (bare t)) r
end
noncomputable def lnF (b:Nat):List FnN->List Ln
 | []=>[]
 | f :: r=>lnN b f.2++lnF (b+rl (bare f.2)+1) r
mutual
theorem poN_ln:∀ (b:Nat) (nd:Nd),(poN b nd).Perm ((lnN b nd).map l3)
 | b,.mk k p own ps=>by
  show (poS k (ps.length - 1) 0 (b+if k=5 then 1 else 0) ps++[_]).Perm (_ :: (lnS k (ps.length - 1) 0 (b+if k=5 then 1 else 0) ps).map l3)
  exact (List.perm_append_singleton _ _).trans ((poS_ln k (ps.length - 1) 0 _ ps).cons _)
theorem poS_ln:∀ (k:Int) (m i b:Nat) (ps:List Nd),(poS k m i b ps).Perm ((lnS k m i b ps).map l3)
 | _,_,_,_,[] => .refl _
 | k,m,i,b,t :: r=>by
  show (poN b t++poS k m (i+1) (nxB k m i b (bare t)) r).Perm ((lnN b t++lnS k m (i+1) (nxB k m i b (bare t)) r).map l3)
  rw [List.map_append]
  exact (poN_ln b t).append (poS_ln k m (i+1) _ r)
end
theorem poF_ln:∀ (b:Nat) (fs:List FnN),(poF b fs).Perm ((lnF b fs).map l3)
 | _,[] => .refl _
 | b,f :: r=>by
  show (poN b f.2++poF _ r).Perm ((lnN b f.2++lnF _ r).map l3)
  rw [List.map_append]
  exact (poN_ln b f.2).append (poF_ln _ r)
noncomputable def Rise (p q:Nat) (ls:List Ln):Prop:=(ls.Pairwise fun x y=>x.1<y.1)/\∀ x∈ls,(p:Int)<=x.1/\x.1<(q:Int)
theorem Rise.app {p q r:Nat} {a b:List Ln} (h1:Rise p q a) (h2:Rise q r b) (hp:p<=q) (hq:q<=r):Rise p r (a++b):=by
 refine ⟨List.pairwise_append.mpr ⟨h1.1,h2.1,fun x hx y hy => ?_⟩,fun x hx => ?_⟩
 ·have:=(h1.2 x hx).2
  have:=(h2.2 y hy).1
  (first|lia|omega)
 ·rcases List.mem_append.mp hx with z | z
  ·have:=h1.2 x z; (first|lia|omega)
  ·have:=h2.2 x z; (first|lia|omega)
mutual
theorem lnN_rise:∀ (nd:Nd) (b p:Nat),PlN p nd->Rise p (p+(flatH (hns nd)).length) (lnN b nd)
 | .mk k q own ps,b,p,h=>by
  obtain ⟨rfl,hl⟩ := h
  have r:=lnS_rise ps k (ps.length - 1) 0 (b+if k=5 then 1 else 0) _ hl
  have el:(flatH (hns (.mk k q own ps))).length=1+own.length+(flatH (hnsL ps)).length:=by
   rw [hns_mk]
   show (k :: own++flatH (hnsL ps)).length=_
   rw [List.length_append,List.length_cons]
   (first|lia|omega)
  refine ⟨.cons (fun y hy => ?_) r.1,fun x hx => ?_⟩
  ·have:=(r.2 y hy).1
   show (q:Int)<y.1
   (first|lia|omega)
  ·rcases List.mem_cons.mp hx with z | z
   ·rw [z]
    exact ⟨Int.le_refl _,by rw [el]; show (q:Int)<_; (first|lia|omega)⟩
   ·have:=r.2 x z
    (first|lia|omega)
theorem lnS_rise:∀ (ps:List Nd) (k:Int) (m i b p:Nat),PlL p ps->Rise p (p+(flatH (hnsL ps)).length) (lnS k m i b ps)
 | [],_,_,_,_,p,_=>⟨.nil,fun _ h=>by cases h⟩
 | t :: r,k,m,i,b,p,h=>by
  obtain ⟨h1,h2⟩ := h
  have el:(flatH (hnsL (t :: r))).length=(flatH (hns t)).length+(flatH (hnsL r)).length:=by
   rw [kT]
   show ((hns t++hnsL r).flatMap _).length=_
   rw [List.flatMap_append,List.length_append]
   rfl
  have a:=(lnN_rise t b p h1).app (lnS_rise r k m (i+1) (nxB k m i b (bare t)) _ h2) (by (first|lia|omega)) (by (first|lia|omega))
  rw [el,<- Nat.add_assoc]
  exact a
end
theorem lnF_rise:∀ (fs:List FnN) (b p:Nat),PlB p (fs.map (·.2))->∃ q,p<=q/\Rise p q (lnF b fs)
 | [],_,p,_=>⟨p,Nat.le_refl _,.nil,fun _ h=>by cases h⟩
 | f :: r,b,p,h=>by
  obtain ⟨h1,h2⟩ := h
  obtain ⟨q,l,rr⟩ := lnF_rise r (b+rl (bare f.2)+1) _ h2
  exact ⟨q,by (first|lia|omega),(lnN_rise f.2 b p h1).app rr (by (first|lia|omega)) l⟩
theorem tri_of {H:Hp}:∀ {rs:List V} {gs:List (List Int)},Paired (TupAt H) rs gs->(∀ g∈gs,∃ x:Ln,g=l3 x)->∃ (as:List Addr) (ls:List Ln),rs=as.map V.ref/\gs=ls.map l3/\Paired (Tri3 H) as ls
 | [],_,.nil,_=>⟨[],[],rfl,rfl,.nil⟩
 | _ :: _,_ :: _,.cons ⟨t,e,et⟩ p,h=>by
  obtain ⟨as,ls,e1,e2,p2⟩ := tri_of p fun g hg=>h g (List.mem_cons_of_mem _ hg)
  obtain ⟨x,rfl⟩ := h _ (List.mem_cons_self ..)
  exact ⟨t :: as,x :: ls,by rw [e,e1]; rfl,by rw [e2]; rfl,.cons et p2⟩
theorem perm_l3 {a b:List Ln} (h:(a.map l3).Perm (b.map l3)):a.Perm b:=by
 have g:∀ l:List Ln,(l.map l3).map (fun x:List Int=>((x.getD 0 0,x.getD 1 0,x.getD 2 0):Ln))=l:=fun l=>by
  rw [List.map_map]
  exact List.map_id' l
 have:=h.map (fun x:List Int=>((x.getD 0 0,x.getD 1 0,x.getD 2 0):Ln))
 rw [g,g] at this
 exact this
theorem rise_eq {a b:List Ln} (h:a.Perm b) (ha:a.Pairwise fun x y=>x.1<=y.1) (hb:b.Pairwise fun x y=>x.1<y.1):a=b:=by
 induction a generalizing b with
 | nil=>exact (List.nil_perm.mp h).symm
 | cons x r ih =>
  cases b with
  | nil=>exact absurd h.symm (by simp)
  | cons y t =>
   obtain ⟨a1,a2⟩ := List.pairwise_cons.mp ha
   obtain ⟨b1,b2⟩ := List.pairwise_cons.mp hb
   have hx:=h.mem_iff.mp (List.mem_cons_self (a:=x) (l:=r))
   have hy:=h.mem_iff.mpr (List.mem_cons_self (a:=y) (l:=t))
   have e:x=y:=by
    rcases List.mem_cons.mp hx with z | z
    ·exact z
    rcases List.mem_cons.mp hy with z' | z'
    ·exact z'.symm
    have:=b1 x z
    have:=a1 y z'
    (first|lia|omega)
   subst e
   rw [ih (List.perm_cons _ |>.mp h) a2 b2]
inductive spMadePaper (vs:List V) (H:Hp) (Q:VK) (E:XK):Prop
 | mk (a:Addr) (ns:List Int) (fs:List FnN) (h0:vs=[.ref a]) (h1:H a=some (.lst (ns.map V.int))) (h2:Makes ns fs) (h3:∀ l as H',Same H H'->H l=none->H' l=some (.lst (as.map V.ref))->Paired (Tri3 H') as (lnF 0 fs)->Q (.ref l) H'):spMadePaper vs H Q E
theorem ok_made_paper (T:TxtK K mg CM) (F:Fun K "made_paper" "made_paper" wK f fd) (Cfunctions:Cal P w K mg base (CXE P w) 17 "functions" ["sheet"] (spFns CN)) (Cmaking_of:∀ hs,Cal P w K mg base (CXE P w) 22 "making_of" ["program"] (spMakingOf CM hs)):FnOk P w K mg base (CXE P w) 23 f fd ["sheet"] spMadePaper:=by
 refine F.okN sc_made_paper (fun vs H Q E h => ?_) (fun cdv A outer s H vs Q E hr h => ?_)
 ·obtain ⟨a,ns,fs,rfl,_⟩ := h
  rfl
 obtain ⟨a,ns,fs,rfl,ea,⟨r,er,rfl,em,hg,ft,z1,z2⟩,q⟩ := h
 replace Cmaking_of:=Cmaking_of r.1
 refine ⟨_,(zG (zS (zR call_sorted3 rfl T.n_sorted bt_sorted (zA (yG (zH Cmaking_of hr rfl (zA (zH Cfunctions hr rfl (zA (pv 0) zC) passN) zC) passN) rfl) zC)))),?_⟩
 try dsimp only [Cx.nox,Cx.exc,Cx.wish,zX]
 refine ⟨_,rfl,a,ns,rfl,ea,fun r' er' l H1 s1 fr fa => ?_,fun p wd e=>by rw [er] at e; cases e⟩
 rw [er] at er'
 cases er'
 obtain ⟨rs,el,ln,pr⟩ := fa
 have le:(r.1.zip r.2).length=r.1.length:=by rw [<- List.length_map (f:=(·.1)),em]
 refine ⟨l,rs,r.1.zip r.2,rfl,el,pr,ft,by (first|lia|omega),z2,by rw [le]; exact hg.hi,fun mk dx ha ra pa H2 s2 M2 G2 _ _ _ _ => ?_⟩
 obtain ⟨pv',ep,pp⟩ := id M2.pap
 have pl:=(sheet_shape (hs:=r.1) (nds:=r.2) er).2.2.2.2
 rw [show r.2=(r.1.zip r.2).map (·.2) from (List.map_snd_zip (by (first|lia|omega))).symm] at pl
 generalize r.1.zip r.2=fs at *
 obtain ⟨qq,_,ri⟩ := lnF_rise fs 0 _ pl
 have pm:=poF_ln 0 fs
 obtain ⟨as,ls,rfl,e2,tr⟩ := tri_of pp fun g hg=>by
  obtain ⟨x,_,e⟩ := List.mem_map.mp (pm.mem_iff.mp hg)
  exact ⟨x,e.symm⟩
 rw [e2] at pm
 have pm:=perm_l3 pm
 have nd:(ls.map (·.1)).Nodup:=(pm.map (·.1)).nodup_iff.mpr (List.pairwise_map.mpr (ri.1.imp fun {x y} z=>by (first|lia|omega)))
 have la:as.length=ndF fs:=by
  have:=Paired.len tr
  rw [this,<- List.length_map (f:=l3),<- e2,poF_len]
 refine ⟨mk,CM,dx,_,_,rfl,M2.ob,T.mak,T.mpaper,rfl,pa,as,ls,rfl,ep,tr,nd,by (first|lia|omega),fun p as' ls' hp tr' pm' so => ?_⟩
 have e3:=rise_eq (pm'.trans pm) so ri.1
 subst e3
 have s3:=zE hp (.lst (as'.map V.ref))
 exact q p as' _ (s1.trans (s2.trans s3)) ((s1.trans s2).free hp) zB (Paired.imp (fun _ _ z=>s3 _ _ z) tr')

end
section
variable {P:Program} {w:World} {K:PySem.W.Frag} {mg:Str->Option Value} {base:Heap} {f:Addr} {fd:FuncData} {aP CL CN CM:Addr}
set_option maxHeartbeats 4000000

theorem ok_written (d:Nat) (T:Txt K mg) (F:Fun K "_law_written" "_law_written" jQ f fd) (C_law_written:Cal P w K mg base (CXE P w) (d+1) "_law_written" ["_law_node_here"] (spNumbers d)):FnOk P w K mg base (CXE P w) (d+2) f fd ["_law_node_here"] (spNumbers (d+1)):=by
 refine F.okN jG (fun vs H Q E h => ?_) (fun cdv A outer s H vs Q E hr h => ?_)
 ·obtain ⟨v,t,rfl,_⟩ := h
  rfl
 obtain ⟨v,⟨k,own,ps⟩,rfl,⟨tn,ow,pt,pvs,rfl,etn,eow,ept,pp⟩,ln,q⟩ := h
 have en:nums (.mk k own ps)=k :: (own++numsL ps):=rfl
 rw [en] at ln q
 rw [List.length_cons,List.length_append] at ln
 have sl:(100000:Nat)<sizeLine:=by decide
 refine ⟨_,(zD (zJ (i:=1) jG.nd rfl (Or.inl rfl) (zP xB (yF (zA (yC yU (pv 0) zF (fun _ _=>rfl)) zC)) (xO call_list_of rfl T.n_list wW (zA (yC yU (pv 0) zF (fun _ _=>rfl)) zC))))
   (zD (yY PassesOwn.never rfl (pi_tup (yC yU (pv 0) zF (fun _ _=>rfl))) (zL (i:=2) jG.nd rfl (Or.inl rfl)) (zG (zJ (i:=1) jG.nd rfl (Or.inl rfl) (zP xB (pv 1) (zH C_law_written hr rfl (zA (pv 2) zC) passN)))))
   (zG (zS (pv 1))))),?_⟩
 try dsimp only [Cx.nox,Cx.exc,Cx.wish,zX]
 refine ⟨_,rfl,tn,_,_,_,rfl,rfl,SqT.of etn,rfl,sm1,fun z a1 => ?_⟩
 have g1:=zE a1 (.lst [.int k])
 refine ⟨_,rfl,tn,_,_,_,rfl,rfl,SqT.of (g1 _ _ etn),rfl,ow,_,rfl,.inr (SqT.of (g1 _ _ eow)),fun y a2 => ?_⟩
 have g2:=zE a2 (.lst (own.map V.int))
 refine ⟨z,y,_,_,rfl,rfl,g2 _ _ zB,zB,by show 1+(own.map V.int).length<=sizeLine; rw [List.length_map]; (first|lia|omega),fun l0 a3 => ?_⟩
 have g3:=zE a3 (.lst ([.int k]++own.map V.int))
 have gg:=g1.trans (g2.trans g3)
 have lpv:=Paired.len pp
 refine ⟨_,rfl,tn,_,_,_,rfl,rfl,SqT.of (gg _ _ etn),rfl,pt,rfl,⟨_,SqT.of (gg _ _ ept)⟩,for_tup (xs:=pvs) (fun i σ' H'=>∃ (l:Addr) (v2:Option V),σ'=[some (.ref tn),some (.ref l),v2]/\Same H H'/\H l=none/\H' l=some (.lst ((k :: (own++numsL (ps.take i))).map V.int))) ⟨l0,none,rfl,gg,(g1.trans g2).free a3,by
  rw [zB,List.take_zero]
  show _=some (HO.lst ((k :: (own++[])).map V.int))
  rw [List.append_nil] <;> rfl⟩ ?_ ?_ ?_⟩
 ·rintro i σ' H' _ ⟨l,v2,_,g,_⟩
  exact SqT.of (g _ _ ept)
 ·rintro i x σ' H' hx ⟨l,v2,rfl,g,hl,el⟩
  obtain ⟨ti,hti,tri⟩ := Paired.yonder pp hx
  have et:ps.take (i+1)=ps.take i++[ti]:=by rw [List.take_succ,hti] <;> rfl
  have ed:numsL ps=numsL (ps.take i)++(nums ti++numsL (ps.drop (i+1))):=by
   have:=List.take_append_drop (i+1) ps
   rw [et] at this
   conv=>lhs; rw [<- this]
   rw [yZ,yZ,List.append_assoc]
   show _++((nums ti++[])++_)=_
   rw [List.append_nil]
  have le:(numsL ps).length=(numsL (ps.take i)).length+((nums ti).length+(numsL (ps.drop (i+1))).length):=by
   rw [ed,List.length_append,List.length_append]
  refine ⟨_,rfl,_,rfl,x,ti,rfl,tri.same g,by (first|lia|omega),fun l1 H1 g1 hl1 el1 => ?_⟩
  refine ⟨l,l1,_,_,rfl,rfl,g1 _ _ el,el1,by rw [List.length_map,List.length_map,List.length_cons,List.length_append]; (first|lia|omega),fun l2 a4 => ?_⟩
  have g4:=zE a4 (.lst ((k :: (own++numsL (ps.take i))).map V.int++(nums ti).map V.int))
  refine ⟨l2,_,rfl,g.trans (g1.trans g4),(g.trans g1).free a4,?_⟩
  rw [zB,<- List.map_append,et,yZ]
  show some (HO.lst (List.map V.int (k :: (own++numsL (ps.take i)++nums ti))))=some (HO.lst (List.map V.int (k :: (own++(numsL (ps.take i)++(nums ti++[]))))))
  rw [List.append_nil,List.append_assoc]
 ·rintro σ' H' ⟨l,v2,rfl,g,hl,el⟩
  rw [lpv,List.take_length] at el
  exact ⟨_,rfl,q l H' g hl el⟩
theorem ok_writtenS (T:Txt K mg) (F:Fun K "_law_written" "_law_written" jQ f fd) (hm:mg "_law_written" = some (.ref f)) (hk:PySem.W.keepIn K (.ref f)=true) (hb:Binds K fd ["_law_node_here"] []):∀ d,FnOk P w K mg base (CXE P w) (d+1) f fd ["_law_node_here"] (spNumbers d)
 | 0=>⟨fun vs H Q E h=>by obtain ⟨_,_,rfl,_⟩ := h; rfl,fun _ _ _ _ _ _ _ _ _ _ _ _ _ h=>by obtain ⟨_,_,_,h,_⟩ := h; exact h.elim⟩
 | d+1=>ok_written d T F ⟨⟨_,_,ok_writtenS T F hm hk hb d,hm,hk,hb⟩⟩
theorem ok_sheetL (d:Nat) (T:Txt K mg) (F:Fun K "_law_sheet" "_law_sheet" wM f fd) (C_law_written:Cal P w K mg base (CXE P w) (d+1) "_law_written" ["_law_node_here"] (spNumbers d)):FnOk P w K mg base (CXE P w) (d+2) f fd ["_law_told"] (spSheetL d):=by
 refine F.okN yQ (fun vs H Q E h => ?_) (fun cdv A outer s H vs Q E hr h => ?_)
 ·obtain ⟨l,rs,fs,rfl,_⟩ := h
  rfl
 obtain ⟨l,rs,fs,rfl,el,pf,ln,q⟩ := h
 have sl:(100000:Nat)<sizeLine:=by decide
 have lrs:=Paired.len pf
 have ew:wr fs=(fs.length:Int) :: (headsW fs++bodiesW fs):=rfl
 rw [ew] at ln q
 rw [List.length_cons,List.length_append] at ln
 refine ⟨_,(zD (zJ (i:=1) yQ.nd rfl (Or.inl rfl) (yF (zA (zR zM rfl T.n_len yI (zA (pv 0) zC)) zC)))
   (zD (yY PassesOwn.never rfl (xL (pv 0)) (xS rfl (zQ (zL (i:=2) yQ.nd rfl (Or.inl rfl)) (zQ (zL (i:=3) yQ.nd rfl (Or.inl rfl)) (zQ (zL (i:=4) yQ.nd rfl (Or.inl rfl)) yW)))) (zG (zJ (i:=1) yQ.nd rfl (Or.inl rfl) (zP xB (pv 1) (yF (zA (pv 2) (zA (pv 3) zC)))))))
   (zD (yY PassesOwn.never rfl (xL (pv 0)) (xS rfl (zQ (zL (i:=2) yQ.nd rfl (Or.inl rfl)) (zQ (zL (i:=3) yQ.nd rfl (Or.inl rfl)) (zQ (zL (i:=4) yQ.nd rfl (Or.inl rfl)) yW)))) (zG (zJ (i:=1) yQ.nd rfl (Or.inl rfl) (zP xB (pv 1) (zH C_law_written hr rfl (zA (pv 4) zC) passN)))))
   (zG (zS (pv 1)))))),?_⟩
 try dsimp only [Cx.nox,Cx.exc,Cx.wish,zX]
 refine ⟨_,rfl,l,_,rfl,.inl (SqL.of el),sm1,fun l0 a0 => ?_⟩
 have g0:=zE a0 (.lst [.int (rs.length:Int)])
 refine ⟨_,rfl,l,rfl,⟨_,SqL.of (g0 _ _ el)⟩,xT (xs:=rs) (fun i σ' H'=>∃ (l1:Addr) (v2 v3 v4:Option V),σ'=[some (.ref l),some (.ref l1),v2,v3,v4]/\Same H H'/\H l1=none/\H' l1=some (.lst (((fs.length:Int) :: headsW (fs.take i)).map V.int))) ⟨l0,none,none,none,rfl,g0,a0,by rw [zB,lrs] <;> rfl⟩ ?_ ?_ ?_⟩
 ·rintro i σ' H' _ ⟨l1,v2,v3,v4,_,g,_⟩
  exact SqL.of (g _ _ el)
 ·rintro i x σ' H' hx ⟨l1,v2,v3,v4,rfl,g,hl,el1⟩
  obtain ⟨fi,hfi,t,b,rfl,et,tr⟩ := Paired.yonder pf hx
  have et1:fs.take (i+1)=fs.take i++[fi]:=by rw [List.take_succ,hfi] <;> rfl
  have eh:headsW (fs.take (i+1))=headsW (fs.take i)++[fi.1.1,fi.1.2]:=by
   rw [et1]
   unfold headsW
   rw [List.flatMap_append] <;> rfl
  have hle:(headsW (fs.take i)).length=2 * (fs.take i).length:=by rw [qS,qG,List.length_map]
  have hle2:(headsW fs).length=2 * fs.length:=by rw [qS,qG,List.length_map]
  have hi:i<fs.length:=(List.getElem?_eq_some_iff.mp hfi).1
  rw [List.length_take] at hle
  refine ⟨t,_,rfl,.of (g _ _ et),rfl,_,_,rfl,_,_,rfl,_,_,rfl,rfl,_,rfl,_,rfl,_,rfl,sm2,fun z a1 => ?_⟩
  have g1:=zE a1 (.lst [.int fi.1.1,.int fi.1.2])
  refine ⟨l1,z,_,_,rfl,rfl,g1 _ _ el1,zB,by rw [List.length_map,List.length_cons]; show _+2<=_; (first|lia|omega),fun l2 a2 => ?_⟩
  have g2:=zE a2 (.lst (((fs.length:Int) :: headsW (fs.take i)).map V.int++[.int fi.1.1,.int fi.1.2]))
  refine ⟨l2,_,_,_,rfl,g.trans (g1.trans g2),(g.trans g1).free a2,?_⟩
  rw [zB,eh]
  show _=some (HO.lst (List.map V.int (((fs.length:Int) :: headsW (fs.take i))++[fi.1.1,fi.1.2])))
  rw [List.map_append] <;> rfl
 rintro σ' H1 ⟨l1,v2,v3,v4,rfl,g1,hl1,el1⟩
 rw [lrs,List.take_length] at el1
 refine ⟨_,rfl,l,rfl,⟨_,SqL.of (g1 _ _ el)⟩,xT (xs:=rs) (fun i σ' H'=>∃ (l1:Addr) (v2 v3 v4:Option V),σ'=[some (.ref l),some (.ref l1),v2,v3,v4]/\Same H H'/\H l1=none/\H' l1=some (.lst (((fs.length:Int) :: (headsW fs++bodiesW (fs.take i))).map V.int))) ⟨l1,v2,v3,v4,rfl,g1,hl1,by rw [el1,List.take_zero,show bodiesW []=[] from rfl,List.append_nil]⟩ ?_ ?_ ?_⟩
 ·rintro i σ' H' _ ⟨l1,v2,v3,v4,_,g,_⟩
  exact SqL.of (g _ _ el)
 ·rintro i x σ' H' hx ⟨l1,v2,v3,v4,rfl,g,hl,el1⟩
  obtain ⟨fi,hfi,t,b,rfl,et,tr⟩ := Paired.yonder pf hx
  have et1:fs.take (i+1)=fs.take i++[fi]:=by rw [List.take_succ,hfi] <;> rfl
  have eb:bodiesW (fs.take (i+1))=bodiesW (fs.take i)++nums fi.2:=by
   rw [et1]
   unfold bodiesW
   rw [List.flatMap_append,List.flatMap_singleton]
  have ed:bodiesW fs=bodiesW (fs.take (i+1))++bodiesW (fs.drop (i+1)):=by
   conv=>lhs; rw [<- List.take_append_drop (i+1) fs]
   unfold bodiesW
   rw [List.flatMap_append]
  have le:(bodiesW fs).length=(bodiesW (fs.take i)).length+(nums fi.2).length+(bodiesW (fs.drop (i+1))).length:=by
   rw [ed,eb,List.length_append,List.length_append]
  refine ⟨t,_,rfl,.of (g _ _ et),rfl,_,_,rfl,_,_,rfl,_,_,rfl,rfl,_,rfl,_,rfl,b,fi.2,rfl,tr.same g,by (first|lia|omega),fun l2 H2 g2 hl2 el2 => ?_⟩
  refine ⟨l1,l2,_,_,rfl,rfl,g2 _ _ el1,el2,by rw [List.length_map,List.length_map,List.length_cons,List.length_append]; (first|lia|omega),fun l3 a3 => ?_⟩
  have g3:=zE a3 (.lst (((fs.length:Int) :: (headsW fs++bodiesW (fs.take i))).map V.int++(nums fi.2).map V.int))
  refine ⟨l3,_,_,_,rfl,g.trans (g2.trans g3),(g.trans g2).free a3,?_⟩
  rw [zB,eb,<- List.map_append]
  show some (HO.lst (List.map V.int ((fs.length:Int) :: (headsW fs++bodiesW (fs.take i)++nums fi.2))))=_
  rw [List.append_assoc]
 ·rintro σ' H' ⟨l1,v2,v3,v4,rfl,g,hl,el1⟩
  rw [lrs,List.take_length] at el1
  exact ⟨_,rfl,q l1 H' g hl el1⟩

end
section
variable {P:Program} {w:World} {K:PySem.W.Frag} {mg:Str->Option Value} {base:Heap} {f:Addr} {fd:FuncData} {aP CL CN CM:Addr}
set_option maxHeartbeats 4000000

structure TxtL (K:PySem.W.Frag) (mg:Str->Option Value):Prop extends Txt K mg where
 n_sum:mg "sum" = none
theorem fits_at {hs:Hds} {bx:Int} {d:Nat}:∀ {ps:List Tr} {i:Nat} {x:Tr},FitTs hs bx d ps->ps[i]? = some x->FitT hs bx d x
 | [],i,x,_,e=>by simp at e
 | a :: r,0,x,h,e=>by
  unfold FitTs at h
  have:a=x:=by simpa using e
  exact this ▸ h.1
 | a :: r,i+1,x,h,e=>by
  unfold FitTs at h
  exact fits_at h.2 (by simpa using e)
theorem sum_rls:∀ ps:List Tr,(ps.map fun t=>((rl t:Nat):Int)).sum=((rls ps:Nat):Int)
 | []=>rfl
 | a :: r=>by
  rw [List.map_cons,List.sum_cons,sum_rls r]
  show _=((rl a+rls r:Nat):Int)
  (first|lia|omega)
inductive spSizeL (d:Nat) (vs:List V) (H:Hp) (Q:VK) (E:XK):Prop
 | mk (v:V) (t:Tr) (hs:Hds) (bx:Int) (e:Nat) (h0:vs=[v]) (h1:Tr3 H d v t) (h2:FitT hs bx e t) (h3:(nums t).length<=100000) (h4:∀ H',Same H H'->Q (.int (rl t:Nat)) H'):spSizeL d vs H Q E
theorem ok_size (d:Nat) (T:TxtL K mg) (F:Fun K "_law_size" "_law_size" kE f fd) (C_law_size:Cal P w K mg base (CXE P w) (d+1) "_law_size" ["_law_node_here"] (spSizeL d)):FnOk P w K mg base (CXE P w) (d+2) f fd ["_law_node_here"] (spSizeL (d+1)):=by
 refine F.okN jO (fun vs H Q E h => ?_) (fun cdv A outer s H vs Q E hr h => ?_)
 ·obtain ⟨v,t,hs,bx,e,rfl,_⟩ := h
  rfl
 obtain ⟨v,⟨k,own,ps⟩,hs,bx,e,rfl,⟨tn,ow,pt,pvs,rfl,etn,eow,ept,pp⟩,ft,ln,q⟩ := h
 obtain _ | e:=e
 ·unfold FitT at ft; exact ft.elim
 have gd:=xY _ _ ft
 unfold GdT at gd
 unfold FitT at ft
 obtain ⟨k0,k1,of,lp,_,fp⟩ := ft
 have lv:=Paired.len pp
 have sl:sizeLine=16777216:=sizeLine_eq
 have nl:(nums (.mk k own ps)).length=1+own.length+(numsL ps).length:=by simp [nums]; (first|lia|omega)
 have lp1:=preTs_len ps
 have lp2:=wA ps
 refine ⟨_,(zD (jY (pv 0) (xS rfl (zQ (zL (i:=1) jO.nd rfl (Or.inl rfl)) (zQ (zL (i:=2) jO.nd rfl (Or.inl rfl)) (zQ (zL (i:=3) jO.nd rfl (Or.inl rfl)) yW)))))
   (zD (zJ (i:=4) jO.nd rfl (Or.inl rfl) (zR (call_sumI rfl) rfl T.n_sum bt_sum (zA (qM (own:=["_law_part"]) (ys:=[]) rfl (pi_tup (pv 3)) (xV (sc:=defScope kE) rfl (by decide +kernel)) .nil (fun _ _ _ _ _=>(zL (i:=0) (show List.Nodup [("_law_part" : Str)] from (by decide +kernel)) rfl (Or.inl rfl))) (fun _ _ _ _ _=>kD) (fun _ _ _ _ _=>(zH C_law_size hr rfl (zA (pv 0) zC) passN))) zC)))
   (zD (zW (zN yK (pv 1) zF (nomark _)) (zG (zS (zP jV (zP zY (pv 4) (zR zM rfl T.n_len yI (zA (pv 3) zC))) zF))) zT)
   (zD (zW (zN yK (pv 1) zF (nomark _)) (zG (zS (zP zY (zP zY (pv 4) zF) (zP kL zF (yC yU (pv 2) zF (fun _ _=>rfl)))))) zT)
   (zG (zS (zP zY (pv 4) (yC yN (yF (yT (.int (.int .nil)))) (xO kW rfl T.n_int bt_int (zA (qO yK (pv 1) zF (nomark _)) zC)) (fun _ _=>rfl))))))))),?_⟩
 try dsimp only [Cx.nox,Cx.exc,Cx.wish,zX]
 refine ⟨_,rfl,tn,_,rfl,.of etn,rfl,_,_,rfl,_,_,rfl,_,_,rfl,rfl,?_⟩
 refine ⟨_,rfl,pt,rfl,⟨pvs,.of ept⟩,fun p hp => ?_⟩
 have s1:=zE hp (.lst [])
 refine comp_tup (xs:=pvs) (fun i σ' H'=>Same H H'/\H' p=some (.lst (((ps.take i).map fun t=>((rl t:Nat):Int)).map V.int))/\∃ x,σ'=[x]) ⟨s1,zB,_,rfl⟩ ?_ ?_ ?_
 ·rintro i σ' H' _ ⟨g,_⟩
  exact .of (g _ _ ept)
 ·rintro i x σ' H' hi hx ⟨g,ey,x0,rfl⟩
  obtain ⟨ti,hti,tri⟩ := Paired.yonder pp hx
  have tk:ps.take (i+1)=ps.take i++[ti]:=by rw [List.take_add_one,hti] <;> rfl
  unfold gName
  refine tyes ?_
  have hsum:(nums ti).length<=(numsL ps).length:=by
   have tk':numsL ps=numsL (ps.take (i+1))++numsL (ps.drop (i+1)):=by rw [<- yZ,List.take_append_drop]
   rw [tk,yZ] at tk'
   rw [tk',List.length_append,List.length_append,numsL,List.length_append]; (first|lia|omega)
  refine ⟨_,rfl,x,ti,hs,bx,e,rfl,tri.same g,fits_at fp hti,by (first|lia|omega),fun H2 s2 => ?_⟩
  have ey2:=s2 _ _ ey
  refine ⟨_,ey2,by rw [List.length_map,List.length_map,List.length_take]; (first|lia|omega),CW.next hi ⟨(g.trans s2).fresh hp,?_,_,rfl⟩⟩
  rw [zB,tk,List.map_append,List.map_append] <;> rfl
 ·rintro σ' H' ⟨g,ey,_⟩
  rw [lv,List.take_length] at ey
  refine ⟨p,_,rfl,ey,?_⟩
  rw [sum_rls]
  have er:rl (.mk k own ps)=if k=3 then rls ps+(ps.length - 1) else if k=4 then rls ps+2 * (ps.length - 1)+1 else if k=5 then rls ps+5 else rls ps+1:=rfl
  rw [er] at q
  refine ⟨_,rfl,rfl,_,rfl,ite2 (fun c => ?_) (fun c3 => ?_)⟩
  ·have z:=vt c
   subst z
   rw [if_pos rfl] at q
   have nz:=gd.1 rfl
   have lz : 0<ps.length:=List.length_pos_iff.mpr nz
   have q:=q H' g
   rw [show ((rls ps+(ps.length - 1):Nat):Int)=((rls ps:Nat):Int)+((pvs.length:Nat):Int) - 1 by (first|lia|omega)] at q
   exact ⟨_,rfl,_,rfl,pt,_,rfl,.inr (.of (g _ _ ept)),_,_,rfl,rfl,_,_,rfl,rfl,q⟩
  have c3:=vf c3
  rw [if_neg (by (first|lia|omega))] at q
  refine ⟨_,rfl,rfl,_,rfl,ite2 (fun c => ?_) (fun c4 => ?_)⟩
  ·have z:=vt c
   subst z
   rw [if_pos rfl] at q
   rcases of with ⟨z,_⟩ | ⟨z,_⟩ | ⟨z,_⟩ | ⟨_,n,rfl,a,b⟩ | ⟨z,_⟩ | ⟨z,_⟩ <;> try (first|lia|omega)
   have q:=q H' g
   have cm:CMul 2 n:=.inl ⟨by decide,by decide⟩
   rw [show (dueM hs 4 [n]).toNat=(1+n).toNat from rfl] at lp
   rw [show ((rls ps+2 * (ps.length - 1)+1:Nat):Int)=((rls ps:Nat):Int)+1+2 * n by (first|lia|omega)] at q
   exact ⟨_,rfl,_,_,rfl,rfl,_,rfl,ow,_,_,_,rfl,rfl,.of (g _ _ eow),rfl,_,_,rfl,rfl,cm,_,_,rfl,rfl,q⟩
  have c4:=vf c4
  rw [if_neg (by (first|lia|omega))] at q
  refine ⟨_,rfl,sm2,fun z a2 => ?_⟩
  have s2:=zE a2 (.lst [.int 1,.int 5])
  refine ⟨_,rfl,rfl,.inr ⟨_,rfl,?_⟩⟩
  by_cases c:decide (V.int k=V.int 5)=true
  ·rw [if_pos c]
   have z5:=vt c
   rw [if_pos z5] at q
   exact ⟨z,_,_,_,rfl,rfl,.of zB,rfl,_,_,rfl,rfl,q _ (g.trans s2)⟩
  ·rw [if_neg c]
   have z5:¬ k=5:=fun z=>c (by rw [z]; exact decide_eq_true rfl)
   rw [if_neg z5] at q
   exact ⟨z,_,_,_,rfl,rfl,.of zB,rfl,_,_,rfl,rfl,q _ (g.trans s2)⟩
theorem ok_sizeS (T:TxtL K mg) (F:Fun K "_law_size" "_law_size" kE f fd) (hm:mg "_law_size" = some (.ref f)) (hk:PySem.W.keepIn K (.ref f)=true) (hb:Binds K fd ["_law_node_here"] []):∀ d,FnOk P w K mg base (CXE P w) (d+1) f fd ["_law_node_here"] (spSizeL d)
 | 0=>⟨fun vs H Q E h=>by obtain ⟨_,_,_,_,_,rfl,_⟩ := h; rfl,fun _ _ _ _ _ _ _ _ _ _ _ _ _ h=>by obtain ⟨_,_,_,_,_,_,h,_⟩ := h; exact h.elim⟩
 | d+1=>ok_size d T F ⟨⟨_,_,ok_sizeS T F hm hk hb d,hm,hk,hb⟩⟩

end
section
variable {P:Program} {w:World} {K:PySem.W.Frag} {mg:Str->Option Value} {base:Heap} {f:Addr} {fd:FuncData} {aP CL CN CM:Addr}
set_option maxHeartbeats 4000000

mutual
noncomputable def lnT (p b:Nat):Tr->List Ln
 | .mk k own ps=>((p:Int),(b:Int),((b+rl (.mk k own ps):Nat):Int)) :: lnTs k (ps.length - 1) 0 (p+1+own.length) (b+if k=5 then 1 else 0) ps
noncomputable def lnTs (k:Int) (m i p b:Nat):List Tr->List Ln
 | []=>[]
 | t :: r=>lnT p b t++lnTs k m (i+1) (p+(nums t).length) (nxB k m i b t) r
end
mutual
theorem nums_hns:∀ nd:Nd,(flatH (hns nd)).length=(nums (bare nd)).length
 | .mk k p own ps=>by
  rw [hns_mk]
  show (k :: own++flatH (hnsL ps)).length=(k :: (own++numsL (bareL ps))).length
  rw [List.length_append,List.length_cons,List.length_cons,List.length_append,nums_hnsL ps]
  (first|lia|omega)
theorem nums_hnsL:∀ ps:List Nd,(flatH (hnsL ps)).length=(numsL (bareL ps)).length
 | []=>rfl
 | t :: r=>by
  rw [kT]
  show ((hns t++hnsL r).flatMap _).length=(nums (bare t)++numsL (bareL r)).length
  rw [List.flatMap_append,List.length_append,List.length_append,<- nums_hns t,<- nums_hnsL r]
  rfl
end
mutual
theorem lnN_eq:∀ (nd:Nd) (p b:Nat),PlN p nd->lnN b nd=lnT p b (bare nd)
 | .mk k q own ps,p,b,h=>by
  obtain ⟨rfl,hl⟩ := h
  show _ :: lnS k (ps.length - 1) 0 (b+if k=5 then 1 else 0) ps=_ :: lnTs k ((bareL ps).length - 1) 0 (q+1+own.length) (b+if k=5 then 1 else 0) (bareL ps)
  rw [xA,lnS_eq ps _ _ _ _ _ hl]
theorem lnS_eq:∀ (ps:List Nd) (k:Int) (m i p b:Nat),PlL p ps->lnS k m i b ps=lnTs k m i p b (bareL ps)
 | [],_,_,_,_,_,_=>rfl
 | t :: r,k,m,i,p,b,h=>by
  obtain ⟨h1,h2⟩ := h
  show lnN b t++lnS k m (i+1) (nxB k m i b (bare t)) r=lnT p b (bare t)++lnTs k m (i+1) (p+(nums (bare t)).length) (nxB k m i b (bare t)) (bareL r)
  rw [nums_hns] at h2
  rw [lnN_eq t p b h1,lnS_eq r _ _ _ _ _ h2]
end
theorem lnTs_snoc:∀ (xs:List Tr) (t:Tr) (k:Int) (m i p b:Nat),lnTs k m i p b (xs++[t])=lnTs k m i p b xs++lnT (p+(numsL xs).length) (bgS k m i b xs) t
 | [],t,k,m,i,p,b=>by
  show lnT p b t++[]=[]++lnT (p+0) b t
  rw [List.append_nil]; rfl
 | x :: r,t,k,m,i,p,b=>by
  show lnT p b x++lnTs k m (i+1) (p+(nums x).length) (nxB k m i b x) (r++[t])=(lnT p b x++lnTs k m (i+1) (p+(nums x).length) (nxB k m i b x) r)++lnT (p+(nums x++numsL r).length) (bgS k m (i+1) (nxB k m i b x) r) t
  rw [lnTs_snoc r,List.append_assoc,List.length_append,Nat.add_assoc]
theorem bgS_snoc:∀ (xs:List Tr) (t:Tr) (k:Int) (m i b:Nat),bgS k m i b (xs++[t])=nxB k m (i+xs.length) (bgS k m i b xs) t
 | [],t,k,m,i,b=>rfl
 | x :: r,t,k,m,i,b=>by
  show bgS k m (i+1) (nxB k m i b x) (r++[t])=nxB k m (i+(r.length+1)) (bgS k m (i+1) (nxB k m i b x) r) t
  rw [bgS_snoc r,Nat.add_assoc,Nat.add_comm 1]
theorem in35 {op:Int}:inV (V.int op) [V.int 3,V.int 5]=decide (op=3\/op=5):=(inV_ints op [3,5]).trans (decide_eq_decide.mpr (by simp only [List.mem_cons,List.not_mem_nil,or_false]))
theorem nx4 {m i b:Nat} {t:Tr}:nxB 4 m i b t=b+rl t+(if i=0 then m+2 else 1):=rfl
theorem nxO {k:Int} {m i b:Nat} {t:Tr} (h:k≠4):nxB k m i b t=b+rl t+(if k=3\/k=5 then 1 else 0):=by
 unfold nxB
 rw [if_neg h]
theorem if35 {k:Int}:(if inV (V.int k) [V.int 3,V.int 5]=true then (1:Int) else 0)=((if k=3\/k=5 then 1 else 0:Nat):Int):=by
 rw [in35]
 by_cases c:k=3\/k=5
 ·rw [if_pos c,if_pos (decide_eq_true c)]; rfl
 ·rw [if_neg c,if_neg (by rw [decide_eq_true_eq]; exact c)]; rfl
mutual
theorem lnT_len:∀ (t:Tr) (p b:Nat),(lnT p b t).length<=(nums t).length
 | .mk k own ps,p,b=>by
  show (lnTs k (ps.length - 1) 0 (p+1+own.length) (b+if k=5 then 1 else 0) ps).length+1<=(own++numsL ps).length+1
  have:=lnTs_len ps k (ps.length - 1) 0 (p+1+own.length) (b+if k=5 then 1 else 0)
  rw [List.length_append]
  (first|lia|omega)
theorem lnTs_len:∀ (ps:List Tr) (k:Int) (m i p b:Nat),(lnTs k m i p b ps).length<=(numsL ps).length
 | [],_,_,_,_,_=>Nat.le_refl _
 | t :: r,k,m,i,p,b=>by
  show (lnT p b t++lnTs k m (i+1) (p+(nums t).length) (nxB k m i b t) r).length<=(nums t++numsL r).length
  have h1:=lnT_len t p b
  have h2:=lnTs_len r k m (i+1) (p+(nums t).length) (nxB k m i b t)
  rw [List.length_append,List.length_append]
  (first|lia|omega)
end
noncomputable def LnsAt (H:Hp) (l:Addr) (ls:List Ln):Prop:=∃ as:List Addr,H l=some (.lst (as.map V.ref))/\Paired (Tri3 H) as ls
theorem LnsAt.same {H H':Hp} {l:Addr} {ls:List Ln} (g:Same H H'):LnsAt H l ls->LnsAt H' l ls:=fun ⟨as,e,p⟩=>⟨as,g _ _ e,Paired.imp (fun _ _ z=>g _ _ z) p⟩
inductive spLines (d:Nat) (vs:List V) (H:Hp) (Q:VK) (E:XK):Prop
 | mk (v:V) (p b:Nat) (t:Tr) (hs:Hds) (bx:Int) (e:Nat) (h0:vs=[v,.int p,.int b]) (h1:Tr3 H d v t) (h2:FitT hs bx e t) (h3:(nums t).length<=100000) (h4:∀ l H',Same H H'->H l=none->LnsAt H' l (lnT p b t)->Q (.ref l) H'):spLines d vs H Q E
theorem ok_lines (d:Nat) (T:TxtL K mg) (F:Fun K "_law_lines" "_law_lines" kO f fd) (C_law_size:Cal P w K mg base (CXE P w) (d+2) "_law_size" ["_law_node_here"] (spSizeL (d+1))) (C_law_written:Cal P w K mg base (CXE P w) (d+1) "_law_written" ["_law_node_here"] (spNumbers d)) (C_law_lines:Cal P w K mg base (CXE P w) (d+2) "_law_lines" ["_law_node_here", "_law_place", "_law_begin"] (spLines d)):FnOk P w K mg base (CXE P w) (d+3) f fd ["_law_node_here", "_law_place", "_law_begin"] (spLines (d+1)):=by
 refine F.okN yH (fun vs H Q E h => ?_) (fun cdv A outer s H vs Q E hr h => ?_)
 ·obtain ⟨v,p,b,t,hs,bx,e,rfl,_⟩ := h
  rfl
 obtain ⟨v,p,b,⟨k,own,ps⟩,hs,bx,e,rfl,⟨tn,ow,pt,pvs,rfl,etn,eow,ept,pp⟩,ft,ln,q⟩ := h
 have tr0:Tr3 H (d+1) (.ref tn) (.mk k own ps):=⟨tn,ow,pt,pvs,rfl,etn,eow,ept,pp⟩
 have ft0:=ft
 obtain _ | e:=e
 ·unfold FitT at ft; exact ft.elim
 unfold FitT at ft
 obtain ⟨k0,k1,of,lp,_,fp⟩ := ft
 have lv:=Paired.len pp
 have sl:sizeLine=16777216:=sizeLine_eq
 have nl:(nums (.mk k own ps)).length=1+own.length+(numsL ps).length:=by simp [nums]; (first|lia|omega)
 have lp1:=preTs_len ps
 have lp2:=wA ps
 refine ⟨_,(zD (jY (pv 0) (xS rfl (zQ (zL (i:=3) yH.nd rfl (Or.inl rfl)) (zQ (zL (i:=4) yH.nd rfl (Or.inl rfl)) (zQ (zL (i:=5) yH.nd rfl (Or.inl rfl)) yW)))))
   (zD (zJ (i:=6) yH.nd rfl (Or.inl rfl) (yF (zA (zU (zA (pv 1) (zA (pv 2) (zA (zP zY (pv 2) (zH C_law_size hr rfl (zA (pv 0) zC) passN)) zC)))) zC)))
   (zD (zJ (i:=1) yH.nd rfl (Or.inl rfl) (zP zY (zP zY (pv 1) zF) (zR zM rfl T.n_len yI (zA (pv 4) zC))))
   (zD (zJ (i:=2) yH.nd rfl (Or.inl rfl) (zP zY (pv 2) (xO kW rfl T.n_int bt_int (zA (qO yK (pv 3) zF (nomark _)) zC))))
   (zD (yY PassesOwn.never rfl (pi_enumT rfl T.n_enumerate (zA (pv 5) zC)) (xS rfl (zQ (zL (i:=7) yH.nd rfl (Or.inl rfl)) (zQ (zL (i:=8) yH.nd rfl (Or.inl rfl)) yW))) (zD (zJ (i:=6) yH.nd rfl (Or.inl rfl) (zP xB (pv 6) (zH C_law_lines hr rfl (zA (pv 8) (zA (pv 1) (zA (pv 2) zC))) passN)))
   (zD (zJ (i:=1) yH.nd rfl (Or.inl rfl) (zP zY (pv 1) (zR zM rfl T.n_len yI (zA (zH C_law_written hr rfl (zA (pv 8) zC) passN) zC))))
   (zD (zJ (i:=2) yH.nd rfl (Or.inl rfl) (zP zY (zP zY (pv 2) (zH C_law_size hr rfl (zA (pv 8) zC) passN)) (xO kW rfl T.n_int bt_int (zA (qO op_in_seq (pv 3) (zU (yT (.int (.int .nil)))) rfl) zC))))
   (zG (zW (zN yK (pv 3) zF (nomark _)) (zG (zJ (i:=2) yH.nd rfl (Or.inl rfl) (zP zY (pv 2) (yC yN (yF (zA zF (zA (zP zY (yC yU (pv 4) zF (fun _ _=>rfl)) zF) zC))) (xO kW rfl T.n_int bt_int (zA (qO yK (pv 7) zF (nomark _)) zC)) (fun _ _=>rfl))))) zT))))))
   (zG (zS (pv 6)))))))),?_⟩
 try dsimp only [Cx.nox,Cx.exc,Cx.wish,zX]
 refine ⟨_,rfl,tn,_,rfl,.of etn,rfl,_,_,rfl,_,_,rfl,_,_,rfl,rfl,?_⟩
 refine ⟨_,rfl,_,rfl,_,rfl,_,rfl,_,_,hs,bx,_,rfl,tr0,ft0,ln,fun H1 s1 => ?_⟩
 refine ⟨_,_,rfl,rfl,sm3,fun t1 ht1=>⟨sm1,fun l0 hl0 => ?_⟩⟩
 have s2:=zE ht1 (.tup [.int (p:Nat),.int (b:Nat),.int ((b:Nat)+(rl (.mk k own ps):Nat):Int)])
 have s3:=zE hl0 (.lst [.ref t1])
 have g3:=s1.trans (s2.trans s3)
 refine ⟨_,rfl,_,_,rfl,rfl,_,rfl,ow,_,rfl,.inr (.of (g3 _ _ eow)),_,_,rfl,rfl,?_⟩
 refine ⟨_,rfl,_,rfl,rfl,.inr ⟨_,rfl,_,_,rfl,rfl,?_⟩⟩
 have e5:(if decide (V.int k=V.int 5)=true then (1:Int) else 0)=((if k=5 then 1 else 0:Nat):Int):=by
  by_cases c:k=5
  ·rw [if_pos c,if_pos (by rw [c]; exact decide_eq_true rfl)]; rfl
  ·rw [if_neg c,if_neg (fun z=>c (vt z))]; rfl
 rw [e5]
 have L0:LnsAt (upd (upd H1 t1 (.tup [.int (p:Nat),.int (b:Nat),.int ((b:Nat)+(rl (.mk k own ps):Nat):Int)])) l0 (.lst [.ref t1])) l0 [((p:Int),(b:Int),((b+rl (.mk k own ps):Nat):Int))]:=⟨[t1],zB,.cons (s3 _ _ (by rw [zB]; rfl)) .nil⟩
 generalize ee:(if k=5 then 1 else 0:Nat)=c5
 have eln:lnT p b (.mk k own ps)=((p:Int),(b:Int),((b+rl (.mk k own ps):Nat):Int)) :: lnTs k (ps.length - 1) 0 (p+1+own.length) (b+c5) ps:=by rw [<- ee]; rfl
 rw [eln] at q
 generalize ((p:Int),(b:Int),((b+rl (.mk k own ps):Nat):Int))=hd at *
 refine ⟨_,rfl,pt,_,rfl,.of (g3 _ _ ept),for_enumT (xs:=pvs) (fun i σ' H'=>∃ (l:Addr) (v7 v8:Option V),σ'=[some (.ref tn),some (.int (p+1+own.length+(numsL (ps.take i)).length:Nat)),some (.int (bgS k (ps.length - 1) 0 (b+c5) (ps.take i):Nat)),some (.int k),some (.ref ow),some (.ref pt),some (.ref l),v7,v8]/\Same H H'/\H l=none/\LnsAt H' l (hd :: lnTs k (ps.length - 1) 0 (p+1+own.length) (b+c5) (ps.take i))) ⟨l0,none,none,?_,g3,(s1.trans s2).free hl0,L0⟩ (fun i σ' H' _ ⟨l,v7,v8,_,g,_⟩ => .of (g _ _ ept)) ?_ ?_⟩
 ·show [some (V.ref tn),some (.int ((p:Int)+1+(((own.map V.int).length:Nat):Int))),some (.int ((b:Int)+(c5:Int))),some (.int k),some (.ref ow),some (.ref pt),some (.ref l0),none,none]=_
  rw [List.length_map] <;> rfl
 ·rintro i x σ' H' t hx ⟨l,v7,v8,rfl,g,hl,L⟩ ht
  obtain ⟨ti,hti,tri⟩ := Paired.yonder pp hx
  have tk:ps.take (i+1)=ps.take i++[ti]:=by rw [List.take_add_one,hti] <;> rfl
  have hsum:(numsL ps).length=(numsL (ps.take i)).length+(nums ti).length+(numsL (ps.drop (i+1))).length:=by
   have tk':numsL ps=numsL (ps.take (i+1))++numsL (ps.drop (i+1)):=by rw [<- yZ,List.take_append_drop]
   rw [tk,yZ] at tk'
   rw [tk',List.length_append,List.length_append,numsL,numsL,List.append_nil]
  have z1:=zE ht (.tup [.int (i:Nat),x])
  have fi:=fits_at fp hti
  refine ⟨t,_,rfl,.of zB,rfl,_,_,rfl,_,_,rfl,rfl,?_⟩
  refine ⟨_,rfl,_,rfl,_,rfl,_,rfl,x,_,_,ti,hs,bx,e,rfl,tri.same (g.trans z1),fi,by (first|lia|omega),fun l2 H2 z2 hl2 L2 => ?_⟩
  obtain ⟨a1,ea1,pa1⟩ := (L.same (z1.trans z2))
  obtain ⟨a2,ea2,pa2⟩ := id L2
  refine ⟨l,l2,_,_,rfl,rfl,ea1,ea2,?_,fun l3 hl3 => ?_⟩
  ·have y1:=Paired.len pa1
   have y2:=Paired.len pa2
   rw [List.length_cons] at y1
   have y3:=lnTs_len (ps.take i) k (ps.length - 1) 0 (p+1+own.length) (b+c5)
   have y4:=lnT_len ti (p+1+own.length+(numsL (ps.take i)).length) (bgS k (ps.length - 1) 0 (b+c5) (ps.take i))
   rw [List.length_map,List.length_map]
   (first|lia|omega)
  have z3:=zE hl3 (.lst (a1.map V.ref++a2.map V.ref))
  have gB:=g.trans (z1.trans (z2.trans z3))
  refine ⟨_,rfl,_,rfl,x,ti,rfl,tri.same gB,by (first|lia|omega),fun l4 H4 z4 hl4 e4 => ?_⟩
  refine ⟨l4,_,rfl,.inl (.of e4),_,_,rfl,rfl,?_⟩
  refine ⟨_,rfl,_,rfl,x,ti,hs,bx,e,rfl,(tri.same (gB.trans z4)).more,fi,by (first|lia|omega),fun H5 z5 => ?_⟩
  refine ⟨_,_,rfl,rfl,_,rfl,sm2,fun tt htt => ?_⟩
  have z6:=zE htt (.tup [.int 3,.int 5])
  have g7:=(z5.trans z6)
  have fin:∀ (B:Int) (H7:Hp),Same (upd H5 tt (.tup [.int 3,.int 5])) H7->B=((nxB k (ps.length - 1) i (bgS k (ps.length - 1) 0 (b+c5) (ps.take i)) ti:Nat):Int)->∃ (l:Addr) (v7 v8:Option V),[some (.ref tn),some (.int (((p+1+own.length+(numsL (ps.take i)).length:Nat):Int)+((((nums ti).map V.int).length:Nat):Int))),some (.int B),some (.int k),some (.ref ow),some (.ref pt),some (.ref l3),some (.int (i:Nat)),some x]=[some (.ref tn),some (.int (p+1+own.length+(numsL (ps.take (i+1))).length:Nat)),some (.int (bgS k (ps.length - 1) 0 (b+c5) (ps.take (i+1)):Nat)),some (.int k),some (.ref ow),some (.ref pt),some (.ref l),v7,v8]/\Same H H7/\H l=none/\LnsAt H7 l (hd :: lnTs k (ps.length - 1) 0 (p+1+own.length) (b+c5) (ps.take (i+1))):=fun B H7 s7 eB=>by
   have gg:=z4.trans (g7.trans s7)
   refine ⟨l3,some (.int (i:Nat)),some x,?_,gB.trans gg,(g.trans (z1.trans z2)).free hl3,a1++a2,?_,?_⟩
   ·have hi:=(List.getElem?_eq_some_iff.mp hti).1
    rw [eB,tk,bgS_snoc,yZ,List.length_append,List.length_map,Nat.zero_add,List.length_take,Nat.min_eq_left (by (first|lia|omega)),numsL,numsL,List.append_nil]
    rw [show ((p+1+own.length+(numsL (ps.take i)).length:Nat):Int)+((nums ti).length:Int)=((p+1+own.length+((numsL (ps.take i)).length+(nums ti).length):Nat):Int) by (first|lia|omega)]
   ·rw [List.map_append]
    exact gg _ _ zB
   ·rw [tk,lnTs_snoc,<- List.cons_append]
    exact Paired.append (Paired.imp (fun _ _ z=>(z3.trans gg) _ _ z) pa1) (Paired.imp (fun _ _ z=>(z3.trans gg) _ _ z) pa2)
  refine ⟨_,_,rfl,.inr (.of zB),rfl,rfl,.inr ⟨_,rfl,_,_,rfl,rfl,?_⟩⟩
  refine ⟨_,rfl,rfl,_,rfl,ite2 (fun c => ?_) (fun c4 => ?_)⟩
  ·have z:=vt c
   subst z
   rcases of with ⟨z,_⟩ | ⟨z,_⟩ | ⟨z,_⟩ | ⟨_,n,rfl,a,b'⟩ | ⟨z,_⟩ | ⟨z,_⟩ <;> try (first|lia|omega)
   refine ⟨_,rfl,_,rfl,ow,_,_,_,rfl,rfl,.of ((gB.trans (z4.trans g7)) _ _ eow),rfl,_,_,rfl,rfl,sm2,fun l6 h6 => ?_⟩
   have z7:=zE h6 (.lst [.int 1,.int (n+2)])
   refine ⟨_,rfl,rfl,.inr ⟨_,rfl,?_⟩⟩
   rw [show (dueM hs 4 [n]).toNat=(1+n).toNat from rfl] at lp
   by_cases c:decide (V.int (i:Nat)=V.int 0)=true
   ·rw [if_pos c]
    have i0:=vt c
    refine ⟨l6,_,_,_,rfl,rfl,.of zB,rfl,_,_,rfl,rfl,fin _ _ z7 ?_⟩
    have i0':i=0:=by (first|lia|omega)
    rw [nx4,if_pos i0']
    show (_:Int)+_+(if inV (V.int 4) [V.int 3,V.int 5]=true then (1:Int) else 0)+(n+2)=_
    rw [if35,if_neg (by decide)]
    (first|lia|omega)
   ·rw [if_neg c]
    have i0:¬ i=0:=fun z=>c (by rw [z]; exact decide_eq_true rfl)
    refine ⟨l6,_,_,_,rfl,rfl,.of zB,rfl,_,_,rfl,rfl,fin _ _ z7 ?_⟩
    rw [nx4,if_neg i0]
    show (_:Int)+_+(if inV (V.int 4) [V.int 3,V.int 5]=true then (1:Int) else 0)+1=_
    rw [if35,if_neg (by decide)]
    (first|lia|omega)
  have c4:=vf c4
  refine fin _ _ (fun _ _ z=>z) ?_
  rw [nxO (by (first|lia|omega))]
  show (_:Int)+_+(if inV (V.int k) [V.int 3,V.int 5]=true then (1:Int) else 0)=_
  rw [if35]
  (first|lia|omega)
 ·rintro σ' H' ⟨l,v7,v8,rfl,g,hl,L⟩
  rw [lv,List.take_length] at L
  exact ⟨_,rfl,q l H' g hl L⟩
theorem ok_linesS (T:TxtL K mg) (F:Fun K "_law_lines" "_law_lines" kO f fd) (CS:∀ d,Cal P w K mg base (CXE P w) (d+1) "_law_size" ["_law_node_here"] (spSizeL d)) (CW:∀ d,Cal P w K mg base (CXE P w) (d+1) "_law_written" ["_law_node_here"] (spNumbers d)) (hm:mg "_law_lines" = some (.ref f)) (hk:PySem.W.keepIn K (.ref f)=true) (hb:Binds K fd ["_law_node_here", "_law_place", "_law_begin"] []):∀ d,FnOk P w K mg base (CXE P w) (d+2) f fd ["_law_node_here", "_law_place", "_law_begin"] (spLines d)
 | 0=>⟨fun vs H Q E h=>by obtain ⟨_,_,_,_,_,_,_,rfl,_⟩ := h; rfl,fun _ _ _ _ _ _ _ _ _ _ _ _ _ h=>by obtain ⟨_,_,_,_,_,_,_,_,h,_⟩ := h; exact h.elim⟩
 | d+1=>ok_lines d T F (CS (d+1)) (CW d) ⟨⟨_,_,ok_linesS T F CS CW hm hk hb d,hm,hk,hb⟩⟩

end
section
variable {P:Program} {w:World} {K:PySem.W.Frag} {mg:Str->Option Value} {base:Heap} {f:Addr} {fd:FuncData} {aP CL CN CM:Addr}
set_option maxHeartbeats 4000000

noncomputable def lnFT (p b:Nat):List Fn->List Ln
 | []=>[]
 | f :: r=>lnT p b f.2++lnFT (p+(nums f.2).length) (b+rl f.2+1) r
theorem lnF_eq:∀ (fs:List FnN) (p b:Nat),PlB p (fs.map (·.2))->lnF b fs=lnFT p b (fs.map fun f=>(f.1,bare f.2))
 | [],_,_,_=>rfl
 | f :: r,p,b,h=>by
  obtain ⟨h1,h2⟩ := h
  show lnN b f.2++lnF (b+rl (bare f.2)+1) r=lnT p b (bare f.2)++lnFT (p+(nums (bare f.2)).length) (b+rl (bare f.2)+1) (r.map fun f=>(f.1,bare f.2))
  rw [nums_hns] at h2
  rw [lnN_eq f.2 p b h1,lnF_eq r _ _ h2]
noncomputable def rlT:List Fn->Nat
 | []=>0
 | f :: r=>rl f.2+1+rlT r
theorem lnFT_snoc:∀ (xs:List Fn) (t:Fn) (p b:Nat),lnFT p b (xs++[t])=lnFT p b xs++lnT (p+(bodiesW xs).length) (b+rlT xs) t.2
 | [],t,p,b=>by
  show lnT p b t.2++[]=[]++lnT (p+0) (b+0) t.2
  rw [List.append_nil]; rfl
 | x :: r,t,p,b=>by
  show lnT p b x.2++lnFT (p+(nums x.2).length) (b+rl x.2+1) (r++[t])=(lnT p b x.2++lnFT (p+(nums x.2).length) (b+rl x.2+1) r)++lnT (p+(nums x.2++bodiesW r).length) (b+(rl x.2+1+rlT r)) t.2
  rw [lnFT_snoc r,List.append_assoc,List.length_append]
  congr 2
  congr 1
  ·(first|lia|omega)
  ·(first|lia|omega)
theorem rlT_snoc:∀ (xs:List Fn) (t:Fn),rlT (xs++[t])=rlT xs+rl t.2+1
 | [],t=>by show rl t.2+1+0=0+rl t.2+1; (first|lia|omega)
 | x :: r,t=>by
  show rl x.2+1+rlT (r++[t])=rl x.2+1+rlT r+rl t.2+1
  rw [rlT_snoc r]
  (first|lia|omega)
theorem lnFT_len:∀ (fs:List Fn) (p b:Nat),(lnFT p b fs).length<=(bodiesW fs).length
 | [],_,_=>Nat.le_refl _
 | f :: r,p,b=>by
  show (lnT p b f.2++lnFT (p+(nums f.2).length) (b+rl f.2+1) r).length<=(nums f.2++bodiesW r).length
  have h1:=lnT_len f.2 p b
  have h2:=lnFT_len r (p+(nums f.2).length) (b+rl f.2+1)
  rw [List.length_append,List.length_append]
  (first|lia|omega)
inductive spPaperL (d:Nat) (vs:List V) (H:Hp) (Q:VK) (E:XK):Prop
 | mk (l:Addr) (rs:List V) (fs:List Fn) (hs:Hds) (e:Nat) (h0:vs=[.ref l]) (h1:H l=some (.lst rs)) (h2:Paired (F3At H d) rs fs) (h3:(∀ f∈fs,FitT hs f.1.2 e f.2)) (h4:(wr fs).length<=100000) (h5:∀ l' H',Same H H'->H l'=none->LnsAt H' l' (lnFT (1+2 * fs.length) 0 fs)->Q (.ref l') H'):spPaperL d vs H Q E
theorem ok_paper (d:Nat) (T:TxtL K mg) (F:Fun K "_law_paper" "_law_paper" wN f fd) (C_law_size:Cal P w K mg base (CXE P w) (d+1) "_law_size" ["_law_node_here"] (spSizeL d)) (C_law_written:Cal P w K mg base (CXE P w) (d+1) "_law_written" ["_law_node_here"] (spNumbers d)) (C_law_lines:Cal P w K mg base (CXE P w) (d+2) "_law_lines" ["_law_node_here", "_law_place", "_law_begin"] (spLines d)):FnOk P w K mg base (CXE P w) (d+3) f fd ["_law_told"] (spPaperL d):=by
 refine F.okN yR (fun vs H Q E h => ?_) (fun cdv A outer s H vs Q E hr h => ?_)
 ·obtain ⟨l,rs,fs,hs,e,rfl,_⟩ := h
  rfl
 obtain ⟨l,rs,fs,hs,e,rfl,el,pf,ft,ln,q⟩ := h
 have sl:sizeLine=16777216:=sizeLine_eq
 have lrs:=Paired.len pf
 have lw:=wr_len fs
 have cm:CMul 2 ((rs.length:Nat):Int):=.inl ⟨by decide,by decide⟩
 refine ⟨_,(zD (zJ (i:=1) yR.nd rfl (Or.inl rfl) (yF zC))
   (zD (zJ (i:=2) yR.nd rfl (Or.inl rfl) (zP zY zF (zP kL zF (zR zM rfl T.n_len yI (zA (pv 0) zC)))))
   (zD (zJ (i:=3) yR.nd rfl (Or.inl rfl) zF)
   (zD (yY PassesOwn.never rfl (xL (pv 0)) (xS rfl (zQ (zL (i:=4) yR.nd rfl (Or.inl rfl)) (zQ (zL (i:=5) yR.nd rfl (Or.inl rfl)) (zQ (zL (i:=6) yR.nd rfl (Or.inl rfl)) yW)))) (zD (zJ (i:=1) yR.nd rfl (Or.inl rfl) (zP xB (pv 1) (zH C_law_lines hr rfl (zA (pv 6) (zA (pv 2) (zA (pv 3) zC))) passN)))
   (zD (zJ (i:=2) yR.nd rfl (Or.inl rfl) (zP zY (pv 2) (zR zM rfl T.n_len yI (zA (zH C_law_written hr rfl (zA (pv 6) zC) passN) zC))))
   (zG (zJ (i:=3) yR.nd rfl (Or.inl rfl) (zP zY (zP zY (pv 3) (zH C_law_size hr rfl (zA (pv 6) zC) passN)) zF))))))
   (zG (zS (pv 1))))))),?_⟩
 try dsimp only [Cx.nox,Cx.exc,Cx.wish,zX]
 refine ⟨sm0,fun l0 a0 => ?_⟩
 have g0:=zE a0 (.lst [])
 refine ⟨_,rfl,l,_,rfl,.inl (.of (g0 _ _ el)),_,_,rfl,rfl,cm,_,_,rfl,rfl,?_⟩
 rw [lrs]
 refine ⟨_,rfl,l,rfl,⟨_,.of (g0 _ _ el)⟩,xT (xs:=rs) (fun i σ' H'=>∃ (l1:Addr) (v4 v5 v6:Option V),σ'=[some (.ref l),some (.ref l1),some (.int (1+2 * fs.length+(bodiesW (fs.take i)).length:Nat)),some (.int (rlT (fs.take i):Nat)),v4,v5,v6]/\Same H H'/\H l1=none/\LnsAt H' l1 (lnFT (1+2 * fs.length) 0 (fs.take i))) ⟨l0,none,none,none,rfl,g0,a0,[],zB,.nil⟩ (fun i σ' H' _ ⟨_,_,_,_,_,g,_⟩ => .of (g _ _ el)) ?_ ?_⟩
 ·rintro i x σ' H' hx ⟨l1,v4,v5,v6,rfl,g,hl,L⟩
  obtain ⟨fi,hfi,t,bd,rfl,et,tr⟩ := Paired.yonder pf hx
  have tk:fs.take (i+1)=fs.take i++[fi]:=by rw [List.take_succ,hfi] <;> rfl
  have eb:bodiesW (fs.take (i+1))=bodiesW (fs.take i)++nums fi.2:=by
   rw [tk]
   unfold bodiesW
   rw [List.flatMap_append,List.flatMap_singleton]
  have ed:bodiesW fs=bodiesW (fs.take (i+1))++bodiesW (fs.drop (i+1)):=by
   conv=>lhs; rw [<- List.take_append_drop (i+1) fs]
   unfold bodiesW
   rw [List.flatMap_append]
  have le:(bodiesW fs).length=(bodiesW (fs.take i)).length+(nums fi.2).length+(bodiesW (fs.drop (i+1))).length:=by
   rw [ed,eb,List.length_append,List.length_append]
  have fx:=ft fi (List.mem_of_getElem? hfi)
  refine ⟨t,_,rfl,.of (g _ _ et),rfl,_,_,rfl,_,_,rfl,_,_,rfl,rfl,?_⟩
  refine ⟨_,rfl,_,rfl,_,rfl,_,rfl,bd,_,_,fi.2,hs,fi.1.2,e,rfl,tr.same g,fx,by (first|lia|omega),fun l2 H2 z2 hl2 L2 => ?_⟩
  obtain ⟨a1,ea1,pa1⟩ := L.same z2
  obtain ⟨a2,ea2,pa2⟩ := id L2
  have y1:=Paired.len pa1
  have y2:=Paired.len pa2
  have y3:=lnFT_len (fs.take i) (1+2 * fs.length) 0
  have y4:=lnT_len fi.2 (1+2 * fs.length+(bodiesW (fs.take i)).length) (rlT (fs.take i))
  refine ⟨l1,l2,_,_,rfl,rfl,ea1,ea2,by rw [List.length_map,List.length_map]; (first|lia|omega),fun l3 hl3 => ?_⟩
  have z3:=zE hl3 (.lst (a1.map V.ref++a2.map V.ref))
  have gB:=g.trans (z2.trans z3)
  refine ⟨_,rfl,_,rfl,bd,fi.2,rfl,tr.same gB,by (first|lia|omega),fun l4 H4 z4 hl4 e4 => ?_⟩
  refine ⟨l4,_,rfl,.inl (.of e4),_,_,rfl,rfl,?_⟩
  refine ⟨_,rfl,_,rfl,bd,fi.2,hs,fi.1.2,e,rfl,tr.same (gB.trans z4),fx,by (first|lia|omega),fun H5 z5 => ?_⟩
  have gg:=z4.trans z5
  refine ⟨_,_,rfl,rfl,_,_,rfl,rfl,l3,some (.int fi.1.1),some (.int fi.1.2),some bd,?_,gB.trans gg,(g.trans z2).free hl3,a1++a2,?_,?_⟩
  ·rw [eb,tk,rlT_snoc,List.length_append,List.length_map,<- Nat.add_assoc]
   rfl
  ·rw [List.map_append]
   exact gg _ _ zB
  ·rw [tk,lnFT_snoc,Nat.zero_add]
   exact Paired.append (Paired.imp (fun _ _ z=>(z3.trans gg) _ _ z) pa1) (Paired.imp (fun _ _ z=>(z3.trans gg) _ _ z) pa2)
 ·rintro σ' H' ⟨l1,v4,v5,v6,rfl,g,hl,L⟩
  rw [lrs,List.take_length] at L
  exact ⟨_,rfl,q l1 H' g hl L⟩

end
section
variable {P:Program} {w:World} {K:PySem.W.Frag} {mg:Str->Option Value} {base:Heap} {f:Addr} {fd:FuncData} {aP CL CN CM:Addr}
set_option maxHeartbeats 4000000

theorem in45 {op:Int}:inV (V.int op) [V.int 4,V.int 5]=decide (op=4\/op=5):=(inV_ints op [4,5]).trans (decide_eq_decide.mpr (by simp only [List.mem_cons,List.not_mem_nil,or_false]))
theorem mv_is (c:Nat) (op n:Int):n+(c:Int) * (if inV (V.int op) [V.int 4,V.int 5]=true then (1:Int) else 0)=if op=4\/op=5 then n+c else n:=by
 rw [in45]
 by_cases h:op=4\/op=5
 ·rw [if_pos h,if_pos (decide_eq_true h),Int.mul_one]
 ·rw [if_neg h,if_neg (by rw [decide_eq_true_eq]; exact h),Int.mul_zero,Int.add_zero]
inductive spMovedL (vs:List V) (H:Hp) (Q:VK) (E:XK):Prop
 | mk (l:Addr) (gs:List (List Int)) (by_:Nat) (h0:vs=[.ref l,.int by_]) (h1:GrpAt H l gs) (h2:(∀ g∈gs,g.length=2)) (h3:gs.length<=100000) (h4:∀ l' H',Same H H'->H l'=none->GrpAt H' l' (gs.map (mv by_))->Q (.ref l') H'):spMovedL vs H Q E
theorem ok_moved (T:TxtL K mg) (F:Fun K "_law_moved" "_law_moved" kN f fd):FnOk P w K mg base (CXE P w) 1 f fd ["_law_rows_here", "_law_by"] spMovedL:=by
 refine F.okN sc__law_moved (fun vs H Q E h => ?_) (fun cdv A outer s H vs Q E hr h => ?_)
 ·obtain ⟨l,gs,by_,rfl,_⟩ := h
  rfl
 obtain ⟨l,gs,by_,rfl,⟨rs,el,pr⟩,h2,hn,q⟩ := h
 have sl:sizeLine=16777216:=sizeLine_eq
 refine ⟨_,(zG (zS (qM (own:=["_law_op", "_law_number_here"]) (ys:=["_law_by"]) rfl (xL (pv 0)) (xV (sc:=defScope kN) rfl (by decide +kernel)) (.cons (j:=1) rfl .nil) (fun _ _ _ _ _=>(pg_tupK (n:=2) K rfl rfl (zQ (zL (i:=0) (show List.Nodup [("_law_op" : Str),("_law_number_here" : Str),("_law_by" : Str)] from (by decide +kernel)) rfl (Or.inl rfl)) (zQ (zL (i:=1) (show List.Nodup [("_law_op" : Str),("_law_number_here" : Str),("_law_by" : Str)] from (by decide +kernel)) rfl (Or.inl rfl)) yW)))) (fun _ _ _ _ _=>kD) (fun _ _ _ _ _=>(zU (zA (pv 0) (zA (zP zY (pv 1) (zP kL (pv 2) (xO kW rfl T.n_int bt_int (zA (qO (op_in_seqK K rfl) (pv 0) (zU (yT (.int (.int .nil)))) rfl) zC)))) zC))))))),?_⟩
 try dsimp only [Cx.nox,Cx.exc,Cx.wish,zX]
 have lv:=Paired.len pr
 refine ⟨_,rfl,l,rfl,⟨rs,.of el⟩,fun p hp => ?_⟩
 have s1:=zE hp (.lst [])
 refine wD (xs:=rs) (fun i σ' H'=>∃ ys x0 x1,σ'=[x0,x1,some (.int (by_:Nat))]/\Same H H'/\H' p=some (.lst ys)/\Paired (TupAt H') ys ((gs.take i).map (mv by_))) ⟨[],_,_,rfl,s1,zB,.nil⟩ ?_ ?_ ?_
 ·rintro i σ' H' _ ⟨_,_,_,_,g,_⟩
  exact .of (g _ _ el)
 ·rintro i x σ' H' hi hx ⟨ys,x0,x1,rfl,g,ey,py⟩
  obtain ⟨gi,hgi,t,rfl,et⟩ := Paired.yonder pr hx
  have hm:=List.mem_of_getElem? hgi
  have tk:gs.take (i+1)=gs.take i++[gi]:=by rw [List.take_succ,hgi] <;> rfl
  obtain ⟨op,n,rfl⟩ : ∃ op n,gi=[op,n]:=by
   have:=h2 gi hm
   match gi,this with
   | [op,n],_=>exact ⟨op,n,rfl⟩
  refine ⟨t,_,rfl,.of (g _ _ et),rfl,_,_,rfl,_,_,rfl,rfl,tyes ?_⟩
  refine ⟨_,rfl,_,rfl,_,rfl,_,rfl,sm2,fun tt htt => ?_⟩
  have z1:=zE htt (.tup [.int 4,.int 5])
  have cm:CMul (by_:Int) (if inV (V.int op) [V.int 4,V.int 5]=true then (1:Int) else 0):=.inr (by split <;> decide)
  refine ⟨_,_,rfl,.inr (.of zB),rfl,rfl,.inr ⟨_,rfl,_,_,rfl,rfl,cm,_,_,rfl,rfl,sm2,fun t2 ht2 => ?_⟩⟩
  show ∃ _,_
  have z2:=zE ht2 (.tup [.int op,.int (n+(by_:Int) * (if inV (V.int op) [V.int 4,V.int 5]=true then (1:Int) else 0))])
  have ey2:=(z1.trans z2) _ _ ey
  have ly:=Paired.len py
  rw [List.length_map,List.length_take] at ly
  refine ⟨ys,ey2,by (first|lia|omega),CW.next hi ⟨ys++[.ref t2],_,_,rfl,(g.trans (z1.trans z2)).fresh hp,zB,?_⟩⟩
  have k:∀ b o,H' b=some (.tup o)->(upd (upd (upd H' tt (.tup [.int 4,.int 5])) t2 (.tup [.int op,.int (n+(by_:Int) * (if inV (V.int op) [V.int 4,V.int 5]=true then (1:Int) else 0))])) p (.lst (ys++[.ref t2]))) b=some (.tup o):=fun b o e=>by
   rw [zK (fun z=>by rw [z,ey] at e; cases e)]
   exact (z1.trans z2) _ _ e
  rw [tk,List.map_append]
  refine Paired.snoc (Paired.imp (fun v z ⟨b,e1,e2⟩=>⟨b,e1,k _ _ e2⟩) py) ⟨t2,rfl,?_⟩
  rw [zK (fun z=>by have:=ey2; rw [<- z,zB] at this; cases this),zB]
  show some (HO.tup [V.int op,V.int (n+(by_:Int) * (if inV (V.int op) [V.int 4,V.int 5]=true then (1:Int) else 0))])=_
  rw [mv_is]
  rfl
 ·rintro σ' H' ⟨ys,x0,x1,rfl,g,ey,py⟩
  rw [lv,List.take_length] at py
  exact q p H' g hp ⟨ys,ey,py⟩
noncomputable def joinP (n:Nat):List (List (List Int))->List (List Int)
 | []=>[]
 | g :: r=>g.map (mv n)++joinP (n+g.length) r
theorem joinP_snoc:∀ (gs:List (List (List Int))) (g:List (List Int)) (n:Nat),joinP n (gs++[g])=joinP n gs++g.map (mv (n+(joinP n gs).length))
 | [],g,n=>by
  show g.map (mv n)++[]=[]++g.map (mv (n+0))
  rw [List.append_nil]; rfl
 | x :: r,g,n=>by
  show x.map (mv n)++joinP (n+x.length) (r++[g])=(x.map (mv n)++joinP (n+x.length) r)++g.map (mv (n+(x.map (mv n)++joinP (n+x.length) r).length))
  rw [joinP_snoc r,List.append_assoc,List.length_append,List.length_map,Nat.add_assoc]
theorem kS:∀ (gs:List (List (List Int))) (n:Nat),(joinP n gs).length=gs.flatten.length
 | [],_=>rfl
 | g :: r,n=>by
  show (g.map (mv n)++joinP (n+g.length) r).length=(g++r.flatten).length
  rw [List.length_append,List.length_append,List.length_map,kS r]
theorem GrpAt.same {H H':Hp} {l:Addr} {gs:List (List Int)} (g:Same H H'):GrpAt H l gs->GrpAt H' l gs:=fun ⟨rs,e,p⟩=>⟨rs,g _ _ e,Paired.imp (fun _ _ ⟨t,e1,e2⟩=>⟨t,e1,g _ _ e2⟩) p⟩
noncomputable def PcAt (H:Hp) (v:V) (gs:List (List Int)):Prop:=∃ a,v = .ref a/\GrpAt H a gs
inductive spJoinedL (vs:List V) (H:Hp) (Q:VK) (E:XK):Prop
 | mk (l:Addr) (rs:List V) (gss:List (List (List Int))) (h0:vs=[.ref l]) (h1:H l=some (.lst rs)) (h2:Paired (PcAt H) rs gss) (h3:(∀ gs∈gss,∀ g∈gs,g.length=2)) (h4:gss.flatten.length<=100000) (h5:∀ l' H',Same H H'->H l'=none->GrpAt H' l' (joinP 0 gss)->Q (.ref l') H'):spJoinedL vs H Q E
theorem ok_joinedL (T:TxtL K mg) (F:Fun K "_law_joined" "_law_joined" qV f fd) (C_law_moved:Cal P w K mg base (CXE P w) 1 "_law_moved" ["_law_rows_here", "_law_by"] spMovedL):FnOk P w K mg base (CXE P w) 2 f fd ["_law_pieces"] spJoinedL:=by
 refine F.okN jP (fun vs H Q E h => ?_) (fun cdv A outer s H vs Q E hr h => ?_)
 ·obtain ⟨l,rs,gss,rfl,_⟩ := h
  rfl
 obtain ⟨l,rs,gss,rfl,el,pf,h2,ln,q⟩ := h
 have sl:sizeLine=16777216:=sizeLine_eq
 have lrs:=Paired.len pf
 refine ⟨_,(zD (zJ (i:=1) jP.nd rfl (Or.inl rfl) (yF zC))
   (zD (yY PassesOwn.never rfl (xL (pv 0)) (zL (i:=2) jP.nd rfl (Or.inl rfl)) (zG (zJ (i:=1) jP.nd rfl (Or.inl rfl) (zP xB (pv 1) (zH C_law_moved hr rfl (zA (pv 2) (zA (zR zM rfl T.n_len yI (zA (pv 1) zC)) zC)) passN)))))
   (zG (zS (pv 1))))),?_⟩
 try dsimp only [Cx.nox,Cx.exc,Cx.wish,zX]
 refine ⟨sm0,fun l0 a0 => ?_⟩
 have g0:=zE a0 (.lst [])
 refine ⟨_,rfl,l,rfl,⟨_,.of (g0 _ _ el)⟩,xT (xs:=rs) (fun i σ' H'=>∃ (l1:Addr) (v2:Option V),σ'=[some (.ref l),some (.ref l1),v2]/\Same H H'/\H l1=none/\GrpAt H' l1 (joinP 0 (gss.take i))) ⟨l0,none,rfl,g0,a0,[],zB,.nil⟩ (fun i σ' H' _ ⟨_,_,_,g,_⟩ => .of (g _ _ el)) ?_ ?_⟩
 ·rintro i x σ' H' hx ⟨l1,v2,rfl,g,hl,L⟩
  obtain ⟨gi,hgi,a,rfl,ga⟩ := Paired.yonder pf hx
  have tk:gss.take (i+1)=gss.take i++[gi]:=by rw [List.take_succ,hgi] <;> rfl
  have le:gss.flatten.length=(gss.take i).flatten.length+gi.length+(gss.drop (i+1)).flatten.length:=by
   conv=>lhs; rw [<- List.take_append_drop (i+1) gss]
   rw [tk,List.flatten_append,List.flatten_append,List.length_append,List.length_append,List.flatten_singleton]
  obtain ⟨r1,e1,p1⟩ := id L
  have y1:=Paired.len p1
  rw [kS] at y1
  refine ⟨_,rfl,_,rfl,_,rfl,l1,_,rfl,.inl (.of e1),a,gi,r1.length,rfl,ga.same g,h2 _ (List.mem_of_getElem? hgi),by (first|lia|omega),fun l2 H2 z2 hl2 L2 => ?_⟩
  obtain ⟨r2,e2,p2⟩ := id L2
  have y2:=Paired.len p2
  rw [List.length_map] at y2
  refine ⟨l1,l2,_,_,rfl,rfl,z2 _ _ e1,e2,by (first|lia|omega),fun l3 hl3 => ?_⟩
  have z3:=zE hl3 (.lst (r1++r2))
  refine ⟨l3,_,rfl,g.trans (z2.trans z3),(g.trans z2).free hl3,r1++r2,zB,?_⟩
  rw [tk,joinP_snoc,Nat.zero_add,kS,<- y1]
  exact Paired.append (Paired.imp (fun _ _ ⟨t,e1,e2⟩=>⟨t,e1,(z2.trans z3) _ _ e2⟩) p1) (Paired.imp (fun _ _ ⟨t,e1,e2⟩=>⟨t,e1,z3 _ _ e2⟩) p2)
 ·rintro σ' H' ⟨l1,v2,rfl,g,hl,L⟩
  rw [lrs,List.take_length] at L
  exact ⟨_,rfl,q l1 H' g hl L⟩

end
section
variable {P:Program} {w:World} {K:PySem.W.Frag} {mg:Str->Option Value} {base:Heap} {f:Addr} {fd:FuncData} {aP CL CN CM:Addr}
set_option maxHeartbeats 4000000

inductive spWholesL (K:PySem.W.Frag) (vs:List V) (H:Hp) (Q:VK) (E:XK):Prop
 | mk (a:Addr) (ns:List Int) (h0:vs=[.ref a]) (h1:Sq K H a (ns.map V.int)) (h2:ns.length<=100000) (h3:∀ H',Same H H'->Q (.bl true) H'):spWholesL K vs H Q E
theorem ok_wholesL (T:TxtL K mg) (F:Fun K "_law_wholes" "_law_wholes" kC f fd):FnOk P w K mg base (CXE P w) 1 f fd ["_law_some"] (spWholesL K):=by
 refine F.okN sc__law_wholes (fun vs H Q E h => ?_) (fun cdv A outer s H vs Q E hr h => ?_)
 ·obtain ⟨a,ns,rfl,_⟩ := h
  rfl
 obtain ⟨a,ns,rfl,sq,hl,q⟩ := h
 refine ⟨_,(zG (zS (zR (call_all rfl) rfl T.n_all bt_all (zA (qM (own:=["_law_one"]) (ys:=[]) rfl (pi_seq (pv 0)) (xV (sc:=defScope kC) rfl (by decide +kernel)) .nil (fun _ _ _ _ _=>(zL (i:=0) (show List.Nodup [("_law_one" : Str)] from (by decide +kernel)) rfl (Or.inl rfl))) (fun _ _ _ _ _=>kD) (fun _ _ _ _ _=>(pe_and (zR (call_isiK K rfl) rfl T.n_isinstance yM (zA (pv 0) (zA (xW (v:=.ty "int") rfl T.n_int bt_int rfl) zC))) (pe_one (pe_not (zR (call_isiK K rfl) rfl T.n_isinstance yM (zA (pv 0) (zA (xW (v:=.ty "bool") rfl T.n_bool bt_bool rfl) zC)))))))) zC)))),?_⟩
 try dsimp only [Cx.nox,Cx.exc,Cx.wish,zX]
 have sl:sizeLine=16777216:=sizeLine_eq
 refine ⟨_,rfl,a,rfl,comp_seq sq fun p hp=>⟨fun i σ' H'=>H'=upd H p (.lst ((List.replicate i true).map V.bl))/\∃ x,σ'=[x],⟨rfl,_,rfl⟩,?_,?_,?_⟩⟩
 ·rintro i σ' H' _ ⟨rfl,_⟩
  exact zE hp _
 ·rintro i x σ' H' hi hx ⟨rfl,y,rfl⟩
  obtain ⟨n,rfl⟩ : ∃ n,x = .int n:=by
   rw [List.getElem?_map] at hx
   cases e:ns[i]? with
   | none=>rw [e] at hx; cases hx
   | some n=>rw [e] at hx; cases hx; exact ⟨n,rfl⟩
  dsimp only [gName,tYes]
  have hi':i<ns.length:=by rw [List.length_map] at hi; exact hi
  refine iteT ⟨_,rfl,.inl ⟨_,_,_,true,rfl,.int n,T.kint,_,rfl,iteT ?_⟩⟩
  refine ⟨_,rfl,.inl ⟨_,_,_,false,rfl,.int n,T.kbool,_,rfl,_,zB,?_,CW.next hi ⟨?_,_,rfl⟩⟩⟩
  ·rw [List.length_map,List.length_replicate]
   (first|lia|omega)
  ·have e:(List.replicate i true).map V.bl++[V.bl true]=(List.replicate (i+1) true).map V.bl:=by
    rw [List.replicate_succ',List.map_append] <;> rfl
   show upd _ p (.lst ((List.replicate i true).map V.bl++[V.bl true]))=_
   rw [e,upd_upd]
 ·rintro σ' H' ⟨rfl,_⟩
  refine ⟨p,_,rfl,SqL.of zB,?_⟩
  have e:(List.replicate (ns.map V.int).length true).all id=true:=by
   rw [List.all_eq_true]
   intro b hb
   rw [(List.mem_replicate.mp hb).2] <;> rfl
  rw [e]
  exact q _ (zE hp _)
theorem qF (n:Nat) (t:Tr):mkT n t=(mkT 0 t).map (mv n):=by
 have:=mkT_mv n t 0
 rw [Nat.zero_add] at this
 exact this
theorem joinP_mkF:∀ (fs:List FnN) (n:Nat),(∀ f∈fs,GdT (bare f.2))->joinP n (fs.map fun f=>mkT 0 (bare f.2)++[[7,0]])=mkF n fs
 | [],_,_=>rfl
 | f :: r,n,h=>by
  have h1:=h f (List.mem_cons_self ..)
  show (mkT 0 (bare f.2)++[[7,0]]).map (mv n)++joinP (n+(mkT 0 (bare f.2)++[[7,0]]).length) (r.map fun f=>mkT 0 (bare f.2)++[[7,0]])=mkT n (bare f.2)++([7,0] :: mkF (n+rl (bare f.2)+1) r)
  rw [joinP_mkF r _ (fun g hg=>h g (List.mem_cons_of_mem _ hg)),List.length_append,yE _ _ h1,List.map_append,<- qF,List.append_assoc,<- Nat.add_assoc]
  rfl
theorem joinP_mkS:∀ (ps:List Tr) (n:Nat),GdTs ps->joinP n (ps.map (mkT 0))=mkS n ps
 | [],_,_=>by unfold mkS; rfl
 | t :: r,n,h=>by
  rw [xJ] at h
  show (mkT 0 t).map (mv n)++joinP (n+(mkT 0 t).length) (r.map (mkT 0))=_
  rw [joinP_mkS r _ h.2,yE _ _ h.1,<- qF]
  conv=>rhs; unfold mkS

end
section
variable {P:Program} {w:World} {K:PySem.W.Frag} {mg:Str->Option Value} {base:Heap} {f:Addr} {fd:FuncData} {aP CL CN CM:Addr}
set_option maxHeartbeats 4000000

inductive spRowsL (d:Nat) (vs:List V) (H:Hp) (Q:VK) (E:XK):Prop
 | mk (v:V) (t:Tr) (hs:Hds) (bx:Int) (e:Nat) (h0:vs=[v]) (h1:Tr3 H d v t) (h2:FitT hs bx e t) (h3:bx<=12) (h4:(nums t).length<=100000) (h5:rl t<=100000) (h6:∀ l H',Same H H'->H l=none->GrpAt H' l (mkT 0 t)->Q (.ref l) H'):spRowsL d vs H Q E
inductive spCodeL (d:Nat) (vs:List V) (H:Hp) (Q:VK) (E:XK):Prop
 | mk (l:Addr) (rs:List V) (fs:List FnN) (hs:Hds) (e:Nat) (h0:vs=[.ref l]) (h1:H l=some (.lst rs)) (h2:Paired (F3At H d) rs (fs.map fun f=>(f.1,bare f.2))) (h3:(∀ f∈fs,FitT hs f.1.2 e (bare f.2)/\f.1.2<=12/\(nums (bare f.2)).length<=100000)) (h4:fs.length<=16) (h5:rlF fs<=900) (h6:∀ l' H',Same H H'->H l'=none->H' l'=some (.lst ((codeL (hdF 0 fs) (mkF 0 fs)).map V.int))->Q (.ref l') H'):spCodeL d vs H Q E
noncomputable def PcP (p:Addr) (H:Hp) (v:V) (gs:List (List Int)):Prop:=∃ a,v = .ref a/\a≠p/\GrpAt H a gs
theorem two_ex {g:List Int} (h:g.length=2):∃ a b,g=[a,b]:=by
 obtain _ | ⟨a,_ | ⟨b,_ | ⟨c,r⟩⟩⟩ := g
 ·cases h
 ·cases h
 ·exact ⟨a,b,rfl⟩
 ·cases h
theorem flat_len2:∀ gs:List (List Int),(∀ g∈gs,g.length=2)->gs.flatten.length=2 * gs.length
 | [],_=>rfl
 | g :: r,h=>by
  show (g++r.flatten).length=2 * (r.length+1)
  rw [List.length_append,flat_len2 r (fun x hx=>h x (List.mem_cons_of_mem _ hx)),h g (List.mem_cons_self ..)]
  (first|lia|omega)
theorem mkT_two {hs:Hds} {bx:Int} {e:Nat} {t:Tr} {b:Nat} (hb:bx<=12) (h:FitT hs bx e t):∀ g∈mkT b t,g.length=2:=fun g hg=>by
 obtain ⟨op,n,rfl,_⟩ := wQ hb e t b h (Nat.lt_succ_self _) g hg
 rfl
theorem mkF_two {hs:Hds} {e:Nat}:∀ (fs:List FnN) (b:Nat),(∀ f∈fs,FitT hs f.1.2 e (bare f.2)/\f.1.2<=12)->∀ g∈mkF b fs,g.length=2
 | [],b,_,g,hg=>by cases hg
 | f :: r,b,h,g,hg=>by
  have h1:=h f (List.mem_cons_self ..)
  rcases List.mem_append.mp (show g∈mkT b (bare f.2)++([7,0] :: mkF (b+rl (bare f.2)+1) r) from hg) with z | z
  ·exact mkT_two h1.2 h1.1 g z
  rcases List.mem_cons.mp z with z | z
  ·rw [z]; rfl
  ·exact mkF_two r _ (fun x hx=>h x (List.mem_cons_of_mem _ hx)) g z
theorem hdF_flat:∀ (fs:List FnN) (b:Nat),(hdF b fs).flatten.length=3 * fs.length
 | [],_=>rfl
 | f :: r,b=>by
  show ([(b:Int),f.1.1,f.1.2]++(hdF (b+rl (bare f.2)+1) r).flatten).length=3 * (r.length+1)
  rw [List.length_append,hdF_flat r]
  show 3+_=_
  (first|lia|omega)
theorem ok_codeL (d:Nat) (T:TxtL K mg) (F:Fun K "_law_code" "_law_code" qL f fd) (C_law_rows:Cal P w K mg base (CXE P w) (d+3) "_law_rows" ["_law_node_here"] (spRowsL d)) (C_law_joined:Cal P w K mg base (CXE P w) 2 "_law_joined" ["_law_pieces"] spJoinedL):FnOk P w K mg base (CXE P w) (d+4) f fd ["_law_told"] (spCodeL d):=by
 refine F.okN yS (fun vs H Q E h => ?_) (fun cdv A outer s H vs Q E hr h => ?_)
 ·obtain ⟨l,rs,fs,hs,e,rfl,_⟩ := h
  rfl
 obtain ⟨l,rs,fs,hs,e,rfl,el,pf,ft,lf,z9,q⟩ := h
 have sl:sizeLine=16777216:=sizeLine_eq
 have lrs:=Paired.len pf
 refine ⟨_,(zD (ps_setcomp (i:=1) yS.nd rfl rfl  (own:=["_law_params", "_law_boxes", "_law_body"]) (ys:=[]) rfl (xL (pv 0)) (xV (sc:=defScope qL) rfl (by decide +kernel)) .nil (fun _ _ _ _ _=>(pg_tupK (n:=3) K rfl rfl (zQ (zL (i:=0) (show List.Nodup [("_law_params" : Str),("_law_boxes" : Str),("_law_body" : Str)] from (by decide +kernel)) rfl (Or.inl rfl)) (zQ (zL (i:=1) (show List.Nodup [("_law_params" : Str),("_law_boxes" : Str),("_law_body" : Str)] from (by decide +kernel)) rfl (Or.inl rfl)) (zQ (zL (i:=2) (show List.Nodup [("_law_params" : Str),("_law_boxes" : Str),("_law_body" : Str)] from (by decide +kernel)) rfl (Or.inl rfl)) yW))))) (fun _ _ _ _ _=>kD) (fun _ _ _ _ _=>(zP xB (zH C_law_rows hr rfl (zA (pv 2) zC) passN) (yF (zA (zU (yT (.int (.int .nil)))) zC)))))
   (zD (zJ (i:=2) yS.nd rfl (Or.inl rfl) (yF (zA (zR zM rfl T.n_len yI (zA (pv 0) zC)) zC)))
   (zD (zJ (i:=3) yS.nd rfl (Or.inl rfl) zF)
   (zD (yY PassesOwn.never rfl (pi_enum rfl T.n_enumerate (zA (pv 0) zC)) (xS rfl (zQ (zL (i:=4) yS.nd rfl (Or.inl rfl)) (zQ (zL (i:=5) yS.nd rfl (Or.inl rfl)) yW))) (zD (zJ (i:=2) yS.nd rfl (Or.inl rfl) (zP xB (pv 2) (yF (zA (pv 3) (zA (yC yU (pv 5) zF (fun _ _=>rfl)) (zA (yC yU (pv 5) zF (fun _ _=>rfl)) zC))))))
   (zG (zJ (i:=3) yS.nd rfl (Or.inl rfl) (zP zY (pv 3) (zR zM rfl T.n_len yI (zA (yC yN (pv 1) (pv 4) (fun _ _=>rfl)) zC)))))))
   (zD (yY PassesOwn.never rfl (xL (zH C_law_joined hr rfl (zA (pv 1) zC) passN)) (xS rfl (zQ (zL (i:=6) yS.nd rfl (Or.inl rfl)) (zQ (zL (i:=7) yS.nd rfl (Or.inl rfl)) yW))) (zG (zJ (i:=2) yS.nd rfl (Or.inl rfl) (zP xB (pv 2) (yF (zA (pv 6) (zA (pv 7) zC)))))))
   (zG (zS (pv 2)))))))),?_⟩
 try dsimp only [Cx.nox,Cx.exc,Cx.wish,zX]
 have pc:Paired (F3At H d) rs (fs.map fun f=>(f.1,bare f.2)):=pf
 rw [List.length_map] at lrs
 refine ⟨_,rfl,l,rfl,⟨rs,.of el⟩,fun p hp => ?_⟩
 have s1:=zE hp (.lst [])
 refine wD (xs:=rs) (fun i σ' H'=>∃ ys x0 x1 x2,σ'=[x0,x1,x2]/\Same H H'/\H' p=some (.lst ys)/\Paired (PcP p H') ys ((fs.take i).map fun f=>mkT 0 (bare f.2)++[[7,0]])) ⟨[],_,_,_,rfl,s1,zB,.nil⟩ ?_ ?_ ?_
 ·rintro i σ' H' _ ⟨_,_,_,_,_,g,_⟩
  exact .of (g _ _ el)
 ·rintro i x σ' H' hi hx ⟨ys,x0,x1,x2,rfl,g,ey,py⟩
  obtain ⟨f3,hf3,t,bd,rfl,et,tr⟩ := Paired.yonder pc hx
  have hil:i<fs.length:=by (first|lia|omega)
  have ef:fs[i]? = some fs[i]:=List.getElem?_eq_getElem hil
  rw [List.getElem?_map,ef] at hf3
  cases hf3
  have fx:=ft _ (List.mem_of_getElem? ef)
  have tk:fs.take (i+1)=fs.take i++[fs[i]]:=by rw [List.take_succ,ef] <;> rfl
  have lr:=rlF_app (fs.take (i+1)) (fs.drop (i+1))
  rw [List.take_append_drop,tk,rlF_app,show rlF [fs[i]]=rl (bare fs[i].2)+1 from rfl] at lr
  generalize fs[i]=fi at *
  refine ⟨t,_,rfl,.of (g _ _ et),rfl,_,_,rfl,_,_,rfl,_,_,rfl,rfl,tyes ?_⟩
  refine ⟨_,rfl,bd,bare fi.2,hs,fi.1.2,e,rfl,tr.same g,fx.1,fx.2.1,fx.2.2,by (first|lia|omega),fun l2 H2 z2 hl2 L2 => ?_⟩
  refine ⟨sm2,fun t3 ht3=>⟨sm1,fun l3 hl3 => ?_⟩⟩
  have z3:=zE ht3 (.tup [.int 7,.int 0])
  have z4:=zE hl3 (.lst [.ref t3])
  obtain ⟨r2,e2,p2⟩ := L2
  have y2:=Paired.len p2
  rw [yE _ _ (xY _ _ fx.1)] at y2
  refine ⟨l2,l3,_,_,rfl,rfl,(z3.trans z4) _ _ e2,zB,by show r2.length+1<=sizeLine; (first|lia|omega),fun l5 hl5 => ?_⟩
  have z5:=zE hl5 (.lst (r2++[.ref t3]))
  have zz:=z2.trans (z3.trans (z4.trans z5))
  have ey2:=zz _ _ ey
  have ly:=Paired.len py
  rw [List.length_map,List.length_take] at ly
  have n5:l5≠p:=fun z=>by
   have:=(z2.trans (z3.trans z4)) _ _ ey
   rw [<- z,hl5] at this
   cases this
  refine ⟨ys,ey2,by (first|lia|omega),CW.next hi ⟨ys++[.ref l5],_,_,_,rfl,(g.trans zz).fresh hp,zB,?_⟩⟩
  have k:∀ {Ha:Hp} {o:HO} {a:Addr} {gs:List (List Int)},Ha p=some (.lst ys)->a≠p->GrpAt Ha a gs->GrpAt (upd Ha p o) a gs:=fun {Ha o a gs} ep na ⟨rs',e',p'⟩=>⟨rs',by rw [zK na]; exact e',Paired.imp (fun _ _ ⟨t',w1,w2⟩=>⟨t',w1,by rw [zK (fun z=>by rw [z,ep] at w2; cases w2)]; exact w2⟩) p'⟩
  rw [tk,List.map_append]
  refine Paired.snoc (Paired.imp (fun _ _ ⟨a,w1,w2,w3⟩=>⟨a,w1,w2,k ey2 w2 (GrpAt.same zz w3)⟩) py) ⟨l5,rfl,n5,k ey2 n5 ⟨r2++[.ref t3],zB,?_⟩⟩
  exact Paired.append (Paired.imp (fun _ _ ⟨t',w1,w2⟩=>⟨t',w1,(z3.trans (z4.trans z5)) _ _ w2⟩) p2) (.cons ⟨t3,rfl,(z4.trans z5) _ _ zB⟩ .nil)
 ·rintro σ' H' ⟨ys,x0,x1,x2,rfl,g,ey,py⟩
  rw [lrs,List.take_length] at py
  refine ⟨_,rfl,l,_,rfl,.inl (.of (g _ _ el)),sm1,fun l1 hl1 => ?_⟩
  have z1:=zE hl1 (.lst [.int (rs.length:Nat)])
  have g1:=g.trans z1
  have pz:Paired (PcP p (upd H' l1 (.lst [.int (rs.length:Nat)]))) ys (fs.map fun f=>mkT 0 (bare f.2)++[[7,0]]):=Paired.imp (fun _ _ ⟨a,w1,w2,w3⟩=>⟨a,w1,w2,GrpAt.same z1 w3⟩) py
  have ez:=z1 _ _ ey
  have el1:(upd H' l1 (.lst [.int (rs.length:Nat)])) l1=some (.lst [.int (rs.length:Nat)]):=zB
  have hl1':H l1=none:=g.free hl1
  generalize upd H' l1 (.lst [.int (rs.length:Nat)])=H1 at *
  have lys:=Paired.len pz
  rw [List.length_map] at lys
  have gd:∀ f∈fs,GdT (bare f.2):=fun f hf=>xY _ _ (ft f hf).1
  refine ⟨_,rfl,l,_,rfl,.of (g1 _ _ el),for_enum (xs:=rs) (fun i σ' H'=>∃ (l2:Addr) (v4 v5:Option V),σ'=[some (.ref l),some (.ref p),some (.ref l2),some (.int (rlF (fs.take i):Nat)),v4,v5,none,none]/\Same H1 H'/\H l2=none/\H' l2=some (.lst (((fs.length:Int) :: (hdF 0 (fs.take i)).flatten).map V.int))) ⟨l1,none,none,rfl,fun _ _ z=>z,hl1',by rw [el1,lrs] <;> rfl⟩ (fun i σ' H' _ ⟨_,_,_,_,z,_⟩ => .of (z _ _ (g1 _ _ el))) ?_ ?_⟩
  ·rintro i x σ' H2 t hx ⟨l2,v4,v5,rfl,z2,hl2,e2⟩ ht
   obtain ⟨f3,hf3,t3,bd,rfl,et,tr⟩ := Paired.yonder pc hx
   have hil:i<fs.length:=by rw [<- lrs]; exact (List.getElem?_eq_some_iff.mp hx).1
   have ef:fs[i]? = some fs[i]:=List.getElem?_eq_getElem hil
   rw [List.getElem?_map,ef] at hf3
   cases hf3
   have fx:=ft _ (List.mem_of_getElem? ef)
   have tk:fs.take (i+1)=fs.take i++[fs[i]]:=by rw [List.take_succ,ef] <;> rfl
   obtain ⟨vp,hvp⟩ : ∃ v,ys[i]? = some v:=⟨_,List.getElem?_eq_getElem (by (first|lia|omega))⟩
   obtain ⟨gp,hgp,ap,rfl,_,wp⟩ := Paired.yonder pz hvp
   rw [List.getElem?_map,ef] at hgp
   generalize fs[i]=fi at *
   cases hgp
   have s3:=zE ht (.tup [.int (i:Nat),.ref t3])
   have gg:=g1.trans (z2.trans s3)
   refine ⟨t,_,rfl,.of zB,rfl,_,_,rfl,_,_,rfl,rfl,?_⟩
   refine ⟨_,rfl,_,rfl,_,rfl,t3,_,_,_,rfl,rfl,.of (gg _ _ et),rfl,_,rfl,t3,_,_,_,rfl,rfl,.of (gg _ _ et),rfl,sm3,fun l3 h3 => ?_⟩
   have s4:=zE h3 (.lst [.int (rlF (fs.take i):Nat),.int fi.1.1,.int fi.1.2])
   have lh:(hdF 0 (fs.take i)).flatten.length<=48:=by
    have:=hdF_flat (fs.take i) 0
    rw [List.length_take] at this
    (first|lia|omega)
   refine ⟨l2,l3,_,_,rfl,rfl,(s3.trans s4) _ _ e2,zB,by rw [List.length_map,List.length_cons]; show _+1+3<=sizeLine; (first|lia|omega),fun l4 h4 => ?_⟩
   have s5:=zE h4 (.lst (((fs.length:Int) :: (hdF 0 (fs.take i)).flatten).map V.int++[.int (rlF (fs.take i):Nat),.int fi.1.1,.int fi.1.2]))
   have ga:=z2.trans (s3.trans (s4.trans s5))
   obtain ⟨r2,er2,pr2⟩ := GrpAt.same ga wp
   have y2:=Paired.len pr2
   rw [List.length_append,yE _ _ (xY _ _ fx.1)] at y2
   refine ⟨_,rfl,_,rfl,_,rfl,p,ys,_,_,rfl,rfl,.of (ga _ _ ez),jH hvp,ap,_,rfl,.inl (.of er2),_,_,rfl,rfl,?_⟩
   refine ⟨l4,some (.int (i:Nat)),some (.ref t3),?_,ga,(g1.trans (z2.trans (s3.trans s4))).free h4,?_⟩
   ·rw [tk,rlF_app,y2]
    rfl
   ·rw [zB,tk,hdF_snoc,List.flatten_append,Nat.zero_add]
    show some (HO.lst (V.int (fs.length:Int) :: ((hdF 0 (fs.take i)).flatten.map V.int++_)))=some (HO.lst (V.int (fs.length:Int) :: _))
    rw [List.map_append]
    rfl
  ·rintro σ' H2 ⟨l2,v4,v5,rfl,z2,hl2,e2⟩
   rw [lrs,List.take_length] at e2
   have pj:Paired (PcAt H2) ys (fs.map fun f=>mkT 0 (bare f.2)++[[7,0]]):=Paired.imp (fun _ _ ⟨a,w1,_,w3⟩=>⟨a,w1,GrpAt.same z2 w3⟩) pz
   have fl:=joinP_mkF fs 0 gd
   have jl:=kS (fs.map fun f=>mkT 0 (bare f.2)++[[7,0]]) 0
   have ml:=mkF_len fs 0 gd
   rw [fl,ml] at jl
   have m2:=mkF_two fs 0 (fun f hf=>⟨(ft f hf).1,(ft f hf).2.1⟩)
   refine ⟨_,rfl,p,ys,_,rfl,z2 _ _ ez,pj,?_,by (first|lia|omega),fun lj H3 z3 hlj Lj => ?_⟩
   ·intro gs hgs g hg
    obtain ⟨f',hf',rfl⟩ := List.mem_map.mp hgs
    rcases List.mem_append.mp hg with h | h
    ·exact mkT_two (ft f' hf').2.1 (ft f' hf').1 g h
    ·rw [List.mem_singleton.mp h]; rfl
   rw [fl] at Lj
   obtain ⟨r3,er3,pr3⟩ := Lj
   have y3:=Paired.len pr3
   have lh:=hdF_flat fs 0
   refine ⟨lj,rfl,⟨_,.of er3⟩,xT (xs:=r3) (fun i σ' H'=>∃ (l2:Addr) (v3 v4 v5 v6 v7:Option V),σ'=[some (.ref l),some (.ref p),some (.ref l2),v3,v4,v5,v6,v7]/\Same H3 H'/\H l2=none/\H' l2=some (.lst (((fs.length:Int) :: ((hdF 0 fs).flatten++((mkF 0 fs).take i).flatten)).map V.int))) ⟨l2,_,_,_,_,_,rfl,fun _ _ z=>z,hl2,by rw [z3 _ _ e2,List.take_zero,List.flatten_nil,List.append_nil]⟩ (fun i σ' H' _ ⟨_,_,_,_,_,_,_,z,_⟩ => .of (z _ _ er3)) ?_ ?_⟩
   ·rintro i x σ' H4 hx ⟨l4,v3,v4,v5,v6,v7,rfl,z4,hl4,e4⟩
    obtain ⟨gi,hgi,t,rfl,et⟩ := Paired.yonder pr3 hx
    have hm:=List.mem_of_getElem? hgi
    obtain ⟨op,n,rfl⟩ := two_ex (m2 gi hm)
    have hi:=(List.getElem?_eq_some_iff.mp hgi).1
    have fk:((mkF 0 fs).take (i+1)).flatten=((mkF 0 fs).take i).flatten++[op,n]:=fl_take hgi
    have lk:((mkF 0 fs).take i).flatten.length=2 * i:=by
     rw [flat_len2 _ (fun g hg=>m2 g (List.mem_of_mem_take hg)),List.length_take]
     (first|lia|omega)
    refine ⟨t,_,rfl,.of (z4 _ _ et),rfl,_,_,rfl,_,_,rfl,rfl,?_⟩
    refine ⟨_,rfl,_,rfl,_,rfl,sm2,fun l5 h5 => ?_⟩
    have s5:=zE h5 (.lst [.int op,.int n])
    refine ⟨l4,l5,_,_,rfl,rfl,s5 _ _ e4,zB,by rw [List.length_map,List.length_cons,List.length_append]; show _+2<=sizeLine; (first|lia|omega),fun l6 h6 => ?_⟩
    have s6:=zE h6 (.lst (((fs.length:Int) :: ((hdF 0 fs).flatten++((mkF 0 fs).take i).flatten)).map V.int++[.int op,.int n]))
    refine ⟨l6,_,_,_,_,_,rfl,z4.trans (s5.trans s6),(g1.trans (z2.trans (z3.trans (z4.trans s5)))).free h6,?_⟩
    rw [zB,fk,<- List.append_assoc]
    show some (HO.lst (V.int (fs.length:Int) :: (((hdF 0 fs).flatten++((mkF 0 fs).take i).flatten).map V.int++_)))=some (HO.lst (V.int (fs.length:Int) :: _))
    rw [List.map_append (l₂:=[op,n])]
    rfl
   ·rintro σ' H4 ⟨l4,v3,v4,v5,v6,v7,rfl,z4,hl4,e4⟩
    rw [y3,List.take_length] at e4
    refine ⟨_,rfl,q l4 H4 (g1.trans (z2.trans (z3.trans z4))) hl4 ?_⟩
    rw [e4]
    unfold codeL
    rw [wU]

end
section
variable {P:Program} {w:World} {K:PySem.W.Frag} {mg:Str->Option Value} {base:Heap} {f:Addr} {fd:FuncData} {aP CL CN CM:Addr}
set_option maxHeartbeats 4000000

theorem grp_upd {H:Hp} {p a:Addr} {ys:List V} {o:HO} {gs:List (List Int)} (ep:H p=some (.lst ys)) (na:a≠p):GrpAt H a gs->GrpAt (upd H p o) a gs:=fun ⟨rs',e',p'⟩=>⟨rs',by rw [zK na]; exact e',Paired.imp (fun _ _ ⟨t',w1,w2⟩=>⟨t',w1,by rw [zK (fun z=>by rw [z,ep] at w2; cases w2)]; exact w2⟩) p'⟩
theorem kQ {H:Hp} {a b l:Addr} {gs hs:List (List Int)} {rs us:List V} (pr:Paired (TupAt H) rs gs) (pu:Paired (TupAt H) us hs) (hl:H l=none):GrpAt (upd H l (.lst (rs++us))) l (gs++hs) :=
 ⟨rs++us,zB,Paired.imp (fun _ _ ⟨t,e1,e2⟩=>⟨t,e1,zE hl _ _ _ e2⟩) (Paired.append pr pu)⟩
theorem xM {H H':Hp} {rs:List V} {gs:List (List Int)} (g:Same H H'):Paired (TupAt H) rs gs->Paired (TupAt H') rs gs:=Paired.imp fun _ _ ⟨t,e1,e2⟩=>⟨t,e1,g _ _ e2⟩
theorem tups_app {H:Hp} {l t:Addr} {rs:List V} {gs:List (List Int)} {g:List Int} (el:H l=some (.lst rs)) (pr:Paired (TupAt H) rs gs) (et:H t=some (.tup (g.map V.int))):Paired (TupAt (upd H l (.lst (rs++[.ref t])))) (rs++[.ref t]) (gs++[g]):=by
 have k:∀ b o,H b=some (.tup o)->upd H l (.lst (rs++[.ref t])) b=some (.tup o):=fun b o e=>by rw [zK (fun z=>by rw [z,el] at e; cases e)]; exact e
 exact Paired.snoc (Paired.imp (fun _ _ ⟨b,e1,e2⟩=>⟨b,e1,k _ _ e2⟩) pr) ⟨t,rfl,k _ _ et⟩
theorem rls_mem:∀ {ps:List Tr} {t:Tr},t∈ps->rl t<=rls ps/\(nums t).length<=(numsL ps).length
 | a :: r,t,h=>by
  show rl t<=rl a+rls r/\_<=(nums a++numsL r).length
  rw [List.length_append]
  rcases List.mem_cons.mp h with z | z
  ·rw [z]; exact ⟨by (first|lia|omega),by (first|lia|omega)⟩
  ·have:=rls_mem z
   exact ⟨by (first|lia|omega),by (first|lia|omega)⟩
theorem fits_mem {hs:Hds} {bx:Int} {d:Nat} {ps:List Tr} {t:Tr} (h:FitTs hs bx d ps) (m:t∈ps):FitT hs bx d t:=by
 obtain ⟨i,hi,e⟩ := List.mem_iff_getElem.mp m
 exact fits_at h (show ps[i]? = some t by rw [List.getElem?_eq_getElem hi,e])
theorem joinP_mkA:∀ (ps:List Tr) (n:Nat),GdTs ps->joinP n (ps.flatMap fun t=>[[[3,0]],mkT 0 t])=mkA n false ps
 | [],_,_=>by unfold mkA; rfl
 | t :: r,n,h=>by
  rw [xJ] at h
  show [[3,0]]++((mkT 0 t).map (mv (n+1))++joinP (n+1+(mkT 0 t).length) (r.flatMap fun t=>[[[3,0]],mkT 0 t]))=_
  rw [joinP_mkA r _ h.2,yE _ _ h.1,<- qF]
  conv=>rhs; unfold mkA
  rw [if_neg (by decide)]
  rfl
theorem qP {α β:Type} {F : α->β->Prop} {us:List α} {p : β} {ps:List β} (h:Paired F us (p :: ps)):∃ u vs,us=u :: vs/\F u p/\Paired F vs ps:=by
 cases h with
 | cons a b=>exact ⟨_,_,rfl,a,b⟩
theorem at_0 {y:V} {yr:List V}:atI (y :: yr) 0=some y:=jH (xs:=y :: yr) (j:=0) rfl
theorem at_1 {x y:V} {yr:List V}:atI (x :: y :: yr) 1=some y:=jH (xs:=x :: y :: yr) (j:=1) rfl
theorem ownR_f (k:Int) (own:List Int):(if k=7 then [8,0] else if k=6 then [6,own.headD 0] else if k<3 then [k,own.headD 0] else [10,k])=ownR k own\/k<0:=by
 unfold ownR
 by_cases c:k<0
 ·exact .inr c
 refine .inl ?_
 by_cases c7:k=7
 ·rw [if_pos c7,if_neg (by (first|lia|omega)),if_neg (by (first|lia|omega)),if_pos c7]
 rw [if_neg c7]
 by_cases c6:k=6
 ·rw [if_pos c6,if_neg (by (first|lia|omega)),if_pos c6]
 rw [if_neg c6]
 by_cases c3:k<3
 ·rw [if_pos c3,if_pos (by (first|lia|omega))]
 ·rw [if_neg c3,if_neg (by (first|lia|omega)),if_neg c6,if_neg c7]
theorem flat3:∀ l:List Tr,(l.flatMap fun t=>[[[3,0]],mkT 0 t]).length=2 * l.length
 | []=>rfl
 | a :: b=>by
  show ([[[3,0]],mkT 0 a]++b.flatMap fun t=>[[[3,0]],mkT 0 t]).length=2 * (b.length+1)
  rw [List.length_append,flat3 b]
  show 2+_=_
  (first|lia|omega)
theorem own_one {hs:Hds} {b k:Int} {own:List Int} (h:OwnFit hs b k own) (c:k<3\/k=6):∃ n r,own=n :: r:=by
 rcases h with ⟨_,n,rfl⟩ | ⟨_,n,rfl,_⟩ | ⟨_,n,rfl,_⟩ | ⟨_,n,rfl,_⟩ | ⟨_,n,rfl,_⟩ | ⟨z,_⟩
 ·exact ⟨_,_,rfl⟩
 ·exact ⟨_,_,rfl⟩
 ·exact ⟨_,_,rfl⟩
 ·exact ⟨_,_,rfl⟩
 ·exact ⟨_,_,rfl⟩
 ·(first|lia|omega)
theorem gds_at:∀ {ps:List Tr} {i:Nat} {x:Tr},GdTs ps->ps[i]? = some x->GdT x
 | a :: r,0,x,h,e=>by
  rw [xJ] at h
  have:a=x:=by simpa using e
  exact this ▸ h.1
 | a :: r,i+1,x,h,e=>by
  rw [xJ] at h
  exact gds_at h.2 (by simpa using e)
theorem gds_takeT:∀ {ps:List Tr} (i:Nat),GdTs ps->GdTs (ps.take i)
 | _,0,_=>by unfold GdTs; trivial
 | [],_+1,_=>by unfold GdTs; trivial
 | a :: r,i+1,h=>by
  rw [xJ] at h
  rw [List.take_succ_cons,xJ]
  exact ⟨h.1,gds_takeT i h.2⟩
theorem rls_takeT (r:List Tr) (i:Nat):rls (r.take i)<=rls r:=by
 have:=wO (r.take i) (r.drop i)
 rw [List.take_append_drop] at this
 (first|lia|omega)
theorem two_tr {g:List Tr} (h:g.length=2):∃ a b,g=[a,b]:=by
 obtain _ | ⟨a,_ | ⟨b,_ | ⟨c,r⟩⟩⟩ := g
 ·cases h
 ·cases h
 ·exact ⟨a,b,rfl⟩
 ·cases h
theorem ok_rows (d:Nat) (T:TxtL K mg) (F:Fun K "_law_rows" "_law_rows" jK f fd) (C_law_rows:Cal P w K mg base (CXE P w) (d+3) "_law_rows" ["_law_node_here"] (spRowsL d)) (C_law_joined:Cal P w K mg base (CXE P w) 2 "_law_joined" ["_law_pieces"] spJoinedL) (C_law_moved:Cal P w K mg base (CXE P w) 1 "_law_moved" ["_law_rows_here", "_law_by"] spMovedL):FnOk P w K mg base (CXE P w) (d+4) f fd ["_law_node_here"] (spRowsL (d+1)):=by
 refine F.okN zV (fun vs H Q E h => ?_) (fun cdv A outer s H vs Q E hr h => ?_)
 ·obtain ⟨v,t,hs,bx,e,rfl,_⟩ := h
  rfl
 obtain ⟨v,⟨k,own,ps⟩,hs,bx,e,rfl,⟨tn,ow,pt,pvs,rfl,etn,eow,ept,pp⟩,ft,hb,ln,lr,q⟩ := h
 refine ⟨_,(zD (jY (pv 0) (xS rfl (zQ (zL (i:=1) zV.nd rfl (Or.inl rfl)) (zQ (zL (i:=2) zV.nd rfl (Or.inl rfl)) (zQ (zL (i:=3) zV.nd rfl (Or.inl rfl)) yW)))))
   (zD (ps_setcomp (i:=4) zV.nd rfl rfl  (own:=["_law_part"]) (ys:=[]) rfl (pi_tup (pv 3)) (xV (sc:=defScope jK) rfl (by decide +kernel)) .nil (fun _ _ _ _ _=>(zL (i:=0) (show List.Nodup [("_law_part" : Str)] from (by decide +kernel)) rfl (Or.inl rfl))) (fun _ _ _ _ _=>kD) (fun _ _ _ _ _=>(zH C_law_rows hr rfl (zA (pv 0) zC) passN)))
   (zD (zW (zN yK (pv 1) zF (nomark _)) (zD (zJ (i:=5) zV.nd rfl (Or.inl rfl) (yF (zA (yC yN (pv 4) zF (fun _ _=>rfl)) zC)))
   (zD (yY PassesOwn.never rfl (xL (jU wG (pv 4) (jT zF) wP)) (zL (i:=6) zV.nd rfl (Or.inl rfl)) (zG (zJ (i:=5) zV.nd rfl (Or.inl rfl) (zP xB (pv 5) (yF (zA (yF (zA (zU (yT (.int (.int .nil)))) zC)) (zA (pv 6) zC)))))))
   (zG (zS (zH C_law_joined hr rfl (zA (pv 5) zC) passN))))) zT)
   (zD (zW (zN yK (pv 1) zF (nomark _)) (zD (zJ (i:=7) zV.nd rfl (Or.inl rfl) (zP zY (zP zY (zR zM rfl T.n_len yI (zA (yC yN (pv 4) zF (fun _ _=>rfl)) zC)) zF) (yC yU (pv 2) zF (fun _ _=>rfl))))
   (zD (zJ (i:=8) zV.nd rfl (Or.inl rfl) (yF zC))
   (zD (yY PassesOwn.never rfl (xL (jU wG (pv 4) (jT zF) wP)) (zL (i:=6) zV.nd rfl (Or.inl rfl)) (zD (yB (jD PySem.F.plainAttrs_list PySem.F.slot_list_append PySem.F.type_list_append yD (pv 8) (zA (pv 7) zC)))
   (zG (zJ (i:=7) zV.nd rfl (Or.inl rfl) (zP zY (zP zY (pv 7) (zR zM rfl T.n_len yI (zA (pv 6) zC))) zF)))))
   (zD (zJ (i:=9) zV.nd rfl (Or.inl rfl) (zP xB (zP xB (zP xB (yC yN (pv 4) zF (fun _ _=>rfl)) (yF (zA (zU (zA zF (zA (yC yU (pv 2) zF (fun _ _=>rfl)) zC))) zC))) (qM (own:=["_law_start"]) (ys:=[]) rfl (xL (pv 8)) (xV (sc:=defScope jK) rfl (by decide +kernel)) .nil (fun _ _ _ _ _=>(zL (i:=0) (show List.Nodup [("_law_start" : Str)] from (by decide +kernel)) rfl (Or.inl rfl))) (fun _ _ _ _ _=>kD) (fun _ _ _ _ _=>(zU (zA zF (zA (pv 0) zC)))))) (yF (zA (zU (zA zF (zA (zP jV (pv 7) zF) zC))) zC))))
   (zD (zJ (i:=10) zV.nd rfl (Or.inl rfl) (zP jV (zR zM rfl T.n_len yI (zA (pv 9) zC)) zF))
   (zD (yY PassesOwn.never rfl (pi_enum rfl T.n_enumerate (zA (jU wG (pv 4) (jT zF) wP) zC)) (xS rfl (zQ (zL (i:=11) zV.nd rfl (Or.inl rfl)) (zQ (zL (i:=6) zV.nd rfl (Or.inl rfl)) yW))) (zD (qW (zW (zN op_gt (pv 11) zF (nomark _)) (zG (yB (jD PySem.F.plainAttrs_list PySem.F.slot_list_append PySem.F.type_list_append yD (pv 9) (zA (zU (zA zF (zA (pv 10) zC))) zC)))) zT))
   (zG (zJ (i:=9) zV.nd rfl (Or.inl rfl) (zP xB (pv 9) (zH C_law_moved hr rfl (zA (pv 6) (zA (zR zM rfl T.n_len yI (zA (pv 9) zC)) zC)) passN))))))
   (zG (zS (pv 9))))))))) zT)
   (zD (zW (zN yK (pv 1) zF (nomark _)) (zD (zJ (i:=9) zV.nd rfl (Or.inl rfl) (zP xB (yF (zA (zU (yT (.int (.int .nil)))) zC)) (zH C_law_moved hr rfl (zA (yC yN (pv 4) zF (fun _ _=>rfl)) (zA zF zC)) passN)))
   (zD (zJ (i:=12) zV.nd rfl (Or.inl rfl) (zP zY (zP zY (zR zM rfl T.n_len yI (zA (pv 9) zC)) (zR zM rfl T.n_len yI (zA (yC yN (pv 4) zF (fun _ _=>rfl)) zC))) zF))
   (zD (zJ (i:=9) zV.nd rfl (Or.inl rfl) (zP xB (pv 9) (yF (zA (zU (zA zF (zA (pv 12) zC))) zC))))
   (zG (zS (zP xB (zP xB (pv 9) (zH C_law_moved hr rfl (zA (yC yN (pv 4) zF (fun _ _=>rfl)) (zA (zR zM rfl T.n_len yI (zA (pv 9) zC)) zC)) passN)) (yF (zA (zU (yT (.int (.int .nil)))) (zA (zU (yT (.int (.int .nil)))) (zA (zU (yT (.int (.int .nil)))) zC)))))))))) zT)
   (zD (zJ (i:=13) zV.nd rfl (Or.inl rfl) (zU (zA zF (zA (pv 1) zC))))
   (zD (qW (zW (zN qQ (pv 1) zF (nomark _)) (zG (zJ (i:=13) zV.nd rfl (Or.inl rfl) (zU (zA (pv 1) (zA (yC yU (pv 2) zF (fun _ _=>rfl)) zC))))) zT))
   (zD (qW (zW (zN yK (pv 1) zF (nomark _)) (zG (zJ (i:=13) zV.nd rfl (Or.inl rfl) (zU (zA zF (zA (yC yU (pv 2) zF (fun _ _=>rfl)) zC))))) zT))
   (zD (qW (zW (zN yK (pv 1) zF (nomark _)) (zG (zJ (i:=13) zV.nd rfl (Or.inl rfl) (zU (yT (.int (.int .nil)))))) zT))
   (zG (zS (zP xB (zH C_law_joined hr rfl (zA (pv 4) zC) passN) (yF (zA (pv 13) zC)))))))))))))),?_⟩
 try dsimp only [Cx.nox,Cx.exc,Cx.wish,zX]
 obtain _ | e:=e
 ·unfold FitT at ft; exact ft.elim
 have gd:=xY _ _ ft
 unfold GdT at gd
 unfold FitT at ft
 obtain ⟨k0,k1,of,lp,_,fp⟩ := ft
 have lv:=Paired.len pp
 have sl:sizeLine=16777216:=sizeLine_eq
 have nl:(nums (.mk k own ps)).length=1+own.length+(numsL ps).length:=by simp [nums]; (first|lia|omega)
 have er:rl (.mk k own ps)=if k=3 then rls ps+(ps.length - 1) else if k=4 then rls ps+2 * (ps.length - 1)+1 else if k=5 then rls ps+5 else rls ps+1:=rfl
 have m2:∀ t∈ps,∀ g∈mkT 0 t,g.length=2:=fun t ht=>mkT_two hb (fits_mem fp ht)
 have lr0:rls ps<=100000:=by
  rw [er] at lr
  split at lr
  ·(first|lia|omega)
  ·split at lr
   ·(first|lia|omega)
   ·split at lr <;> (first|lia|omega)
 have lq:ps.length<=(numsL ps).length:=by
  have lp1:=preTs_len ps
  have lp2:=wA ps
  (first|lia|omega)
 have et:mkT 0 (.mk k own ps)=if k=3 then mkA 0 true ps else if k=4 then mkK 0 ps else if k=5 then mkL 0 ps else mkS 0 ps++[ownR k own]:=by rw [mkT]
 rw [et] at q
 refine ⟨_,rfl,tn,_,rfl,.of etn,rfl,_,_,rfl,_,_,rfl,_,_,rfl,rfl,?_⟩
 refine ⟨_,rfl,pt,rfl,⟨pvs,.of ept⟩,fun p hp => ?_⟩
 refine comp_tup (xs:=pvs) (fun i σ' H'=>∃ ys x,σ'=[x]/\Same H H'/\H' p=some (.lst ys)/\Paired (PcP p H') ys ((ps.take i).map (mkT 0))) ⟨[],_,rfl,zE hp (.lst []),zB,.nil⟩ ?_ ?_ ?_
 ·rintro i σ' H' _ ⟨_,_,_,g,_⟩
  exact .of (g _ _ ept)
 ·rintro i x σ' H' hi hx ⟨ys,x0,rfl,g,ey,py⟩
  obtain ⟨ti,hti,tri⟩ := Paired.yonder pp hx
  have tk:ps.take (i+1)=ps.take i++[ti]:=by rw [List.take_add_one,hti] <;> rfl
  have rm:=rls_mem (List.mem_of_getElem? hti)
  unfold gName
  refine tyes ?_
  refine ⟨_,rfl,x,ti,hs,bx,e,rfl,tri.same g,fits_at fp hti,hb,by (first|lia|omega),by (first|lia|omega),fun l2 H2 z2 hl2 L2 => ?_⟩
  have ey2:=z2 _ _ ey
  have n5:l2≠p:=fun z=>by rw [z,ey] at hl2; cases hl2
  have ly:=Paired.len py
  rw [List.length_map,List.length_take] at ly
  refine ⟨ys,ey2,by (first|lia|omega),CW.next hi ⟨ys++[.ref l2],_,rfl,(g.trans z2).fresh hp,zB,?_⟩⟩
  rw [tk,List.map_append]
  exact Paired.snoc (Paired.imp (fun _ _ ⟨a,w1,w2,w3⟩=>⟨a,w1,w2,grp_upd ey2 w2 (GrpAt.same z2 w3)⟩) py) ⟨l2,rfl,n5,grp_upd ey2 n5 L2⟩
 rintro σ' H1 ⟨ys,x0,rfl,g,ey,py⟩
 rw [lv,List.take_length] at py
 have pj:Paired (PcAt H1) ys (ps.map (mkT 0)):=Paired.imp (fun _ _ ⟨a,w1,_,w3⟩=>⟨a,w1,w3⟩) py
 have ly:=Paired.len pj
 rw [List.length_map] at ly
 refine ⟨_,rfl,rfl,_,rfl,ite2 (fun c => ?_) (fun c3 => ?_)⟩
 ·refine nxf fun NX BX CX_ => ?_
  have z:=vt c
  subst z
  rw [if_pos rfl] at q er
  obtain ⟨x,r,rfl⟩ := List.exists_cons_of_ne_nil (gd.1 rfl)
  obtain ⟨y,yr,rfl,py0,pyr⟩ := qP pj
  have ec:cutV (y :: yr) (some (1:Int)) none=yr:=cutV_drop 1
  refine ⟨_,rfl,p,_,_,_,rfl,rfl,.of ey,at_0,sm1,fun l0 h0 => ?_⟩
  have s2:=zE h0 (.lst [y])
  refine ⟨_,rfl,_,rfl,p,_,rfl,.of (s2 _ _ ey),fun ls hls => ?_⟩
  rw [ec]
  have s3:=zE hls (.lst yr)
  have g3:=s2.trans s3
  have e0:(upd (upd H1 l0 (.lst [y])) ls (.lst yr)) l0=some (.lst [y]):=s3 _ _ zB
  have els:(upd (upd H1 l0 (.lst [y])) ls (.lst yr)) ls=some (.lst yr):=zB
  refine ⟨ls,rfl,⟨_,.of els⟩,?_⟩
  have pz:∀ {H':Hp},Same (upd (upd H1 l0 (.lst [y])) ls (.lst yr)) H'->PcAt H' y (mkT 0 x)/\Paired (PcAt H') yr (r.map (mkT 0)):=fun z=>⟨by obtain ⟨a,w1,w2⟩ := py0; exact ⟨a,w1,w2.same (g3.trans z)⟩,Paired.imp (fun _ _ ⟨a,w1,w2⟩=>⟨a,w1,w2.same (g3.trans z)⟩) pyr⟩
  have g4:=g.trans g3
  generalize upd (upd H1 l0 (.lst [y])) ls (.lst yr)=H2 at *
  have lyr:yr.length=r.length:=by rw [Paired.len pyr,List.length_map]
  refine xT (xs:=yr) (fun i σ' H'=>∃ (l1:Addr) (us:List V) (v6:Option V),σ'=[some (.ref tn),some (.int 3),some (.ref ow),some (.ref pt),some (.ref p),some (.ref l1),v6,none,none,none,none,none,none,none]/\Same H2 H'/\H' l1=some (.lst us)/\Paired (PcAt H') us (mkT 0 x :: (r.take i).flatMap fun t=>[[[3,0]],mkT 0 t])) ⟨l0,[y],none,rfl,fun _ _ z=>z,e0,.cons (pz fun _ _ z=>z).1 .nil⟩ (fun i σ' H' _ ⟨_,_,_,_,z,_⟩ => .of (z _ _ els)) ?_ ?_
  ·rintro i u σ' H' hu ⟨l1,us,v6,rfl,z,e1,pu⟩
   refine nxg fun NN NB NC hN => ?_
   obtain ⟨gi,hgi,pu2⟩ := Paired.yonder (pz z).2 hu
   rw [List.getElem?_map] at hgi
   obtain ⟨ti,hti,rfl⟩ := Option.map_eq_some_iff.mp hgi
   have tk:r.take (i+1)=r.take i++[ti]:=by rw [List.take_add_one,hti] <;> rfl
   have lu:=Paired.len pu
   have lf:((r.take i).flatMap fun t=>[[[3,0]],mkT 0 t]).length<=2 * r.length:=by
    rw [flat3,List.length_take]
    (first|lia|omega)
   rw [List.length_cons] at lu lq
   refine ⟨_,rfl,sm2,fun t3 ht3=>⟨sm1,fun l3 hl3 => ?_⟩⟩
   have z3:=zE ht3 (.tup [.int 3,.int 0])
   have z4:=zE hl3 (.lst [.ref t3])
   refine ⟨_,rfl,sm2,fun l5 hl5 => ?_⟩
   have z5:=zE hl5 (.lst [.ref l3,u])
   refine ⟨l1,l5,_,_,rfl,rfl,(z3.trans (z4.trans z5)) _ _ e1,zB,by show us.length+2<=sizeLine; (first|lia|omega),fun l6 hl6 => ?_⟩
   have z6:=zE hl6 (.lst (us++[.ref l3,u]))
   have zz:=z3.trans (z4.trans (z5.trans z6))
   refine hN _ _ ⟨l6,_,_,rfl,z.trans zz,zB,?_⟩
   rw [tk,List.flatMap_append,<- List.cons_append]
   refine Paired.append (Paired.imp (fun _ _ ⟨a,w1,w2⟩=>⟨a,w1,w2.same zz⟩) pu) (.cons ⟨l3,rfl,[.ref t3],(z5.trans z6) _ _ zB,.cons ⟨t3,rfl,(z4.trans (z5.trans z6)) _ _ zB⟩ .nil⟩ (.cons ?_ .nil))
   obtain ⟨a,w1,w2⟩ := pu2
   exact ⟨a,w1,w2.same zz⟩
  ·rintro σ' H' ⟨l1,us,v6,rfl,z,e1,pu⟩
   rw [lyr,List.take_length] at pu
   have gx:=gd.2.2.2
   rw [xJ] at gx
   have ej:joinP 0 (mkT 0 x :: r.flatMap fun t=>[[[3,0]],mkT 0 t])=mkA 0 true (x :: r):=by
    show (mkT 0 x).map (mv 0)++joinP (0+(mkT 0 x).length) _=_
    rw [joinP_mkA r _ gx.2,yE _ _ gx.1,<- qF]
    conv=>rhs; unfold mkA
    rw [if_pos rfl]
   have jl:=kS (mkT 0 x :: r.flatMap fun t=>[[[3,0]],mkT 0 t]) 0
   rw [ej,mkA_len _ _ _ gd.2.2.2,if_pos rfl] at jl
   refine ⟨_,rfl,l1,us,_,rfl,e1,pu,?_,by (first|lia|omega),fun l5 H5 z5 hl5 L5=>q l5 H5 (g4.trans (z.trans z5)) ((g4.trans z).free hl5) (by rw [<- ej]; exact L5)⟩
   intro gs hgs g hg
   rcases List.mem_cons.mp hgs with h | h
   ·exact m2 x (List.mem_cons_self ..) g (h ▸ hg)
   obtain ⟨t,ht,h⟩ := List.mem_flatMap.mp h
   rcases List.mem_cons.mp h with h | h
   ·rw [h] at hg; rw [List.mem_singleton.mp hg]; rfl
   ·exact m2 t (List.mem_cons_of_mem _ ht) g (List.mem_singleton.mp h ▸ hg)
 have n3:=vf c3
 rw [if_neg n3] at q er
 refine ⟨_,rfl,rfl,_,rfl,ite2 (fun c => ?_) (fun c4 => ?_)⟩
 ·refine nxf fun NX BX CX_ => ?_
  have z:=vt c
  subst z
  rw [if_pos rfl] at q er
  rcases of with ⟨z,_⟩ | ⟨z,_⟩ | ⟨z,_⟩ | ⟨_,n,rfl,na,nb⟩ | ⟨z,_⟩ | ⟨z,_⟩ <;> try (first|lia|omega)
  rw [show (dueM hs 4 [n]).toNat=(1+n).toNat from rfl] at lp
  obtain ⟨x,r,rfl⟩ := List.exists_cons_of_ne_nil (show ps≠[] from fun z=>by rw [z] at lp; have:(0:Nat)=(1+n).toNat:=lp; (first|lia|omega))
  obtain ⟨y,yr,rfl,⟨a0,rfl,g0⟩,pyr⟩ := qP pj
  have gx:=gd.2.2.2
  rw [xJ] at gx
  rw [List.length_cons] at lp er
  have en:(r.length:Int)=n:=by (first|lia|omega)
  rw [yX] at lr0 er
  have lyr:yr.length=r.length:=by rw [Paired.len pyr,List.length_map]
  have ec:cutV (V.ref a0 :: yr) (some (1:Int)) none=yr:=cutV_drop 1
  obtain ⟨ry,ery,pry⟩ := id g0
  have yy:=Paired.len pry
  rw [yE _ _ gx.1] at yy
  refine ⟨_,rfl,p,_,_,_,rfl,rfl,.of ey,at_0,a0,_,rfl,.inl (.of ery),_,_,rfl,rfl,_,rfl,ow,_,_,_,rfl,rfl,.of (g _ _ eow),at_0,_,_,rfl,rfl,?_⟩
  refine ⟨sm0,fun st hst => ?_⟩
  have z1:=zE hst (.lst [])
  refine ⟨_,rfl,_,rfl,p,_,rfl,.of (z1 _ _ ey),fun ls hls => ?_⟩
  rw [ec]
  have z2:=z1.trans (zE hls (.lst yr))
  have els:(upd (upd H1 st (.lst [])) ls (.lst yr)) ls=some (.lst yr):=zB
  have nls:ls≠st:=fun z=>by rw [z,zB] at hls; cases hls
  have est:(upd (upd H1 st (.lst [])) ls (.lst yr)) st=some (.lst []):=zE hls _ _ _ zB
  generalize upd (upd H1 st (.lst [])) ls (.lst yr)=H2 at *
  have hB:((ry.length:Int)+2+n)=((rl x+r.length+2:Nat):Int):=by (first|lia|omega)
  have hB0 : 0+rl x+r.length+2=rl x+r.length+2:=by (first|lia|omega)
  generalize hBB:rl x+r.length+2=B at *
  have rk:∀ i,rls (r.take i)<=rls r:=rls_takeT r
  refine ⟨ls,rfl,⟨_,.of els⟩,xT (xs:=yr) (fun i σ' H'=>∃ v6:Option V,σ'=[some (.ref tn),some (.int 4),some (.ref ow),some (.ref pt),some (.ref p),none,v6,some (.int (B+rls (r.take i)+i:Nat)),some (.ref st),none,none,none,none,none]/\Same H1 H'/\H' ls=some (.lst yr)/\H' st=some (.lst ((pkS B true (r.take i)).map fun s:Nat=>V.int (s:Int)))) ⟨none,?_,z2,els,?_⟩ (fun i σ' H' _ ⟨_,_,_,z,_⟩ => .of z) ?_ ?_⟩
  ·show [some (V.ref tn),some (.int 4),some (.ref ow),some (.ref pt),some (.ref p),none,none,some (.int ((ry.length:Int)+2+n)),some (.ref st),none,none,none,none,none]=_
   rw [hB,List.take_zero,show rls []=0 by unfold rls; rfl]
   rfl
  ·rw [est,List.take_zero,show pkS B true []=[] by unfold pkS; rfl]
   rfl
  ·rintro i u σ' H' hu ⟨v6,rfl,z,zl,zs⟩
   refine nxg fun NN NB NC hN => ?_
   obtain ⟨gi,hgi,au,rfl,gu⟩ := Paired.yonder pyr hu
   rw [List.getElem?_map] at hgi
   obtain ⟨ti,hti,rfl⟩ := Option.map_eq_some_iff.mp hgi
   have tk:r.take (i+1)=r.take i++[ti]:=by rw [List.take_add_one,hti] <;> rfl
   have hi:=(List.getElem?_eq_some_iff.mp hti).1
   have li:(r.take i).length=i:=by rw [List.length_take]; (first|lia|omega)
   refine ⟨_,rfl,.inl ⟨rfl,_,.of zs⟩,_,rfl,st,_,_,rfl,rfl,zs,by rw [List.length_map,kP,li]; (first|lia|omega),?_⟩
   have z3:=z.fresh hst (o:=.lst ((pkS B true (r.take i)).map (fun s:Nat=>V.int (s:Int))++[.int (B+rls (r.take i)+i:Nat)]))
   have zl3:upd H' st (.lst ((pkS B true (r.take i)).map (fun s:Nat=>V.int (s:Int))++[.int (B+rls (r.take i)+i:Nat)])) ls=some (.lst yr):=by rw [zK nls]; exact zl
   obtain ⟨ru,eru,pru⟩ := gu.same z3
   have yu:=Paired.len pru
   rw [yE _ _ (gds_at gx.2 hti)] at yu
   refine ⟨_,rfl,_,rfl,au,_,rfl,.inl (.of eru),_,_,rfl,rfl,_,_,rfl,rfl,hN _ _ ⟨some (.ref au),?_,z3,zl3,?_⟩⟩
   ·rw [tk,wO,show rls [ti]=rl ti by rw [yX]; unfold rls; rfl]
    show [some (V.ref tn),some (.int 4),some (.ref ow),some (.ref pt),some (.ref p),none,some (.ref au),some (.int (((B+rls (r.take i)+i:Nat):Int)+(ru.length:Int)+1)),some (.ref st),none,none,none,none,none]=_
    rw [show ((B+rls (r.take i)+i:Nat):Int)+(ru.length:Int)+1=((B+(rls (r.take i)+rl ti)+(i+1):Nat):Int) by (first|lia|omega)]
   ·rw [zB,tk,pkS_snoc,li,List.map_append]
    rfl
  rintro σ' H3 ⟨v6,rfl,z3,zl3,zs3⟩
  rw [lyr,List.take_length] at zs3 ⊢
  have w4:=fun (t4:Addr) (h:H3 t4=none)=>zE h (.tup [.int 11,.int n])
  refine ⟨_,rfl,p,_,_,_,rfl,rfl,.of (z3 _ _ ey),at_0,_,rfl,ow,_,_,_,rfl,rfl,.of ((g.trans z3) _ _ eow),at_0,sm2,fun t4 ht4=>⟨sm1,fun l4 hl4 => ?_⟩⟩
  have z4:=(w4 t4 ht4).trans (zE hl4 (.lst [.ref t4]))
  have e4:(upd (upd H3 t4 (.tup [.int 11,.int n])) l4 (.lst [.ref t4])) l4=some (.lst [.ref t4]):=zB
  have p4:Paired (TupAt (upd (upd H3 t4 (.tup [.int 11,.int n])) l4 (.lst [.ref t4]))) [.ref t4] [[11,n]]:=.cons ⟨t4,rfl,zE hl4 _ _ _ zB⟩ .nil
  refine ⟨a0,l4,_,_,rfl,rfl,(z3.trans z4) _ _ ery,e4,by show ry.length+1<=sizeLine; (first|lia|omega),fun l5 hl5 => ?_⟩
  generalize upd (upd H3 t4 (.tup [.int 11,.int n])) l4 (.lst [.ref t4])=H4 at *
  have L5:=kQ (a:=l5) (b:=l4) (xM (z3.trans z4) pry) p4 hl5
  have z5:=z4.trans (zE hl5 (.lst (ry++[.ref t4])))
  have e5:upd H4 l5 (.lst (ry++[.ref t4])) l5=some (.lst (ry++[.ref t4])):=zB
  generalize upd H4 l5 (.lst (ry++[.ref t4]))=H5 at *
  refine ⟨_,rfl,st,rfl,⟨_,.of (z5 _ _ zs3)⟩,fun pc hpc => ?_⟩
  refine wD (xs:=(pkS B true r).map fun s:Nat=>V.int (s:Int)) (fun i σ' H'=>∃ us x,σ'=[x]/\Same H5 H'/\H' pc=some (.lst us)/\Paired (TupAt H') us (((pkS B true r).take i).map fun s:Nat=>[4,(s:Int)])) ⟨[],_,rfl,zE hpc (.lst []),zB,.nil⟩ ?_ ?_ ?_
  ·rintro i σ' H' _ ⟨_,_,_,z,_⟩
   exact .of (z _ _ (z5 _ _ zs3))
  ·rintro i u σ' H' hi hu ⟨us,x0,rfl,z,eu,pu⟩
   rw [List.getElem?_map] at hu
   obtain ⟨si,hsi,rfl⟩ := Option.map_eq_some_iff.mp hu
   have tk:(pkS B true r).take (i+1)=(pkS B true r).take i++[si]:=by rw [List.take_add_one,hsi] <;> rfl
   have lu:=Paired.len pu
   rw [List.length_map,List.length_take,kP] at lu
   unfold gName
   refine tyes ⟨_,rfl,sm2,fun tt htt => ?_⟩
   have zt:=zE htt (.tup [.int 4,.int (si:Int)])
   have eu2:=zt _ _ eu
   refine ⟨us,eu2,by (first|lia|omega),CW.next hi ⟨us++[.ref tt],_,rfl,(z.trans zt).fresh hpc,zB,?_⟩⟩
   rw [tk,List.map_append]
   exact tups_app eu2 (xM zt pu) zB
  rintro σ' H6 ⟨us,x0,rfl,z6,eu,pu⟩
  rw [List.length_map,List.take_length] at pu
  have lu:=Paired.len pu
  rw [List.length_map,kP] at lu
  refine ⟨l5,pc,_,_,rfl,rfl,z6 _ _ e5,eu,by rw [List.length_append]; show ry.length+1+us.length<=sizeLine; (first|lia|omega),fun l7 hl7 => ?_⟩
  obtain ⟨r5,e5',p5⟩ := L5
  rw [e5] at e5'
  cases e5'
  have L7:=kQ (a:=l5) (b:=l4) (xM z6 p5) pu hl7
  have z7:=z5.trans (z6.trans (zE hl7 (.lst (ry++[.ref t4]++us))))
  have e7:upd H6 l7 (.lst (ry++[.ref t4]++us)) l7=some (.lst (ry++[.ref t4]++us)):=zB
  generalize upd H6 l7 (.lst (ry++[.ref t4]++us))=H7 at *
  obtain ⟨r7,e7',p7⟩ := L7
  rw [e7] at e7'
  cases e7'
  have l7l:(ry++[V.ref t4]++us).length=rl x+1+r.length:=by rw [List.length_append,List.length_append,yy,lu]; rfl
  refine ⟨_,rfl,_,_,rfl,rfl,sm2,fun t8 ht8=>⟨sm1,fun l8 hl8 => ?_⟩⟩
  have w8:=zE ht8 (.tup [.int 4,.int (((B+rls r+r.length:Nat):Int) - 1)])
  have z8:=w8.trans (zE hl8 (.lst [.ref t8]))
  have e8:(upd (upd H7 t8 (.tup [.int 4,.int (((B+rls r+r.length:Nat):Int) - 1)])) l8 (.lst [.ref t8])) l8=some (.lst [.ref t8]):=zB
  have p8:Paired (TupAt (upd (upd H7 t8 (.tup [.int 4,.int (((B+rls r+r.length:Nat):Int) - 1)])) l8 (.lst [.ref t8]))) [.ref t8] [[4,((B+rls r+r.length:Nat):Int) - 1]]:=.cons ⟨t8,rfl,zE hl8 _ _ _ zB⟩ .nil
  refine ⟨l7,l8,_,_,rfl,rfl,z8 _ _ e7,e8,by rw [l7l]; show rl x+1+r.length+1<=sizeLine; (first|lia|omega),fun l9 hl9 => ?_⟩
  generalize upd (upd H7 t8 (.tup [.int 4,.int (((B+rls r+r.length:Nat):Int) - 1)])) l8 (.lst [.ref t8])=H8 at *
  have L9:=kQ (a:=l5) (b:=l4) (xM z8 p7) p8 hl9
  have z9:=z7.trans (z8.trans (zE hl9 (.lst (ry++[.ref t4]++us++[.ref t8]))))
  have e9:upd H8 l9 (.lst (ry++[.ref t4]++us++[.ref t8])) l9=some (.lst (ry++[.ref t4]++us++[.ref t8])):=zB
  have f9:H1 l9=none:=(z3.trans (z7.trans z8)).free hl9
  generalize upd H8 l9 (.lst (ry++[.ref t4]++us++[.ref t8]))=H9 at *
  have l9l:(ry++[V.ref t4]++us++[V.ref t8]).length=rl x+1+r.length+1:=by rw [List.length_append,l7l]; rfl
  have z19:=z3.trans z9
  refine ⟨_,rfl,l9,_,rfl,.inl (.of e9),_,_,rfl,rfl,?_⟩
  rw [l9l]
  refine ⟨_,rfl,_,rfl,p,_,rfl,.of (z19 _ _ ey),fun l10 hl10 => ?_⟩
  rw [ec]
  have n10:l9≠l10:=fun z=>by rw [<- z,e9] at hl10; cases hl10
  have z10:=zE hl10 (.lst yr)
  have L10:=L9.same z10
  have e10:upd H9 l10 (.lst yr) l10=some (.lst yr):=zB
  have z20:=z19.trans z10
  generalize upd H9 l10 (.lst yr)=H10 at *
  have hr1 : 1<=r.length:=by (first|lia|omega)
  have eK:mkK 0 (x :: r)=(mkT 0 x++[[11,n]]++(pkS B true r).map (fun s:Nat=>[4,(s:Int)])++[[4,((B+rls r+r.length:Nat):Int) - 1]])++mkP B (rl x+r.length+1) true r:=by
   unfold mkK
   rw [show 0+rl x+r.length+2=B by (first|lia|omega),show 0+rl x+r.length+1=rl x+r.length+1 by (first|lia|omega),en,show ((B+rls r+(r.length - 1):Nat):Int)=((B+rls r+r.length:Nat):Int) - 1 by (first|lia|omega)]
   simp
  have lG:(mkT 0 x++[[11,n]]++(pkS B true r).map (fun s:Nat=>[4,(s:Int)])++[[4,((B+rls r+r.length:Nat):Int) - 1]]).length=B:=by
   rw [List.length_append,List.length_append,List.length_append,yE _ _ gx.1,List.length_map,kP,List.length_singleton,List.length_singleton]
   (first|lia|omega)
  rw [eK] at q
  generalize (mkT 0 x++[[11,n]]++(pkS B true r).map (fun s:Nat=>[4,(s:Int)])++[[4,((B+rls r+r.length:Nat):Int) - 1]])=G at *
  refine ⟨l10,_,rfl,.of e10,for_enum (xs:=yr) (fun i σ' H'=>∃ (fl:Addr) (v6 v7 v11:Option V),σ'=[some (.ref tn),some (.int 4),some (.ref ow),some (.ref pt),some (.ref p),none,v6,v7,some (.ref st),some (.ref fl),some (.int (((rl x+1+r.length+1:Nat):Int) - 1)),v11,none,none]/\Same H1 H'/\H' l10=some (.lst yr)/\fl≠l10/\H1 fl=none/\GrpAt H' fl (G++mkP B (rl x+r.length+1) true (r.take i))) ⟨l9,_,_,_,rfl,z20,e10,n10,f9,?_⟩ (fun i σ' H' _ ⟨_,_,_,_,_,_,z,_⟩ => .of z) ?_ ?_⟩
  ·rw [List.take_zero,show mkP B (rl x+r.length+1) true []=[] by unfold mkP; rfl,List.append_nil]
   exact L10
  ·rintro i u σ' H' t hu ⟨fl,v6,v7,v11,rfl,z,zl,nf,hf,L⟩ ht
   obtain ⟨gi,hgi,au,rfl,gu⟩ := Paired.yonder pyr hu
   rw [List.getElem?_map] at hgi
   obtain ⟨ti,hti,rfl⟩ := Option.map_eq_some_iff.mp hgi
   have tk:r.take (i+1)=r.take i++[ti]:=by rw [List.take_add_one,hti] <;> rfl
   have hi:=(List.getElem?_eq_some_iff.mp hti).1
   have li:(r.take i).length=i:=by rw [List.length_take]; (first|lia|omega)
   have gt:=gds_at gx.2 hti
   have rt:=(rls_mem (List.mem_of_getElem? hti)).1
   have gk:GdTs (r.take i):=gds_takeT i gx.2
   have zt:=zE ht (.tup [.int (i:Nat),.ref au])
   refine ⟨t,_,rfl,.of zB,rfl,_,_,rfl,_,_,rfl,rfl,nxg fun NN NB NC hN => ?_⟩
   have z':=z.trans zt
   have zl':=zt _ _ zl
   obtain ⟨rf,ef,pf⟩ := L.same zt
   generalize upd H' t (.tup [.int (i:Nat),.ref au])=H11 at *
   have lP:(G++mkP B (rl x+r.length+1) true (r.take i)).length=B+(rls (r.take i)+(i - 1)):=by rw [List.length_append,lG,mkP_len _ _ _ _ gk,if_pos rfl,li]
   have lf:=Paired.len pf
   rw [lP] at lf
   have rki:=rk i
   refine ⟨fun σ' H'=>σ'=[some (.ref tn),some (.int 4),some (.ref ow),some (.ref pt),some (.ref p),none,some (.ref au),v7,some (.ref st),some (.ref fl),some (.int (((rl x+1+r.length+1:Nat):Int) - 1)),some (.int (i:Nat)),none,none]/\Same H1 H'/\H' l10=some (.lst yr)/\GrpAt H' fl (G++mkP B (rl x+r.length+1) true (r.take i)++(if i=0 then [] else [[4,((rl x+r.length+1:Nat):Int)]])),?_,?_⟩
   ·refine ⟨_,rfl,_,_,rfl,rfl,_,rfl,ite2 (fun c => ?_) (fun c => ?_)⟩
    ·have c':(i:Int) > 0:=of_decide_eq_true c
     refine ⟨_,rfl,.inl ⟨rfl,_,.of ef⟩,_,rfl,sm2,fun t2 ht2 => ?_⟩
     have s2:=zE ht2 (.tup [.int 4,.int (((rl x+1+r.length+1:Nat):Int) - 1)])
     have e2:upd H11 t2 (.tup [.int 4,.int (((rl x+1+r.length+1:Nat):Int) - 1)]) t2=some (.tup (([4,((rl x+r.length+1:Nat):Int)]:List Int).map V.int)):=by
      rw [zB,show ((rl x+1+r.length+1:Nat):Int) - 1=((rl x+r.length+1:Nat):Int) by (first|lia|omega)]
      rfl
     refine ⟨fl,rf,_,rfl,rfl,s2 _ _ ef,by (first|lia|omega),rfl,(z'.trans s2).fresh hf,?_,?_⟩
     ·rw [zK nf.symm]
      exact s2 _ _ zl'
     ·rw [if_neg (by (first|lia|omega))]
      exact ⟨_,zB,tups_app (s2 _ _ ef) (xM s2 pf) e2⟩
    ·have c':¬ (i:Int) > 0:=fun z=>c (decide_eq_true z)
     refine ⟨rfl,z',zl',?_⟩
     rw [if_pos (by (first|lia|omega)),List.append_nil]
     exact ⟨rf,ef,pf⟩
   ·rintro _ H12 ⟨rfl,z12,zl12,rf2,ef2,pf2⟩
    have lf2:=Paired.len pf2
    have lQ:(if i=0 then [] else [[4,((rl x+r.length+1:Nat):Int)]]:List (List Int)).length=i - (i - 1):=by
     split
     ·show 0=_; (first|lia|omega)
     ·show 1=_; (first|lia|omega)
    rw [List.length_append,lP,lQ] at lf2
    have lf3:rf2.length=B+rls (r.take i)+i:=by (first|lia|omega)
    refine ⟨_,rfl,_,rfl,_,rfl,fl,_,rfl,.inl (.of ef2),au,mkT 0 ti,rf2.length,rfl,gu.same z12,m2 ti (List.mem_cons_of_mem _ (List.mem_of_getElem? hti)),by rw [yE _ _ gt]; (first|lia|omega),fun l13 H13 z13 hl13 L13 => ?_⟩
    rw [<- qF] at L13
    obtain ⟨r13,e13,p13⟩ := L13
    have y13:=Paired.len p13
    rw [yE _ _ gt] at y13
    refine ⟨fl,l13,_,_,rfl,rfl,z13 _ _ ef2,e13,by (first|lia|omega),fun l14 hl14 => ?_⟩
    have s14:=zE hl14 (.lst (rf2++r13))
    refine hN _ _ ⟨l14,_,_,_,rfl,z12.trans (z13.trans s14),s14 _ _ (z13 _ _ zl12),(fun w=>by rw [w,z13 _ _ zl12] at hl14; cases hl14),(z12.trans z13).free hl14,?_⟩
    have L14:=kQ (a:=l5) (b:=l4) (xM z13 pf2) p13 hl14
    rw [tk,mkP_snoc,li,<- lf3,<- List.append_assoc,<- List.append_assoc]
    exact L14
  ·rintro σ' H' ⟨fl,v6,v7,v11,rfl,z,zl,nf,hf,L⟩
   rw [lyr,List.take_length] at L
   exact ⟨_,rfl,q fl H' (g.trans z) (g.free hf) L⟩
 have n4:=vf c4
 rw [if_neg n4] at q er
 refine ⟨_,rfl,rfl,_,rfl,ite2 (fun c => ?_) (fun c5 => ?_)⟩
 ·refine nxf fun NX BX CX_ => ?_
  have z:=vt c
  subst z
  rw [if_pos rfl] at q er
  obtain ⟨x,x1,rfl⟩ := two_tr (gd.2.2.1 rfl)
  obtain ⟨y,yr,rfl,⟨a0,rfl,g0⟩,pyr⟩ := qP pj
  obtain ⟨y1,yr,rfl,⟨a1,rfl,g1⟩,pyr⟩ := qP pyr
  have gx:=gd.2.2.2
  rw [xJ,xJ] at gx
  have rm:=rls_mem (ps:=[x,x1]) (List.mem_cons_self ..)
  have rm1:=rls_mem (ps:=[x,x1]) (List.mem_cons_of_mem _ (List.mem_cons_self ..))
  refine ⟨sm2,fun t3 ht3=>⟨sm1,fun l3 hl3 => ?_⟩⟩
  have z3:=zE ht3 (.tup [.int 9,.int 0])
  have z4:=(z3.trans (zE hl3 (.lst [.ref t3])))
  have e3:(upd (upd H1 t3 (.tup [.int 9,.int 0])) l3 (.lst [.ref t3])) l3=some (.lst [.ref t3]):=zB
  have p3:Paired (TupAt (upd (upd H1 t3 (.tup [.int 9,.int 0])) l3 (.lst [.ref t3]))) [.ref t3] [[9,0]]:=.cons ⟨t3,rfl,zE hl3 _ _ _ zB⟩ .nil
  generalize upd (upd H1 t3 (.tup [.int 9,.int 0])) l3 (.lst [.ref t3])=H3 at *
  refine ⟨_,rfl,p,_,_,_,rfl,rfl,.of (z4 _ _ ey),at_0,a0,mkT 0 x,1,rfl,g0.same z4,m2 x (List.mem_cons_self ..),by rw [yE _ _ gx.1]; (first|lia|omega),fun l4 H4 z5 hl4 L4 => ?_⟩
  rw [<- qF] at L4
  obtain ⟨r4,e4,p4⟩ := L4
  have y4:=Paired.len p4
  rw [yE _ _ gx.1] at y4
  refine ⟨l3,l4,_,_,rfl,rfl,z5 _ _ e3,e4,by show 1+r4.length<=sizeLine; (first|lia|omega),fun l5 hl5 => ?_⟩
  have L5:=kQ (a:=l3) (b:=l4) (xM z5 p3) p4 hl5
  have z6:=z4.trans (z5.trans (zE hl5 (.lst ([.ref t3]++r4))))
  generalize upd H4 l5 (.lst ([.ref t3]++r4))=H5 at *
  obtain ⟨r5,e5,p5⟩ := L5
  have y5:=Paired.len p5
  rw [List.length_append,yE _ _ gx.1] at y5
  obtain ⟨r1,er1,pr1⟩ := g1.same z6
  have y1:=Paired.len pr1
  rw [yE _ _ gx.2.1] at y1
  refine ⟨_,rfl,l5,_,rfl,.inl (.of e5),_,rfl,p,_,_,_,rfl,rfl,.of (z6 _ _ ey),at_1,a1,_,rfl,.inl (.of er1),_,_,rfl,rfl,_,_,rfl,rfl,?_⟩
  refine ⟨_,rfl,_,rfl,sm2,fun t7 ht7=>⟨sm1,fun l7 hl7 => ?_⟩⟩
  have z8:=(zE ht7 (.tup [.int 5,.int ((r5.length:Int)+(r1.length:Int)+3)])).trans (zE hl7 (.lst [.ref t7]))
  have e7:(upd (upd H5 t7 (.tup [.int 5,.int ((r5.length:Int)+(r1.length:Int)+3)])) l7 (.lst [.ref t7])) l7=some (.lst [.ref t7]):=zB
  have p7:Paired (TupAt (upd (upd H5 t7 (.tup [.int 5,.int ((r5.length:Int)+(r1.length:Int)+3)])) l7 (.lst [.ref t7]))) [.ref t7] [[5,(r5.length:Int)+(r1.length:Int)+3]]:=.cons ⟨t7,rfl,zE hl7 _ _ _ zB⟩ .nil
  refine ⟨l5,l7,_,_,rfl,rfl,z8 _ _ e5,e7,by show r5.length+1<=sizeLine; show r5.length+1<=sizeLine; rw [show ([[(9:Int),0]]:List (List Int)).length=1 from rfl] at y5; (first|lia|omega),fun l8 hl8 => ?_⟩
  generalize upd (upd H5 t7 (.tup [.int 5,.int ((r5.length:Int)+(r1.length:Int)+3)])) l7 (.lst [.ref t7])=H7 at *
  have L8:=kQ (a:=l3) (b:=l4) (xM z8 p5) p7 hl8
  have z9:=z6.trans (z8.trans (zE hl8 (.lst (r5++[.ref t7]))))
  generalize upd H7 l8 (.lst (r5++[.ref t7]))=H8 at *
  obtain ⟨r8,e8,p8⟩ := L8
  have y8:=Paired.len p8
  rw [List.length_append,List.length_append,yE _ _ gx.1,show ([[(9:Int),0]]:List (List Int)).length=1 from rfl,show ([[5,(r5.length:Int)+(r1.length:Int)+3]]:List (List Int)).length=1 from rfl] at y8
  refine ⟨_,rfl,_,rfl,p,_,_,_,rfl,rfl,.of (z9 _ _ ey),at_1,_,rfl,l8,_,rfl,.inl (.of e8),a1,mkT 0 x1,r8.length,rfl,g1.same z9,m2 x1 (List.mem_cons_of_mem _ (List.mem_cons_self ..)),by rw [yE _ _ gx.2.1]; (first|lia|omega),fun l9 H9 z10 hl9 L9 => ?_⟩
  rw [<- qF] at L9
  obtain ⟨r9,e9,p9⟩ := L9
  have y9:=Paired.len p9
  rw [yE _ _ gx.2.1] at y9
  refine ⟨l8,l9,_,_,rfl,rfl,z10 _ _ e8,e9,by (first|lia|omega),fun l10 hl10 => ?_⟩
  have L10:=kQ (a:=l3) (b:=l4) (xM z10 p8) p9 hl10
  have z11:=z9.trans (z10.trans (zE hl10 (.lst (r8++r9))))
  have e10:upd H9 l10 (.lst (r8++r9)) l10=some (.lst (r8++r9)):=zB
  generalize upd H9 l10 (.lst (r8++r9))=H10 at *
  obtain ⟨r10,e10',p10⟩ := L10
  rw [e10] at e10'
  cases e10'
  refine ⟨sm2,fun ta hta=>⟨sm2,fun tb htb=>⟨sm2,fun tc htc=>⟨sm3,fun l11 hl11 => ?_⟩⟩⟩⟩
  have w1:=zE hta (.tup [.int 3,.int 0])
  have w2:=zE htb (.tup [.int 4,.int 0])
  have w3:=zE htc (.tup [.int 0,.int 0])
  have w4:=zE hl11 (.lst [.ref ta,.ref tb,.ref tc])
  have ww:=w1.trans (w2.trans (w3.trans w4))
  refine ⟨l10,l11,_,_,rfl,rfl,ww _ _ e10,zB,by rw [List.length_append]; show r8.length+r9.length+3<=sizeLine; (first|lia|omega),fun l12 hl12 => ?_⟩
  have L12:=kQ (a:=l3) (b:=l4) (xM ww p10) (us:=[.ref ta,.ref tb,.ref tc]) (hs:=[[3,0],[4,0],[0,0]]) (.cons ⟨ta,rfl,(w2.trans (w3.trans w4)) _ _ zB⟩ (.cons ⟨tb,rfl,(w3.trans w4) _ _ zB⟩ (.cons ⟨tc,rfl,w4 _ _ zB⟩ .nil))) hl12
  refine q l12 _ (g.trans (z11.trans (ww.trans (zE hl12 _)))) ((g.trans (z11.trans ww)).free hl12) ?_
  have em:mkL 0 [x,x1]=[[9,0]]++mkT 1 x++[[5,(r5.length:Int)+(r1.length:Int)+3]]++mkT r8.length x1++[[3,0],[4,0],[0,0]]:=by
   rw [show ([[(9:Int),0]]:List (List Int)).length=1 from rfl] at y5
   unfold mkL mkS mkS
   rw [show rls [x1]=rl x1 by rw [yX]; unfold rls; rfl,List.append_nil,show (r5.length:Int)+(r1.length:Int)+3=((0+rl x+rl x1+4:Nat):Int) by (first|lia|omega),show r8.length=0+rl x+2 by (first|lia|omega)]
   simp
  rw [em]
  exact L12
 have n5:=vf c5
 rw [if_neg n5] at q er
 have ej:=joinP_mkS ps 0 gd.2.2.2
 have jl:=kS (ps.map (mkT 0)) 0
 rw [ej,wR _ _ gd.2.2.2] at jl
 refine ⟨_,rfl,sm2,fun t0 ht0 => ?_⟩
 refine ⟨fun σ' H'=>∃ lt,σ'=[some (.ref tn),some (.int k),some (.ref ow),some (.ref pt),some (.ref p),none,none,none,none,none,none,none,none,some (.ref lt)]/\Same H1 H'/\H' lt=some (.tup ((if k<3 then [k,own.headD 0] else [10,k]).map V.int)),?_,?_⟩
 ·have z0:=zE ht0 (.tup [.int 10,.int k])
  refine ⟨_,rfl,_,_,rfl,rfl,_,rfl,ite2 (fun c => ?_) (fun c => ?_)⟩
  ·have c':k<3:=of_decide_eq_true c
   obtain ⟨n,r,rfl⟩ := own_one of (.inl c')
   refine ⟨_,rfl,_,rfl,ow,_,_,_,rfl,rfl,.of ((g.trans z0) _ _ eow),at_0,sm2,fun t1 h1=>⟨t1,rfl,z0.trans (zE h1 _),?_⟩⟩
   rw [if_pos c',zB]
   rfl
  ·have c':¬ k<3:=fun z=>c (decide_eq_true z)
   refine ⟨t0,rfl,z0,?_⟩
   rw [if_neg c',zB]
   rfl
 rintro _ H2 ⟨lt,rfl,z2,e2⟩
 generalize hf1:(if k<3 then [k,own.headD 0] else [10,k])=f1 at *
 refine ⟨fun σ' H'=>∃ lt,σ'=[some (.ref tn),some (.int k),some (.ref ow),some (.ref pt),some (.ref p),none,none,none,none,none,none,none,none,some (.ref lt)]/\Same H1 H'/\H' lt=some (.tup ((if k=6 then [6,own.headD 0] else f1).map V.int)),?_,?_⟩
 ·refine ⟨_,rfl,rfl,_,rfl,ite2 (fun c => ?_) (fun c => ?_)⟩
  ·have c':=vt c
   obtain ⟨n,r,rfl⟩ := own_one of (.inr c')
   refine ⟨_,rfl,ow,_,_,_,rfl,rfl,.of ((g.trans z2) _ _ eow),at_0,sm2,fun t1 h1=>⟨t1,rfl,z2.trans (zE h1 _),?_⟩⟩
   rw [if_pos c',zB]
   rfl
  ·have c':=vf c
   refine ⟨lt,rfl,z2,?_⟩
   rw [if_neg c',e2]
 rintro _ H3 ⟨lt,rfl,z3,e3⟩
 refine ⟨fun σ' H'=>∃ lt,σ'=[some (.ref tn),some (.int k),some (.ref ow),some (.ref pt),some (.ref p),none,none,none,none,none,none,none,none,some (.ref lt)]/\Same H1 H'/\H' lt=some (.tup ((ownR k own).map V.int)),?_,?_⟩
 ·have eo:=(ownR_f k own).resolve_right (by (first|lia|omega))
  rw [hf1] at eo
  refine ⟨_,rfl,rfl,_,rfl,ite2 (fun c => ?_) (fun c => ?_)⟩
  ·have c':=vt c
   rw [if_pos c'] at eo
   refine ⟨sm2,fun t1 h1=>⟨t1,rfl,z3.trans (zE h1 _),?_⟩⟩
   rw [zB,<- eo]
   rfl
  ·have c':=vf c
   rw [if_neg c'] at eo
   refine ⟨lt,rfl,z3,?_⟩
   rw [<- eo,e3]
 rintro _ H4 ⟨lt,rfl,z4,e4⟩
 refine ⟨_,rfl,p,ys,_,rfl,z4 _ _ ey,Paired.imp (fun _ _ ⟨a,w1,w2⟩=>⟨a,w1,w2.same z4⟩) pj,?_,by (first|lia|omega),fun l5 H5 z5 hl5 L5 => ?_⟩
 ·intro gs hgs g hg
  obtain ⟨t,ht,rfl⟩ := List.mem_map.mp hgs
  exact m2 t ht g hg
 rw [ej] at L5
 obtain ⟨r5,e5,p5⟩ := L5
 have y5:=Paired.len p5
 rw [wR _ _ gd.2.2.2] at y5
 refine ⟨_,rfl,sm1,fun l6 hl6 => ?_⟩
 have z6:=zE hl6 (.lst [.ref lt])
 refine ⟨l5,l6,_,_,rfl,rfl,z6 _ _ e5,zB,by show r5.length+1<=sizeLine; (first|lia|omega),fun l7 hl7 => ?_⟩
 exact q l7 _ (g.trans (z4.trans (z5.trans (z6.trans (zE hl7 _))))) ((g.trans (z4.trans (z5.trans z6))).free hl7) (kQ (a:=l5) (b:=l6) (xM z6 p5) (.cons ⟨lt,rfl,(z5.trans z6) _ _ e4⟩ .nil) hl7)
theorem ok_rowsS (T:TxtL K mg) (F:Fun K "_law_rows" "_law_rows" jK f fd) (C_law_joined:Cal P w K mg base (CXE P w) 2 "_law_joined" ["_law_pieces"] spJoinedL) (C_law_moved:Cal P w K mg base (CXE P w) 1 "_law_moved" ["_law_rows_here", "_law_by"] spMovedL) (hm:mg "_law_rows" = some (.ref f)) (hk:PySem.W.keepIn K (.ref f)=true) (hb:Binds K fd ["_law_node_here"] []):∀ d,FnOk P w K mg base (CXE P w) (d+3) f fd ["_law_node_here"] (spRowsL d)
 | 0=>⟨fun vs H Q E h=>by obtain ⟨_,_,_,_,_,rfl,_⟩ := h; rfl,fun _ _ _ _ _ _ _ _ _ _ _ _ _ h=>by obtain ⟨_,_,_,_,_,_,h,_⟩ := h; exact h.elim⟩
 | d+1=>ok_rows d T F ⟨⟨_,_,ok_rowsS T F C_law_joined C_law_moved hm hk hb d,hm,hk,hb⟩⟩ C_law_joined C_law_moved

end
section
variable {P:Program} {w:World} {K:PySem.W.Frag} {mg:Str->Option Value} {base:Heap} {f:Addr} {fd:FuncData} {aP CL CN CM:Addr}
set_option maxHeartbeats 4000000

theorem ok_cell (T:TxtL K mg) (F:Fun K "_law_cell" "_law_cell" s__law_cell f fd):FnOk P w K mg base (CXE P w) 1 f fd ["_law_script", "_law_k"] (spCellW K):=by
 refine F.okN sc__law_cell (fun vs H Q E h => ?_) (fun cdv A outer s H vs Q E hr h => ?_)
 ·obtain ⟨a,ns,k,rfl,_⟩ := h
  rfl
 obtain ⟨a,ns,k,rfl,hs,hk,q⟩ := h
 refine ⟨_,(zD (zW (zN qQ (pv 1) (zR zM rfl T.n_len yI (zA (pv 0) zC)) (nomark _)) (zG (zS (yC yN (pv 0) (pv 1) (fun _ _=>rfl)))) zT)
   (zG (zS zF))),?_⟩
 try dsimp only [Cx.nox,Cx.exc,Cx.wish,zX]
 have hlen:((ns.map V.int).length:Int)=ns.length:=by rw [List.length_map]
 refine ⟨_,rfl,_,rfl,a,_,rfl,.inl hs.sq,_,_,rfl,rfl,_,rfl,ite2 (fun ck => ?_) (fun ck=>q 0)⟩
 have ck':=of_decide_eq_true ck
 rw [hlen] at ck'
 obtain ⟨v,hv⟩ := atI_int (ns:=ns) hk ck'
 exact ⟨_,rfl,_,rfl,a,_,_,_,rfl,rfl,hs.sq,hv,q v⟩
theorem ok_take (T:TxtL K mg) (F:Fun K "_law_take" "_law_take" s__law_take f fd) (C_law_cell:Cal P w K mg base (CXE P w) 1 "_law_cell" ["_law_script", "_law_k"] (spCellW K)):FnOk P w K mg base (CXE P w) 2 f fd ["_law_state", "_law_most"] (spTakeW K):=by
 refine F.okN xH (fun vs H Q E h => ?_) (fun cdv A outer s H vs Q E hr h => ?_)
 ·obtain ⟨st,m,_,rfl,_⟩ := h
  rfl
 obtain ⟨st,m,wt,rfl,hm0,hm1,D,q⟩ := h
 refine ⟨_,(zD (jY (jU wG (pv 0) wP (jT zF)) (pg_lst rfl (zQ (zL (i:=2) xH.nd rfl (Or.inl rfl)) (zQ (zL (i:=3) xH.nd rfl (Or.inl rfl)) (zQ (zL (i:=4) xH.nd rfl (Or.inl rfl)) yW)))))
   (zD (qW (zW (zN yK (pv 4) zF (nomark _)) (zD (zJ (i:=5) xH.nd rfl (Or.inl rfl) (zH C_law_cell hr rfl (zA (pv 2) (zA (zP op_mod (pv 3) zF) zC)) passN))
   (zD (jY (zP zY (pv 3) zF) (pg_sub (pv 0) zF qY))
   (zG (zW (PW.pt (pw_and (zN qQ (pv 3) (zR zM rfl T.n_len yI (zA (pv 2) zC)) (nomark _)) (pw_and1 (zN op_ge (pv 5) (zP op_pow zF zF) (nomark _))))) (zG (zJ (i:=4) xH.nd rfl (Or.inl rfl) (pv 5))) (zD (zJ (i:=6) xH.nd rfl (Or.inl rfl) (zP op_mod (zP kL (zP zY (zP zY (zP op_mod (pv 5) zF) (zP kL zF (pv 3))) zF) zF) zF))
   (zD (zJ (i:=6) xH.nd rfl (Or.inl rfl) (zP op_mod (zP zY (zP zY (zP kL (pv 6) (pv 6)) (zP kL zF (pv 6))) (pv 3)) zF))
   (zG (zS (zP op_mod (zP qE (pv 6) zF) (pv 1)))))))))) zT))
   (zD (jY (zP qE (pv 4) (pv 1)) (pg_sub (pv 0) zF qY))
   (zG (zS (zP op_mod (pv 4) (pv 1))))))),?_⟩
 try dsimp only [Cx.nox,Cx.exc,Cx.wish,zX]
 obtain ⟨a,ns,k,c,hst0,hs0,hl,hk,hc⟩ := D
 refine ⟨_,rfl,_,rfl,st,_,rfl,SqL.of hst0,fun lc hlc => ?_⟩
 have sl:=zE hlc (.lst (cutV [V.ref a,V.int k,V.int c,V.int wt] none (some 3)))
 have hst:=sl _ _ hst0
 have hs:Scr K (upd H lc (.lst (cutV [V.ref a,V.int k,V.int c,V.int wt] none (some 3)))) a ns:=hs0.keep hst0 (Keep.same sl)
 refine ⟨lc,_,rfl,SqL.of zB,rfl,_,_,rfl,_,_,rfl,_,_,rfl,rfl,?_⟩
 generalize upd H lc (.lst (cutV [V.ref a,V.int k,V.int c,V.int wt] none (some 3)))=H0 at *
 refine ⟨fun σ' H'=>∃ (v5 v6:Option V) (c':Int),σ'=[some (.ref st),some (.int m),some (.ref a),some (.int k),some (.int c'),v5,v6]/\0<=c'/\∃ k' c0,H' st=some (.lst [.ref a,.int k',.int c0,.int wt])/\Keep st H0 H'/\0<=k'/\0<=c0,
  ⟨_,rfl,rfl,_,rfl,ite2 (fun c0 => ?_) (fun c0=>⟨_,_,c,rfl,hc,k,c,hst,Keep.refl _ _,hk,hc⟩)⟩,?_⟩
 ·refine ⟨_,rfl,_,rfl,_,_,rfl,rfl,(by decide:(0:Int)<63),a,ns,_,rfl,hs,Int.emod_nonneg _ (by decide),fun x => ?_⟩
  refine ⟨_,rfl,_,_,rfl,rfl,_,rfl,st,_,_,_,rfl,rfl,hst,rfl,?_⟩
  have h1:upd H0 st (.lst [.ref a,.int (k+1),.int c,.int wt]) st=some (.lst [.ref a,.int (k+1),.int c,.int wt]):=zB
  have k1:Keep st H0 (upd H0 st (.lst [.ref a,.int (k+1),.int c,.int wt])):=Keep.upd
  have s1:Scr K (upd H0 st (.lst [.ref a,.int (k+1),.int c,.int wt])) a ns:=hs.keep hst k1
  have kH:=(Keep.same (st:=st) sl).trans k1
  have p1:(0:Int)<2147483647:=by decide
  have p2:(0:Int)<2147483629:=by decide
  have p4:(0:Int)<2147483587:=by decide
  refine ⟨_,rfl,_,rfl,a,_,rfl,.inl s1.sq,_,_,rfl,rfl,_,rfl,ite2 (fun ca => ?_) (fun ca=>iteF ?_)⟩
  ·refine ⟨_,rfl,_,_,rfl,rfl,⟨by decide,by decide,by decide⟩,_,_,rfl,rfl,_,rfl,ite2 (fun cb => ?_) (fun cb => ?_)⟩
   ·have cb':(10:Int) ^ 18<=x:=of_decide_eq_true cb
    have x0 : 0<=x:=by
     have:(0:Int)<=10 ^ 18:=by decide
     (first|lia|omega)
    exact ⟨_,rfl,_,_,x,rfl,x0,k+1,c,zB,k1,by (first|lia|omega),hc⟩
   ·refine ⟨_,rfl,_,_,rfl,rfl,p1,_,rfl,_,_,rfl,rfl,.inl ⟨by decide,by decide⟩,_,_,rfl,rfl,_,_,rfl,rfl,_,_,rfl,rfl,.inr ⟨by decide,by decide⟩,_,_,rfl,rfl,p2,?_⟩
    generalize (x % 2147483647+31 * k+17) * 48271=A1
    have a1:=Int.emod_nonneg A1 (show (2147483629:Int)≠0 by decide)
    have a2:=Int.emod_lt_of_pos A1 p2
    generalize A1 % 2147483629=A2 at *
    refine ⟨_,rfl,_,rfl,_,_,rfl,rfl,.inl ⟨by (first|lia|omega),by (first|lia|omega)⟩,_,rfl,_,_,rfl,rfl,.inl ⟨by decide,by decide⟩,_,_,rfl,rfl,_,rfl,_,_,rfl,rfl,_,_,rfl,rfl,p4,?_⟩
    refine ⟨_,rfl,_,_,rfl,rfl,⟨by decide,by decide⟩,_,rfl,_,_,rfl,rfl,hm0,?_⟩
    exact q _ _ (Int.emod_nonneg _ (by (first|lia|omega))) (Int.emod_lt_of_pos _ hm0) ⟨⟨a,ns,k+1,c,h1,s1,hl,by (first|lia|omega),hc⟩,kH⟩
  ·refine ⟨_,rfl,_,_,rfl,rfl,p1,_,rfl,_,_,rfl,rfl,.inl ⟨by decide,by decide⟩,_,_,rfl,rfl,_,_,rfl,rfl,_,_,rfl,rfl,.inr ⟨by decide,by decide⟩,_,_,rfl,rfl,p2,?_⟩
   generalize (x % 2147483647+31 * k+17) * 48271=A1
   have a1:=Int.emod_nonneg A1 (show (2147483629:Int)≠0 by decide)
   have a2:=Int.emod_lt_of_pos A1 p2
   generalize A1 % 2147483629=A2 at *
   refine ⟨_,rfl,_,rfl,_,_,rfl,rfl,.inl ⟨by (first|lia|omega),by (first|lia|omega)⟩,_,rfl,_,_,rfl,rfl,.inl ⟨by decide,by decide⟩,_,_,rfl,rfl,_,rfl,_,_,rfl,rfl,_,_,rfl,rfl,p4,?_⟩
   refine ⟨_,rfl,_,_,rfl,rfl,⟨by decide,by decide⟩,_,rfl,_,_,rfl,rfl,hm0,?_⟩
   exact q _ _ (Int.emod_nonneg _ (by (first|lia|omega))) (Int.emod_lt_of_pos _ hm0) ⟨⟨a,ns,k+1,c,h1,s1,hl,by (first|lia|omega),hc⟩,kH⟩
 ·rintro σ' H' ⟨v5,v6,c',rfl,hc',k',c0,e',kp,hk',hc0⟩
  refine ⟨_,rfl,_,rfl,_,_,rfl,rfl,divB hm0 (Int.lt_trans hm1 (by decide)),_,rfl,st,_,_,_,rfl,rfl,e',rfl,?_⟩
  refine ⟨_,rfl,_,rfl,_,_,rfl,rfl,hm0,?_⟩
  exact q _ _ (Int.emod_nonneg _ (by (first|lia|omega))) (Int.emod_lt_of_pos _ hm0) ⟨⟨a,ns,k',c' / m,zB,(hs.keep hst kp).keep e' Keep.upd,hl,hk',Int.ediv_nonneg hc' (by (first|lia|omega))⟩,(Keep.same sl).trans (kp.trans Keep.upd)⟩
theorem ok_number (T:TxtL K mg) (F:Fun K "_law_number" "_law_number" qU f fd) (C_law_take:Cal P w K mg base (CXE P w) 2 "_law_take" ["_law_state", "_law_most"] (spTakeW K)):FnOk P w K mg base (CXE P w) 3 f fd ["_law_state"] (spIntW K Vb):=by
 refine F.okN sc__law_number (fun vs H Q E h => ?_) (fun cdv A outer s H vs Q E hr h => ?_)
 ·obtain ⟨st,_,rfl,_⟩ := h
  rfl
 obtain ⟨st,wt,rfl,D,q⟩ := h
 refine ⟨_,(zD (zJ (i:=1) sc__law_number.nd rfl (Or.inl rfl) (zH C_law_take hr rfl (zA (pv 0) (zA zF zC)) passN))
   (zD (zW (zN qQ (pv 1) zF (nomark _)) (zG (zS (zP jV (zH C_law_take hr rfl (zA (pv 0) (zA zF zC)) passN) zF))) zT)
   (zG (zS (yC yN (yF (zA (zP zY (zP op_pow zF zF) (zH C_law_take hr rfl (zA (pv 0) (zA zF zC)) passN)) (zA (zP jV (zP jV zF (zP op_pow zF zF)) (zH C_law_take hr rfl (zA (pv 0) (zA zF zC)) passN)) zC))) (zP jV (pv 1) zF) (fun _ _=>rfl)))))),?_⟩
 try dsimp only [Cx.nox,Cx.exc,Cx.wish,zX]
 refine ⟨_,rfl,st,8,_,rfl,by decide,by decide,D,fun way H1 w0 w1 D1 => ?_⟩
 refine ⟨_,rfl,_,_,rfl,rfl,_,rfl,ite2 (fun c => ?_) (fun c => ?_)⟩
 ·exact ⟨_,rfl,st,13,_,rfl,by decide,by decide,D1.draw,fun r H2 r0 r1 D2=>⟨_,_,rfl,rfl,q _ _ (Vb.small (by (first|lia|omega))) (D1.trans D2)⟩⟩
 have c':=df c
 refine ⟨_,_,rfl,rfl,⟨by decide,by decide,by decide⟩,_,rfl,st,1000,_,rfl,by decide,by decide,D1.draw,fun r H2 r0 r1 D2=>⟨_,_,rfl,rfl,?_⟩⟩
 refine ⟨_,_,rfl,rfl,⟨by decide,by decide,by decide⟩,_,_,rfl,rfl,_,rfl,st,9,_,rfl,by decide,by decide,D2.draw,fun r' H3 r0' r1' D3=>⟨_,_,rfl,rfl,sm2,fun o ho => ?_⟩⟩
 have D4:=D3.draw.new ho (.lst ([(10:Int) ^ (59:Int).toNat+r,0 - (10:Int) ^ (30:Int).toNat - r'].map V.int))
 obtain ⟨v,vm,hv⟩ := atI_mem (ns:=[(10:Int) ^ (59:Int).toNat+r,0 - (10:Int) ^ (30:Int).toNat - r']) (k:=way - 6) (by (first|lia|omega)) (by show way - 6<2; (first|lia|omega))
 refine ⟨_,rfl,_,_,rfl,rfl,o,_,_,_,rfl,rfl,SqL.of zB,hv,q _ _ ?_ (D1.trans (D2.trans (D3.trans D4)))⟩
 have g:∀ z:Int,z.natAbs<=10 ^ 60->Vb z:=fun z h=>Nat.lt_of_le_of_lt h (show (10:Nat) ^ 60<2 ^ 2000 by decide +kernel)
 have e1:(10:Int) ^ (59:Int).toNat=100000000000000000000000000000000000000000000000000000000000:=by decide +kernel
 have e2:(10:Int) ^ (30:Int).toNat=1000000000000000000000000000000:=by decide +kernel
 have e3:(10:Nat) ^ 60=1000000000000000000000000000000000000000000000000000000000000:=by decide +kernel
 rcases mem2.mp vm with rfl | rfl
 ·exact g _ (by (first|lia|omega))
 ·exact g _ (by (first|lia|omega))
noncomputable def HdW (H:Hp) (v:V) (h:Int × Int):Prop:=∃ t,v = .ref t/\H t=some (.tup [.int h.1,.int h.2])
inductive spNodeW (K:PySem.W.Frag) (d:Nat) (vs:List V) (H:Hp) (Q:VK) (E:XK):Prop
 | mk (hs:Hds) (st hl:Addr) (rh:List V) (bx wt:Int) (h0:vs=[.ref st,.ref hl,.int bx,.int (5 - (d:Int))]) (h1 : 0<d) (h2:Draw4 K H st wt) (h3:hl≠st) (h4:H hl=some (.lst rh)) (h5:Paired (HdW H) rh hs) (h6 : 0<=bx) (h7:bx<=12) (h8 : 1<=hs.length) (h9:hs.length<=16) (h10:(∀ h∈hs,0<=h.1/\h.1<=4)) (h11:∀ v t H' wt',Drawn4 K st wt' H H'->Tr3 H' d v t->FitT hs bx d t->szT t+13 * wt'.toNat<=1+13 * wt.toNat->Q v H'):spNodeW K d vs H Q E
theorem fitTs_snoc {hs:Hds} {b:Int} {n:Nat}:∀ {ts:List Tr} {t:Tr},FitTs hs b n ts->FitT hs b n t->FitTs hs b n (ts++[t])
 | [],t,_,h=>by
  show FitTs hs b n [t]
  unfold FitTs
  exact ⟨h,by unfold FitTs; trivial⟩
 | a :: r,t,h1,h=>by
  unfold FitTs at h1
  show FitTs hs b n (a :: (r++[t]))
  unfold FitTs
  exact ⟨h1.1,fitTs_snoc h1.2 h⟩
theorem szTs_snoc:∀ (ts:List Tr) (t:Tr),szTs (ts++[t])=szTs ts+szT t
 | [],t=>by
  show szTs [t]=szTs []+szT t
  unfold szTs szTs
  (first|lia|omega)
 | a :: r,t=>by
  show szTs (a :: (r++[t]))=szTs (a :: r)+szT t
  rw [szTs,szTs_snoc r t]
  rw [szTs]
  (first|lia|omega)
theorem ok_nodeW (d:Nat) (T:TxtL K mg) (F:Fun K "_law_node" "_law_node" kF f fd) (C_law_take:Cal P w K mg base (CXE P w) 2 "_law_take" ["_law_state", "_law_most"] (spTakeW K)) (C_law_number:Cal P w K mg base (CXE P w) 3 "_law_number" ["_law_state"] (spIntW K Vb)) (C_law_node:Cal P w K mg base (CXE P w) (d+3) "_law_node" ["_law_state", "_law_heads", "_law_boxes", "_law_deep"] (spNodeW K d)):FnOk P w K mg base (CXE P w) (d+4) f fd ["_law_state", "_law_heads", "_law_boxes", "_law_deep"] (spNodeW K (d+1)):=by
 refine F.okN yJ (fun vs H Q E h => ?_) (fun cdv A outer s H vs Q E hr h => ?_)
 ·obtain ⟨hs,st,hl,rh,bx,wt,rfl,_⟩ := h
  rfl
 obtain ⟨hs,st,hl,rh,bx,wt,rfl,_,D,nh,eh,ph,b0,b1,h1,h16,hpm,q⟩ := h
 refine ⟨_,(zD (jY (zP jV (yC yN (pv 0) zF (fun _ _=>rfl)) zF) (pg_sub (pv 0) zF qY))
   (zD (zJ (i:=4) yJ.nd rfl (Or.inl rfl) (zH C_law_take hr rfl (zA (pv 0) (zA zF zC)) passN))
   (zD (qW (zW (PW.pt (kM (zN op_gt (pv 3) zF (nomark _)) (jS (zN qQ (yC yN (pv 0) zF (fun _ _=>rfl)) zF (nomark _))))) (zG (zJ (i:=4) yJ.nd rfl (Or.inl rfl) (yC yN (yF (yT (.int (.int (.int (.int .nil)))))) (zH C_law_take hr rfl (zA (pv 0) (zA zF zC)) passN) (fun _ _=>rfl)))) zT))
   (zD (qW (zW (PW.pt (pw_and (zN yK (pv 2) zF (nomark _)) (pw_and1 (zN op_in_seq (pv 4) (zU (yT (.int (.int .nil)))) rfl)))) (zG (zJ (i:=4) yJ.nd rfl (Or.inl rfl) zF)) zT))
   (zD (zJ (i:=5) yJ.nd rfl (Or.inl rfl) (zU zC))
   (zD (zJ (i:=6) yJ.nd rfl (Or.inl rfl) (yC yN (yF (yT (.int (.int (.int (.int (.int (.int (.int (.int (.int (.int (.int (.int (.int (.int (.int (.int (.int (.int (.int (.int .nil)))))))))))))))))))))) (pv 4) (fun _ _=>rfl)))
   (zD (qW (zW (zN yK (pv 4) zF (nomark _)) (zG (zJ (i:=5) yJ.nd rfl (Or.inl rfl) (zU (zA (zH C_law_number hr rfl (zA (pv 0) zC) passN) zC)))) (zG (zW (zN qQ (pv 4) zF (nomark _)) (zG (zJ (i:=5) yJ.nd rfl (Or.inl rfl) (zU (zA (zH C_law_take hr rfl (zA (pv 0) (zA (pv 2) zC)) passN) zC)))) (zG (zW (zN yK (pv 4) zF (nomark _)) (zD (zJ (i:=6) yJ.nd rfl (Or.inl rfl) (yC yN (yF (zA (zP zY zF (zH C_law_take hr rfl (zA (pv 0) (zA zF zC)) passN)) (zA zF zC))) (zP qE (zH C_law_take hr rfl (zA (pv 0) (zA zF zC)) passN) zF) (fun _ _=>rfl)))
   (zG (zJ (i:=5) yJ.nd rfl (Or.inl rfl) (zU (zA (pv 6) zC))))) (zG (zW (zN yK (pv 4) zF (nomark _)) (zD (zJ (i:=5) yJ.nd rfl (Or.inl rfl) (zU (zA (yC yN (yF (zA (zP zY zF (zH C_law_take hr rfl (zA (pv 0) (zA zF zC)) passN)) (zA zF zC))) (zP qE (zH C_law_take hr rfl (zA (pv 0) (zA zF zC)) passN) zF) (fun _ _=>rfl)) zC)))
   (zG (zJ (i:=6) yJ.nd rfl (Or.inl rfl) (zP zY (yC yU (pv 5) zF (fun _ _=>rfl)) zF)))) (zG (zW (zN yK (pv 4) zF (nomark _)) (zD (zJ (i:=5) yJ.nd rfl (Or.inl rfl) (zU (zA (zH C_law_take hr rfl (zA (pv 0) (zA (zR zM rfl T.n_len yI (zA (pv 1) zC)) zC)) passN) zC)))
   (zG (zJ (i:=6) yJ.nd rfl (Or.inl rfl) (yC yU (yC yN (pv 1) (yC yU (pv 5) zF (fun _ _=>rfl)) (fun _ _=>rfl)) zF (fun _ _=>rfl))))) zT))))))))))
   (zG (zS (zU (zA (pv 4) (zA (pv 5) (zA (xO qX rfl T.n_tuple wF (zA (qM (own:=["_law_k"]) (ys:=["_law_state", "_law_heads", "_law_boxes", "_law_deep"]) rfl (jZ rfl T.n_range (zA (pv 6) zC)) (xV (sc:=defScope kF) rfl (by decide +kernel)) (.cons (j:=0) rfl (.cons (j:=1) rfl (.cons (j:=2) rfl (.cons (j:=3) rfl .nil)))) (fun _ _ _ _ _=>(zL (i:=0) (show List.Nodup [("_law_k" : Str),("_law_state" : Str),("_law_heads" : Str),("_law_boxes" : Str),("_law_deep" : Str)] from (by decide +kernel)) rfl (Or.inl rfl))) (fun _ _ _ _ _=>kD) (fun _ _ _ _ _=>(zH C_law_node hr rfl (zA (pv 1) (zA (pv 2) (zA (pv 3) (zA (zP zY (pv 4) zF) zC)))) passN))) zC)) zC))))))))))))),?_⟩
 try dsimp only [Cx.nox,Cx.exc,Cx.wish,zX]
 obtain ⟨sa,ns,sk,sc,hst,hs0,hl0,hk0,hc0⟩ := id D
 refine ⟨_,rfl,st,_,_,_,rfl,rfl,.of hst,rfl,_,_,rfl,rfl,_,rfl,st,_,_,_,rfl,rfl,hst,rfl,?_⟩
 have D1:Drawn4 K st (wt - 1) H (upd H st (.lst [.ref sa,.int sk,.int sc,.int (wt - 1)])):=⟨⟨sa,ns,sk,sc,zB,hs0.keep hst Keep.upd,hl0,hk0,hc0⟩,Keep.upd⟩
 refine ⟨_,rfl,st,20,_,rfl,by decide,by decide,D1.draw,fun k H2 k0 k1 D2 => ?_⟩
 have D2:=D1.trans D2
 refine ⟨fun σ' H'=>∃ k:Int,σ'=[some (.ref st),some (.ref hl),some (.int bx),some (.int (5 - ((d+1:Nat):Int))),some (.int k),none,none]/\Drawn4 K st (wt - 1) H H'/\0<=k/\k<=19/\(d=0\/wt<=0->k=0\/k=1\/k=19),?_,?_⟩
 ·refine nxg fun NN NB NC hN => ?_
  obtain ⟨sa,ns,sk,sc,hst,_⟩ := id D2.draw
  have leaf:∀ v∈[(0:Int),1,19,0],0<=v/\v<=19/\(v=0\/v=1\/v=19):=by decide
  refine ⟨_,rfl,_,_,rfl,rfl,_,rfl,ite2 (fun c=>iteT ?_) (fun c => ?_)⟩
  ·refine ⟨sm4,fun o ho => ?_⟩
   have D3:=D2.draw.new ho (.lst ([(0:Int),1,19,0].map V.int))
   refine ⟨_,rfl,st,4,_,rfl,by decide,by decide,D3.draw,fun r H4 r0 r1 D4 => ?_⟩
   obtain ⟨v,vm,hv⟩ := atI_mem (ns:=[(0:Int),1,19,0]) r0 r1
   have vb:=leaf v vm
   exact ⟨o,_,_,_,rfl,rfl,.of (D4.keep _ _ (Ne.symm (D2.draw.ne ho)) zB),hv,hN _ _ ⟨v,rfl,D2.trans (D3.trans D4),vb.1,vb.2.1,fun _=>vb.2.2⟩⟩
  ·have c':=df c
   refine ⟨_,rfl,st,_,_,_,rfl,rfl,.of hst,rfl,_,_,rfl,rfl,_,rfl,ite2 (fun c2 => ?_) (fun c2 => ?_)⟩
   ·refine ⟨sm4,fun o ho => ?_⟩
    have D3:=D2.draw.new ho (.lst ([(0:Int),1,19,0].map V.int))
    refine ⟨_,rfl,st,4,_,rfl,by decide,by decide,D3.draw,fun r H4 r0 r1 D4 => ?_⟩
    obtain ⟨v,vm,hv⟩ := atI_mem (ns:=[(0:Int),1,19,0]) r0 r1
    have vb:=leaf v vm
    exact ⟨o,_,_,_,rfl,rfl,.of (D4.keep _ _ (Ne.symm (D2.draw.ne ho)) zB),hv,hN _ _ ⟨v,rfl,D2.trans (D3.trans D4),vb.1,vb.2.1,fun _=>vb.2.2⟩⟩
   ·have c2':=df c2
    exact hN _ _ ⟨k,rfl,D2,k0,by (first|lia|omega),fun z=>by (first|lia|omega)⟩
 rintro _ H3 ⟨k,rfl,D3,k0,k1,lf⟩
 refine ⟨fun σ' H'=>∃ k:Int,σ'=[some (.ref st),some (.ref hl),some (.int bx),some (.int (5 - ((d+1:Nat):Int))),some (.int k),none,none]/\Drawn4 K st (wt - 1) H H'/\0<=k/\k<=19/\(d=0\/wt<=0->k=0\/k=1\/k=19)/\(k=1\/k=2->1<=bx),?_,?_⟩
 ·refine nxg fun NN NB NC hN => ?_
  refine ⟨_,rfl,rfl,_,rfl,ite2 (fun c => ?_) (fun c=>iteF (hN _ _ ⟨k,rfl,D3,k0,k1,lf,fun _=>by have:=vf c; (first|lia|omega)⟩))⟩
  refine ⟨_,rfl,sm2,fun o ho => ?_⟩
  have D4:=D3.trans (D3.draw.new ho (.tup [.int 1,.int 2]))
  refine ⟨_,_,rfl,.inr (.of zB),rfl,rfl,_,rfl,ite2 (fun c2 => ?_) (fun c2 => ?_)⟩
  ·exact hN _ _ ⟨0,rfl,D4,by decide,by decide,fun _ => .inl rfl,fun z=>by (first|lia|omega)⟩
  ·refine hN _ _ ⟨k,rfl,D4,k0,k1,lf,fun z=>absurd ((inV_ints k [1,2]).trans (decide_eq_true ?_)) c2⟩
   simp only [List.mem_cons,List.not_mem_nil,or_false]
   exact z
 rintro _ H4 ⟨k,rfl,D4,k0,k1,lf,kb⟩
 refine ⟨sm0,fun to hto=>⟨sm20,fun lm hlm => ?_⟩⟩
 have s5:=(zE hto (.tup [])).trans (zE hlm (.lst (tableM.map V.int)))
 have D5:=D4.trans (D4.draw.more s5)
 have e5:upd (upd H4 to (.tup [])) lm (.lst (tableM.map V.int)) to=some (.tup (([]:List Int).map V.int)):=zE hlm _ _ _ zB
 have elm:upd (upd H4 to (.tup [])) lm (.lst (tableM.map V.int)) lm=some (.lst (tableM.map V.int)):=zB
 obtain ⟨m0,hm0,bm0,tm0⟩ : ∃ m:Int,atI (tableM.map V.int) k=some (.int m)/\(0<=m/\m<=3)/\(k≠3->k≠4->k≠6->∀ own,m=dueM hs k own):=by
  obtain ⟨v,vm,hv⟩ := atI_mem (ns:=tableM) k0 (by show k<20; (first|lia|omega))
  refine ⟨v,hv,(show ∀ v∈tableM,0<=v/\v<=3 by decide) v vm,fun n3 n4 n6 own => ?_⟩
  have:=many_table (hs:=hs) (own:=own) k0 k1 n3 n4 n6
  rw [hv] at this
  injection this with z
  injection z
 refine ⟨_,rfl,lm,_,_,_,rfl,rfl,.of elm,hm0,?_⟩
 change tSeq _ _ _ _ (upd (upd H4 to (.tup [])) lm (.lst (tableM.map V.int)))
 generalize upd (upd H4 to (.tup [])) lm (.lst (tableM.map V.int))=H5 at *
 refine ⟨fun σ' H'=>∃ (ow:Addr) (own:List Int) (m:Int),σ'=[some (.ref st),some (.ref hl),some (.int bx),some (.int (5 - ((d+1:Nat):Int))),some (.int k),some (.ref ow),some (.int m)]/\Drawn4 K st (wt - 1) H H'/\H' ow=some (.tup (own.map V.int))/\OwnFit hs bx k own/\(∀ v∈own,Vb v)/\m=dueM hs k own/\0<=m/\m<=13/\(d=0\/wt<=0->m=0),?_,?_⟩
 ·refine nxg fun NN NB NC hN => ?_
  have one:∀ {v:Int},Vb v->∀ x∈[v],Vb x:=fun h x hx=>by rw [List.mem_singleton.mp hx]; exact h
  have eh5:=D5.keep _ _ nh eh
  refine ⟨_,rfl,rfl,_,rfl,ite2 (fun c => ?_) (fun c0 => ?_)⟩
  ·have z:=vt c
   subst z
   refine ⟨_,rfl,st,_,rfl,D5.draw,fun v H6 vb D6=>⟨sm1,fun ow how => ?_⟩⟩
   have tm:=tm0 (by decide) (by decide) (by decide) [v]
   exact hN _ _ ⟨ow,[v],m0,rfl,D5.trans (D6.trans (D6.draw.new how _)),zB,.inl ⟨rfl,v,rfl⟩,one vb,tm,bm0.1,by (first|lia|omega),fun _=>tm⟩
  have n0:=vf c0
  refine ⟨_,rfl,_,_,rfl,rfl,_,rfl,ite2 (fun c => ?_) (fun c2 => ?_)⟩
  ·have c':k<3:=of_decide_eq_true c
   have hb:=kb (by (first|lia|omega))
   refine ⟨_,rfl,_,rfl,st,bx,_,rfl,by (first|lia|omega),by (first|lia|omega),D5.draw,fun r H6 r0 r1 D6=>⟨sm1,fun ow how => ?_⟩⟩
   have tm:=tm0 (by (first|lia|omega)) (by (first|lia|omega)) (by (first|lia|omega)) [r]
   refine hN _ _ ⟨ow,[r],m0,rfl,D5.trans (D6.trans (D6.draw.new how _)),zB,.inr (.inl ⟨by (first|lia|omega),r,rfl,r0,by (first|lia|omega)⟩),one (Vb.small (by (first|lia|omega))),tm,bm0.1,by (first|lia|omega),fun z => ?_⟩
   have:k=1:=by have:=lf z; (first|lia|omega)
   subst this
   exact tm
  have n2:=df c2
  refine ⟨_,rfl,rfl,_,rfl,ite2 (fun c => ?_) (fun c3 => ?_)⟩
  ·have z:=vt c
   subst z
   refine ⟨_,rfl,st,3,_,rfl,by decide,by decide,D5.draw,fun r H6 r0 r1 D6=>⟨_,_,rfl,rfl,sm2,fun o ho => ?_⟩⟩
   have D7:=D6.draw.new ho (.lst ([1+r,12].map V.int))
   refine ⟨_,rfl,st,16,_,rfl,by decide,by decide,D7.draw,fun r' H8 r0' r1' D8=>⟨_,_,rfl,rfl,divB (by decide) (by decide),?_⟩⟩
   obtain ⟨m,mm,hm⟩ := atI_mem (ns:=[1+r,12]) (k:=r' / 15) (Int.ediv_nonneg r0' (by decide)) (by show r' / 15<2; (first|lia|omega))
   have bm : 1<=m/\m<=12:=by rcases mem2.mp mm with z | z <;> (first|lia|omega)
   refine ⟨o,_,_,_,rfl,rfl,.of (D8.keep _ _ (Ne.symm (D6.draw.ne ho)) zB),hm,_,rfl,sm1,fun ow how => ?_⟩
   exact hN _ _ ⟨ow,[m],m,rfl,D5.trans (D6.trans (D7.trans (D8.trans (D8.draw.new how _)))),zB,.inr (.inr (.inl ⟨rfl,m,rfl,bm.1,bm.2⟩)),one (Vb.small (by (first|lia|omega))),rfl,by (first|lia|omega),by (first|lia|omega),fun z=>by have:=lf z; (first|lia|omega)⟩
  have n3:=vf c3
  refine ⟨_,rfl,rfl,_,rfl,ite2 (fun c => ?_) (fun c4 => ?_)⟩
  ·have z:=vt c
   subst z
   refine ⟨_,rfl,st,2,_,rfl,by decide,by decide,D5.draw,fun r H6 r0 r1 D6=>⟨_,_,rfl,rfl,sm2,fun o ho => ?_⟩⟩
   have D7:=D6.draw.new ho (.lst ([2+r,12].map V.int))
   refine ⟨_,rfl,st,16,_,rfl,by decide,by decide,D7.draw,fun r' H8 r0' r1' D8=>⟨_,_,rfl,rfl,divB (by decide) (by decide),?_⟩⟩
   obtain ⟨m,mm,hm⟩ := atI_mem (ns:=[2+r,12]) (k:=r' / 15) (Int.ediv_nonneg r0' (by decide)) (by show r' / 15<2; (first|lia|omega))
   have bm : 2<=m/\m<=12:=by rcases mem2.mp mm with z | z <;> (first|lia|omega)
   refine ⟨o,_,_,_,rfl,rfl,.of (D8.keep _ _ (Ne.symm (D6.draw.ne ho)) zB),hm,sm1,fun ow how => ?_⟩
   refine ⟨_,rfl,ow,_,_,_,rfl,rfl,.of zB,at_0,_,_,rfl,rfl,?_⟩
   exact hN _ _ ⟨ow,[m],m+1,rfl,D5.trans (D6.trans (D7.trans (D8.trans (D8.draw.new how _)))),zB,.inr (.inr (.inr (.inl ⟨rfl,m,rfl,bm.1,bm.2⟩))),one (Vb.small (by (first|lia|omega))),Int.add_comm m 1,by (first|lia|omega),by (first|lia|omega),fun z=>by have:=lf z; (first|lia|omega)⟩
  have n4:=vf c4
  refine ⟨_,rfl,rfl,_,rfl,ite2 (fun c => ?_) (fun c6 => ?_)⟩
  ·have z:=vt c
   subst z
   have lh:=Paired.len ph
   refine ⟨_,rfl,_,rfl,hl,_,rfl,.inl (.of eh5),st,_,_,rfl,by (first|lia|omega),by (first|lia|omega),D5.draw,fun r H6 r0 r1 D6=>⟨sm1,fun ow how => ?_⟩⟩
   have D7:=D6.trans (D6.draw.new how (.tup [.int r]))
   have eh7:=D7.keep _ _ nh eh5
   obtain ⟨i,rfl⟩ : ∃ i:Nat,r=i:=⟨r.toNat,by (first|lia|omega)⟩
   have hi:i<rh.length:=by (first|lia|omega)
   obtain ⟨h,hh,t,et,ett⟩ := Paired.yonder ph (List.getElem?_eq_getElem hi)
   have hpb:=hpm h (List.mem_of_getElem? hh)
   have ea:atI rh (i:Int)=some (.ref t):=jH (by rw [List.getElem?_eq_getElem hi,et])
   refine ⟨_,rfl,_,rfl,ow,_,_,_,rfl,rfl,.of zB,at_0,hl,_,_,_,rfl,rfl,.of eh7,ea,t,_,_,_,rfl,rfl,.of ((D5.trans D7).tups D _ _ ett),at_0,?_⟩
   have ed:dueM hs 6 [(i:Int)]=h.1:=by
    show (hs.getD (i:Int).toNat (0,0)).1=h.1
    rw [Int.toNat_natCast,List.getD_eq_getElem?_getD,hh]
    rfl
   exact hN _ _ ⟨ow,[(i:Int)],h.1,rfl,D5.trans D7,zB,.inr (.inr (.inr (.inr (.inl ⟨rfl,_,rfl,by (first|lia|omega),by (first|lia|omega)⟩)))),one (Vb.small (by (first|lia|omega))),ed.symm,hpb.1,by (first|lia|omega),fun z=>by have:=lf z; (first|lia|omega)⟩
  have n6:=vf c6
  have tm:=tm0 n3 n4 n6 []
  refine hN _ _ ⟨to,[],m0,rfl,D5,e5,.inr (.inr (.inr (.inr (.inr ⟨by (first|lia|omega),rfl⟩)))),fun v hv=>absurd hv (by simp),tm,bm0.1,by (first|lia|omega),fun z => ?_⟩
  have:k=19:=by have:=lf z; (first|lia|omega)
  subst this
  exact tm
 rintro _ H6 ⟨ow,own,m,rfl,D6,eow,of,vo,em,m0,m13,lm0⟩
 refine ⟨_,rfl,_,rfl,_,rfl,_,rfl,by (first|lia|omega),by (first|lia|omega),fun p hp => ?_⟩
 have D7:=D6.draw.new hp (.lst [])
 have np:p≠st:=Ne.symm (D6.draw.ne hp)
 refine comp_rng (lo:=0) (n:=m.toNat) (fs:=[some (.ref st),some (.ref hl),some (.int bx),some (.int (5 - ((d+1:Nat):Int)))]) (fun j ys H'=>∃ w',Drawn4 K st w' H6 H'/\∃ (zs:List V) (ts:List Tr),H' p=some (.lst zs)/\zs.length=j/\Paired (Tr3 H' d) zs ts/\FitTs hs bx d ts/\szTs ts+13 * w'.toNat<=j+13 * (wt - 1).toNat) ⟨wt - 1,D7,[],[],zB,rfl,.nil,by unfold FitTs; trivial,by unfold szTs; (first|lia|omega)⟩ ?_ ?_
 ·rintro j ys H8 hj ⟨w',D8,zs,ts,ez,lz,pz,fz,sz⟩
  have D68:=D6.trans D8
  refine tyes ⟨_,rfl,_,rfl,_,rfl,_,rfl,_,_,rfl,rfl,hs,st,hl,rh,bx,w',?_,by (first|lia|omega),D8.draw,nh,D68.keep _ _ nh eh,Paired.imp (fun _ _ ⟨t,e1,e2⟩=>⟨t,e1,D68.tups D _ _ e2⟩) ph,b0,b1,h1,h16,hpm,fun v t H9 w9 D9 tv ft sv => ?_⟩
  ·show [V.ref st,V.ref hl,V.int bx,V.int (5 - ((d+1:Nat):Int)+1)]=_
   rw [show 5 - ((d+1:Nat):Int)+1=5 - (d:Int) by (first|lia|omega)]
  have ez9:=D9.keep _ _ np ez
  refine ⟨_,ez9,small1000 (by (first|lia|omega)),CompW.next (ys:=[]) hj ⟨w9,⟨D9.draw.put ez9 np,(D8.trans D9).keep.fresh hp⟩,zs++[v],ts++[t],zB,by rw [List.length_append,lz] <;> rfl,?_,fitTs_snoc fz ft,by rw [szTs_snoc]; (first|lia|omega)⟩⟩
  have tu:Tups H9 (upd H9 p (.lst (zs++[v]))):=Tups.upd ez9
  exact Paired.append (Paired.imp (fun _ _ x=>(x.tups (D9.tups D8.draw)).tups tu) pz) (.cons (tv.tups tu) .nil)
 ·rintro ys H8 ⟨w',D8,zs,ts,ez,lz,pz,fz,sz⟩
  have eow8:=D8.tups D6.draw _ _ eow
  refine ⟨p,zs,rfl,.inl ⟨SqL.of ez,fun qa hqa => ?_⟩⟩
  have s1:=zE hqa (.tup zs)
  refine ⟨sm3,fun t ht => ?_⟩
  have s2:=s1.trans (zE ht (.tup [.int k,.ref ow,.ref qa]))
  have lts:=Paired.len pz
  refine q (.ref t) (.mk k own ts) _ w' (D6.trans (D8.trans (D8.draw.more s2))) ⟨t,ow,qa,zs,rfl,zB,s2 _ _ eow8,zE ht _ _ _ zB,Paired.imp (fun _ _ z=>z.same s2) pz⟩ ?_ ?_
  ·unfold FitT
   exact ⟨k0,k1,of,by (first|lia|omega),vo,fz⟩
  ·show szT (.mk k own ts)+_<=_
   rw [szT]
   by_cases c:d=0\/wt<=0
   ·have:=lm0 c
    (first|lia|omega)
   ·(first|lia|omega)
theorem ok_nodeWS (T:TxtL K mg) (F:Fun K "_law_node" "_law_node" kF f fd) (C_law_take:Cal P w K mg base (CXE P w) 2 "_law_take" ["_law_state", "_law_most"] (spTakeW K)) (C_law_number:Cal P w K mg base (CXE P w) 3 "_law_number" ["_law_state"] (spIntW K Vb)) (hm:mg "_law_node" = some (.ref f)) (hk:PySem.W.keepIn K (.ref f)=true) (hb:Binds K fd ["_law_state", "_law_heads", "_law_boxes", "_law_deep"] []):∀ d,FnOk P w K mg base (CXE P w) (d+3) f fd ["_law_state", "_law_heads", "_law_boxes", "_law_deep"] (spNodeW K d)
 | 0=>⟨fun vs H Q E h=>by obtain ⟨_,_,_,_,_,_,rfl,_⟩ := h; rfl,fun _ _ _ _ _ _ _ _ _ _ _ _ _ h=>by obtain ⟨_,_,_,_,_,_,_,h,_⟩ := h; exact absurd h (by decide)⟩
 | d+1=>ok_nodeW d T F C_law_take C_law_number ⟨⟨_,_,ok_nodeWS T F C_law_take C_law_number hm hk hb d,hm,hk,hb⟩⟩
theorem fitTs_up {hs:Hds} {b:Int} {n:Nat} (h:∀ t,FitT hs b n t->FitT hs b (n+1) t):∀ {ts:List Tr},FitTs hs b n ts->FitTs hs b (n+1) ts
 | [],_=>by unfold FitTs; trivial
 | a :: r,f=>by
  unfold FitTs at f ⊢
  exact ⟨h a f.1,fitTs_up h f.2⟩
theorem fitT_more {hs:Hds} {b:Int}:∀ (n:Nat) (t:Tr),FitT hs b n t->FitT hs b (n+1) t
 | 0,t,f=>by unfold FitT at f; exact f.elim
 | n+1,.mk k own ps,f=>by
  unfold FitT at f ⊢
  exact ⟨f.1,f.2.1,f.2.2.1,f.2.2.2.1,f.2.2.2.2.1,fitTs_up (fitT_more n) f.2.2.2.2.2⟩
theorem fitT_up {hs:Hds} {b:Int} {n:Nat} {t:Tr} (f:FitT hs b n t):∀ {m:Nat},n<=m->FitT hs b m t:=fun {m} le=>by
 induction le with
 | refl=>exact f
 | step _ ih=>exact fitT_more _ _ ih
theorem tr3_up {H:Hp} {n:Nat} {v:V} {t:Tr} (f:Tr3 H n v t):∀ {m:Nat},n<=m->Tr3 H m v t:=fun {m} le=>by
 induction le with
 | refl=>exact f
 | step _ ih=>exact Tr3.more ih
noncomputable def szF:List Fn->Nat
 | []=>0
 | f :: r=>szT f.2+szF r
theorem szF_snoc:∀ (xs:List Fn) (t:Fn),szF (xs++[t])=szF xs+szT t.2
 | [],t=>by show szT t.2+0=0+szT t.2; (first|lia|omega)
 | x :: r,t=>by show szT x.2+szF (r++[t])=szT x.2+szF r+szT t.2; rw [szF_snoc r]; (first|lia|omega)
theorem keep_same {H H1 H':Hp} {st:Addr} (k:Keep st H1 H') (s:Same H H1) (h:H st=none):Same H H':=fun b o e=>k b o (fun z=>by rw [z,h] at e; cases e) (s b o e)
theorem put_head {hs:Hds} {i:Nat} {p b:Int} (l:hs.length=i) (p0 : 0<=p) (p4:p<=4) (z:i=0->p=0) (b0 : 0<=b) (b3:b<=3) (h:∀ (j:Nat) (h:Int × Int),hs[j]? = some h->0<=h.1/\h.1<=4/\h.1<=h.2/\h.2<=12/\(j=0->h.1=0)):∀ (j:Nat) (h:Int × Int),(hs++[(p,p+b)])[j]? = some h->0<=h.1/\h.1<=4/\h.1<=h.2/\h.2<=12/\(j=0->h.1=0):=fun j x e=>by
 by_cases c:j<hs.length
 ·rw [List.getElem?_append_left c] at e
  exact h j x e
 ·have hj:=(List.getElem?_eq_some_iff.mp e).1
  rw [List.length_append,List.length_singleton] at hj
  have:j=hs.length:=by (first|lia|omega)
  subst this
  rw [List.getElem?_append_right (Nat.le_refl _),Nat.sub_self] at e
  cases e
  exact ⟨p0,p4,by show p<=p+b; (first|lia|omega),by show p+b<=12; (first|lia|omega),fun w=>z (by (first|lia|omega))⟩
inductive spFunsL (K:PySem.W.Frag) (vs:List V) (H:Hp) (Q:VK) (E:XK):Prop
 | mk (a:Addr) (ns:List Int) (h0:vs=[.ref a]) (h1:Scr K H a ns) (h2:ns.length<=63) (h3:∀ l rs fs H',Same H H'->H l=none->H' l=some (.lst rs)->Paired (F3At H' 10) rs fs->HdsGood (fs.map (·.1))->(∀ f∈fs,FitT (fs.map (·.1)) f.1.2 10 f.2)->szF fs<=151->Q (.ref l) H'):spFunsL K vs H Q E
theorem ok_funsL (T:TxtL K mg) (F:Fun K "_law_functions" "_law_functions" jX f fd) (C_law_take:Cal P w K mg base (CXE P w) 2 "_law_take" ["_law_state", "_law_most"] (spTakeW K)) (C_law_node:Cal P w K mg base (CXE P w) 7 "_law_node" ["_law_state", "_law_heads", "_law_boxes", "_law_deep"] (spNodeW K 4)):FnOk P w K mg base (CXE P w) 8 f fd ["_law_script"] (spFunsL K):=by
 refine F.okN zZ (fun vs H Q E h => ?_) (fun cdv A outer s H vs Q E hr h => ?_)
 ·obtain ⟨a,ns,rfl,_⟩ := h
  rfl
 obtain ⟨a,ns,rfl,hs0,hl0,q⟩ := h
 refine ⟨_,(zD (zJ (i:=1) zZ.nd rfl (Or.inl rfl) (yF (zA (pv 0) (zA zF (zA zF (zA zF zC))))))
   (zD (zJ (i:=2) zZ.nd rfl (Or.inl rfl) (yF zC))
   (zD (yY PassesOwn.never rfl (jZ rfl T.n_range (zA (zP zY zF (zH C_law_take hr rfl (zA (pv 1) (zA zF zC)) passN)) zC)) (zL (i:=3) zZ.nd rfl (Or.inl rfl)) (zD (zJ (i:=4) zZ.nd rfl (Or.inl rfl) (zP kL (zH C_law_take hr rfl (zA (pv 1) (zA zF zC)) passN) (xO kW rfl T.n_int bt_int (zA (qO op_gt (pv 3) zF (nomark _)) zC))))
   (zG (yB (jD PySem.F.plainAttrs_list PySem.F.slot_list_append PySem.F.type_list_append yD (pv 2) (zA (zU (zA (pv 4) (zA (zP zY (pv 4) (zH C_law_take hr rfl (zA (pv 1) (zA zF zC)) passN)) zC))) zC))))))
   (zD (zJ (i:=5) zZ.nd rfl (Or.inl rfl) (yF zC))
   (zD (yY PassesOwn.never rfl (xL (pv 2)) (xS rfl (zQ (zL (i:=4) zZ.nd rfl (Or.inl rfl)) (zQ (zL (i:=6) zZ.nd rfl (Or.inl rfl)) yW))) (zD (zJ (i:=7) zZ.nd rfl (Or.inl rfl) (zH C_law_node hr rfl (zA (pv 1) (zA (pv 2) (zA (pv 6) (zA zF zC)))) passN))
   (zD (yY PassesOwn.never rfl (jZ rfl T.n_range (zA (zP kL (zH C_law_take hr rfl (zA (pv 1) (zA zF zC)) passN) (zP qE (zH C_law_take hr rfl (zA (pv 1) (zA zF zC)) passN) zF)) zC)) (zL (i:=3) zZ.nd rfl (Or.inl rfl)) (zG (zJ (i:=7) zZ.nd rfl (Or.inl rfl) (zU (zA zF (zA (zU zC) (zA (zU (zA (pv 7) zC)) zC)))))))
   (zG (yB (jD PySem.F.plainAttrs_list PySem.F.slot_list_append PySem.F.type_list_append yD (pv 5) (zA (zU (zA (pv 4) (zA (pv 6) (zA (pv 7) zC)))) zC)))))))
   (zG (zS (pv 5)))))))),?_⟩
 try dsimp only [Cx.nox,Cx.exc,Cx.wish,zX]
 refine ⟨_,rfl,sm4,fun st hst => ?_⟩
 have D0:Draw4 K (upd H st (.lst [.ref a,.int 0,.int 0,.int 10])) st 10:=⟨a,ns,0,0,zB,hs0.imp (fun ⟨o,z⟩=>⟨o,zE hst _ _ _ z⟩) id,hl0,by decide,by decide⟩
 have s0:=zE hst (.lst [.ref a,.int 0,.int 0,.int 10])
 generalize upd H st (.lst [.ref a,.int 0,.int 0,.int 10])=H0 at *
 refine ⟨sm0,fun hl hhl => ?_⟩
 have D1:=D0.new hhl (.lst [])
 have nhl:hl≠st:=Ne.symm (D0.ne hhl)
 have e1:upd H0 hl (.lst []) hl=some (.lst []):=zB
 generalize upd H0 hl (.lst [])=H1 at *
 refine ⟨_,rfl,st,3,10,rfl,by decide,by decide,D1.draw,fun r H2 r0 r1 D2=>⟨_,_,rfl,rfl,_,rfl,by (first|lia|omega),by (first|lia|omega),?_⟩⟩
 refine kU (lo:=0) (n:=(1+r).toNat) (fun i σ' H'=>∃ (v3 v4:Option V) (rh:List V) (hs:Hds),σ'=[some (.ref a),some (.ref st),some (.ref hl),v3,v4,none,none,none]/\Drawn4 K st 10 H0 H'/\H' hl=some (.lst rh)/\Paired (HdW H') rh hs/\hs.length=i/\∀ (j:Nat) (h:Int × Int),hs[j]? = some h->0<=h.1/\h.1<=4/\h.1<=h.2/\h.2<=12/\(j=0->h.1=0)) ⟨none,none,[],[],rfl,D1.trans D2,D2.keep _ _ nhl e1,.nil,rfl,fun j h e=>by simp at e⟩ ?_ ?_
 ·rintro i σ' H3 hi ⟨v3,v4,rh,hs,rfl,D3,eh,ph,lh,hh⟩
  have lr:=Paired.len ph
  refine ⟨_,rfl,st,5,10,rfl,by decide,by decide,D3.draw,fun p H4 p0 p1 D4=>⟨_,rfl,_,_,rfl,rfl,.inr ⟨_,rfl,_,_,rfl,rfl,.inr (by split <;> decide),?_⟩⟩⟩
  have hP:∃ P:Int,p * (if decide (0<0+(i:Int))=true then (1:Int) else 0)=P/\0<=P/\P<=4/\(i=0->P=0):=by
   refine ⟨_,rfl,?_⟩
   split
   ·rename_i c
    have:=of_decide_eq_true c
    exact ⟨by (first|lia|omega),by (first|lia|omega),fun z=>by (first|lia|omega)⟩
   ·exact ⟨by (first|lia|omega),by (first|lia|omega),fun z=>by (first|lia|omega)⟩
  obtain ⟨P1,eP,P0,P4,Pz⟩ := hP
  refine Eq.mpr (congrArg (fun z=>gName 4 (V.int z) _ _ _) eP) ?_
  have eh4:=D4.keep _ _ nhl eh
  refine ⟨_,rfl,.inl ⟨rfl,_,.of eh4⟩,_,rfl,_,rfl,_,rfl,st,4,10,rfl,by decide,by decide,D4.draw,fun b H5 b0 b1 D5=>⟨_,_,rfl,rfl,sm2,fun tt htt => ?_⟩⟩
  have s6:=zE htt (.tup [.int P1,.int (P1+b)])
  have eh6:=s6 _ _ (D5.keep _ _ nhl eh4)
  refine ⟨hl,rh,_,rfl,rfl,eh6,by have:=sizeLine_eq; (first|lia|omega),some (.int (0+(i:Int))),some (.int P1),rh++[.ref tt],hs++[(P1,P1+b)],rfl,?_,zB,?_,by rw [List.length_append,lh]; rfl,put_head lh P0 P4 Pz b0 (by (first|lia|omega)) hh⟩
  ·have D6:=D4.trans (D5.trans (D5.draw.more s6))
   exact ⟨D6.draw.put eh6 nhl,(D3.trans D6).keep.fresh hhl⟩
  ·have tu:Tups (upd H5 tt (.tup [.int P1,.int (P1+b)])) (upd (upd H5 tt (.tup [.int P1,.int (P1+b)])) hl (.lst (rh++[.ref tt]))):=Tups.upd eh6
   have D6:=D4.trans (D5.trans (D5.draw.more s6))
   exact Paired.snoc (Paired.imp (fun _ _ ⟨t,w1,w2⟩=>⟨t,w1,tu _ _ (D6.tups D3.draw _ _ w2)⟩) ph) ⟨tt,rfl,tu _ _ zB⟩
 ·rintro σ' H3 ⟨v3,v4,rh,hs,rfl,D3,eh,ph,lh,hh⟩
  have lr:=Paired.len ph
  have n3:hs.length<=3:=by (first|lia|omega)
  have hall:∀ h∈hs,0<=h.1/\h.1<=4:=fun h m=>by
   obtain ⟨j,ej⟩ := List.getElem?_of_mem m
   have:=hh j h ej
   (first|lia|omega)
  refine ⟨sm0,fun l5 hl5 => ?_⟩
  have D4:=D3.draw.new hl5 (.lst [])
  have n5:l5≠st:=Ne.symm (D3.draw.ne hl5)
  have e5:upd H3 l5 (.lst []) l5=some (.lst []):=zB
  have eh4:upd H3 l5 (.lst []) hl=some (.lst rh):=D4.keep _ _ nhl eh
  generalize upd H3 l5 (.lst [])=H4 at *
  refine ⟨_,rfl,hl,rfl,⟨_,.of eh4⟩,xT (xs:=rh) (fun i σ' H'=>∃ (w':Int) (v3 v4 v6 v7:Option V) (zs:List V) (fs:List Fn),σ'=[some (.ref a),some (.ref st),some (.ref hl),v3,v4,some (.ref l5),v6,v7]/\Drawn4 K st w' H3 H'/\H' l5=some (.lst zs)/\Paired (F3At H' 10) zs fs/\fs.map (·.1)=hs.take i/\(∀ f∈fs,FitT hs f.1.2 10 f.2)/\szF fs+13 * w'.toNat<=7 * i+130) ⟨10,_,_,_,_,[],[],rfl,D4,e5,.nil,rfl,fun f hf=>(by cases hf),by decide⟩ (fun i σ' H' _ ⟨_,_,_,_,_,_,_,_,z,_⟩ => .of (z.keep _ _ nhl eh)) ?_ ?_⟩
  ·rintro i x σ' H5 hx ⟨w',v3,v4,v6,v7,zs,fs,rfl,D5,ez,pz,ef,ff,sf⟩
   obtain ⟨h,hhi,t,rfl,et⟩ := Paired.yonder ph hx
   have hi:=(List.getElem?_eq_some_iff.mp hhi).1
   have tk:hs.take (i+1)=hs.take i++[h]:=by rw [List.take_add_one,hhi] <;> rfl
   have hb:=hh i h hhi
   refine ⟨t,_,rfl,.of (D5.tups D3.draw _ _ et),rfl,_,_,rfl,_,_,rfl,rfl,?_⟩
   refine ⟨_,rfl,_,rfl,_,rfl,hs,st,hl,rh,h.2,w',rfl,by decide,D5.draw,nhl,D5.keep _ _ nhl eh,Paired.imp (fun _ _ ⟨t,e1,e2⟩=>⟨t,e1,D5.tups D3.draw _ _ e2⟩) ph,by (first|lia|omega),by (first|lia|omega),by (first|lia|omega),by (first|lia|omega),hall,fun v t0 H6 w6 D6 tv ft sv => ?_⟩
   refine ⟨_,rfl,st,7,w6,rfl,by decide,by decide,D6.draw,fun r7 H7 r70 r71 D7 => ?_⟩
   refine ⟨_,rfl,st,4,w6,rfl,by decide,by decide,D7.draw,fun r4 H8 r40 r41 D8 => ?_⟩
   obtain ⟨N,eN,N6⟩ : ∃ N:Nat,r7 * (r4 / 3)=N/\N<=6:=by
    have c:r4 / 3=0\/r4 / 3=1:=by (first|lia|omega)
    rcases c with c | c <;> rw [c]
    ·exact ⟨0,by (first|lia|omega),by decide⟩
    ·exact ⟨r7.toNat,by (first|lia|omega),by (first|lia|omega)⟩
   have D68:=D7.trans D8
   refine ⟨_,_,rfl,rfl,divB (by decide) (by decide),_,_,rfl,rfl,.inl ⟨by (first|lia|omega),by (first|lia|omega)⟩,_,rfl,by rw [eN]; (first|lia|omega),by rw [eN]; (first|lia|omega),?_⟩
   rw [eN]
   refine kU (lo:=0) (n:=(N:Int).toNat) (fun j σ' H'=>∃ (v3:Option V) (v:V) (t:Tr),σ'=[some (.ref a),some (.ref st),some (.ref hl),v3,some (.int h.1),some (.ref l5),some (.int h.2),some v]/\Drawn4 K st w6 H8 H'/\Tr3 H' (4+j) v t/\FitT hs h.2 (4+j) t/\szT t=szT t0+j) ⟨v3,v,t0,rfl,D8.draw.refl,tv.tups (D68.tups D6.draw),ft,rfl⟩ ?_ ?_
   ·rintro j σ' H9 hj ⟨v3,v,t,rfl,D9,tv9,ft9,sz9⟩
    refine ⟨sm0,fun o ho=>⟨_,rfl,sm1,fun qa hqa=>⟨sm3,fun tt htt => ?_⟩⟩⟩
    have s1:=zE ho (.tup [])
    have s2:=zE hqa (.tup [v])
    have s3:=zE htt (.tup [.int 18,.ref o,.ref qa])
    have ss:=s1.trans (s2.trans s3)
    refine ⟨_,.ref tt,.mk 18 [] [t],rfl,D9.trans (D9.draw.more ss),⟨tt,o,qa,[v],rfl,zB,(s2.trans s3) _ _ zB,s3 _ _ zB,.cons (tv9.same ss) .nil⟩,?_,?_⟩
    ·show FitT hs h.2 (4+j+1) _
     unfold FitT
     refine ⟨by decide,by decide,.inr (.inr (.inr (.inr (.inr ⟨.inr (by decide),rfl⟩)))),rfl,fun v hv=>(by cases hv),?_⟩
     unfold FitTs
     exact ⟨ft9,by unfold FitTs; trivial⟩
    ·rw [szT,szTs,szTs,sz9]
     (first|lia|omega)
   ·rintro σ' H9 ⟨v3,v,t,rfl,D9,tv9,ft9,sz9⟩
    rw [Int.toNat_natCast] at tv9 ft9 sz9
    have D59:=D6.trans (D68.trans D9)
    have ez9:=D59.keep _ _ n5 ez
    refine ⟨_,rfl,.inl ⟨rfl,_,.of ez9⟩,_,rfl,_,rfl,_,rfl,sm3,fun tt htt => ?_⟩
    have s10:=zE htt (.tup [.int h.1,.int h.2,v])
    have ez10:=s10 _ _ ez9
    have lz:=Paired.len pz
    have lf:fs.length=i:=by
     have:=congrArg List.length ef
     rw [List.length_map,List.length_take] at this
     (first|lia|omega)
    have D10:=D59.trans (D9.draw.more s10)
    have tu:Tups (upd H9 tt (.tup [.int h.1,.int h.2,v])) (upd (upd H9 tt (.tup [.int h.1,.int h.2,v])) l5 (.lst (zs++[.ref tt]))):=Tups.upd ez10
    refine ⟨l5,zs,_,rfl,rfl,ez10,by have:=sizeLine_eq; (first|lia|omega),w6,_,_,_,_,zs++[.ref tt],fs++[(h,t)],rfl,⟨D10.draw.put ez10 n5,(D5.trans D10).keep.fresh hl5⟩,zB,?_,?_,?_,?_⟩
    ·refine Paired.snoc (Paired.imp (fun _ _ ⟨t,b,w1,w2,w3⟩=>⟨t,b,w1,tu _ _ (D10.tups D5.draw _ _ w2),(w3.tups (D10.tups D5.draw)).tups tu⟩) pz) ⟨tt,v,rfl,tu _ _ zB,((tr3_up tv9 (by (first|lia|omega))).same s10).tups tu⟩
    ·rw [List.map_append,ef,tk]
     rfl
    ·intro f hf
     rcases List.mem_append.mp hf with z | z
     ·exact ff f z
     ·rw [List.mem_singleton.mp z]; exact fitT_up ft9 (by (first|lia|omega))
    ·rw [szF_snoc]
     show szF fs+szT t+13 * w6.toNat<=7 * (i+1)+130
     (first|lia|omega)
  ·rintro σ' H5 ⟨w',v3,v4,v6,v7,zs,fs,rfl,D5,ez,pz,ef,ff,sf⟩
   rw [lr,List.take_length] at ef
   have sH:=keep_same D3.keep s0 hst
   exact ⟨_,rfl,q l5 zs fs H5 (keep_same (D3.trans D5).keep s0 hst) (sH.free hl5) ez pz (by rw [ef]; exact ⟨by (first|lia|omega),by (first|lia|omega),hh⟩) (by rw [ef]; exact ff) (by (first|lia|omega))⟩

end
section
variable {P:Program} {w:World} {K:PySem.W.Frag} {mg:Str->Option Value} {base:Heap} {f:Addr} {fd:FuncData} {aP CL CN CM:Addr}
set_option maxHeartbeats 4000000

mutual
theorem rl_sz:∀ t:Tr,GdT t->rl t+2<=3 * szT t
 | .mk k own ps,h=>by
  unfold GdT at h
  obtain ⟨_,_,h5,hp⟩ := h
  have ih:=rls_sz ps hp
  rw [szT,rl]
  split
  ·(first|lia|omega)
  ·split
   ·(first|lia|omega)
   ·split
    ·rename_i c; have:=h5 c; (first|lia|omega)
    ·(first|lia|omega)
theorem rls_sz:∀ ps:List Tr,GdTs ps->rls ps+2 * ps.length<=3 * szTs ps
 | [],_=>by unfold rls szTs; exact Nat.le_refl _
 | t :: r,h=>by
  rw [xJ] at h
  have h1:=rl_sz t h.1
  have h2:=rls_sz r h.2
  rw [yX,szTs,List.length_cons]
  (first|lia|omega)
end
theorem own_le {hs:Hds} {b k:Int} {own:List Int} (h:OwnFit hs b k own):own.length<=1:=by
 rcases h with ⟨_,n,rfl⟩ | ⟨_,n,rfl,_⟩ | ⟨_,n,rfl,_⟩ | ⟨_,n,rfl,_⟩ | ⟨_,n,rfl,_⟩ | ⟨_,rfl⟩ <;> simp
theorem numsL_sz {hs:Hds} {b:Int} {d:Nat} (ih:∀ t,FitT hs b d t->(nums t).length<=2 * szT t):∀ ts:List Tr,FitTs hs b d ts->(numsL ts).length<=2 * szTs ts
 | [],_=>by unfold szTs; exact Nat.zero_le _
 | a :: r,f=>by
  unfold FitTs at f
  have h1:=ih a f.1
  have h2:=numsL_sz ih r f.2
  show (nums a++numsL r).length<=_
  rw [List.length_append,szTs]
  (first|lia|omega)
theorem nums_sz {hs:Hds} {b:Int}:∀ (d:Nat) (t:Tr),FitT hs b d t->(nums t).length<=2 * szT t
 | 0,t,f=>by unfold FitT at f; exact f.elim
 | d+1,.mk k own ps,f=>by
  unfold FitT at f
  have h1:=own_le f.2.2.1
  have h2:=numsL_sz (nums_sz d) ps f.2.2.2.2.2
  show (k :: (own++numsL ps)).length<=_
  rw [List.length_cons,List.length_append,szT]
  (first|lia|omega)
mutual
theorem nd_sz:∀ nd:Nd,ndN nd=szT (bare nd)
 | .mk k p own ps=>by
  show ndN (.mk k p own ps)=szT (.mk k own (bareL ps))
  rw [ndN,szT,nds_sz ps]
theorem nds_sz:∀ ps:List Nd,ndS ps=szTs (bareL ps)
 | []=>by
  show ndS []=szTs []
  unfold ndS szTs
  rfl
 | t :: r=>by
  show ndS (t :: r)=szTs (bare t :: bareL r)
  rw [ndS,szTs,nd_sz t,nds_sz r]
end
theorem rlF_sz:∀ fs:List FnN,(∀ f∈fs,GdT (bare f.2))->rlF fs<=3 * szF (fs.map fun f=>(f.1,bare f.2))
 | [],_=>Nat.le_refl _
 | f :: r,h=>by
  have h1:=rl_sz _ (h f (List.mem_cons_self ..))
  have h2:=rlF_sz r (fun x hx=>h x (List.mem_cons_of_mem _ hx))
  show rl (bare f.2)+1+rlF r<=3 * (szT (bare f.2)+szF (r.map fun f=>(f.1,bare f.2)))
  (first|lia|omega)
theorem ndF_sz:∀ fs:List FnN,ndF fs=szF (fs.map fun f=>(f.1,bare f.2))
 | []=>rfl
 | f :: r=>by
  show ndN f.2+ndF r=szT (bare f.2)+szF (r.map fun f=>(f.1,bare f.2))
  rw [nd_sz,ndF_sz r]
theorem bodies_sz {hs:Hds}:∀ fs:List Fn,(∀ f∈fs,FitT hs f.1.2 10 f.2)->(bodiesW fs).length<=2 * szF fs
 | [],_=>Nat.le_refl _
 | f :: r,h=>by
  have h1:=nums_sz 10 _ (h f (List.mem_cons_self ..))
  have h2:=bodies_sz r (fun x hx=>h x (List.mem_cons_of_mem _ hx))
  show (nums f.2++bodiesW r).length<=2 * (szT f.2+szF r)
  rw [List.length_append]
  (first|lia|omega)
theorem zip_bare:∀ (hs:Hds) (nds:List Nd),(hs.zip nds).map (fun f=>(f.1,bare f.2))=hs.zip (bareL nds)
 | [],_=>rfl
 | _ :: _,[]=>rfl
 | h :: r,n :: s=>by
  show (h,bare n) :: (r.zip s).map (fun f=>(f.1,bare f.2))=(h,bare n) :: r.zip (bareL s)
  rw [zip_bare r s]
theorem szF_mem:∀ {fs:List Fn} {f:Fn},f∈fs->szT f.2<=szF fs
 | a :: r,f,h=>by
  show _<=szT a.2+szF r
  rcases List.mem_cons.mp h with z | z
  ·rw [z]; (first|lia|omega)
  ·have:=szF_mem z
   (first|lia|omega)
theorem drawn_makes {fs:List Fn} (g:HdsGood (fs.map (·.1))) (h:∀ f∈fs,FitT (fs.map (·.1)) f.1.2 10 f.2) (z:szF fs<=151):∃ fn:List FnN,Makes (wr fs) fn/\fn.map (fun f=>(f.1,bare f.2))=fs/\lnF 0 fn=lnFT (1+2 * fs.length) 0 fs/\rlF fn<=900:=by
 obtain ⟨nds,e,ef⟩ := fns_wr g h
 have ln:=(fns_ok e).2.2
 have pl:=(sheet_shape e).2.2.2.2
 have ef:(fs.map (·.1)).zip (bareL nds)=fs:=ef
 have eb:=zip_bare (fs.map (·.1)) nds
 rw [ef] at eb
 have fit:∀ f∈(fs.map (·.1)).zip nds,FitT (fs.map (·.1)) f.1.2 10 (bare f.2):=fun f hf=>h (f.1,bare f.2) (by rw [<- eb]; exact List.mem_map_of_mem hf)
 have z1:=rlF_sz _ (fun f hf=>xY _ _ (fit f hf))
 have z2:=ndF_sz ((fs.map (·.1)).zip nds)
 rw [eb] at z1 z2
 refine ⟨(fs.map (·.1)).zip nds,⟨_,e,rfl,List.map_fst_zip (Nat.le_of_eq ln.symm),g,fit,by (first|lia|omega),by (first|lia|omega)⟩,eb,?_,by (first|lia|omega)⟩
 have:=lnF_eq ((fs.map (·.1)).zip nds) (1+2 * (fs.map (·.1)).length) 0 (by rw [List.map_snd_zip (Nat.le_of_eq ln)]; exact pl)
 rw [this,eb,List.length_map]
theorem tri_eq {K:PySem.W.Frag} {H:Hp}:∀ {as bs:List Addr} {ls:List Ln},Paired (Tri3 H) as ls->Paired (Tri3 H) bs ls->Paired (EqD K H 1) (as.map V.ref) (bs.map V.ref)
 | _,_,_,.nil,.nil => .nil
 | _,_,_,.cons a1 r1,.cons a2 r2 => .cons (.inr ⟨_,_,_,_,rfl,rfl,.inr ⟨.of a1,.of a2⟩,EqD.ints [_,_,_]⟩) (tri_eq r1 r2)
theorem ok_lawW (T:TxtL K mg) (F:Fun K "law" "law" s_law f fd) (C_law_functions:Cal P w K mg base (CXE P w) 8 "_law_functions" ["_law_script"] (spFunsL K)) (C_law_sheet:Cal P w K mg base (CXE P w) 12 "_law_sheet" ["_law_told"] (spSheetL 10)) (C_law_code:Cal P w K mg base (CXE P w) 14 "_law_code" ["_law_told"] (spCodeL 10)) (C_law_paper:Cal P w K mg base (CXE P w) 13 "_law_paper" ["_law_told"] (spPaperL 10)) (C_law_wholes:Cal P w K mg base (CXE P w) 1 "_law_wholes" ["_law_some"] (spWholesL K)) (Cmade:Cal P w K mg base (CXE P w) 23 "made" ["sheet"] spMade) (Cmade_paper:Cal P w K mg base (CXE P w) 23 "made_paper" ["sheet"] spMadePaper):FnOk P w K mg base (CXE P w) 24 f fd ["_law_script"] (spLaw K):=by
 refine F.okN qT (fun vs H Q E h => ?_) (fun cdv A outer s H vs Q E hr h => ?_)
 ·obtain ⟨a,ns,rfl,_⟩ := h
  rfl
 obtain ⟨a,ns,rfl,hs0,hl0,q⟩ := h
 refine ⟨_,(zD (zJ (i:=1) qT.nd rfl (Or.inl rfl) (zH C_law_functions hr rfl (zA (pv 0) zC) passN))
   (zD (zJ (i:=2) qT.nd rfl (Or.inl rfl) (zH C_law_sheet hr rfl (zA (pv 1) zC) passN))
   (zD (zJ (i:=3) qT.nd rfl (Or.inl rfl) (xO call_list_of rfl T.n_list wW (zA (pv 2) zC)))
   (zD (zJ (i:=4) qT.nd rfl (Or.inl rfl) (zH C_law_code hr rfl (zA (pv 1) zC) passN))
   (zD (zJ (i:=5) qT.nd rfl (Or.inl rfl) (zH C_law_paper hr rfl (zA (pv 1) zC) passN))
   (zD (yY PassesOwn.never rfl (jZ rfl T.n_range (zA zF zC)) (zL (i:=6) qT.nd rfl (Or.inl rfl)) (zD (zJ (i:=7) qT.nd rfl (Or.inl rfl) (zH Cmade hr rfl (zA (pv 3) zC) passN))
   (zD (zW (PW.pt (kM (qB (qA (zR kJ rfl T.n_isinstance yM (zA (pv 7) (zA (xW (v:=.ty "list") rfl T.n_list wW rfl) zC))))) (kM (zN (op_neD hr) (pv 7) (pv 4) (nomark _)) (jS (qB (qA (zH C_law_wholes hr rfl (zA (pv 7) zC) passN))))))) (zG (zS pe_bl)) zT)
   (zD (zJ (i:=8) qT.nd rfl (Or.inl rfl) (zH Cmade_paper hr rfl (zA (pv 3) zC) passN))
   (zD (zW (PW.pt (kM (qB (qA (zR kJ rfl T.n_isinstance yM (zA (pv 8) (zA (xW (v:=.ty "list") rfl T.n_list wW rfl) zC))))) (kM (zN (op_neD hr) (pv 8) (pv 5) (nomark _)) (jS (zN (op_neD hr) (pv 3) (pv 2) (nomark _)))))) (zG (zS pe_bl)) zT)
   (zD (yY PassesOwn.never rfl (xL (pv 8)) (zL (i:=9) qT.nd rfl (Or.inl rfl)) (zG (zW (PW.pt (kM (qB (qA (zR kJ rfl T.n_isinstance yM (zA (pv 9) (zA (xW (v:=.ty "tuple") rfl T.n_tuple wF rfl) zC))))) (jS (qB (qA (zH C_law_wholes hr rfl (zA (pv 9) zC) passN)))))) (zG (zS pe_bl)) zT)))
   (zD (yB (jD PySem.F.plainAttrs_list PySem.F.slot_list_append PySem.F.type_list_append yD (pv 7) (zA zF zC)))
   (zG (yB (pe_bm0 PySem.F.plainAttrs_list PySem.F.slot_list_clear PySem.F.type_list_clear mt_clear (pv 8)))))))))))
   (zG (zS pe_bl)))))))),?_⟩
 try dsimp only [Cx.nox,Cx.exc,Cx.wish,zX]
 refine ⟨_,rfl,a,ns,rfl,hs0,hl0,fun l rs fs H1 s1 hl el pf hg hf hz => ?_⟩
 obtain ⟨fn,mk,eN,eln,z9⟩ := drawn_makes hg hf hz
 have lb:=bodies_sz fs hf
 have lw:=wr_len fs
 have n16:=hg.hi
 rw [List.length_map] at n16
 have lfn:fn.length=fs.length:=by rw [<- eN,List.length_map]
 have sl:sizeLine=16777216:=sizeLine_eq
 have lc:(codeL (hdF 0 fn) (mkF 0 fn)).length<=100000:=by
  obtain ⟨r,_,_,em,hg',ft,_,_⟩ := id mk
  have b12:∀ f∈fn,FitT r.1 f.1.2 10 (bare f.2)/\f.1.2<=12:=fun f hf=>⟨ft f hf,by
   obtain ⟨i,ei⟩ := List.getElem?_of_mem hf
   have:=hg'.all i f.1 (by rw [<- em,List.getElem?_map,ei]; rfl)
   (first|lia|omega)⟩
  unfold codeL
  rw [List.length_cons,List.length_append,hdF_flat,flat_len2 _ (mkF_two fn 0 b12),mkF_len fn 0 (fun f hf=>xY _ _ (ft f hf))]
  (first|lia|omega)
 refine ⟨_,rfl,l,rs,fs,rfl,el,pf,by (first|lia|omega),fun l2 H2 s2 hl2 e2 => ?_⟩
 refine ⟨_,rfl,l2,_,rfl,.inl (.of e2),fun l3 hl3 => ?_⟩
 have s3:=zE hl3 (.lst ((wr fs).map V.int))
 have g3:=s2.trans s3
 refine ⟨_,rfl,l,rs,fn,fs.map (·.1),10,rfl,g3 _ _ el,?_,?_,by (first|lia|omega),z9,fun l4 H4 s4 hl4 e4 => ?_⟩
 ·rw [eN]
  exact Paired.imp (fun _ _ z=>z.same g3) pf
 ·intro f hf'
  have m:(f.1,bare f.2)∈fs:=by rw [<- eN]; exact List.mem_map_of_mem hf'
  have f10:=hf _ m
  obtain ⟨i,ei⟩ := List.getElem?_of_mem m
  have hb:=hg.all i f.1 (by rw [List.getElem?_map,ei]; rfl)
  have n1:(nums (bare f.2)).length<=2 * szT (bare f.2):=nums_sz 10 _ f10
  have n2:=szF_mem m
  exact ⟨f10,hb.2.2.2.1,by show (nums (bare f.2)).length<=_; have:szT (bare f.2)<=szF fs:=n2; (first|lia|omega)⟩
 refine ⟨_,rfl,l,rs,fs,fs.map (·.1),10,rfl,(g3.trans s4) _ _ el,Paired.imp (fun _ _ z=>z.same (g3.trans s4)) pf,hf,by (first|lia|omega),fun l5 H5 s5 hl5 L5 => ?_⟩
 have g5:=s3.trans (s4.trans s5)
 have e25:=g5 _ _ e2
 have e35:H5 l3=some (.lst ((wr fs).map V.int)):=(s4.trans s5) _ _ zB
 have e45:=s5 _ _ e4
 refine ⟨_,rfl,by decide,by decide,kU (lo:=0) (n:=2) (fun i σ' H'=>∃ v6 v7 v8 v9,σ'=[some (.ref a),some (.ref l),some (.ref l2),some (.ref l3),some (.ref l4),some (.ref l5),v6,v7,v8,v9]/\Same H5 H') ⟨_,_,_,_,rfl,Same.refl _⟩ ?_ ?_⟩
 ·rintro i σ' H6 hi ⟨v6,v7,v8,v9,rfl,s6⟩
  refine ⟨_,rfl,l3,wr fs,fn,rfl,s6 _ _ e35,mk,fun l7 H7 s7 hl7 e7 => ?_⟩
  refine ⟨_,rfl,.inl ⟨_,_,_,true,rfl,.lst e7,T.klist,_,rfl,iteF ?_⟩⟩
  refine ⟨_,rfl,_,rfl,l7,l4,_,_,0,rfl,rfl,.inl ⟨.of e7,.of ((s6.trans s7) _ _ e45)⟩,EqD.ints _,by decide,_,rfl,iteF ?_⟩
  refine ⟨_,rfl,l7,_,rfl,.inl (.of e7),by (first|lia|omega),fun H8 s8=>⟨_,rfl,iteF ?_⟩⟩
  have s68:=s6.trans (s7.trans s8)
  refine ⟨_,rfl,l3,wr fs,fn,rfl,s68 _ _ e35,mk,fun l9 as H9 s9 hl9 e9 p9 => ?_⟩
  refine ⟨_,rfl,.inl ⟨_,_,_,true,rfl,.lst e9,T.klist,_,rfl,iteF ?_⟩⟩
  obtain ⟨bs,eb,pb⟩ := L5.same (s68.trans s9)
  rw [eln] at p9
  have s69:=s68.trans s9
  refine ⟨_,rfl,_,rfl,l9,l5,_,_,1,rfl,rfl,.inl ⟨.of e9,.of eb⟩,tri_eq p9 pb,by decide,_,rfl,iteF ?_⟩
  refine ⟨_,rfl,_,rfl,l3,l2,_,_,0,rfl,rfl,.inl ⟨.of (s69 _ _ e35),.of (s69 _ _ e25)⟩,EqD.ints _,by decide,_,rfl,iteF ?_⟩
  refine ⟨_,rfl,l9,rfl,⟨_,.of e9⟩,xT (xs:=as.map V.ref) (fun j σ' H'=>∃ v9,σ'=[some (.ref a),some (.ref l),some (.ref l2),some (.ref l3),some (.ref l4),some (.ref l5),some (.int (0+(i:Int))),some (.ref l7),some (.ref l9),v9]/\Same H9 H') ⟨_,rfl,Same.refl _⟩ (fun j σ' H' _ ⟨_,_,z⟩ => .of (z _ _ e9)) ?_ ?_⟩
  ·rintro j x σ' H10 hx ⟨v9,rfl,s10⟩
   rw [List.getElem?_map] at hx
   obtain ⟨t,ht,rfl⟩ := Option.map_eq_some_iff.mp hx
   obtain ⟨ln,_,et⟩ := Paired.yonder p9 ht
   have et:=s10 _ _ et
   refine ⟨_,rfl,.inl ⟨_,_,_,true,rfl,.tup et,T.ktup,_,rfl,iteF ?_⟩⟩
   exact ⟨_,rfl,t,[ln.1,ln.2.1,ln.2.2],rfl,.inr (.of et),(show 3<=100000 by decide),fun H11 s11=>⟨_,rfl,iteF ⟨_,rfl,s10.trans s11⟩⟩⟩
  ·rintro σ' H10 ⟨v9,rfl,s10⟩
   have e70:=(s8.trans (s9.trans s10)) _ _ e7
   have e90:=s10 _ _ e9
   have n79:l9≠l7:=fun z=>by rw [z,s8 _ _ e7] at hl9; cases hl9
   refine ⟨_,rfl,.inl ⟨rfl,_,.of e70⟩,l7,_,_,rfl,rfl,e70,by rw [List.length_map]; (first|lia|omega),?_⟩
   have e91:upd H10 l7 (.lst ((codeL (hdF 0 fn) (mkF 0 fn)).map V.int++[.int 0])) l9=some (.lst (as.map V.ref)):=by rw [zK n79]; exact e90
   refine ⟨_,rfl,.inl ⟨rfl,_,.of e91⟩,l9,_,rfl,rfl,e91,_,_,_,_,rfl,?_⟩
   exact ((s69.trans s10).fresh (s6.free hl7)).fresh (s68.free hl9)
 ·rintro σ' H6 _
  exact q H6

end
set_option maxHeartbeats 4000000


open PySem.W in
theorem all_mk {l:OpenLaw} {w:World} {K:Frag} {h:Heap} {mg:Str->Option Value} {fa f0 f1 f2 f3 f4 f5 f6 f7 f8 f9 f10 f11 f12 f13 f14 f15 f16 f17 f18 f19 f20 f21 f22 f23 f24 f25 f26 f27 f28 f29 f30 f31 f32 f33 f34 f35 f36 f37 f38 f39 f40 f41 f42 f43 f44 f45:Addr} {nmN qN nmC qC:Str} {NN cChain nsC:Addr} {bsN subN bsC mroC subC:List Value} {snN snC:List Str} {abN hdC abC delC:Bool} {colN colC:Option Bool} {ddN ddC ddD:Option Addr} {k0N k1N k2N k3N k5N:Option Value} {ccC ccD:Value} {slC slD:Array (Option Value)} {esD:Array DictEntry} {nD:Nat} {cNoSheet cLook aP:Addr} {tNUMBER tGET tSET tALL tPICK tLOOP tCALL tFAIL tNEW tMOST_FUNCTIONS tMOST_PARAMS tMOST_BOXES tMOST_DEEP tMOST_MANY tLEAST_ALL tLEAST_PICK:Tok} {tPARTS0 tPARTS1 tPARTS2 tPARTS3 tPARTS4 tPARTS5 tPARTS6 tPARTS7 tPARTS8 tPARTS9 tPARTS10 tPARTS11 tPARTS12:Tok} {nPARTS:Nat} {sPARTS:Array (Option Value)} {cMaking:Addr} {tADD tOP_PUSH tOP_GET tOP_SET tOP_DROP tOP_JUMP tOP_UNLESS tOP_CALL tOP_BACK tOP_FAIL tOP_BREATH tOP_DO tOP_PICK tHEAD_SIZE tROW_SIZE:Tok}  (X:K.In h) (G:h.Ns mainGlobals mg) (hfa:mg "law" = some (.ref fa))
  (c_NoSheet:nsIn K mainGlobals "NoSheet" = some (some (.ref cNoSheet)))
  (c_Look:nsIn K mainGlobals "Look" = some (some (.ref cLook)))
  (c_Making:nsIn K mainGlobals "Making" = some (some (.ref cMaking)))
  (d0:Dm K cNoSheet "__init__" "NoSheet.__init__" jI f0)
  (d1:Dm K cLook "__init__" "Look.__init__" kK f1)
  (d2:Dm K cLook "take" "Look.take" s_Look_take f2)
  (d3:Dm K cLook "take_within" "Look.take_within" jJ f3)
  (d4:Dg K "is_whole" "is_whole" "is_whole" wL f4)
  (d5:Dg K "take_heads" "take_heads" "take_heads" wI f5)
  (d6:Dg K "take_own" "take_own" "take_own" s_take_own f6)
  (d7:Dg K "parts_of" "parts_of" "parts_of" s_parts_of f7)
  (d8:Dg K "parts_due" "parts_due" "parts_due" s_parts_due f8)
  (d9:Dg K "take_node" "take_node" "take_node" qH f9)
  (d10:Dg K "functions" "functions" "functions" s_functions f10)
  (d11:Dg K "is_head" "is_head" "is_head" s_is_head f11)
  (d12:Dg K "stands_alone" "stands_alone" "stands_alone" kZ f12)
  (d13:Dg K "is_row" "is_row" "is_row" s_is_row f13)
  (d14:Dg K "grouped" "grouped" "grouped" s_grouped f14)
  (d15:Dg K "heads_in" "heads_in" "heads_in" s_heads_in f15)
  (d16:Dg K "rows_in" "rows_in" "rows_in" s_rows_in f16)
  (d17:Dg K "is_list_of_wholes" "is_list_of_wholes" "is_list_of_wholes" xK f17)
  (d18:Dg K "is_code" "is_code" "is_code" s_is_code f18)
  (d19:Dg K "joined" "joined" "joined" s_joined f19)
  (d20:Dg K "code_of" "code_of" "code_of" s_code_of f20)
  (d21:Dm K cMaking "__init__" "Making.__init__" jR f21)
  (d22:Dg K "make_all" "make_all" "make_all" wJ f22)
  (d23:Dg K "make_pick" "make_pick" "make_pick" qI f23)
  (d24:Dg K "make_loop" "make_loop" "make_loop" qK f24)
  (d25:Dg K "own_row" "own_row" "own_row" s_own_row f25)
  (d26:Dg K "make_node" "make_node" "make_node" qJ f26)
  (d27:Dg K "making_of" "making_of" "making_of" s_making_of f27)
  (d28:Dg K "made" "made" "made" s_made f28)
  (d29:Dg K "made_paper" "made_paper" "made_paper" wK f29)
  (d30:Dg K "_law_cell" "_law_cell" "_law_cell" s__law_cell f30)
  (d31:Dg K "_law_take" "_law_take" "_law_take" s__law_take f31)
  (d32:Dg K "_law_number" "_law_number" "_law_number" qU f32)
  (d33:Dg K "_law_node" "_law_node" "_law_node" kF f33)
  (d34:Dg K "_law_functions" "_law_functions" "_law_functions" jX f34)
  (d35:Dg K "_law_written" "_law_written" "_law_written" jQ f35)
  (d36:Dg K "_law_sheet" "_law_sheet" "_law_sheet" wM f36)
  (d37:Dg K "_law_moved" "_law_moved" "_law_moved" kN f37)
  (d38:Dg K "_law_joined" "_law_joined" "_law_joined" qV f38)
  (d39:Dg K "_law_rows" "_law_rows" "_law_rows" jK f39)
  (d40:Dg K "_law_code" "_law_code" "_law_code" qL f40)
  (d41:Dg K "_law_size" "_law_size" "_law_size" kE f41)
  (d42:Dg K "_law_lines" "_law_lines" "_law_lines" kO f42)
  (d43:Dg K "_law_paper" "_law_paper" "_law_paper" wN f43)
  (d44:Dg K "_law_wholes" "_law_wholes" "_law_wholes" kC f44)
  (d45:Dg K "law" "law" "law" s_law f45)
  (z_len:nsIn K mainGlobals "len" = some none)
  (z_abs:nsIn K mainGlobals "abs" = some none)
  (z_range:nsIn K mainGlobals "range" = some none)
  (z_isinstance:nsIn K mainGlobals "isinstance" = some none)
  (z_int:nsIn K mainGlobals "int" = some none)
  (z_bool:nsIn K mainGlobals "bool" = some none)
  (z_list:nsIn K mainGlobals "list" = some none)
  (z_tuple:nsIn K mainGlobals "tuple" = some none)
  (i_NUMBER:nsIn K mainGlobals "NUMBER" = some (some (.int 0 tNUMBER)))
  (i_GET:nsIn K mainGlobals "GET" = some (some (.int 1 tGET)))
  (i_SET:nsIn K mainGlobals "SET" = some (some (.int 2 tSET)))
  (i_ALL:nsIn K mainGlobals "ALL" = some (some (.int 3 tALL)))
  (i_PICK:nsIn K mainGlobals "PICK" = some (some (.int 4 tPICK)))
  (i_LOOP:nsIn K mainGlobals "LOOP" = some (some (.int 5 tLOOP)))
  (i_CALL:nsIn K mainGlobals "CALL" = some (some (.int 6 tCALL)))
  (i_FAIL:nsIn K mainGlobals "FAIL" = some (some (.int 7 tFAIL)))
  (i_NEW:nsIn K mainGlobals "NEW" = some (some (.int 19 tNEW)))
  (i_MOST_FUNCTIONS:nsIn K mainGlobals "MOST_FUNCTIONS" = some (some (.int 16 tMOST_FUNCTIONS)))
  (i_MOST_PARAMS:nsIn K mainGlobals "MOST_PARAMS" = some (some (.int 4 tMOST_PARAMS)))
  (i_MOST_BOXES:nsIn K mainGlobals "MOST_BOXES" = some (some (.int 12 tMOST_BOXES)))
  (i_MOST_DEEP:nsIn K mainGlobals "MOST_DEEP" = some (some (.int 10 tMOST_DEEP)))
  (i_MOST_MANY:nsIn K mainGlobals "MOST_MANY" = some (some (.int 12 tMOST_MANY)))
  (i_LEAST_ALL:nsIn K mainGlobals "LEAST_ALL" = some (some (.int 1 tLEAST_ALL)))
  (i_LEAST_PICK:nsIn K mainGlobals "LEAST_PICK" = some (some (.int 2 tLEAST_PICK)))
  (g_PARTS:nsIn K mainGlobals "PARTS" = some (some (.ref aP)))
  (o_PARTS:K.lookup aP=some ⟨.type "tuple",none,.seq #[.int 1 tPARTS0,.int 2 tPARTS1,.int 2 tPARTS2,.int 2 tPARTS3,.int 2 tPARTS4,.int 2 tPARTS5,.int 2 tPARTS6,.int 2 tPARTS7,.int 2 tPARTS8,.int 2 tPARTS9,.int 3 tPARTS10,.int 1 tPARTS11,.int 0 tPARTS12] nPARTS,sPARTS⟩)
  (u_bool:subIn K (.type "int") (.type "bool")=some false)
  (fn_NoSheet___init__:isFn K (.ref f0)=true)
  (fn_Look___init__:isFn K (.ref f1)=true)
  (fn_Look_take:isFn K (.ref f2)=true)
  (fn_Look_take_within:isFn K (.ref f3)=true)
  (fn_Making___init__:isFn K (.ref f21)=true)
  (makes:makesIn K cLook=true)
  (lkp:keepIn K (.ref cLook)=true)
  (pg:plainGet K cLook Str.empty=true)
  (hd:hasDictIn K cLook=true)
  (po:plainOver K cLook=true)
  (sa:findIn K (.ref cLook) "__setattr__" = some (some (.builtin "object.__setattr__")))
  (lnum:findIn K (.ref cLook) "numbers" = some none)
  (lpl:findIn K (.ref cLook) "place" = some none)
  (xN:K.lookup cNoSheet=some (excClassObj nmN qN cNoSheet NN bsN (.ref cChain :: bmValue) true snN subN abN colN ddN k0N k1N k2N k3N k5N "ValueError.__new__"))
  (xC:K.lookup cChain=some ⟨ccC,ddC,.cls ⟨nmC,bsC,mroC,nsC,qC,hdC,snC,subC,abC,colC,delC⟩,slC⟩)
  (xD:K.lookup nsC=some ⟨ccD,ddD,.dict esD nD,slD⟩)
  (xF:nsIn K nsC "__init__" = some none)
  (xkp:keepIn K (.ref cNoSheet)=true)
  (xty:typeIn K (.ref f0)=some (.type "function"))
  (xobj:mroIn K cNoSheet (.type "object")=some true)
  (xbase:mroIn K cNoSheet (.type "BaseException")=some true)
  (xsa:findIn K (.ref cNoSheet) "__setattr__" = some (some (.builtin "object.__setattr__")))
  (xga:findIn K (.ref cNoSheet) "__getattribute__" = some (some (.builtin "BaseException.__getattribute__")))
  (xnh:findIn K (.ref cNoSheet) "__getattr__" = some none)
  (xpl:findIn K (.ref cNoSheet) "place" = some none)
  (xwd:findIn K (.ref cNoSheet) "word" = some none)
  (xm1:subIn K (.ref cNoSheet) (.ref cNoSheet)=some true)
  (xm2:typeIn K (.ref cNoSheet)=some (.type "type"))
  (xm3:isClsIn K cNoSheet=true)
  (xm4:subIn K (.ref cNoSheet) (.type "BaseException")=some true)
  (xE:(esD.toList.all fun e=>match e.key with | .str _ _=>true | _=>false)=true)
  (z_all:nsIn K mainGlobals "all" = some none)
  (z_max:nsIn K mainGlobals "max" = some none)
  (z_enumerate:nsIn K mainGlobals "enumerate" = some none)
  (z_sorted:nsIn K mainGlobals "sorted" = some none)
  (z_sum:nsIn K mainGlobals "sum" = some none)
  (i_ADD:nsIn K mainGlobals "ADD" = some (some (.int 8 tADD)))
  (i_OP_PUSH:nsIn K mainGlobals "OP_PUSH" = some (some (.int 0 tOP_PUSH)))
  (i_OP_GET:nsIn K mainGlobals "OP_GET" = some (some (.int 1 tOP_GET)))
  (i_OP_SET:nsIn K mainGlobals "OP_SET" = some (some (.int 2 tOP_SET)))
  (i_OP_DROP:nsIn K mainGlobals "OP_DROP" = some (some (.int 3 tOP_DROP)))
  (i_OP_JUMP:nsIn K mainGlobals "OP_JUMP" = some (some (.int 4 tOP_JUMP)))
  (i_OP_UNLESS:nsIn K mainGlobals "OP_UNLESS" = some (some (.int 5 tOP_UNLESS)))
  (i_OP_CALL:nsIn K mainGlobals "OP_CALL" = some (some (.int 6 tOP_CALL)))
  (i_OP_BACK:nsIn K mainGlobals "OP_BACK" = some (some (.int 7 tOP_BACK)))
  (i_OP_FAIL:nsIn K mainGlobals "OP_FAIL" = some (some (.int 8 tOP_FAIL)))
  (i_OP_BREATH:nsIn K mainGlobals "OP_BREATH" = some (some (.int 9 tOP_BREATH)))
  (i_OP_DO:nsIn K mainGlobals "OP_DO" = some (some (.int 10 tOP_DO)))
  (i_OP_PICK:nsIn K mainGlobals "OP_PICK" = some (some (.int 11 tOP_PICK)))
  (i_HEAD_SIZE:nsIn K mainGlobals "HEAD_SIZE" = some (some (.int 3 tHEAD_SIZE)))
  (i_ROW_SIZE:nsIn K mainGlobals "ROW_SIZE" = some (some (.int 2 tROW_SIZE)))
  (u_tl:subIn K (.type "tuple") (.type "list")=some false)
  (Making_makes:makesIn K cMaking=true)
  (Making_kp:keepIn K (.ref cMaking)=true)
  (Making_pg:plainGet K cMaking Str.empty=true)
  (Making_hd:hasDictIn K cMaking=true)
  (Making_po:plainOver K cMaking=true)
  (Making_sa:findIn K (.ref cMaking) "__setattr__" = some (some (.builtin "object.__setattr__")))
  (Making_heads:findIn K (.ref cMaking) "heads" = some none)
  (Making_rows:findIn K (.ref cMaking) "rows" = some none)
  (Making_paper:findIn K (.ref cMaking) "paper" = some none)
  : ∃ fd:FuncData,(∀ (s:Shared) (v:Value),BindsTo s fd ⟨[v],[]⟩ [("_law_script",v)])/\∀ base:Heap,K.In base->base.Ns mainGlobals mg->FnOk l.prog w K mg base (CXE l.prog w) 24 fa fd ["_law_script"] (spLaw K):=by
 obtain ⟨a0,_,F0⟩ := d0
 have b0:=F0.b3 "self" "place" "word" fun _ _ _ _ _ _ _ _ _=>rfl
 obtain ⟨a1,_,F1⟩ := d1
 have b1:=F1.b2 "self" "numbers" fun _ _ _ _ _ _ _ _=>rfl
 obtain ⟨a2,_,F2⟩ := d2
 have b2:=F2.b1 "self" fun _ _ _ _ _ _ _=>rfl
 have k2:=F2.kp
 obtain ⟨a3,_,F3⟩ := d3
 have b3:=F3.b3 "self" "least" "most" fun _ _ _ _ _ _ _ _ _=>rfl
 have k3:=F3.kp
 obtain ⟨a4,_,F4⟩ := d4
 have b4:=F4.b1 "thing" fun _ _ _ _ _ _ _=>rfl
 have m4:=mg_of X G a4
 have k4:=F4.kp
 obtain ⟨a5,_,F5⟩ := d5
 have b5:=F5.b1 "look" fun _ _ _ _ _ _ _=>rfl
 obtain ⟨a6,_,F6⟩ := d6
 have b6:=F6.b4 "look" "kind" "heads" "boxes" fun _ _ _ _ _ _ _ _ _ _=>rfl
 obtain ⟨a7,_,F7⟩ := d7
 have b7:=F7.b1 "kind" fun _ _ _ _ _ _ _=>rfl
 obtain ⟨a8,_,F8⟩ := d8
 have b8:=F8.b3 "kind" "numbers" "heads" fun _ _ _ _ _ _ _ _ _=>rfl
 obtain ⟨a9,_,F9⟩ := d9
 have b9:=F9.b4 "look" "heads" "boxes" "deep" fun _ _ _ _ _ _ _ _ _ _=>rfl
 have m9:=mg_of X G a9
 have k9:=F9.kp
 obtain ⟨a10,_,F10⟩ := d10
 have b10:=F10.b1 "sheet" fun _ _ _ _ _ _ _=>rfl
 obtain ⟨a11,_,F11⟩ := d11
 have b11:=F11.b3 "head" "function" "many_rows" fun _ _ _ _ _ _ _ _ _=>rfl
 obtain ⟨a12,_,F12⟩ := d12
 have b12:=F12.b1 "op" fun _ _ _ _ _ _ _=>rfl
 obtain ⟨a13,_,F13⟩ := d13
 have b13:=F13.b3 "row" "many_functions" "many_rows" fun _ _ _ _ _ _ _ _ _=>rfl
 obtain ⟨a14,_,F14⟩ := d14
 have b14:=F14.b2 "numbers" "size" fun _ _ _ _ _ _ _ _=>rfl
 obtain ⟨a15,_,F15⟩ := d15
 have b15:=F15.b1 "numbers" fun _ _ _ _ _ _ _=>rfl
 obtain ⟨a16,_,F16⟩ := d16
 have b16:=F16.b1 "numbers" fun _ _ _ _ _ _ _=>rfl
 obtain ⟨a17,_,F17⟩ := d17
 have b17:=F17.b1 "thing" fun _ _ _ _ _ _ _=>rfl
 obtain ⟨a18,_,F18⟩ := d18
 have b18:=F18.b1 "thing" fun _ _ _ _ _ _ _=>rfl
 obtain ⟨a19,_,F19⟩ := d19
 have b19:=F19.b2 "things" "size" fun _ _ _ _ _ _ _ _=>rfl
 obtain ⟨a20,_,F20⟩ := d20
 have b20:=F20.b2 "heads" "rows" fun _ _ _ _ _ _ _ _=>rfl
 obtain ⟨a21,_,F21⟩ := d21
 have b21:=F21.b1 "self" fun _ _ _ _ _ _ _=>rfl
 obtain ⟨a22,_,F22⟩ := d22
 have b22:=F22.b2 "making" "parts" fun _ _ _ _ _ _ _ _=>rfl
 have m22:=mg_of X G a22
 have k22:=F22.kp
 obtain ⟨a23,_,F23⟩ := d23
 have b23:=F23.b2 "making" "parts" fun _ _ _ _ _ _ _ _=>rfl
 have m23:=mg_of X G a23
 have k23:=F23.kp
 obtain ⟨a24,_,F24⟩ := d24
 have b24:=F24.b2 "making" "parts" fun _ _ _ _ _ _ _ _=>rfl
 have m24:=mg_of X G a24
 have k24:=F24.kp
 obtain ⟨a25,_,F25⟩ := d25
 have b25:=F25.b2 "kind" "numbers" fun _ _ _ _ _ _ _ _=>rfl
 obtain ⟨a26,_,F26⟩ := d26
 have b26:=F26.b2 "making" "node" fun _ _ _ _ _ _ _ _=>rfl
 have m26:=mg_of X G a26
 have k26:=F26.kp
 obtain ⟨a27,_,F27⟩ := d27
 have b27:=F27.b1 "program" fun _ _ _ _ _ _ _=>rfl
 have m27:=mg_of X G a27
 have k27:=F27.kp
 obtain ⟨a28,_,F28⟩ := d28
 have b28:=F28.b1 "sheet" fun _ _ _ _ _ _ _=>rfl
 obtain ⟨a29,_,F29⟩ := d29
 have b29:=F29.b1 "sheet" fun _ _ _ _ _ _ _=>rfl
 obtain ⟨a30,_,F30⟩ := d30
 have b30:=F30.b2 "_law_script" "_law_k" fun _ _ _ _ _ _ _ _=>rfl
 obtain ⟨a31,_,F31⟩ := d31
 have b31:=F31.b2 "_law_state" "_law_most" fun _ _ _ _ _ _ _ _=>rfl
 obtain ⟨a32,_,F32⟩ := d32
 have b32:=F32.b1 "_law_state" fun _ _ _ _ _ _ _=>rfl
 obtain ⟨a33,_,F33⟩ := d33
 have b33:=F33.b4 "_law_state" "_law_heads" "_law_boxes" "_law_deep" fun _ _ _ _ _ _ _ _ _ _=>rfl
 have m33:=mg_of X G a33
 have k33:=F33.kp
 obtain ⟨a34,_,F34⟩ := d34
 have b34:=F34.b1 "_law_script" fun _ _ _ _ _ _ _=>rfl
 obtain ⟨a35,_,F35⟩ := d35
 have b35:=F35.b1 "_law_node_here" fun _ _ _ _ _ _ _=>rfl
 have m35:=mg_of X G a35
 have k35:=F35.kp
 obtain ⟨a36,_,F36⟩ := d36
 have b36:=F36.b1 "_law_told" fun _ _ _ _ _ _ _=>rfl
 obtain ⟨a37,_,F37⟩ := d37
 have b37:=F37.b2 "_law_rows_here" "_law_by" fun _ _ _ _ _ _ _ _=>rfl
 obtain ⟨a38,_,F38⟩ := d38
 have b38:=F38.b1 "_law_pieces" fun _ _ _ _ _ _ _=>rfl
 obtain ⟨a39,_,F39⟩ := d39
 have b39:=F39.b1 "_law_node_here" fun _ _ _ _ _ _ _=>rfl
 have m39:=mg_of X G a39
 have k39:=F39.kp
 obtain ⟨a40,_,F40⟩ := d40
 have b40:=F40.b1 "_law_told" fun _ _ _ _ _ _ _=>rfl
 obtain ⟨a41,_,F41⟩ := d41
 have b41:=F41.b1 "_law_node_here" fun _ _ _ _ _ _ _=>rfl
 have m41:=mg_of X G a41
 have k41:=F41.kp
 obtain ⟨a42,_,F42⟩ := d42
 have b42:=F42.b3 "_law_node_here" "_law_place" "_law_begin" fun _ _ _ _ _ _ _ _ _=>rfl
 have m42:=mg_of X G a42
 have k42:=F42.kp
 obtain ⟨a43,_,F43⟩ := d43
 have b43:=F43.b1 "_law_told" fun _ _ _ _ _ _ _=>rfl
 obtain ⟨a44,_,F44⟩ := d44
 have b44:=F44.b1 "_law_some" fun _ _ _ _ _ _ _=>rfl
 obtain ⟨a45,_,F45⟩ := d45
 have e:=hfa.symm.trans (mg_of X G a45)
 cases e
 refine ⟨_,F45.law "_law_script" fun _ _ _ _ _ _ _=>rfl,fun base _ _ => ?_⟩
 have cl:∀ {x q g:Str} {st:Stmt} {f:Addr} {fd:FuncData} {k:Nat} {ps:List Str} {sp:Sp},nsIn K mainGlobals g=some (some (.ref f))->Fun K x q st f fd->Binds K fd ps []->FnOk l.prog w K mg base (CXE l.prog w) k f fd ps sp->Cal l.prog w K mg base (CXE l.prog w) k g ps sp:=fun a F b o=>Cl X G a F b o
 have TN:TxtN K mg aP cLook cNoSheet:=by
  refine ⟨mg_none_of X G z_len,mg_none_of X G z_abs,mg_none_of X G z_range,mg_none_of X G z_isinstance,mg_none_of X G z_int,mg_none_of X G z_bool,mg_none_of X G z_list,mg_none_of X G z_tuple,⟨_,mg_of X G i_NUMBER⟩,⟨_,mg_of X G i_GET⟩,⟨_,mg_of X G i_SET⟩,⟨_,mg_of X G i_ALL⟩,⟨_,mg_of X G i_PICK⟩,⟨_,mg_of X G i_LOOP⟩,⟨_,mg_of X G i_CALL⟩,⟨_,mg_of X G i_FAIL⟩,⟨_,mg_of X G i_NEW⟩,⟨_,mg_of X G i_MOST_FUNCTIONS⟩,⟨_,mg_of X G i_MOST_PARAMS⟩,⟨_,mg_of X G i_MOST_BOXES⟩,⟨_,mg_of X G i_MOST_DEEP⟩,⟨_,mg_of X G i_MOST_MANY⟩,⟨_,mg_of X G i_LEAST_ALL⟩,⟨_,mg_of X G i_LEAST_PICK⟩,mg_of X G g_PARTS,mg_of X G c_NoSheet,?_,kI,kit_of u_bool,kI,kI,⟨pg,hd,po,sa⟩,lnum,lpl,⟨exc_cd xN,xobj,xbase,xsa,xga,xnh⟩,xpl,xwd,⟨xm1,xm2,xm3,xm4⟩⟩
  exact sqT_of o_PARTS sm13 (.cons ⟨_,rfl⟩ (.cons ⟨_,rfl⟩ (.cons ⟨_,rfl⟩ (.cons ⟨_,rfl⟩ (.cons ⟨_,rfl⟩ (.cons ⟨_,rfl⟩ (.cons ⟨_,rfl⟩ (.cons ⟨_,rfl⟩ (.cons ⟨_,rfl⟩ (.cons ⟨_,rfl⟩ (.cons ⟨_,rfl⟩ (.cons ⟨_,rfl⟩ (.cons ⟨_,rfl⟩ (.nil))))))))))))))
 have T0:Txt K mg:=⟨mg_none_of X G z_len,mg_none_of X G z_range,mg_none_of X G z_all,mg_none_of X G z_max,mg_none_of X G z_enumerate,mg_none_of X G z_isinstance,mg_none_of X G z_int,mg_none_of X G z_bool,mg_none_of X G z_tuple,mg_none_of X G z_list,⟨_,mg_of X G i_ADD⟩,⟨_,mg_of X G i_NEW⟩,⟨_,mg_of X G i_MOST_FUNCTIONS⟩,⟨_,mg_of X G i_MOST_PARAMS⟩,⟨_,mg_of X G i_MOST_BOXES⟩,⟨_,mg_of X G i_MOST_MANY⟩,⟨_,mg_of X G i_LEAST_PICK⟩,⟨_,mg_of X G i_OP_PUSH⟩,⟨_,mg_of X G i_OP_GET⟩,⟨_,mg_of X G i_OP_SET⟩,⟨_,mg_of X G i_OP_DROP⟩,⟨_,mg_of X G i_OP_JUMP⟩,⟨_,mg_of X G i_OP_UNLESS⟩,⟨_,mg_of X G i_OP_CALL⟩,⟨_,mg_of X G i_OP_BACK⟩,⟨_,mg_of X G i_OP_FAIL⟩,⟨_,mg_of X G i_OP_BREATH⟩,⟨_,mg_of X G i_OP_DO⟩,⟨_,mg_of X G i_OP_PICK⟩,⟨_,mg_of X G i_HEAD_SIZE⟩,⟨_,mg_of X G i_ROW_SIZE⟩,kI,kit_of u_bool,kI,kit_any1 kI,kit_any2 (kit_of u_tl) kI,kI⟩
 have TL:TxtL K mg:=⟨T0,mg_none_of X G z_sum⟩
 have TK:TxtK K mg cMaking:=⟨mg_none_of X G z_len,mg_none_of X G z_range,mg_none_of X G z_enumerate,mg_none_of X G z_sorted,⟨_,mg_of X G i_NUMBER⟩,⟨_,mg_of X G i_GET⟩,⟨_,mg_of X G i_SET⟩,⟨_,mg_of X G i_ALL⟩,⟨_,mg_of X G i_PICK⟩,⟨_,mg_of X G i_LOOP⟩,⟨_,mg_of X G i_CALL⟩,⟨_,mg_of X G i_FAIL⟩,⟨_,mg_of X G i_OP_PUSH⟩,⟨_,mg_of X G i_OP_GET⟩,⟨_,mg_of X G i_OP_SET⟩,⟨_,mg_of X G i_OP_DROP⟩,⟨_,mg_of X G i_OP_JUMP⟩,⟨_,mg_of X G i_OP_UNLESS⟩,⟨_,mg_of X G i_OP_CALL⟩,⟨_,mg_of X G i_OP_BACK⟩,⟨_,mg_of X G i_OP_FAIL⟩,⟨_,mg_of X G i_OP_BREATH⟩,⟨_,mg_of X G i_OP_DO⟩,⟨_,mg_of X G i_OP_PICK⟩,⟨Making_pg,Making_hd,Making_po,Making_sa⟩,Making_heads,Making_rows,Making_paper⟩
 have X0:CalX l.prog w K mg base 1 "NoSheet" cNoSheet _ _:=⟨⟨_,_,ExMk.ofValue ⟨_,_,_,_,_,_,_,_,_,_,_,_,_,_,_,_,xN,exc_tail xC rfl (ns_ok xD xE) xF⟩ a0 xty xkp TN.exc,ok_initX TN F0,mg_of X G c_NoSheet,b0⟩⟩
 have K1:CalK l.prog w K mg base (CXE l.prog w) 1 "Look" cLook _ _:=⟨⟨_,_,⟨makes,a1,fn_Look___init__,lkp⟩,ok_initL TN F1,mg_of X G c_Look,b1⟩⟩
 have C4:=cl a4 F4 b4 (ok_whole TN F4)
 have M2:CalM l.prog w K mg base (CXE l.prog w) 3 cLook "take" _ _:=⟨⟨_,_,ok_tk TN F2 C4 X0,TN.look,⟨a2,fn_Look_take,k2⟩,b2⟩⟩
 have M3:CalM l.prog w K mg base (CXE l.prog w) 4 cLook "take_within" _ _:=⟨⟨_,_,ok_within TN F3 M2 X0,TN.look,⟨a3,fn_Look_take_within,k3⟩,b3⟩⟩
 have C5:=cl a5 F5 b5 (ok_heads TN F5 M3)
 have C6:=cl a6 F6 b6 (ok_own TN F6 M2 M3)
 have C7:=cl a7 F7 b7 (ok_parts TN F7)
 have C8:=cl a8 F8 b8 (ok_due TN F8 C7)
 have N9:=ok_nodes TN F9 X0 M3 C6 C8 m9 k9 b9
 have C9:Cal l.prog w K mg base (CXE l.prog w) 16 "take_node" _ (spNode cLook cNoSheet 10):=⟨⟨_,_,N9 10 (Nat.le_refl _),m9,k9,b9⟩⟩
 have C10:=cl a10 F10 b10 (ok_fns TN F10 X0 K1 C5 C9)

 have CWC:Cal l.prog w K mg base (CXE l.prog w) 1 "is_whole" _ _:=⟨⟨_,_,ok_wholeC T0 F4,m4,k4,b4⟩⟩
 have C11:=cl a11 F11 b11 (ok_is_head T0 F11)
 have C12:=cl a12 F12 b12 (ok_alone T0 F12)
 have C13:=cl a13 F13 b13 (ok_is_row T0 F13 C12)
 have C14:=cl a14 F14 b14 (ok_grouped T0 F14)
 have C15:=cl a15 F15 b15 (ok_heads_in T0 F15 C14)
 have C16:=cl a16 F16 b16 (ok_rows_in T0 F16 C14)
 have C17:=cl a17 F17 b17 (ok_wholes T0 F17 CWC)
 have C18:=cl a18 F18 b18 (ok_is_code T0 F18 C17 C15 C16 C11 C13)
 have C19:=cl a19 F19 b19 (ok_joined T0 F19)
 have C20:=cl a20 F20 b20 (ok_code_of T0 F20 C19 C18)
 have D21:CalK l.prog w K mg base (CXE l.prog w) 1 "Making" cMaking _ _:=⟨⟨_,_,⟨Making_makes,a21,fn_Making___init__,Making_kp⟩,ok_initM TK F21,mg_of X G c_Making,b21⟩⟩
 have C25:=cl a25 F25 b25 (ok_own_row TK F25)
 have C27:∀ hs,Cal l.prog w K mg base (CXE l.prog w) 22 "making_of" _ (spMakingOf cMaking hs):=fun hs=>⟨⟨_,_,ok_making_of TK F27 D21 (ok_maker (hs:=hs) TK F26 F22 F23 F24 C25 (fun o=>⟨⟨_,_,o,m26,k26,b26⟩⟩) (fun o=>⟨⟨_,_,o,m22,k22,b22⟩⟩) (fun o=>⟨⟨_,_,o,m23,k23,b23⟩⟩) (fun o=>⟨⟨_,_,o,m24,k24,b24⟩⟩) 10),m27,k27,b27⟩⟩
 have C28:=cl a28 F28 b28 (ok_made TK F28 C10 C27 C20)
 have C29:=cl a29 F29 b29 (ok_made_paper TK F29 C10 C27)
 have C30:=cl a30 F30 b30 (ok_cell TL F30)
 have C31:=cl a31 F31 b31 (ok_take TL F31 C30)
 have C32:=cl a32 F32 b32 (ok_number TL F32 C31)
 have C33:Cal l.prog w K mg base (CXE l.prog w) 7 "_law_node" _ (spNodeW K 4):=⟨⟨_,_,ok_nodeWS TL F33 C31 C32 m33 k33 b33 4,m33,k33,b33⟩⟩
 have C34:=cl a34 F34 b34 (ok_funsL TL F34 C31 C33)
 have A35:∀ d,Cal l.prog w K mg base (CXE l.prog w) (d+1) "_law_written" _ (spNumbers d):=fun d=>⟨⟨_,_,ok_writtenS T0 F35 m35 k35 b35 d,m35,k35,b35⟩⟩
 have C36:=cl a36 F36 b36 (ok_sheetL 10 T0 F36 (A35 10))
 have C37:=cl a37 F37 b37 (ok_moved TL F37)
 have C38:=cl a38 F38 b38 (ok_joinedL TL F38 C37)
 have C39:Cal l.prog w K mg base (CXE l.prog w) 13 "_law_rows" _ (spRowsL 10):=⟨⟨_,_,ok_rowsS TL F39 C38 C37 m39 k39 b39 10,m39,k39,b39⟩⟩
 have C40:=cl a40 F40 b40 (ok_codeL 10 TL F40 C39 C38)
 have A41:∀ d,Cal l.prog w K mg base (CXE l.prog w) (d+1) "_law_size" _ (spSizeL d):=fun d=>⟨⟨_,_,ok_sizeS TL F41 m41 k41 b41 d,m41,k41,b41⟩⟩
 have A42:∀ d,Cal l.prog w K mg base (CXE l.prog w) (d+2) "_law_lines" _ (spLines d):=fun d=>⟨⟨_,_,ok_linesS TL F42 A41 A35 m42 k42 b42 d,m42,k42,b42⟩⟩
 have C43:=cl a43 F43 b43 (ok_paper 10 TL F43 (A41 10) (A35 10) (A42 10))
 have C44:=cl a44 F44 b44 (ok_wholesL TL F44)
 exact ok_lawW TL F45 C34 C36 C40 C43 C44 C28 C29
theorem walk {l:PySem.W.OpenLaw} {q:Program} {loose:List Str} {XP:(Str->Option Value)->Heap->Prop} {YP:World->Heap->Prop} {d:DefRec} {K:Params->PySem.W.Frag} (hn:l.most=some 63) (hdf:d.params.defaults=[])
  (hY:∀ (w:World) (h:Heap),YP w h->(K w.params).In h)
  (F:∀ (w:World) (mg:Str->Option Value) (fa:Addr) (h:Heap),(K w.params).In h->h.Ns mainGlobals mg->mg d.name=some (.ref fa) ->
   ∃ fd:FuncData,(∀ (s:Shared) (u:Value),BindsTo s fd ⟨[u],[]⟩ [("_law_script",u)])/\∀ base:Heap,(K w.params).In base->base.Ns mainGlobals mg->FnOk l.prog w (K w.params) mg base (CXE l.prog w) 24 fa fd ["_law_script"] (spLaw (K w.params))) :
  PySem.W.WalkO q loose XP YP l.row.toRowW d [] (fun f vs=>PySem.call f vs) :=
 L2.walk_of (n:=63) (k:=24) (x := "_law_script") (CX:=fun w=>(CXE l.prog w)) (sp:=fun w=>spLaw (K w.params)) hn (by decide) hdf ⟨rfl,by decide,by decide⟩ hY F (fun _ _ a ns hl hO hS=>⟨a,ns,rfl,Scr.of hO hS,hl,fun _=>rfl⟩) (fun _ _ _ _ _=>cxe_none)
end OcL
namespace OcP
open PySem
set_option compiler.extract_closed false
def B:=PySem.Challenge.pw_ownchain_k31_codes_and_papers_made.main.body
def s0:Stmt:=let_mvar% ?s:=(_:Stmt); let_mvar% ?f:=(fun (_:B[0]? = some ?s) => ?s); ?f rfl
def s1:Stmt:=let_mvar% ?s:=(_:Stmt); let_mvar% ?f:=(fun (_:B[1]? = some ?s) => ?s); ?f rfl
def s2:Stmt:=let_mvar% ?s:=(_:Stmt); let_mvar% ?f:=(fun (_:B[2]? = some ?s) => ?s); ?f rfl
def s3:Stmt:=let_mvar% ?s:=(_:Stmt); let_mvar% ?f:=(fun (_:B[3]? = some ?s) => ?s); ?f rfl
def s4:Stmt:=let_mvar% ?s:=(_:Stmt); let_mvar% ?f:=(fun (_:B[4]? = some ?s) => ?s); ?f rfl
def s5:Stmt:=let_mvar% ?s:=(_:Stmt); let_mvar% ?f:=(fun (_:B[5]? = some ?s) => ?s); ?f rfl
def s6:Stmt:=let_mvar% ?s:=(_:Stmt); let_mvar% ?f:=(fun (_:B[6]? = some ?s) => ?s); ?f rfl
def s7:Stmt:=let_mvar% ?s:=(_:Stmt); let_mvar% ?f:=(fun (_:B[7]? = some ?s) => ?s); ?f rfl
def s8:Stmt:=let_mvar% ?s:=(_:Stmt); let_mvar% ?f:=(fun (_:B[8]? = some ?s) => ?s); ?f rfl
def s9:Stmt:=let_mvar% ?s:=(_:Stmt); let_mvar% ?f:=(fun (_:B[9]? = some ?s) => ?s); ?f rfl
def s10:Stmt:=let_mvar% ?s:=(_:Stmt); let_mvar% ?f:=(fun (_:B[10]? = some ?s) => ?s); ?f rfl
def s11:Stmt:=let_mvar% ?s:=(_:Stmt); let_mvar% ?f:=(fun (_:B[11]? = some ?s) => ?s); ?f rfl
def s12:Stmt:=let_mvar% ?s:=(_:Stmt); let_mvar% ?f:=(fun (_:B[12]? = some ?s) => ?s); ?f rfl
def s13:Stmt:=let_mvar% ?s:=(_:Stmt); let_mvar% ?f:=(fun (_:B[13]? = some ?s) => ?s); ?f rfl
def s14:Stmt:=let_mvar% ?s:=(_:Stmt); let_mvar% ?f:=(fun (_:B[14]? = some ?s) => ?s); ?f rfl
def s15:Stmt:=let_mvar% ?s:=(_:Stmt); let_mvar% ?f:=(fun (_:B[15]? = some ?s) => ?s); ?f rfl
def s16:Stmt:=let_mvar% ?s:=(_:Stmt); let_mvar% ?f:=(fun (_:B[16]? = some ?s) => ?s); ?f rfl
def s17:Stmt:=let_mvar% ?s:=(_:Stmt); let_mvar% ?f:=(fun (_:B[17]? = some ?s) => ?s); ?f rfl
def s18:Stmt:=let_mvar% ?s:=(_:Stmt); let_mvar% ?f:=(fun (_:B[18]? = some ?s) => ?s); ?f rfl
def s19:Stmt:=let_mvar% ?s:=(_:Stmt); let_mvar% ?f:=(fun (_:B[19]? = some ?s) => ?s); ?f rfl
def s20:Stmt:=let_mvar% ?s:=(_:Stmt); let_mvar% ?f:=(fun (_:B[20]? = some ?s) => ?s); ?f rfl
def s21:Stmt:=let_mvar% ?s:=(_:Stmt); let_mvar% ?f:=(fun (_:B[21]? = some ?s) => ?s); ?f rfl
def s22:Stmt:=let_mvar% ?s:=(_:Stmt); let_mvar% ?f:=(fun (_:B[22]? = some ?s) => ?s); ?f rfl
def s23:Stmt:=let_mvar% ?s:=(_:Stmt); let_mvar% ?f:=(fun (_:B[23]? = some ?s) => ?s); ?f rfl
def s24:Stmt:=let_mvar% ?s:=(_:Stmt); let_mvar% ?f:=(fun (_:B[24]? = some ?s) => ?s); ?f rfl
def s25:Stmt:=let_mvar% ?s:=(_:Stmt); let_mvar% ?f:=(fun (_:B[25]? = some ?s) => ?s); ?f rfl
def s26:Stmt:=let_mvar% ?s:=(_:Stmt); let_mvar% ?f:=(fun (_:B[26]? = some ?s) => ?s); ?f rfl
def s27:Stmt:=let_mvar% ?s:=(_:Stmt); let_mvar% ?f:=(fun (_:B[27]? = some ?s) => ?s); ?f rfl
def s28:Stmt:=let_mvar% ?s:=(_:Stmt); let_mvar% ?f:=(fun (_:B[28]? = some ?s) => ?s); ?f rfl
def s29:Stmt:=let_mvar% ?s:=(_:Stmt); let_mvar% ?f:=(fun (_:B[29]? = some ?s) => ?s); ?f rfl
def s30:Stmt:=let_mvar% ?s:=(_:Stmt); let_mvar% ?f:=(fun (_:B[30]? = some ?s) => ?s); ?f rfl
def s31:Stmt:=let_mvar% ?s:=(_:Stmt); let_mvar% ?f:=(fun (_:B[31]? = some ?s) => ?s); ?f rfl
def s32:Stmt:=let_mvar% ?s:=(_:Stmt); let_mvar% ?f:=(fun (_:B[32]? = some ?s) => ?s); ?f rfl
def s33:Stmt:=let_mvar% ?s:=(_:Stmt); let_mvar% ?f:=(fun (_:B[33]? = some ?s) => ?s); ?f rfl
def s34:Stmt:=let_mvar% ?s:=(_:Stmt); let_mvar% ?f:=(fun (_:B[34]? = some ?s) => ?s); ?f rfl
def s35:Stmt:=let_mvar% ?s:=(_:Stmt); let_mvar% ?f:=(fun (_:B[35]? = some ?s) => ?s); ?f rfl
def s36:Stmt:=let_mvar% ?s:=(_:Stmt); let_mvar% ?f:=(fun (_:B[36]? = some ?s) => ?s); ?f rfl
def s37:Stmt:=let_mvar% ?s:=(_:Stmt); let_mvar% ?f:=(fun (_:B[37]? = some ?s) => ?s); ?f rfl
def s38:Stmt:=let_mvar% ?s:=(_:Stmt); let_mvar% ?f:=(fun (_:B[38]? = some ?s) => ?s); ?f rfl
def s39:Stmt:=let_mvar% ?s:=(_:Stmt); let_mvar% ?f:=(fun (_:B[39]? = some ?s) => ?s); ?f rfl
def s40:Stmt:=let_mvar% ?s:=(_:Stmt); let_mvar% ?f:=(fun (_:B[40]? = some ?s) => ?s); ?f rfl
def s41:Stmt:=let_mvar% ?s:=(_:Stmt); let_mvar% ?f:=(fun (_:B[41]? = some ?s) => ?s); ?f rfl
def s42:Stmt:=let_mvar% ?s:=(_:Stmt); let_mvar% ?f:=(fun (_:B[42]? = some ?s) => ?s); ?f rfl
def s43:Stmt:=let_mvar% ?s:=(_:Stmt); let_mvar% ?f:=(fun (_:B[43]? = some ?s) => ?s); ?f rfl
def s44:Stmt:=let_mvar% ?s:=(_:Stmt); let_mvar% ?f:=(fun (_:B[44]? = some ?s) => ?s); ?f rfl
def s45:Stmt:=let_mvar% ?s:=(_:Stmt); let_mvar% ?f:=(fun (_:B[45]? = some ?s) => ?s); ?f rfl
def s46:Stmt:=let_mvar% ?s:=(_:Stmt); let_mvar% ?f:=(fun (_:B[46]? = some ?s) => ?s); ?f rfl
def s47:Stmt:=let_mvar% ?s:=(_:Stmt); let_mvar% ?f:=(fun (_:B[47]? = some ?s) => ?s); ?f rfl
def s48:Stmt:=let_mvar% ?s:=(_:Stmt); let_mvar% ?f:=(fun (_:B[48]? = some ?s) => ?s); ?f rfl
def s49:Stmt:=let_mvar% ?s:=(_:Stmt); let_mvar% ?f:=(fun (_:B[49]? = some ?s) => ?s); ?f rfl
def s50:Stmt:=let_mvar% ?s:=(_:Stmt); let_mvar% ?f:=(fun (_:B[50]? = some ?s) => ?s); ?f rfl
def s51:Stmt:=let_mvar% ?s:=(_:Stmt); let_mvar% ?f:=(fun (_:B[51]? = some ?s) => ?s); ?f rfl
def s52:Stmt:=let_mvar% ?s:=(_:Stmt); let_mvar% ?f:=(fun (_:B[52]? = some ?s) => ?s); ?f rfl
def s53:Stmt:=let_mvar% ?s:=(_:Stmt); let_mvar% ?f:=(fun (_:B[53]? = some ?s) => ?s); ?f rfl
def s54:Stmt:=let_mvar% ?s:=(_:Stmt); let_mvar% ?f:=(fun (_:B[54]? = some ?s) => ?s); ?f rfl
def s55:Stmt:=let_mvar% ?s:=(_:Stmt); let_mvar% ?f:=(fun (_:B[55]? = some ?s) => ?s); ?f rfl
def s56:Stmt:=let_mvar% ?s:=(_:Stmt); let_mvar% ?f:=(fun (_:B[56]? = some ?s) => ?s); ?f rfl
def s57:Stmt:=let_mvar% ?s:=(_:Stmt); let_mvar% ?f:=(fun (_:B[57]? = some ?s) => ?s); ?f rfl
def s58:Stmt:=let_mvar% ?s:=(_:Stmt); let_mvar% ?f:=(fun (_:B[58]? = some ?s) => ?s); ?f rfl
def s59:Stmt:=let_mvar% ?s:=(_:Stmt); let_mvar% ?f:=(fun (_:B[59]? = some ?s) => ?s); ?f rfl
def s60:Stmt:=let_mvar% ?s:=(_:Stmt); let_mvar% ?f:=(fun (_:B[60]? = some ?s) => ?s); ?f rfl
def s61:Stmt:=let_mvar% ?s:=(_:Stmt); let_mvar% ?f:=(fun (_:B[61]? = some ?s) => ?s); ?f rfl
def s62:Stmt:=let_mvar% ?s:=(_:Stmt); let_mvar% ?f:=(fun (_:B[62]? = some ?s) => ?s); ?f rfl
def s63:Stmt:=let_mvar% ?s:=(_:Stmt); let_mvar% ?f:=(fun (_:B[63]? = some ?s) => ?s); ?f rfl
def s64:Stmt:=let_mvar% ?s:=(_:Stmt); let_mvar% ?f:=(fun (_:B[64]? = some ?s) => ?s); ?f rfl
def s65:Stmt:=let_mvar% ?s:=(_:Stmt); let_mvar% ?f:=(fun (_:B[65]? = some ?s) => ?s); ?f rfl
def s66:Stmt:=let_mvar% ?s:=(_:Stmt); let_mvar% ?f:=(fun (_:B[66]? = some ?s) => ?s); ?f rfl
def s67:Stmt:=let_mvar% ?s:=(_:Stmt); let_mvar% ?f:=(fun (_:B[67]? = some ?s) => ?s); ?f rfl
def s68:Stmt:=let_mvar% ?s:=(_:Stmt); let_mvar% ?f:=(fun (_:B[68]? = some ?s) => ?s); ?f rfl
def s69:Stmt:=let_mvar% ?s:=(_:Stmt); let_mvar% ?f:=(fun (_:B[69]? = some ?s) => ?s); ?f rfl
def s70:Stmt:=let_mvar% ?s:=(_:Stmt); let_mvar% ?f:=(fun (_:B[70]? = some ?s) => ?s); ?f rfl
def s71:Stmt:=let_mvar% ?s:=(_:Stmt); let_mvar% ?f:=(fun (_:B[71]? = some ?s) => ?s); ?f rfl
def s72:Stmt:=let_mvar% ?s:=(_:Stmt); let_mvar% ?f:=(fun (_:B[72]? = some ?s) => ?s); ?f rfl
def s73:Stmt:=let_mvar% ?s:=(_:Stmt); let_mvar% ?f:=(fun (_:B[73]? = some ?s) => ?s); ?f rfl
def s74:Stmt:=let_mvar% ?s:=(_:Stmt); let_mvar% ?f:=(fun (_:B[74]? = some ?s) => ?s); ?f rfl
def s75:Stmt:=let_mvar% ?s:=(_:Stmt); let_mvar% ?f:=(fun (_:B[75]? = some ?s) => ?s); ?f rfl
def s76:Stmt:=let_mvar% ?s:=(_:Stmt); let_mvar% ?f:=(fun (_:B[76]? = some ?s) => ?s); ?f rfl
def s77:Stmt:=let_mvar% ?s:=(_:Stmt); let_mvar% ?f:=(fun (_:B[77]? = some ?s) => ?s); ?f rfl
def s78:Stmt:=let_mvar% ?s:=(_:Stmt); let_mvar% ?f:=(fun (_:B[78]? = some ?s) => ?s); ?f rfl
def s79:Stmt:=let_mvar% ?s:=(_:Stmt); let_mvar% ?f:=(fun (_:B[79]? = some ?s) => ?s); ?f rfl
def s80:Stmt:=let_mvar% ?s:=(_:Stmt); let_mvar% ?f:=(fun (_:B[80]? = some ?s) => ?s); ?f rfl
def s81:Stmt:=let_mvar% ?s:=(_:Stmt); let_mvar% ?f:=(fun (_:B[81]? = some ?s) => ?s); ?f rfl
def s82:Stmt:=let_mvar% ?s:=(_:Stmt); let_mvar% ?f:=(fun (_:B[82]? = some ?s) => ?s); ?f rfl
def s83:Stmt:=let_mvar% ?s:=(_:Stmt); let_mvar% ?f:=(fun (_:B[83]? = some ?s) => ?s); ?f rfl
def sc:Scope:={ kind:=ScopeKind.module,names:=[ (Str.ofString "__name__",NameKind.local),(Str.ofString "ChainError",NameKind.local),(Str.ofString "ValueError",NameKind.globalImplicit),(Str.ofString "NoSheet",NameKind.local),(Str.ofString "NoCode",NameKind.local),(Str.ofString "NUMBER",NameKind.local),(Str.ofString "GET",NameKind.local),(Str.ofString "SET",NameKind.local),(Str.ofString "ALL",NameKind.local),(Str.ofString "PICK",NameKind.local),(Str.ofString "LOOP",NameKind.local),(Str.ofString "CALL",NameKind.local),(Str.ofString "FAIL",NameKind.local),(Str.ofString "ADD",NameKind.local),(Str.ofString "NEW",NameKind.local),(Str.ofString "PARTS",NameKind.local),(Str.ofString "parts_of",NameKind.local),(Str.ofString "MOST_FUNCTIONS",NameKind.local),(Str.ofString "MOST_PARAMS",NameKind.local),(Str.ofString "MOST_BOXES",NameKind.local),(Str.ofString "MOST_DEEP",NameKind.local),(Str.ofString "MOST_MANY",NameKind.local),(Str.ofString "LEAST_ALL",NameKind.local),(Str.ofString "LEAST_PICK",NameKind.local),(Str.ofString "is_whole",NameKind.local),(Str.ofString "Look",NameKind.local),(Str.ofString "take_heads",NameKind.local),(Str.ofString "take_own",NameKind.local),(Str.ofString "parts_due",NameKind.local),(Str.ofString "take_node",NameKind.local),(Str.ofString "functions",NameKind.local),(Str.ofString "OP_PUSH",NameKind.local),(Str.ofString "OP_GET",NameKind.local),(Str.ofString "OP_SET",NameKind.local),(Str.ofString "OP_DROP",NameKind.local),(Str.ofString "OP_JUMP",NameKind.local),(Str.ofString "OP_UNLESS",NameKind.local),(Str.ofString "OP_CALL",NameKind.local),(Str.ofString "OP_BACK",NameKind.local),(Str.ofString "OP_FAIL",NameKind.local),(Str.ofString "OP_BREATH",NameKind.local),(Str.ofString "OP_DO",NameKind.local),(Str.ofString "OP_PICK",NameKind.local),(Str.ofString "HEAD_SIZE",NameKind.local),(Str.ofString "ROW_SIZE",NameKind.local),(Str.ofString "is_head",NameKind.local),(Str.ofString "stands_alone",NameKind.local),(Str.ofString "is_row",NameKind.local),(Str.ofString "grouped",NameKind.local),(Str.ofString "heads_in",NameKind.local),(Str.ofString "rows_in",NameKind.local),(Str.ofString "is_list_of_wholes",NameKind.local),(Str.ofString "is_code",NameKind.local),(Str.ofString "joined",NameKind.local),(Str.ofString "code_of",NameKind.local),(Str.ofString "Making",NameKind.local),(Str.ofString "make_all",NameKind.local),(Str.ofString "make_pick",NameKind.local),(Str.ofString "make_loop",NameKind.local),(Str.ofString "own_row",NameKind.local),(Str.ofString "make_node",NameKind.local),(Str.ofString "making_of",NameKind.local),(Str.ofString "made",NameKind.local),(Str.ofString "made_paper",NameKind.local),(Str.ofString "_law_cell",NameKind.local),(Str.ofString "_law_take",NameKind.local),(Str.ofString "_law_number",NameKind.local),(Str.ofString "_law_node",NameKind.local),(Str.ofString "_law_functions",NameKind.local),(Str.ofString "_law_written",NameKind.local),(Str.ofString "_law_sheet",NameKind.local),(Str.ofString "_law_moved",NameKind.local),(Str.ofString "_law_joined",NameKind.local),(Str.ofString "_law_rows",NameKind.local),(Str.ofString "_law_code",NameKind.local),(Str.ofString "_law_size",NameKind.local),(Str.ofString "_law_lines",NameKind.local),(Str.ofString "_law_paper",NameKind.local),(Str.ofString "_law_wholes",NameKind.local),(Str.ofString "law",NameKind.local)],isGenerator:=false,isCoroutine:=false,more:=[]:Scope }
def gi:Given:={ argv:=[],stdin:=[],environ:=(some [([76,67,95,65,76,76],[67,46,85,84,70,45,56])]):PySem.Given }
def fi:Str := "/claim/cut.py"
def pw:Program:={ main:={ body:=[s0,s1,s2,s3,s4,s5,s6,s7,s8,s9,s10,s11,s12,s13,s14,s15,s16,s17,s18,s19,s20,s21,s22,s23,s24,s25,s26,s27,s28,s29,s30,s31,s32,s33,s34,s35,s36,s37,s38,s39,s40,s41,s42,s43,s44,s45,s46,s47,s48,s49,s50,s51,s52,s53,s54,s55,s56,s57,s58,s59,s60,s61,s62,s63,s64,s65,s66,s67,s68,s69,s70,s71,s72,s73,s74,s75,s76,s77,s78,s79,s80,s81,s82,s83],scope:=sc,futureAnnotations:=false,file:=fi,more:=[] },modules:=[],parses:=[],absent:=[],harvested:=[],given:=gi }
def rw:PySem.W.OpenLaw:={ prog:=pw,name:=(PySem.Str.ofString "law"),about:=[(PySem.Str.ofString "made")],foot:=16,most:=some 63,bound:=none,writes:=false }
theorem rw_eq:PySem.Challenge.rw_ownchain_k31_codes_and_papers_made=rw:=rfl
end OcP

namespace PySem.W.Fast
 def tw10929820689819249253:=() def tw16645464758957101772:=() def tw8116914751886510134:=() def tw15769481758502140066:=() def tw16900893567059647234:=() def tw16907681129922935836:=() def tw14313008378506357302:=() def tw5447259812706586571:=()
 def tw9320401765442154704:=() def tw11501879952858640369:=() def tw5046079471659176496:=() def tw5803008330042073724:=() def tw16294434445150922168:=() def tw17913703513571823748:=() def tw13814477879656592767:=() def tw3225724224296916848:=()
 def tw18015332105644300959:=() def tw959847333608740291:=() def tw7026438456177398562:=() def tw4380398242235645345:=() def tw16034975449848863544:=() def tw12100769899973380825:=() def tw17584030122701485743:=() def tw16431856783276809185:=()
 def tw12456387599116735240:=() def tw9842188102129328815:=() def tw9291827505740495870:=() def tw8545258407667034959:=() def tw17127630168080104653:=() def tw4029758237179807491:=() def tw18145983240315813006:=() def tw12189658357016717892:=()
 def tw7697906617957259715:=() def tw10508900861928358653:=() def tw495341375382335247:=() def tw3474789238439002766:=() def tw18215682281152906663:=() def tw7849297863047304626:=() def tw9245136586204192303:=() def tw16038243664612140976:=()
 def tw17377594492444428553:=() def tw16211677886926038979:=() def tw4157288697402528666:=() def tw8336358357190291572:=() def tw17513080107941769243:=() def tw1667592779492755576:=() def tw13212824385821862301:=() def tw16765446616111762305:=()
 def tw2693166723078115978:=() def tw17835161229012571798:=() def tw7136116605078719278:=() def tw14758879032381787189:=() def tw18413211550002925213:=() def tw4617843072800664146:=() def tw17967384726754271309:=() def tw18136373412288246771:=()
 def tw18201142698770669645:=() def tw5083474233818488780:=() def tw754161286554163000:=() def tw10336814284114697253:=() def tw2135937515792250171:=() def tw11633707810815420452:=() def tw17511352639219110563:=() def tw850149414631165612:=()
 def tw7113266265902113049:=() def tw3622322602057831631:=() def tw7276937856918512822:=() def tw3419152830949250278:=() def tw3674446385792189393:=() def tw9573318786885948295:=() def tw8805745384938282780:=() def tw6430328723458633668:=()
 def tw5545710646791937562:=() def tw16646748595459988384:=() def tw15376243228936073400:=() def tw10335244351649894745:=() def tw16356856905522537966:=() def tw9711746976516671819:=() def tw5811044572562186293:=() def tw4939787740222810261:=()
 def tw16419585101552455623:=() def tw12435296663378174032:=() def tw15999156717850006504:=() def tw7658583056628518832:=() def tw1430630734008019498:=() def tw105104959135880004:=() def tw18008068112553150898:=() def tw8575278314869780242:=()
 def tw4935010246559873954:=() def tw2650799622120308817:=() def tw8155729358935639861:=() def tw8220366033399799395:=() def tw4371771685007578553:=() def tw12030246491267089815:=() def tw16858275251028129328:=() def tw10589215898376503477:=()
 def tw7017353956063588366:=() def tw12122751488264417690:=() def tw5822488741028266757:=() def tw13614098210691712540:=() def tw12318181958146073309:=() def tw408411939947210258:=() def tw12486167225396566269:=() def tw17661969724454230035:=()
 def tw3480795378515657036:=() def tw3095262957634542645:=() def tw9932333154901224664:=() def tw17567865656721413593:=() def tw9285905693444947547:=() def tw1150306944180223050:=() def tw14861672248299497549:=() def tw11961009256954582977:=()
 def tw5305537654499398350:=() def tw3807725246570737376:=() def tw564965418151814673:=() def tw15327848193683461956:=() def tw17195730518818663278:=() def tw15929902052224150680:=() def tw10085190145877826968:=() def tw17237792292566389365:=()
 def tw17485582055014911887:=() def tw16820270629038594540:=() def tw13936313730932779826:=() def tw10065022703379707971:=() def tw16280305960396129097:=() def tw6100576461292494226:=() def tw1606244270542912951:=() def tw14957782633021057416:=()
 def tw7933580321165379485:=() def tw8149373609454670033:=() def tw5447404940205588226:=() def tw13729885375582065484:=() def tw3415408798851671883:=() def tw15505842929085766907:=() def tw2204896320543747144:=() def tw5183131501674692624:=()
 def tw8878515383167679670:=() def tw4806698936730906988:=() def tw269341971055923444:=() def tw13769547871353406493:=() def tw2206580298392702845:=() def tw2065537373615819235:=() def tw577197841979563685:=() def tw15662345507622935844:=()
 def tw3055395274401706610:=() def tw6522355163579992857:=() def tw12676945947433519498:=() def tw7826396131281955591:=() def tw7283414793203361422:=() def tw11323297021992881643:=() def tw9932502089813878076:=() def tw1297439042185272551:=()
 def tw2540976065938104521:=() def tw16055577776331482979:=() def tw16750169143795569281:=() def tw16721698520023645799:=() def tw10043140120118550684:=() def tw11245757952368956717:=() def tw3151311919370207025:=() def tw13355994582833015379:=()
 def tw4170851376633585889:=() def tw7690149303086639318:=() def tw50345275828924080:=() def tw10887061617670804683:=() def tw952048136695055048:=() def tw4628205847073712096:=() def tw16211884989071351184:=() def tw16056770557870914409:=()
 def tw17069332110634140978:=() def tw4499440321125539109:=() def tw18128828864277815421:=() def tw3940558586422520795:=() def tw18282947046644592063:=() def tw15709432480788524498:=() def tw9452471689070335886:=() def tw17426091773277107600:=()
 def tw5691803688163288121:=() def tw11542366134822454352:=() def tw9677458590702372505:=() def tw7540788475300791742:=() def tw2060075943896888247:=() def tw11505628475478976976:=() def tw17741878813068248120:=() def tw12943391314628962078:=()
 def tw2310492685138407936:=() def tw2652920205112810952:=() def tw12582012037354044525:=() def tw12055225321225911173:=() def tw7683906698278114732:=() def tw4962943517797857588:=() def tw7475234220196879669:=() def tw18058826673391885442:=()
 def tw7942262442012613730:=() def tw2968082611774131308:=() def tw1724317223929529527:=() def tw11929310151141513596:=() def tw9234919778897870607:=() def tw4955686117967540223:=() def tw5460842640087858905:=() def tw16525310717398496711:=()
 def tw1474723794209282095:=() def tw578933095343018083:=() def tw1637619739333221219:=() def tw15323766335273553840:=() def tw12405124945306878817:=() def tw6398009786623195177:=() def tw10472257488159089368:=() def tw11613797043506796992:=()
 def tw11260444056550771212:=() def tw14792959351400722482:=() def tw16048359148914859260:=() def tw644089881607228166:=() def tw8185422008566522150:=() def tw13349681699532587859:=() def tw14822889221949617378:=() def tw2711967867583751002:=()
 def tw2135299475683933649:=() def tw13830411638947581987:=() def tw11825844847065467971:=() def tw7412718810052905338:=() def tw3387137486468248932:=() def tw12517251553606700873:=() def tw15652821597450242401:=() def tw16815767664495295311:=()
 def tw4438607732664944124:=() def tw10531777113963766601:=() def tw6447792790138614636:=() def tw7859761842205119733:=() def tw18290856940038189050:=() def tw1655602557458943832:=() def tw11314408387723367194:=() def tw13644270225631799358:=()
 def tw12333135802608211039:=() def tw9260081750567291008:=() def tw6900973876615316713:=() def tw12039997494351260046:=() def tw3764187384106947967:=() def tw161379286097310745:=() def tw9720281618168165850:=() def tw2417760997211401481:=()
 def tw16198592623313091511:=() def tw5408389069420640090:=() def tw5503749933922955517:=() def tw7045979110817305890:=() def tw9900472469833284016:=() def tw5897725577289645813:=() def tw18368335968924277283:=() def tw7981319005690964006:=()
 def tw5991966454515484577:=() def tw10112322931270964185:=() def tw5293304469199281538:=() def tw4537475753269143798:=() def tw17698250074340835140:=() def tw8475000181675308266:=() def tw16777992800287214510:=() def tw13082056616400276566:=()
 def tw17705700820145039357:=() def tw1616527716859610195:=() def tw2313758013179797461:=() def tw3565688180736162665:=() def tw1617277069098585983:=() def tw14165227331308951656:=() def tw8717834031647580257:=() def tw10941010392316431455:=()
 def tw14389734828387758774:=() def tw6627597040400305970:=() def tw7759085755485526675:=() def tw489305518657407715:=() def tw16506553799548224635:=() def tw9872146377759530919:=() def tw999362269260180858:=() def tw7516351447935853499:=()
 def tw16473369871739775907:=() def tw13895147444889026308:=() def tw12746542966338706670:=() def tw12795182279172852848:=() def tw4439812159142531937:=() def tw6633455954409216730:=() def tw15442063230248413348:=() def tw5977601403443620032:=()
 def tw8689085291547310979:=() def tw13189784394744257064:=() def tw18060667446708397707:=() def tw3109606877406299382:=() def tw14113125571057962561:=() def tw12949953732543072337:=() def tw1462120765417373144:=() def tw17056150489233140318:=()
 def tw10949567540144354376:=() def tw14740135796188364268:=() def tw1470250752128689023:=() def tw5355208258961572828:=() def tw15147568547970675733:=() def tw1889106457250130337:=() def tw17166526953931537551:=() def tw1755498247793884598:=()
 def tw15904005898674897818:=() def tw17482318654627881981:=() def tw1648613716898389895:=() def tw7406795637869320337:=() def tw14684169148070954749:=() def tw11442451122519165080:=() def tw10490159234416788415:=() def tw12457224056235484828:=()
 def tw16170152478795779262:=() def tw4921881780724336076:=() def tw11896568933906818038:=() def tw3272007748616749354:=() def tw8379847582593803391:=() def tw10503500103660663505:=() def tw17725876069753106789:=() def tw2586178388400203409:=()
 def tw10230976474327045520:=() def tw14163956526938701555:=() def tw13022736138741181776:=() def tw2369044529394558286:=() def tw1851786078270290940:=() def tw111389415317154865:=() def tw17630309682467881549:=() def tw7319712110219442825:=()
 def tw12723194942152260169:=() def tw8751446167352739445:=() def tw1012316712738167027:=() def tw1072418499914903777:=() def tw9407185027785174004:=() def tw15769893580495455876:=() def tw3745117936733295386:=() def tw13491284829120401406:=()
 def tw422361305445225671:=() def tw5054775239002163416:=() def tw1478041261902372732:=() def tw2439672794360251241:=() def tw3642308754231604689:=() def tw15760386054403800222:=() def tw2196671283470203671:=() def tw7269404427818525631:=()
 def tw16690537220875908079:=() def tw15242720098810634528:=() def tw14577482544101361440:=() def tw14035109578639961710:=() def tw8996729565624686836:=() def tw4732057057897067408:=() def tw18063168223330509391:=() def tw289900648798253778:=()
 def tw10825050542980186451:=()
end PySem.W.Fast
open PySem PySem.W PyProof.Rows
set_option maxRecDepth 100000 in
set_option maxHeartbeats 0 in
theorem PySem.Challenge.cw_ownchain_k31_codes_and_papers_made_holds : PySem.Challenge.rw_ownchain_k31_codes_and_papers_made.Holds := by
 rw [OcP.rw_eq]
 w_on; o_law; z_head; (case hw=>w_witness2)
 k_fill
 refine L2.walkX_of (fun P=>rfl) ?_
 refine OcL.walk (l:=OcP.rw) rfl rfl (fun w h Y=>Y) ?F
 case F =>
  intro w mg fa h KX G hmg
  refine' OcL.all_mk KX G hmg ?_ ?_ ?_ ?_ ?_ ?_ ?_ ?_ ?_ ?_ ?_ ?_ ?_ ?_ ?_ ?_ ?_ ?_ ?_ ?_ ?_ ?_ ?_ ?_ ?_ ?_ ?_ ?_ ?_ ?_ ?_ ?_ ?_ ?_ ?_ ?_ ?_ ?_ ?_ ?_ ?_ ?_ ?_ ?_ ?_ ?_ ?_ ?_ ?_ ?_ ?_ ?_ ?_ ?_ ?_ ?_ ?_ ?_ ?_ ?_ ?_ ?_ ?_ ?_ ?_ ?_ ?_ ?_ ?_ ?_ ?_ ?_ ?_ ?_ ?_ ?_ ?_ ?_ ?_ ?_ ?_ ?_ ?_ ?_ ?_ ?_ ?_ ?_ ?_ ?_ ?_ ?_ ?_ ?_ ?_ ?_ ?_ ?_ ?_ ?_ ?_ ?_ ?_ ?_ ?_ ?_ ?_ ?_ ?_ ?_ ?_ ?_ ?_ ?_ ?_ ?_ ?_ ?_ ?_ ?_ ?_ ?_ ?_ ?_ ?_ ?_ ?_ ?_ ?_ ?_ ?_ ?_ ?_ ?_ ?_ ?_ ?_
  all_goals first | k_is | rfl | (refine' L2.dg_mk ?a ?b ?c ?d; (case a=>k_is); (case b=>k_is); (case c=>k_is); (case d=>k_is)) | (refine' L2.dm_mk ?a ?b ?c ?d; (case a=>k_is); (case b=>k_is); (case c=>k_is); (case d=>k_is)) | skip
