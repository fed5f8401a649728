import PyProof.Rows.All
import PyProof.SumAny
import PyProof.AutoSeq1
import PyProof.LayNew
import PyProof.EnumFor
import PyProof.EnumStmt
import PyProof.EnumMake
import PyProof.Rows.TupAdd
import PyProof.ExcClass2
import PyProof.ConsumeWalk
import KE.KRevSl
import KE.KRevIter
import Wide.All
import OpenK.AllK
import Wide.FinOn
import Lean
import PyProof.EqAt
import PyProof.EqKinds
import PyProof.TupleCall
import PyProof.NeKinds
import PySem.Challenge.RW_ownchain_k11_words_that_cannot_stand
set_option genInjectivity false
set_option genSizeOfSpec false
set_option Elab.async false
set_option linter.all false
set_option maxRecDepth 100000
namespace L2
open PySem PySem.Spec PyProof.Rows

abbrev Key:=Sum Int Str
def keyIs:Key->Value->Bool
 | .inl k,v=>Value.isInt k v
 | .inr x,v=>Value.isStrOf x v
def keyH (w:World):Key->Int
 | .inl k=>hashInt k
 | .inr x=>hashStr w x
theorem xL:∀ {k:Key} {v:Value},keyIs k v=true->(∃ i t,k=Sum.inl i/\v=Value.int i t)\/(∃ x t,k=Sum.inr x/\v=Value.str x t)
 | .inl i,v,h=>by
  obtain ⟨t,e⟩ := Value.isInt_shape (k:=i) (v:=v) h
  exact .inl ⟨i,t,rfl,e⟩
 | .inr x,v,h=>by
  obtain ⟨t,e⟩ := Value.isStrOf_shape (x:=x) (v:=v) h
  exact .inr ⟨x,t,rfl,e⟩
theorem keyIs_int (i:Int) (t:Tok):keyIs (.inl i) (.int i t)=true:=by simp [keyIs,Value.isInt]
theorem keyIs_str (x:Str) (t:Tok):keyIs (.inr x) (.str x t)=true:=by simp [keyIs,Value.isStrOf]
theorem key_ll (a b:Int):decide ((Sum.inl a:Key)=Sum.inl b)=(a == b):=by
 by_cases e:a=b
 ·subst e; simp
 ·have h:¬ (Sum.inl a:Key)=Sum.inl b:=fun q=>e (Sum.inl.inj q)
  rw [decide_eq_false h]
  exact (beq_eq_false_iff_ne.mpr e).symm
theorem key_rr (a b:Str):decide ((Sum.inr a:Key)=Sum.inr b)=decide (a=b):=by
 by_cases e:a=b
 ·subst e; simp
 ·have h:¬ (Sum.inr a:Key)=Sum.inr b:=fun q=>e (Sum.inr.inj q)
  rw [decide_eq_false h,decide_eq_false e]
theorem key_lr (a:Int) (b:Str):decide ((Sum.inl a:Key)=Sum.inr b)=false:=decide_eq_false (fun q=>nomatch q)
theorem key_rl (a:Str) (b:Int):decide ((Sum.inr a:Key)=Sum.inl b)=false:=decide_eq_false (fun q=>nomatch q)

def mixKind (prog:Program) (w:World):PySem.KeyKind prog w Key where
 is:=keyIs
 hash:=keyH w
 inj:=fun v a b ha hb=>by
  rcases xL ha with ⟨i,t,rfl,rfl⟩ | ⟨x,t,rfl,rfl⟩
  ·rcases xL hb with ⟨j,u,rfl,e⟩ | ⟨y,u,rfl,e⟩
   ·injection e with e1 _; rw [e1]
   ·exact nomatch e
  ·rcases xL hb with ⟨j,u,rfl,e⟩ | ⟨y,u,rfl,e⟩
   ·exact nomatch e
   ·injection e with e1 _; rw [e1]
 byValue:=fun k v h=>by
  rcases xL h with ⟨i,t,rfl,rfl⟩ | ⟨x,t,rfl,rfl⟩ <;> rfl
 pyHash:=fun hv h=>by
  rcases xL hv with ⟨i,t,rfl,rfl⟩ | ⟨x,t,rfl,rfl⟩
  ·exact wpAny_pyHash_int h
  ·exact wpAny_pyHash_str h
 eqBool:=fun hu hv h=>by
  rcases xL hu with ⟨i,t,rfl,rfl⟩ | ⟨x,t,rfl,rfl⟩
  ·rcases xL hv with ⟨j,u,rfl,rfl⟩ | ⟨y,u,rfl,rfl⟩
   ·rw [key_ll] at h; exact wpAny_eqBool_int h
   ·rw [key_lr] at h; exact SeqAt.EqAt.int_str i t y u _ _ _ _ h
  ·rcases xL hv with ⟨j,u,rfl,rfl⟩ | ⟨y,u,rfl,rfl⟩
   ·rw [key_rl] at h; exact SeqAt.EqAt.str_int x t j u _ _ _ _ h
   ·rw [key_rr] at h; exact wpAny_eqBool_str h
 «strs» := fun k x t v h=>by
  rcases xL h with ⟨i,u,rfl,e⟩ | ⟨y,u,rfl,e⟩
  ·exact nomatch e
  ·injection e with e1 _
   subst e1
   cases v <;> rfl

theorem mixKind_int (prog:Program) (w:World) (i:Int) (t:Tok):(mixKind prog w).is (.inl i) (.int i t)=true:=keyIs_int i t
theorem mixKind_str (prog:Program) (w:World) (x:Str) (t:Tok):(mixKind prog w).is (.inr x) (.str x t)=true:=keyIs_str x t
end L2

namespace L2
open PySem PySem.Spec PyProof.Rows

inductive V where
 | non | bl (b:Bool) | int (i:Int) | str (x:Str) | byt (b:Array UInt8) | flt (b:UInt64) | ref (a:Addr) | ty (n:String)
 deriving DecidableEq

def RelV:V->Value->Prop
 | .non,u=>u=Value.none
 | .bl b,u=>u=Value.bool b
 | .int i,u=>∃ t,u=Value.int i t
 | .str x,u=>∃ t,u=Value.str x t
 | .byt b,u=>∃ t,u=Value.bytes b t
 | .flt b,u=>∃ t,u=Value.float b t
 | .ref a,u=>u=Value.ref a
 | .ty n,u=>u=Value.type n

abbrev Vals:List V->List Value->Prop:=Paired RelV
theorem Vals.length {xs:List V} {us:List Value} (r:Vals xs us):xs.length=us.length:=Paired.length r
theorem Vals.get:∀ {xs:List V} {us:List Value} {i:Nat} {x:V},Vals xs us->xs[i]? = some x->∃ u,us[i]? = some u/\RelV x u
 | _,_,_,_,.nil,e=>by simp at e
 | _,_,0,_,.cons r _,e=>by simp at e; subst e; exact ⟨_,rfl,r⟩
 | _,_,i+1,x,.cons _ t,e=>by
  obtain ⟨u,h1,h2⟩ := Vals.get (i:=i) (x:=x) t (by simpa using e)
  exact ⟨u,by simpa using h1,h2⟩
theorem Vals.set {x:V} {u:Value} (r:RelV x u):∀ {xs:List V} {us:List Value} (i:Nat),Vals xs us->Vals (xs.set i x) (us.set i u)
 | _,_,_,.nil => .nil
 | _,_,0,.cons _ t => .cons r t
 | _,_,i+1,.cons q t => .cons q (Vals.set r i t)
theorem Vals.append:∀ {xs ys:List V} {us ws:List Value},Vals xs us->Vals ys ws->Vals (xs++ys) (us++ws)
 | _,_,_,_,.nil,s=>s
 | _,_,_,_,.cons r t,s => .cons r (Vals.append t s)
theorem Vals.take:∀ {xs:List V} {us:List Value} (n:Nat),Vals xs us->Vals (xs.take n) (us.take n)
 | _,_,0,_ => .nil
 | _,_,_+1,.nil => .nil
 | _,_,n+1,.cons r t => .cons r (Vals.take n t)
theorem Vals.drop:∀ {xs:List V} {us:List Value} (n:Nat),Vals xs us->Vals (xs.drop n) (us.drop n)
 | _,_,0,r=>r
 | _,_,_+1,.nil => .nil
 | _,_,n+1,.cons _ t=>Vals.drop n t
def RelO:Option V->Option Value->Prop
 | some v,some u=>RelV v u
 | none,none=>True
 | _,_=>False
def KV {κ:Type}:List (κ × V)->List (κ × Value)->Prop:=Paired fun (p : κ × V) (q : κ × Value)=>p.1=q.1/\RelV p.2 q.2

def kV:Key->V
 | .inl i => .int i
 | .inr x => .str x

inductive HO where
 | lst (xs:List V)
 | tup (xs:List V)
 | dK (kvs:List (Key × V)) | dT (kvs:List (List Key × V))
 | set (S:Int->Bool) (n:Nat)
 | ins (C dx:Addr) (fs:List (Str × V))
 | own (x:Addr)
 | xd (fs:List (Str × V))
 | met (f x:Addr)
 | rng (lo hi:Int)
 | frz (o:Obj) (u:HO)
 | tbl (ps:Array Value)
 | ext (φ:Heap->Prop)

abbrev Hp:=Addr->Option HO
def upd (H:Hp) (a:Addr) (o:HO):Hp:=fun b=>if b=a then some o else H b
theorem zC {H:Hp} {a:Addr} {o:HO}:upd H a o a=some o:=by unfold upd; rw [if_pos rfl]
theorem zH {H:Hp} {a b:Addr} {o:HO} (h:b≠a):upd H a o b=H b:=by unfold upd; rw [if_neg h]
theorem qH {H:Hp} {a:Addr} {o u:HO}:upd (upd H a o) a u=upd H a u:=by
 funext b; unfold upd; split <;> rfl
theorem zG {H:Hp} {a b:Addr} {o:HO} (h:H a=some o) (h':H b=none):a≠b:=by
 intro e; subst e; rw [h] at h'; cases h'

section
variable (P:Program) (w:World)
def ObjOk (H:Hp) (h:Heap) (a:Addr):HO->Prop
 | .lst xs=>xs.length<=sizeLine/\∃ (its:List Value) (n:Nat),Vals xs its/\h.get? a=some { cls:=.type "list",data:=.seq its.toArray n }
 | .tup xs=>xs.length<=sizeLine/\∃ its:List Value,Vals xs its/\IsTup h a its.toArray
 | .dK kvs=>kvs.length<=sizeLine/\(a == sysModules)=false/\∃ vs,KV kvs vs/\h.DictOf (mixKind P w) a vs
 | .dT kvs=>kvs.length<=sizeLine/\(a == sysModules)=false/\∃ xs:List (List Key × Addr × Value),
   Paired (fun (p:List Key × V) (q:List Key × Addr × Value)=>p.1=q.1/\H q.2.1=some (.tup (p.1.map kV))/\RelV p.2 q.2.2) kvs xs /\
   ∃ o es ep,h.get? a=some o/\o.ExactDict/\o.data = .dict es ep/\es.toList=xs.map (entryOfKey (tupleKind (mixKind P w)))/\(xs.map (·.1)).Nodup
 | .set S n=>h.SetOf (intKind P w) a S n
 | .ins C dx fs=>H dx=some (.own a)/\fs.length<=1000/\dx≠a/\h.get? a=some (PySem.W.instObj C dx) /\
   ∃ mA,h.Ns1 dx mA/\(∀ f,RelO (fs.lookup f) (mA f))/\PySem.Within mA (fs.map (·.1))
 | .own _=>∃ o,h.get? a=some o
 | .xd fs=>∃ mA,h.Ns1 a mA/\∀ f,RelO (fs.lookup f) (mA f)
 | .rng lo hi=>∃ t u v,h.get? a=some { cls:=.type "range",data:=.fields #[.int lo t,.int hi u,.int 1 v] }
 | .frz o u=>h.get? a=some o/\ObjOk H h a u
 | .tbl ps=>h.get? a=some { cls:=.none,data:=.fields ps }
 | .met f x=>h.get? a=some (PySem.W.methodObj (.ref f) (.ref x))
 | .ext φ=>φ h/\(∃ o,h.get? a=some o)/\∀ h1 h2:Heap,φ h1->(∀ o,h1.get? a=some o->h2.get? a=some o)->φ h2
def HOk (H:Hp) (h:Heap):Prop:=∀ a o,H a=some o->ObjOk P w H h a o
end

section
variable {P:Program} {w:World} {H H':Hp} {h h':Heap} {a:Addr} {o:HO}
theorem ObjOk.lt (x:ObjOk P w H h a o):a<h.objs.size:=by
 cases o with
 | lst xs=>obtain ⟨_,_,_,_,e⟩ := x; exact Heap.lt_size e
 | tup xs=>obtain ⟨_,_,_,p⟩ := x; exact p.lt
 | dK kvs=>obtain ⟨_,_,_,_,o,_,_,e,_⟩ := x; exact Heap.lt_size e
 | dT kvs=>obtain ⟨_,_,_,_,o,_,_,e,_⟩ := x; exact Heap.lt_size e
 | set S n=>obtain ⟨o,_,_,_,e,_⟩ := x; exact Heap.lt_size e
 | ins C dx fs=>obtain ⟨_,_,_,e,_⟩ := x; exact Heap.lt_size e
 | own y=>obtain ⟨_,e⟩ := x; exact Heap.lt_size e
 | xd fs=>obtain ⟨_,⟨_,_,_,e,_⟩,_⟩ := x; exact Heap.lt_size e
 | rng lo hi=>obtain ⟨_,_,_,e⟩ := x; exact Heap.lt_size e
 | frz ob u=>obtain ⟨e,_⟩ := x; exact Heap.lt_size e
 | tbl ps=>exact Heap.lt_size (show h.get? a=some _ from x)
 | met f y=>exact Heap.lt_size (show h.get? a=some _ from x)
 | ext φ=>obtain ⟨_,⟨_,e⟩,_⟩ := x; exact Heap.lt_size e
theorem Paired.mapP {α β:Type} {F G : α->β->Prop}:∀ {l₁:List α} {l₂:List β},Paired F l₁ l₂->(∀ a b,F a b->G a b)->Paired G l₁ l₂
 | _,_,.nil,_ => .nil
 | _,_,.cons r t,f => .cons (f _ _ r) (Paired.mapP t f)
theorem ObjOk.stay (x:ObjOk P w H h a o) (k:∀ b u,(b=a\/H b=some (.own a))->h.get? b=some u->h'.get? b=some u)
  (ho:∀ b,H b=some (.own a)->H' b=some (.own a)) (ht:∀ b xs,H b=some (.tup xs)->H' b=some (.tup xs)):ObjOk P w H' h' a o:=by
 induction o with
 | lst xs=>obtain ⟨z,its,n,r,e⟩ := x; exact ⟨z,its,n,r,k _ _ (.inl rfl) e⟩
 | tup xs=>obtain ⟨z,its,r,ob,e,c⟩ := x; exact ⟨z,its,r,ob,k _ _ (.inl rfl) e,c⟩
 | dK kvs=>obtain ⟨z,y,vs,r,ob,es,ep,e,c⟩ := x; exact ⟨z,y,vs,r,ob,es,ep,k _ _ (.inl rfl) e,c⟩
 | dT kvs =>
  obtain ⟨z,y,xs,r,ob,es,ep,e,c⟩ := x
  exact ⟨z,y,xs,Paired.mapP r fun p q z=>⟨z.1,ht _ _ z.2.1,z.2.2⟩,ob,es,ep,k _ _ (.inl rfl) e,c⟩
 | set S n=>obtain ⟨ob,es,ep,t,e,c⟩ := x; exact ⟨ob,es,ep,t,k _ _ (.inl rfl) e,c⟩
 | ins C dx fs =>
  obtain ⟨d,z,ne,e,mA,⟨od,es,ep,e2,c⟩,r⟩ := x
  exact ⟨ho _ d,z,ne,k _ _ (.inl rfl) e,mA,⟨od,es,ep,k _ _ (.inr d) e2,c⟩,r⟩
 | own y=>obtain ⟨ob,e⟩ := x; exact ⟨ob,k _ _ (.inl rfl) e⟩
 | xd fs=>obtain ⟨mA,⟨od,es,ep,e,c⟩,r⟩ := x; exact ⟨mA,⟨od,es,ep,k _ _ (.inl rfl) e,c⟩,r⟩
 | rng lo hi=>obtain ⟨t,u,v,e⟩ := x; exact ⟨t,u,v,k _ _ (.inl rfl) e⟩
 | frz ob u ih=>obtain ⟨e,q⟩ := x; exact ⟨k _ _ (.inl rfl) e,ih q⟩
 | tbl ps =>
  have e:h.get? a=some { cls:=.none,data:=.fields ps }:=x
  show h'.get? a=some { cls:=.none,data:=.fields ps }
  exact k a _ (.inl rfl) e
 | met f y =>
  have e:h.get? a=some (PySem.W.methodObj (.ref f) (.ref y)):=x
  show h'.get? a=some (PySem.W.methodObj (.ref f) (.ref y))
  exact k a _ (.inl rfl) e
 | ext φ=>obtain ⟨p,⟨o,e⟩,st⟩ := x; exact ⟨st _ _ p fun o q=>k _ _ (.inl rfl) q,⟨o,k _ _ (.inl rfl) e⟩,st⟩
theorem HOk.lt (x:HOk P w H h) (e:H a=some o):a<h.objs.size:=(x a o e).lt
theorem HOk.fresh (x:HOk P w H h) (e:h.objs.size<=a):H a=none:=by
 cases q:H a with
 | none=>rfl
 | some u=>exact absurd (Nat.lt_of_lt_of_le (x.lt q) e) (Nat.lt_irrefl _)
theorem HOk.kept (x:HOk P w H h) (k:∀ b u,h.get? b=some u->h'.get? b=some u):HOk P w H h':=fun a o e =>
 (x a o e).stay (fun b u _ q=>k b u q) (fun _ q=>q) fun _ _ q=>q
theorem HOk.laid (x:HOk P w H h) (k:∀ b u,h.get? b=some u->h'.get? b=some u) (hp:h.objs.size<=a) (new:ObjOk P w (upd H a o) h' a o):HOk P w (upd H a o) h':=fun b u e=>by
 have hn:=x.fresh hp
 by_cases hb:b=a
 ·subst hb; rw [zC] at e; cases e; exact new
 ·rw [zH hb] at e
  exact (x b u e).stay (fun c v _ q=>k c v q) (fun c q=>by rw [zH (zG q hn)]; exact q) fun c xs q=>by rw [zH (zG q hn)]; exact q
end

def Rd (H:Hp) (a:Addr) (u:HO):Prop:=H a=some u\/∃ o,H a=some (.frz o u)
theorem Rd.ok {P:Program} {w:World} {H:Hp} {h:Heap} {a:Addr} {u:HO} (r:Rd H a u) (x:HOk P w H h):ObjOk P w H h a u:=by
 rcases r with r | ⟨o,r⟩
 ·exact x a u r
 ·obtain ⟨_,q⟩ := x a _ r
  exact q
def Mut:Option HO->Prop
 | some (.lst _)=>True
 | some (.dK _)=>True
 | some (.dT _)=>True
 | some (.set _ _)=>True
 | some (.ins _ _ _)=>True
 | some (.ext _)=>True
 | _=>False
section
variable {P:Program} {w:World} {H:Hp} {h h':Heap} {x e:Addr} {o':HO}
theorem HOk.write (ok:HOk P w H h) (mu:Mut (H x)) (he:e=x\/H e=some (.own x)) (k:∀ b u,b≠e->h.get? b=some u->h'.get? b=some u) (heo:∃ u,h'.get? e=some u)
  (new:ObjOk P w (upd H x o') h' x o'):HOk P w (upd H x o') h':=fun b u q=>by
 have nown:∀ c y,H c=some (.own y)->c≠x:=fun c y r z=>by subst z; rw [r] at mu; exact mu
 have ntup:∀ c xs,H c=some (.tup xs)->c≠x:=fun c xs r z=>by subst z; rw [r] at mu; exact mu
 by_cases hb:b=x
 ·subst hb; rw [zC] at q; cases q; exact new
 ·rw [zH hb] at q
  by_cases hbe:b=e
  ·have q':H b=some (.own x):=by
    rcases he with z | z
    ·exact absurd (hbe.trans z) hb
    ·rw [hbe]; exact z
   rw [q] at q'; cases q'
   obtain ⟨v,hv⟩ := heo
   exact ⟨v,by rw [hbe]; exact hv⟩
  ·refine (ok b u q).stay (fun c v hc r=>k c v ?_ r) (fun c r=>by rw [zH (nown c b r)]; exact r) fun c xs r=>by rw [zH (ntup c xs r)]; exact r
   rcases hc with rfl | hc
   ·exact hbe
   ·rintro rfl
    rcases he with z | z
    ·exact nown c b hc z
    ·rw [hc] at z; cases z; exact hb rfl
end

structure Un (fs ex:List Addr) (H H':Hp) (h h':Heap):Prop where
 keep:∀ b o,h.get? b=some o->H b=none->b ∉ fs->b ∉ ex->h'.get? b=some o
 slot:∀ b o,h.get? b=some o->H b=none->b∈fs->b ∉ ex->∃ sl,h'.get? b=some { o with slots:=sl }
 free:∀ b o,h.get? b=some o->H b=none->b ∉ ex->H' b=none
 there:∀ b o,h.get? b=some o->b ∉ ex->∃ o',h'.get? b=some o'
 tups:∀ b xs,H b=some (.tup xs)->H' b=some (.tup xs)
 frzs:∀ b o u,H b=some (.frz o u)->H' b=some (.frz o u)
 tbls:∀ b ps,H b=some (.tbl ps)->∃ more,H' b=some (.tbl (ps++more))
section
variable {fs fs' ex ex':List Addr} {H H1 H2:Hp} {h h1 h2 h':Heap} {a x e:Addr} {o:HO}
theorem Un.any (u:Un fs ex H H1 h h1) {b:Addr} {ob:Obj} (q:h.get? b=some ob) (n:H b=none) (hx:b ∉ ex):∃ sl,h1.get? b=some { ob with slots:=sl }:=by
 by_cases hb:b∈fs
 ·exact u.slot b ob q n hb hx
 ·exact ⟨ob.slots,u.keep b ob q n hb hx⟩
theorem Un.kept (k:∀ b u,h.get? b=some u->h'.get? b=some u):Un fs ex H H h h' :=
 ⟨fun b ob q _ _ _=>k b ob q,fun b ob q _ _ _=>⟨ob.slots,k b ob q⟩,fun _ _ _ n _=>n,fun b ob q _=>⟨ob,k b ob q⟩,fun _ _ q=>q,fun _ _ _ q=>q,fun _ ps q=>⟨#[],by rw [q]; simp⟩⟩
theorem Un.refl:Un fs ex H H h h:=Un.kept fun _ _ q=>q
theorem Un.laid (k:∀ b u,h.get? b=some u->h'.get? b=some u) (hp:h.objs.size<=a) (hn:H a=none):Un fs ex H (upd H a o) h h' where
 keep:=fun b u q _ _ _=>k b u q
 slot:=fun b u q _ _ _=>⟨u.slots,k b u q⟩
 free:=fun b u q n _=>by rw [zH (Nat.ne_of_lt (Nat.lt_of_lt_of_le (Heap.lt_size q) hp))]; exact n
 there:=fun b u q _=>⟨u,k b u q⟩
 tups:=fun b xs q=>by rw [zH (zG q hn)]; exact q
 frzs:=fun b u xs q=>by rw [zH (zG q hn)]; exact q
 tbls:=fun b ps q=>⟨#[],by rw [zH (zG q hn),q]; simp⟩
theorem Un.write (mu:Mut (H x)) (he:e=x\/H e=some (.own x)) (k:∀ b u,b≠e->h.get? b=some u->h'.get? b=some u) (heo:∃ u,h'.get? e=some u):Un fs ex H (upd H x o) h h':=by
 have hx:∀ b,H b=none->b≠x:=fun b n z=>by subst z; rw [n] at mu; exact mu
 have hb:∀ b,H b=none->b≠e:=fun b n z=>by
  subst z
  rcases he with r | r
  ·exact hx b n r
  ·rw [n] at r; cases r
 have hm:∀ b u,H b=some u->¬ Mut (some u)->b≠x:=fun b u q nm z=>by subst z; rw [q] at mu; exact nm mu
 refine ⟨fun b u q n _ _=>k b u (hb b n) q,fun b u q n _ _=>⟨u.slots,k b u (hb b n) q⟩,fun b u q n _=>by rw [zH (hx b n)]; exact n,fun b u q _ => ?_,
  fun b xs q=>by rw [zH (hm b _ q fun z=>z)]; exact q,fun b u xs q=>by rw [zH (hm b _ q fun z=>z)]; exact q,fun b ps q=>⟨#[],by rw [zH (hm b _ q fun z=>z),q]; simp⟩⟩
 by_cases hbe:b=e
 ·subst hbe; exact heo
 ·exact ⟨u,k b u hbe q⟩
end

def trk (h:Heap) (H:Hp):List Addr:=(List.range h.objs.size).filter fun a=>(H a).isSome
def hidT (h:Heap) (H:Hp):Heap:=PySem.W.hideAll h (trk h H)
theorem hidT_size (h:Heap) (H:Hp):(hidT h H).objs.size=h.objs.size:=PySem.W.hideAll_size _ _
theorem hidT_get {h:Heap} {H:Hp} {b:Addr} {o:Obj} (e:h.get? b=some o) (n:H b=none):(hidT h H).get? b=some o :=
 PySem.W.hideAll_get _ e fun hm=>by
  have q:(H b).isSome=true:=(List.mem_filter.mp hm).2
  rw [n] at q; simp at q
theorem of_hidT {h:Heap} {H:Hp} {b:Addr} {o:Obj} (e:(hidT h H).get? b=some o):h.get? b=some o/\H b=none:=by
 have e':h.get? b=some o:=PySem.W.of_hideAll (trk h H) e
 refine ⟨e',?_⟩
 cases q:H b with
 | none=>rfl
 | some x =>
  have hm:b∈trk h H:=List.mem_filter.mpr ⟨List.mem_range.mpr (Heap.lt_size e'),by simp [q]⟩
  have z:(hidT h H).get? b=none:=PySem.W.hideAll_none (trk h H) hm
  rw [z] at e; cases e

def allNews (g h:Heap) (L:Addr):List (Addr × Obj):=(List.range h.objs.size).filterMap fun a=>if a=L\/(g.get? a).isSome=true then none else (h.get? a).map fun o=>(a,o)
def rest (g h:Heap) (L d:Addr):List (Addr × Obj):=(allNews g h L).filter fun p=>decide (p.1≠d)
end L2

namespace L2
open PySem PySem.Spec PyProof.Rows

structure Mod (K:PySem.W.Frag) (mg:Str->Option Value) (base:Heap):Prop where
 kin:K.In base
 glob:base.Ns mainGlobals mg
 blt:∃ mb,base.Ns builtinsNs mb/\∀ x:Str,x ≠ "__name__" -> mb x=bootBuiltins x
 nolimit:base.NoLimit

structure Cx where
 prog:Program
 w:World
 K:PySem.W.Frag
 mg:Str->Option Value
 base:Heap
 A:Around
 N:List Str
 s₀:Shared
 H₀:Hp
 env:Env
 outer:List Env
 stack:List Env
 ex:List Addr
 fn:Str->Bool
 calm:Bool
 pn:List (Addr × Obj)
 xe:Value->Shared->Prop
def frs (l:List Env):List Addr:=l.filterMap (·.frame)
abbrev Cx.fs (X:Cx):List Addr:=frs X.outer

def Vis (sc:Scope) (x:Str):Prop:=sc.names.lookup x=some .local\/sc.names.lookup x=some .cell\/sc.names.lookup x=some .free
def Loc (sc:Scope) (x:Str):Prop:=sc.names.lookup x=some .local\/sc.names.lookup x=some .cell
def Look (env:Env) (h:Heap) (m:Str->Option Value) (x:Str) (u:Value):Prop :=
 (env.kindOf x=some .local/\m x=some u)\/((env.kindOf x=some .cell\/env.kindOf x=some .free)/\∃ c,env.cells.lookup x=some c/\h.IsCell c (some u))

structure Cx.Ok (X:Cx):Prop where
 mod:Mod X.K X.mg X.base
 kind:X.env.scope.kind = .function
 glob:X.env.globals=mainGlobals
 blt:X.env.builtins=builtinsNs
 above:X.s₀.heap.objs.size<=X.env.locals
 inj:∀ x y c,X.env.cells.lookup x=some c->X.env.cells.lookup y=some c->x=y
 has:∀ x,(X.env.kindOf x=some .cell\/X.env.kindOf x=some .free)->∃ c,X.env.cells.lookup x=some c
 cab:∀ x c,X.fn x=true->X.env.cells.lookup x=some c->X.s₀.heap.objs.size<=c
 hd:X.calm=true->X.A.handled=none
 frames:X.A.frames=some X.stack
 stk:X.stack=X.outer\/(X.stack=X.env :: X.outer/\X.env.frame=some X.env.locals)
 exf:∀ b∈X.ex,b≠X.env.locals/\∀ x c,X.env.cells.lookup x=some c->c≠b
 bs:∀ b o,X.base.get? b=some o->X.s₀.heap.get? b=some o/\X.H₀ b=none
 bsz:X.base.objs.size<=X.s₀.heap.objs.size
 noex:∀ b o,X.base.get? b=some o->b ∉ X.ex
 exfs:∀ b∈X.ex,b ∉ X.fs
 funs:X.s₀.heap.FunFrames X.base X.outer
 frf:∀ b∈X.fs,X.H₀ b=none

structure Inv (X:Cx) (pins:List (Addr × Obj)) (σ:List (Option V)) (H:Hp) (s:Shared):Prop where
 ok:X.Ok
 os:s.os=X.s₀.os
 bare:AllBare s.gens
 base:Un X.fs X.ex X.H₀ H X.s₀.heap s.heap
 loc:∃ m,s.heap.Ns X.env.locals m/\∀ (i:Nat) (x:Str) (v:V),X.N[i]? = some x->σ[i]? = some (some v)->Vis X.env.scope x->∃ u,RelV v u/\Look X.env s.heap m x u
 cell:∀ x c,X.env.cells.lookup x=some c->∃ v,s.heap.IsCell c v
 free:H X.env.locals=none
 freeC:∀ x c,X.env.cells.lookup x=some c->H c=none
 pin:∀ p∈X.pn++pins,s.heap.get? p.1=some p.2/\H p.1=none/\p.1≠X.env.locals/\p.1 ∉ X.fs/\∀ v,p.2.data ≠ .cell v
 hok:HOk X.prog X.w H s.heap
 len : σ.length=X.N.length

section
variable {X:Cx} {pins:List (Addr × Obj)} {σ:List (Option V)} {H H':Hp} {s:Shared} {h':Heap}

theorem Cx.Ok.nofr (ok:X.Ok) {b:Addr} {o:Obj} (e:X.base.get? b=some o):b ∉ X.fs:=fun hb=>by
 have:=(ok.funs.mem hb).1
 rw [e] at this; cases this
theorem Inv.bs (I:Inv X pins σ H s):∀ b o,X.base.get? b=some o->s.heap.get? b=some o/\H b=none:=fun b o e =>
 ⟨I.base.keep b o (I.ok.bs b o e).1 (I.ok.bs b o e).2 (I.ok.nofr e) (I.ok.noex b o e),I.base.free b o (I.ok.bs b o e).1 (I.ok.bs b o e).2 (I.ok.noex b o e)⟩
theorem Inv.bk (I:Inv X pins σ H s):∀ b o,X.base.get? b=some o->s.heap.get? b=some o:=fun b o e=>(I.bs b o e).1
theorem Inv.mod (I:Inv X pins σ H s):Mod X.K X.mg X.base:=I.ok.mod
theorem Inv.kIn (I:Inv X pins σ H s):X.K.In s.heap:=I.ok.mod.kin.keeps I.bk
theorem Inv.lt (I:Inv X pins σ H s):X.env.locals<s.heap.objs.size:=let ⟨_,hn,_⟩ := I.loc; hn.lt
theorem Inv.sz (I:Inv X pins σ H s):X.s₀.heap.objs.size<=s.heap.objs.size:=Nat.le_trans I.ok.above (Nat.le_of_lt I.lt)
theorem Inv.nofs (I:Inv X pins σ H s) {a:Addr} (h:s.heap.objs.size<=a):a ∉ X.fs:=fun hb=>by
 obtain ⟨_,o,ho,_⟩ := I.ok.funs.mem hb
 exact absurd (Nat.lt_of_lt_of_le (Heap.lt_size ho) (Nat.le_trans I.sz h)) (Nat.lt_irrefl _)
theorem Inv.cne (I:Inv X pins σ H s):∀ x c,X.env.cells.lookup x=some c->c≠X.env.locals:=fun x c e z=>by
 obtain ⟨v,o,ho,hd⟩ := I.cell x c e
 obtain ⟨m,⟨o',es,ep,ho',hd',_⟩,_⟩ := I.loc
 rw [z,ho'] at ho; cases ho; rw [hd'] at hd; cases hd
theorem Inv.funs (I:Inv X pins σ H s):s.heap.FunFrames X.base X.outer:=by
 have all:∀ (l:List Env),(∀ b∈frs l,b∈X.fs)->X.s₀.heap.FunFrames X.base l->s.heap.FunFrames X.base l:=by
  intro l
  induction l with
  | nil=>intro _ _; trivial
  | cons env r ih =>
   intro hs hl
   obtain ⟨hk,⟨L,o,hf,hn,ho,hd⟩,hr⟩ := hl
   have hL:L∈X.fs:=hs L (by unfold frs; rw [List.filterMap_cons,hf]; exact List.mem_cons_self)
   obtain ⟨sl,e⟩ := I.base.slot L o ho (I.ok.frf L hL) hL fun z=>I.ok.exfs L z hL
   exact ⟨hk,⟨L,_,hf,hn,e,hd⟩,ih (fun b hb=>hs b (by unfold frs; rw [List.filterMap_cons,hf]; exact List.mem_cons_of_mem _ hb)) hr⟩
 exact all X.outer (fun _ hb=>hb) I.ok.funs

theorem Inv.stack (I:Inv X pins σ H s):s.heap.FunFrames X.base X.stack:=by
 rcases I.ok.stk with e | ⟨e,hf⟩
 ·rw [e]; exact I.funs
 ·rw [e]
  obtain ⟨m,hn,_⟩ := I.loc
  refine .cons (by rw [I.ok.kind]; decide) hf hn ?_ I.funs
  exact Heap.get?_none_of_le (Nat.le_trans I.ok.bsz I.ok.above)
theorem Inv.stkSub (I:Inv X pins σ H s):∀ b∈frs X.stack,b∈X.env.locals :: X.fs:=fun b hb=>by
 rcases I.ok.stk with e | ⟨e,hf⟩
 ·rw [e] at hb; exact List.mem_cons_of_mem _ hb
 ·rw [e] at hb
  unfold frs at hb
  rw [List.filterMap_cons,hf] at hb
  exact hb
theorem Inv.stkFree (I:Inv X pins σ H s):∀ b∈frs X.stack,H b=none:=fun b hb=>by
 rcases List.mem_cons.mp (I.stkSub b hb) with e | hb
 ·rw [e]; exact I.free
 ·obtain ⟨_,o,ho,_⟩ := I.ok.funs.mem hb
  exact I.base.free b o ho (I.ok.frf b hb) fun z=>I.ok.exfs b z hb

theorem Inv.step {g':Array GenState} {t':Nat} {d':Drawn} {ch:List Addr} (I:Inv X pins σ H s)
  (hch:∀ b∈ch,(b∈X.ex\/X.s₀.heap.objs.size<=b)/\b≠X.env.locals/\(∀ x c,X.env.cells.lookup x=some c->c≠b)/\∀ p∈X.pn++pins,p.1≠b)
  (keep:∀ b o,b≠X.env.locals->b ∉ X.fs->b ∉ ch->s.heap.get? b=some o->H b=none->h'.get? b=some o)
  (slot:∀ b o,b≠X.env.locals->b∈X.fs->b ∉ ch->s.heap.get? b=some o->H b=none->∃ sl,h'.get? b=some { o with slots:=sl }) (free:∀ b o,b ∉ ch->s.heap.get? b=some o->H b=none->H' b=none)
  (there:∀ b o,b ∉ ch->s.heap.get? b=some o->∃ o',h'.get? b=some o')
  (tups:∀ b xs,H b=some (.tup xs)->H' b=some (.tup xs)) (frzs:∀ b o u,H b=some (.frz o u)->H' b=some (.frz o u)) (tbls:∀ b ps,H b=some (.tbl ps)->∃ more,H' b=some (.tbl (ps++more)))
  (ns:∀ m,s.heap.Ns X.env.locals m->h'.Ns X.env.locals m) (hok:HOk X.prog X.w H' h') (hg:AllBare g') :
  Inv X pins σ H' { s with heap:=h',gens:=g',drawn:=d',toks:=t' }:=by
 have neL:∀ b o,X.s₀.heap.get? b=some o->b≠X.env.locals:=fun b o e=>Nat.ne_of_lt (Nat.lt_of_lt_of_le (Heap.lt_size e) I.ok.above)
 have neC:∀ b o,X.s₀.heap.get? b=some o->b ∉ X.ex->b ∉ ch:=fun b o e hx hb=>by
  rcases (hch b hb).1 with z | z
  ·exact hx z
  ·exact absurd (Nat.lt_of_lt_of_le (Heap.lt_size e) z) (Nat.lt_irrefl _)
 have cellK:∀ x c,X.env.cells.lookup x=some c->∀ v,s.heap.IsCell c v->h'.IsCell c v:=fun x c e v ⟨o,ho,hd⟩=>by
  have nch:c ∉ ch:=fun z=>(hch c z).2.2.1 x c e rfl
  by_cases hc:c∈X.fs
  ·obtain ⟨sl,q⟩ := slot c o (I.cne x c e) hc nch ho (I.freeC x c e)
   exact ⟨_,q,hd⟩
  ·exact ⟨o,keep c o (I.cne x c e) hc nch ho (I.freeC x c e),hd⟩
 refine ⟨I.ok,I.os,hg,⟨fun b o e n hb hx => ?_,fun b o e n hb hx => ?_,fun b o e n hx => ?_,fun b o e hx => ?_,fun b xs e=>tups b xs (I.base.tups b xs e),fun b o xs e=>frzs b o xs (I.base.frzs b o xs e),fun b ps e => ?_⟩,?_,fun x c e => ?_,?_,fun x c e => ?_,fun p hp => ?_,hok,I.len⟩
 ·exact keep b o (neL b o e) hb (neC b o e hx) (I.base.keep b o e n hb hx) (I.base.free b o e n hx)
 ·obtain ⟨sl,e1⟩ := I.base.slot b o e n hb hx
  obtain ⟨sl',e2⟩ := slot b _ (neL b o e) hb (neC b o e hx) e1 (I.base.free b o e n hx)
  exact ⟨sl',e2⟩
 ·obtain ⟨o',e1⟩ := I.base.there b o e hx
  exact free b o' (neC b o e hx) e1 (I.base.free b o e n hx)
 ·obtain ⟨o',e1⟩ := I.base.there b o e hx
  exact there b o' (neC b o e hx) e1
 ·obtain ⟨m1,e1⟩ := I.base.tbls b ps e
  obtain ⟨m2,e2⟩ := tbls b _ e1
  exact ⟨m1++m2,by rw [e2,Array.append_assoc]⟩
 ·obtain ⟨m,hn,hl⟩ := I.loc
  refine ⟨m,ns m hn,fun i x v e1 e2 e3 => ?_⟩
  obtain ⟨u,r,l⟩ := hl i x v e1 e2 e3
  refine ⟨u,r,?_⟩
  rcases l with l | ⟨k,c,e,z⟩
  ·exact .inl l
  ·exact .inr ⟨k,c,e,cellK x c e _ z⟩
 ·obtain ⟨v,z⟩ := I.cell x c e
  exact ⟨v,cellK x c e v z⟩
 ·obtain ⟨m,⟨o,_,_,ho,_⟩,_⟩ := I.loc
  exact free _ o (fun z=>(hch _ z).2.1 rfl) ho I.free
 ·obtain ⟨v,o,ho,hd⟩ := I.cell x c e
  exact free c o (fun z=>(hch c z).2.2.1 x c e rfl) ho (I.freeC x c e)
 ·obtain ⟨e,n,ne,nf,d⟩ := I.pin p hp
  have nch:p.1 ∉ ch:=fun z=>(hch p.1 z).2.2.2 p hp rfl
  exact ⟨keep p.1 p.2 ne nf nch e n,free p.1 p.2 nch e n,ne,nf,d⟩
theorem Inv.un {t':Nat} (I:Inv X pins σ H s) (u:Un X.fs [] H H' s.heap h') (hok:HOk X.prog X.w H' h'):Inv X pins σ H' { s with heap:=h',toks:=t' }:=by
 obtain ⟨m,⟨o,es,ep,ho,r⟩,_⟩ := id I.loc
 obtain ⟨sl,hL⟩ := u.any ho I.free (by simp)
 exact I.step (g':=s.gens) (d':=s.drawn) (ch:=[]) (fun _ z=>nomatch z) (fun b o _ hb _ e n=>u.keep b o e n hb (by simp)) (fun b o _ hb _ e n=>u.slot b o e n hb (by simp)) (fun b o _ e n=>u.free b o e n (by simp)) (fun b o _ e=>u.there b o e (by simp)) u.tups u.frzs u.tbls (fun m' hm=>by
  obtain ⟨o',es',ep',ho',r'⟩ := hm
  rw [ho] at ho'; cases ho'
  exact ⟨_,es',ep',hL,r'⟩) hok I.bare
theorem Inv.call {g':Array GenState} {t':Nat} {d':Drawn} {ch:List Addr} (I:Inv X pins σ H s) (u:Un (frs X.stack) ch H H' s.heap h') (hok:HOk X.prog X.w H' h') (hg:AllBare g')
  (hch:∀ b∈ch,(b∈X.ex\/X.s₀.heap.objs.size<=b)/\b≠X.env.locals/\(∀ x c,X.env.cells.lookup x=some c->c≠b)/\∀ p∈X.pn++pins,p.1≠b) :
  Inv X pins σ H' { s with heap:=h',gens:=g',drawn:=d',toks:=t' }:=by
 obtain ⟨m,⟨o,es,ep,ho,r⟩,_⟩ := id I.loc
 obtain ⟨sl,hL⟩ := u.any ho I.free fun z=>(hch _ z).2.1 rfl
 exact I.step (ch:=ch) hch (fun b o hL hb hc e n=>u.keep b o e n (fun z=>(List.mem_cons.mp (I.stkSub b z)).elim hL hb) hc) (fun b o _ _ hc e n=>u.any e n hc) (fun b o hc e n=>u.free b o e n hc) (fun b o hc e=>u.there b o e hc) u.tups u.frzs u.tbls (fun m' hm=>by
  obtain ⟨o',es',ep',ho',r'⟩ := hm
  rw [ho] at ho'; cases ho'
  exact ⟨_,es',ep',hL,r'⟩) hok hg
theorem Inv.turned {t':Nat} {it:Addr} (I:Inv X pins σ H s) (k:∀ b o,b≠it->s.heap.get? b=some o->h'.get? b=some o) (hn:H it=none) (hL:it≠X.env.locals)
  (h1:it∈X.ex\/X.s₀.heap.objs.size<=it) (h2:∀ x c,X.env.cells.lookup x=some c->c≠it) (h3:∀ p∈X.pn++pins,p.1≠it):Inv X pins σ H { s with heap:=h',toks:=t' }:=by
 have nit:∀ b u,H b=some u->b≠it:=fun b u e z=>by rw [z,hn] at e; cases e
 refine I.step (g':=s.gens) (d':=s.drawn) (ch:=[it]) (fun b hb => ?_) (fun b o _ _ hc e _=>k b o (fun z=>hc (by simp [z])) e) (fun b o _ _ hc e _=>⟨o.slots,k b o (fun z=>hc (by simp [z])) e⟩) (fun _ _ _ _ n=>n)
  (fun b o hc e=>⟨o,k b o (fun z=>hc (by simp [z])) e⟩) (fun _ _ e=>e) (fun _ _ _ e=>e) (fun b ps e=>⟨#[],by rw [e]; simp⟩) (fun m hm => ?_) (fun b u e => ?_) I.bare
 ·have e:b=it:=by simpa using hb
  subst e
  exact ⟨h1,hL,h2,h3⟩
 ·obtain ⟨o,es,ep,ho,r⟩ := hm
  exact ⟨o,es,ep,k _ o (Ne.symm hL) ho,r⟩
 ·refine (I.hok b u e).stay (fun c v hc q=>k c v ?_ q) (fun _ q=>q) fun _ _ q=>q
  rcases hc with z | z
  ·rw [z]; exact nit b u e
  ·exact nit c _ z
theorem Inv.tok (I:Inv X pins σ H s) (t:Nat):Inv X pins σ H { s with toks:=t }:=I.un (h':=s.heap) (t':=t) Un.refl I.hok
theorem Inv.kept {t':Nat} (I:Inv X pins σ H s) (k:∀ b u,s.heap.get? b=some u->h'.get? b=some u):Inv X pins σ H { s with heap:=h',toks:=t' }:=I.un (Un.kept k) (I.hok.kept k)
theorem Inv.laid {a:Addr} {o:HO} {t':Nat} (I:Inv X pins σ H s) (k:∀ b u,s.heap.get? b=some u->h'.get? b=some u) (hp:s.heap.objs.size<=a) (new:ObjOk X.prog X.w (upd H a o) h' a o) :
  Inv X pins σ (upd H a o) { s with heap:=h',toks:=t' }:=I.un (Un.laid k hp (I.hok.fresh hp)) (I.hok.laid k hp new)
theorem Inv.write {x e:Addr} {o:HO} {t':Nat} (I:Inv X pins σ H s) (mu:Mut (H x)) (he:e=x\/H e=some (.own x)) (k:∀ b u,b≠e->s.heap.get? b=some u->h'.get? b=some u) (heo:∃ u,h'.get? e=some u)
  (new:ObjOk X.prog X.w (upd H x o) h' x o):Inv X pins σ (upd H x o) { s with heap:=h',toks:=t' }:=I.un (Un.write mu he k heo) (I.hok.write mu he k heo new)
theorem Inv.pins_of {pins':List (Addr × Obj)} (I:Inv X pins σ H s) (h:∀ p∈pins',s.heap.get? p.1=some p.2/\H p.1=none/\p.1≠X.env.locals/\p.1 ∉ X.fs/\∀ v,p.2.data ≠ .cell v):Inv X pins' σ H s :=
 ⟨I.ok,I.os,I.bare,I.base,I.loc,I.cell,I.free,I.freeC,fun p hp=>(List.mem_append.mp hp).elim (fun z=>I.pin p (List.mem_append_left _ z)) (h p),I.hok,I.len⟩

theorem nodup_ix {N:List Str} (hN:N.Nodup) {i j:Nat} {x:Str} (a:N[i]? = some x) (b:N[j]? = some x):i=j:=by
 obtain ⟨h1,e1⟩ := List.getElem?_eq_some_iff.mp a
 obtain ⟨h2,e2⟩ := List.getElem?_eq_some_iff.mp b
 exact (List.getElem_inj hN).mp (e1.trans e2.symm)

theorem store_ok2 {M:Model} {A:Around} {E:Value->Shared->Prop} {i:Nat} {x:Str} {v:V} {u:Value} {Q:Unit->Shared->Prop} (I:Inv X pins σ H s) (hN:X.N.Nodup) (hi:X.N[i]? = some x) (hx:Loc X.env.scope x) (r:RelV v u)
  (h:∀ s',Inv X pins (σ.set i (some v)) H s'->(∃ a,Heap.SameBut a s.heap s'.heap/\(a=X.env.locals\/X.env.cells.lookup x=some a))->Q () s') (hf:X.fn x=true\/X.env.scope.names.lookup x=some .local:=by first | exact .inl rfl | exact .inr rfl | assumption):wpAny M A (storeName X.env x u) Q E s:=by
 obtain ⟨m,hn,hl⟩ := id I.loc
 have hcls:(X.env.scope.kind == .class || (X.env.scope.kind == .module && X.env.locals != X.env.globals))=false:=by rw [I.ok.kind]; rfl
 have hiσ:i<σ.length:=by rw [I.len]; exact (List.getElem?_eq_some_iff.mp hi).1
 have cne:=I.cne
 have tracked:∀ {a:Addr} {h':Heap},(∃ o,s.heap.get? a=some o/\H a=none)->Heap.SameBut a s.heap h'->HOk X.prog X.w H h':=fun {a h'} ha hs b ob e=>by
  obtain ⟨_,_,hfree⟩ := ha
  refine (I.hok b ob e).stay (fun c w' hc q=>(hs.2 c ?_).trans q) (fun _ q=>q) fun _ _ q=>q
  rintro rfl
  rcases hc with rfl | hc
  ·rw [hfree] at e; cases e
  ·rw [hfree] at hc; cases hc
 rcases hx with hk | hk
 ·refine wpAny_storeName_local hk hn (fun h' hn' hs => ?_) hcls
  obtain ⟨oL,_,_,hoL,_⟩ := id hn
  refine h _ ⟨I.ok,I.os,I.bare,⟨fun b o e n hb hx => ?_,fun b o e n hb hx => ?_,I.base.free,fun b o e hx => ?_,I.base.tups,I.base.frzs,I.base.tbls⟩,⟨_,hn',fun j y v' e1 e2 e3 => ?_⟩,fun y c e => ?_,I.free,I.freeC,fun p hp => ?_,tracked ⟨oL,hoL,I.free⟩ hs,by simpa using I.len⟩ ⟨_,hs,.inl rfl⟩
  ·exact (hs.2 b (Nat.ne_of_lt (Nat.lt_of_lt_of_le (Heap.lt_size e) I.ok.above))).trans (I.base.keep b o e n hb hx)
  ·obtain ⟨sl,e1⟩ := I.base.slot b o e n hb hx
   exact ⟨sl,(hs.2 b (Nat.ne_of_lt (Nat.lt_of_lt_of_le (Heap.lt_size e) I.ok.above))).trans e1⟩
  ·obtain ⟨o',e1⟩ := I.base.there b o e hx
   exact ⟨o',(hs.2 b (Nat.ne_of_lt (Nat.lt_of_lt_of_le (Heap.lt_size e) I.ok.above))).trans e1⟩
  ·by_cases hj:j=i
   ·subst hj
    rw [hi] at e1; cases e1
    rw [List.getElem?_set_self hiσ] at e2
    cases e2
    exact ⟨u,r,.inl ⟨hk,by simp⟩⟩
   ·rw [List.getElem?_set_ne (Ne.symm hj)] at e2
    obtain ⟨u',r',q⟩ := hl j y v' e1 e2 e3
    refine ⟨u',r',?_⟩
    rcases q with ⟨k,e⟩ | ⟨k,c,e,z⟩
    ·refine .inl ⟨k,?_⟩
     have:y≠x:=fun e=>hj (nodup_ix hN e1 (e ▸ hi))
     simp [this,e]
    ·exact .inr ⟨k,c,e,z.sameBut hs (cne y c e)⟩
  ·obtain ⟨w',z⟩ := I.cell y c e
   exact ⟨w',z.sameBut hs (cne y c e)⟩
  ·obtain ⟨e,n,ne,nf,d⟩ := I.pin p hp
   exact ⟨(hs.2 p.1 ne).trans e,n,ne,nf,d⟩
 ·have hfn:X.fn x=true:=by
   rcases hf with z | z
   ·exact z
   ·rw [z] at hk; cases hk
  obtain ⟨c,hc⟩ := I.ok.has x (.inl hk)
  obtain ⟨w',z⟩ := I.cell x c hc
  refine wpAny_storeName_cell I.ok.kind hk hc z (fun h' hc' hs => ?_)
  obtain ⟨oc,hoc,hocd⟩ := id z
  refine h { s with heap:=h' } ⟨I.ok,I.os,I.bare,⟨fun b o e n hb hx => ?_,fun b o e n hb hx => ?_,I.base.free,fun b o e hx => ?_,I.base.tups,I.base.frzs,I.base.tbls⟩,⟨m,hn.sameBut hs (Ne.symm (cne x c hc)),fun j y v' e1 e2 e3 => ?_⟩,fun y c' e => ?_,I.free,I.freeC,fun p hp => ?_,tracked ⟨oc,hoc,I.freeC x c hc⟩ hs,by simpa using I.len⟩ ⟨c,hs,.inr hc⟩
  ·exact (hs.2 b (Nat.ne_of_lt (Nat.lt_of_lt_of_le (Heap.lt_size e) (I.ok.cab x c hfn hc)))).trans (I.base.keep b o e n hb hx)
  ·obtain ⟨sl,e1⟩ := I.base.slot b o e n hb hx
   exact ⟨sl,(hs.2 b (Nat.ne_of_lt (Nat.lt_of_lt_of_le (Heap.lt_size e) (I.ok.cab x c hfn hc)))).trans e1⟩
  ·obtain ⟨o',e1⟩ := I.base.there b o e hx
   exact ⟨o',(hs.2 b (Nat.ne_of_lt (Nat.lt_of_lt_of_le (Heap.lt_size e) (I.ok.cab x c hfn hc)))).trans e1⟩
  ·by_cases hj:j=i
   ·subst hj
    rw [hi] at e1; cases e1
    rw [List.getElem?_set_self hiσ] at e2
    cases e2
    exact ⟨u,r,.inr ⟨.inl hk,c,hc,hc'⟩⟩
   ·rw [List.getElem?_set_ne (Ne.symm hj)] at e2
    obtain ⟨u',r',q⟩ := hl j y v' e1 e2 e3
    refine ⟨u',r',?_⟩
    rcases q with q | ⟨k,c',e,z'⟩
    ·exact .inl q
    ·refine .inr ⟨k,c',e,z'.sameBut hs ?_⟩
     rintro rfl
     exact hj (nodup_ix hN e1 (I.ok.inj _ _ _ e hc ▸ hi))
  ·by_cases hcc:c'=c
   ·subst hcc; exact ⟨_,hc'⟩
   ·obtain ⟨w2,z2⟩ := I.cell y c' e
    exact ⟨w2,z2.sameBut hs hcc⟩
  ·obtain ⟨e,n,ne,nf,d⟩ := I.pin p hp
   refine ⟨(hs.2 p.1 ?_).trans e,n,ne,nf,d⟩
   intro q
   rw [q,hoc] at e
   have q':oc=p.2:=Option.some.inj e
   exact d w' (by rw [<- q']; exact hocd)
theorem store_ok {M:Model} {A:Around} {E:Value->Shared->Prop} {i:Nat} {x:Str} {v:V} {u:Value} {Q:Unit->Shared->Prop} (I:Inv X pins σ H s) (hN:X.N.Nodup) (hi:X.N[i]? = some x) (hx:Loc X.env.scope x) (r:RelV v u)
  (h:∀ s',Inv X pins (σ.set i (some v)) H s'->Q () s') (hf:X.fn x=true\/X.env.scope.names.lookup x=some .local:=by first | exact .inl rfl | exact .inr rfl | assumption):wpAny M A (storeName X.env x u) Q E s :=
 store_ok2 I hN hi hx r (fun s' I' _=>h s' I') hf
theorem Inv.call' {s':Shared} {ch:List Addr} (I:Inv X pins σ H s) (ho:s'.os=s.os) (u:Un (frs X.stack) ch H H' s.heap s'.heap) (hok:HOk X.prog X.w H' s'.heap) (hg:AllBare s'.gens)
  (hch:∀ b∈ch,(b∈X.ex\/X.s₀.heap.objs.size<=b)/\b≠X.env.locals/\(∀ x c,X.env.cells.lookup x=some c->c≠b)/\∀ p∈X.pn++pins,p.1≠b):Inv X pins σ H' s':=by
 obtain ⟨h',g',d',t',o'⟩ := s'
 have e:o'=s.os:=ho
 subst e
 exact I.call (g':=g') (t':=t') (d':=d') u hok hg hch
end

abbrev XK:=Value->Option Addr->Hp->Prop
abbrev St:=List (Option V)
abbrev VK:=V->Hp->Prop
abbrev TE:=St->Hp->VK->Prop
abbrev TT:=St->Hp->(Bool->Hp->Prop)->Prop
abbrev TA:=St->Hp->(List V->Hp->Prop)->Prop
structure Ends where
 nx:St->Hp->Prop
 rt:VK
 bk:St->Hp->Prop:=fun _ _=>False
 ct:St->Hp->Prop:=fun _ _=>False
abbrev TS:=Ends->St->Hp->Prop

def EP (X:Cx) (pins:List (Addr × Obj)) (σ:St) (Q:VK) (u:Value) (s':Shared):Prop:=∃ v H',Inv X pins σ H' s'/\RelV v u/\Q v H'
def TP (X:Cx) (pins:List (Addr × Obj)) (σ:St) (Q:Bool->Hp->Prop) (b:Bool) (s':Shared):Prop:=∃ H',Inv X pins σ H' s'/\Q b H'
def AP (X:Cx) (pins:List (Addr × Obj)) (σ:St) (Q:List V->Hp->Prop) (us:List Value) (s':Shared):Prop:=∃ vs H',Inv X pins σ H' s'/\Vals vs us/\Q vs H'
def SP (X:Cx) (pins:List (Addr × Obj)) (D:Ends) (f:Flow) (s':Shared):Prop :=
 match f with
 | .next=>∃ σ' H',Inv X pins σ' H' s'/\D.nx σ' H'
 | .brk=>∃ σ' H',Inv X pins σ' H' s'/\D.bk σ' H'
 | .cont=>∃ σ' H',Inv X pins σ' H' s'/\D.ct σ' H'
 | .ret u=>∃ v σ' H',Inv X pins σ' H' s'/\RelV v u/\D.rt v H'

structure PE (X:Cx) (e:Expr) (t:TE)  : Prop where
 go:∀ (pins:List (Addr × Obj)) (s:Shared) (σ:St) (H:Hp) (Q:VK),Inv X pins σ H s->t σ H Q->wpAny (model X.prog X.w) X.A (eval e X.env) (EP X pins σ Q) X.xe s
instance {X:Cx} {e:Expr} {t:TE}:CoeFun (PE X e t) (fun _=>∀ (pins:List (Addr × Obj)) (s:Shared) (σ:St) (H:Hp) (Q:VK),Inv X pins σ H s->t σ H Q->wpAny (model X.prog X.w) X.A (eval e X.env) (EP X pins σ Q) X.xe s):=⟨PE.go⟩
structure PT (X:Cx) (e:Expr) (t:TT)  : Prop where
 go:∀ (pins:List (Addr × Obj)) (s:Shared) (σ:St) (H:Hp) (Q:Bool->Hp->Prop),Inv X pins σ H s->t σ H Q->wpAny (model X.prog X.w) X.A (isTrue e X.env (eval e X.env)) (TP X pins σ Q) X.xe s
instance {X:Cx} {e:Expr} {t:TT}:CoeFun (PT X e t) (fun _=>∀ (pins:List (Addr × Obj)) (s:Shared) (σ:St) (H:Hp) (Q:Bool->Hp->Prop),Inv X pins σ H s->t σ H Q->wpAny (model X.prog X.w) X.A (isTrue e X.env (eval e X.env)) (TP X pins σ Q) X.xe s):=⟨PT.go⟩
structure PW (X:Cx) (e:Expr) (t:TT)  : Prop where
 go:∀ (whole:Sem Value) (pins:List (Addr × Obj)) (s:Shared) (σ:St) (H:Hp) (Q:Bool->Hp->Prop),Inv X pins σ H s->t σ H Q->wpAny (model X.prog X.w) X.A (isTrue e X.env whole) (TP X pins σ Q) X.xe s
instance {X:Cx} {e:Expr} {t:TT}:CoeFun (PW X e t) (fun _=>∀ (whole:Sem Value) (pins:List (Addr × Obj)) (s:Shared) (σ:St) (H:Hp) (Q:Bool->Hp->Prop),Inv X pins σ H s->t σ H Q->wpAny (model X.prog X.w) X.A (isTrue e X.env whole) (TP X pins σ Q) X.xe s):=⟨PW.go⟩
theorem PW.pt {X:Cx} {e:Expr} {t:TT} (h:PW X e t):PT X e t:=⟨h _⟩
structure PA (X:Cx) (es:List Expr) (t:TA)  : Prop where
 go:∀ (pos:Pos) (pins:List (Addr × Obj)) (s:Shared) (σ:St) (H:Hp) (Q:List V->Hp->Prop),Inv X pins σ H s->t σ H Q->wpAny (model X.prog X.w) X.A (spliced (backTo pos (starEach es X.env))) (AP X pins σ Q) X.xe s
instance {X:Cx} {es:List Expr} {t:TA}:CoeFun (PA X es t) (fun _=>∀ (pos:Pos) (pins:List (Addr × Obj)) (s:Shared) (σ:St) (H:Hp) (Q:List V->Hp->Prop),Inv X pins σ H s->t σ H Q->wpAny (model X.prog X.w) X.A (spliced (backTo pos (starEach es X.env))) (AP X pins σ Q) X.xe s):=⟨PA.go⟩
structure PS (X:Cx) (st:Stmt) (t:TS)  : Prop where
 go:∀ (pins:List (Addr × Obj)) (s:Shared) (σ:St) (H:Hp) (D:Ends),Inv X pins σ H s->t D σ H->wpAny (model X.prog X.w) X.A (exec st X.env) (SP X pins D) X.xe s
instance {X:Cx} {st:Stmt} {t:TS}:CoeFun (PS X st t) (fun _=>∀ (pins:List (Addr × Obj)) (s:Shared) (σ:St) (H:Hp) (D:Ends),Inv X pins σ H s->t D σ H->wpAny (model X.prog X.w) X.A (exec st X.env) (SP X pins D) X.xe s):=⟨PS.go⟩
structure PSs (X:Cx) (st:List Stmt) (t:TS)  : Prop where
 go:∀ (pins:List (Addr × Obj)) (s:Shared) (σ:St) (H:Hp) (D:Ends),Inv X pins σ H s->t D σ H->wpAny (model X.prog X.w) X.A (execs st X.env) (SP X pins D) X.xe s
instance {X:Cx} {st:List Stmt} {t:TS}:CoeFun (PSs X st t) (fun _=>∀ (pins:List (Addr × Obj)) (s:Shared) (σ:St) (H:Hp) (D:Ends),Inv X pins σ H s->t D σ H->wpAny (model X.prog X.w) X.A (execs st X.env) (SP X pins D) X.xe s):=⟨PSs.go⟩
theorem thn {α:Type} {t:Sem α} {Q Q' : α->Shared->Prop} {M:Model} {A:Around} {E:Value->Shared->Prop} {s:Shared} (h:wpAny M A t Q E s) (hQ:∀ a s,Q a s->Q' a s):wpAny M A t Q' E s:=wpAny_mono h hQ fun _ _ x=>x
end L2

namespace L2
open PySem PySem.Spec PyProof.Rows
section
variable {X:Cx}

def tVar (i:Nat):TE:=fun σ H Q=>∃ v,σ[i]? = some (some v)/\Q v H
def tC (v:V):TE:=fun _ H Q=>Q v H
theorem pe_var {i:Nat} {x:Str} {pos:Pos} (hN:X.N[i]? = some x) (hv:Vis X.env.scope x) (hd:(x == ("__debug__" : Str))=false:=by decide) (hcd:(x == ("__classdict__" : Str))=false:=by decide):PE X (.Name x pos) (tVar i):=by
 refine ⟨?_⟩
 intro pins s σ H Q I h
 obtain ⟨v,e,h⟩ := h
 obtain ⟨m,hn,hl⟩ := I.loc
 obtain ⟨u,r,l⟩ := hl i x v hN e hv
 have fin:EP X pins σ Q u s:=⟨v,H,I,r,h⟩
 rcases l with ⟨hk,hm⟩ | ⟨hk,c,hc,hcell⟩
 ·exact wpAny_Name (wpAny_loadName_local I.ok.kind hk hn hm fin) hd
 ·rcases hk with hk | hk
  ·exact wpAny_Name (wpAny_loadName_cell I.ok.kind hk hc hcell fin) hd
  ·exact wpAny_Name (wpAny_loadName_free I.ok.kind hk hc hcell fin hcd) hd
theorem zE {i j pos}:PE X (.Constant (.int i) j pos) (tC (.int i)):=⟨fun _ _ _ H _ I h=>wpAny_Constant_int ⟨.int i,H,I.tok _,⟨_,rfl⟩,h⟩⟩
theorem pe_bl {b j pos}:PE X (.Constant (.bool b) j pos) (tC (.bl b)):=⟨fun _ _ _ H _ I h=>Constant_bool ⟨.bl b,H,I,rfl,h⟩⟩
theorem wV {j pos}:PE X (.Constant .none j pos) (tC .non):=⟨fun _ _ _ H _ I h=>Constant_none ⟨.non,H,I,rfl,h⟩⟩
theorem zP {x j pos}:PE X (.Constant (.str x) j pos) (tC (.str x)):=⟨fun _ _ _ H _ I h=>Calls.Constant_str ⟨.str x,H,I.tok _,⟨_,rfl⟩,h⟩⟩
def Gl (X:Cx) (x:Str):Prop:=X.env.kindOf x=some .globalImplicit
theorem vB {E:Value->Shared->Prop} {pins:List (Addr × Obj)} {s:Shared} {σ:St} {H:Hp} {x:Str} {u:Value} {pos:Pos} {Q:Value->Shared->Prop} (I:Inv X pins σ H s) (hg:Gl X x) (hm:X.mg x=some u) (h:Q u s)
  (hd:(x == ("__debug__" : Str))=false:=by decide):wpAny (model X.prog X.w) X.A (eval (.Name x pos) X.env) Q E s :=
 Calls.Name_function_global I.ok.kind hg (Calls.loadGlobal_global (by rw [I.ok.glob]; exact I.mod.glob.keeps I.bk) hm h) hd
theorem ld_blt {E:Value->Shared->Prop} {pins:List (Addr × Obj)} {s:Shared} {σ:St} {H:Hp} {x:Str} {u:Value} {pos:Pos} {Q:Value->Shared->Prop} (I:Inv X pins σ H s) (hg:Gl X x) (hm:X.mg x=none) (hv:bootBuiltins x=some u) (h:Q u s)
  (hn:x ≠ "__name__" := by decide) (hd:(x == ("__debug__" : Str))=false:=by decide):wpAny (model X.prog X.w) X.A (eval (.Name x pos) X.env) Q E s:=by
 obtain ⟨mb,h1,h2⟩ := I.mod.blt
 exact Calls.Name_function_global I.ok.kind hg (Calls.loadGlobal_builtin (by rw [I.ok.glob]; exact I.mod.glob.keeps I.bk) hm (by rw [I.ok.blt]; exact h1.keeps I.bk) ((h2 x hn).trans hv) h) hd
theorem pe_glob {x:Str} {v:V} {u:Value} {pos:Pos} (hg:Gl X x) (hm:X.mg x=some u) (r:RelV v u) (hd:(x == ("__debug__" : Str))=false:=by decide):PE X (.Name x pos) (tC v):=⟨fun _ _ _ H _ I h=>vB I hg hm ⟨v,H,I,r,h⟩ hd⟩
theorem pe_bltn {x:Str} {v:V} {u:Value} {pos:Pos} (hg:Gl X x) (hm:X.mg x=none) (hv:bootBuiltins x=some u) (r:RelV v u) (hn:x ≠ "__name__" := by decide) (hd:(x == ("__debug__" : Str))=false:=by decide):PE X (.Name x pos) (tC v):=⟨fun _ _ _ H _ I h=>ld_blt I hg hm hv ⟨v,H,I,r,h⟩ hn hd⟩
variable {a b:Expr} {ta tb:TE} {pos:Pos}
structure PC (X:Cx) (op:CmpOp) (a b:Expr) (t:TE)  : Prop where
 go:∀ (pins:List (Addr × Obj)) (s:Shared) (σ:St) (H:Hp) (Q:VK),Inv X pins σ H s->t σ H Q ->
  wpAny (model X.prog X.w) X.A (eval a X.env) (fun v s₁=>wpAny (model X.prog X.w) X.A (eval b X.env) (fun u s₂=>wpAny (model X.prog X.w) X.A (compareOp op v u) (EP X pins σ Q) X.xe s₂) X.xe s₁) X.xe s
instance {X:Cx} {op:CmpOp} {a b:Expr} {t:TE}:CoeFun (PC X op a b t) (fun _=>∀ (pins:List (Addr × Obj)) (s:Shared) (σ:St) (H:Hp) (Q:VK),Inv X pins σ H s->t σ H Q ->
  wpAny (model X.prog X.w) X.A (eval a X.env) (fun v s₁=>wpAny (model X.prog X.w) X.A (eval b X.env) (fun u s₂=>wpAny (model X.prog X.w) X.A (compareOp op v u) (EP X pins σ Q) X.xe s₂) X.xe s₁) X.xe s):=⟨PC.go⟩
theorem nobehind (b:Expr) {op:CmpOp} (h:op ≠ .In) (h2:op ≠ .NotIn):behindInMarks op b=false:=by
 have e1:(op == CmpOp.In)=false:=by cases op <;> first | rfl | exact absurd rfl h
 have e2:(op == CmpOp.NotIn)=false:=by cases op <;> first | rfl | exact absurd rfl h2
 cases b <;> simp [behindInMarks,e1,e2]
def tB (t:TE):TT:=fun σ H Q=>t σ H fun x H1=>∃ c,x = .bl c/\Q c H1
theorem pt_cmp {op:CmpOp} {t:TE} (h:PC X op a b t) (h1:behindInMarks op b=false:=by first | exact nobehind _ (by decide) (by decide) | rfl):PT X (.Compare a [op] [b] pos) (tB t):=by
 refine ⟨?_⟩
 intro pins s σ H Q I hw
 refine wpAny_isTrue_Compare1 (thn (h pins s σ H _ I hw) fun v s1 h1=>thn h1 fun u s2 h2=>thn h2 fun c s3 ⟨x,H1,I1,r1,q1⟩ => ?_) h1
 obtain ⟨d,rfl,q⟩ := q1
 cases r1
 exact wpAny_truthy_bool ⟨H1,I1,q⟩
theorem jF {e:Expr} {t:TE} (h:PE X e t) (he:∀ whole,isTrue e X.env whole=(do let v <- whole; standAt e.pos; holding [v] (truthy v)):=by intro _; rfl):PT X e (tB t):=by
 refine ⟨?_⟩
 intro pins s σ H Q I hw
 refine isTrue_plain (thn (h pins s σ H _ I hw) fun v s1 ⟨x,H1,I1,r1,q1⟩ => ?_) (he _)
 obtain ⟨d,rfl,q⟩ := q1
 cases r1
 exact wpAny_truthy_bool ⟨H1,I1,q⟩

variable {tA tB':TT} {rest:List Expr}
def tAnd (t u:TT):TT:=fun σ H Q=>t σ H fun c H1=>if c=true then u σ H1 Q else Q false H1
def tOr (t u:TT):TT:=fun σ H Q=>t σ H fun c H1=>if c=true then Q true H1 else u σ H1 Q
def tNot (t:TT):TT:=fun σ H Q=>t σ H fun c H1=>Q (!c) H1
theorem pw_and1 (ha:PT X a tA):PW X (.BoolOp .And [a] pos) tA:=by
 refine ⟨?_⟩
 intro wh pins s σ H Q I h
 refine isTrue_and (thn (ha pins s σ H Q I h) fun c s1 e => ?_)
 cases c with
 | true=>exact isTrue_and_nil e
 | false=>exact e
theorem qG (ha:PT X a tA):PW X (.BoolOp .Or [a] pos) tA:=by
 refine ⟨?_⟩
 intro wh pins s σ H Q I h
 refine isTrue_or (thn (ha pins s σ H Q I h) fun c s1 e => ?_)
 cases c with
 | false=>exact isTrue_or_nil e
 | true=>exact e
theorem pw_and (ha:PT X a tA) (hb:PW X (.BoolOp .And (b :: rest) pos) tB'):PW X (.BoolOp .And (a :: b :: rest) pos) (tAnd tA tB'):=by
 refine ⟨?_⟩
 intro wh pins s σ H Q I h
 refine isTrue_and (thn (ha pins s σ H _ I h) fun c s1 hzz => ?_)
 obtain ⟨H1,I1,q1⟩ := hzz
 cases c with
 | true=>exact hb wh pins s1 σ H1 Q I1 q1
 | false=>exact ⟨H1,I1,q1⟩
theorem qS (ha:PT X a tA) (hb:PW X (.BoolOp .Or (b :: rest) pos) tB'):PW X (.BoolOp .Or (a :: b :: rest) pos) (tOr tA tB'):=by
 refine ⟨?_⟩
 intro wh pins s σ H Q I h
 refine isTrue_or (thn (ha pins s σ H _ I h) fun c s1 hzz => ?_)
 obtain ⟨H1,I1,q1⟩ := hzz
 cases c with
 | true=>exact ⟨H1,I1,q1⟩
 | false=>exact hb wh pins s1 σ H1 Q I1 q1
theorem kG (ha:PT X a tA):PT X (.UnaryOp .Not a pos) (tNot tA):=by
 refine ⟨?_⟩
 intro pins s σ H Q I h
 exact isTrue_not (ha pins s σ H (fun c H1=>Q (!c) H1) I h)
def tAndV (ta tb:TE):TE:=fun σ H Q=>ta σ H fun x H1=>∃ c,x = .bl c/\if c=true then tb σ H1 Q else Q (.bl false) H1
def tOrV (ta tb:TE):TE:=fun σ H Q=>ta σ H fun x H1=>∃ c,x = .bl c/\if c=true then Q (.bl true) H1 else tb σ H1 Q
def tNotV (ta:TE):TE:=fun σ H Q=>ta σ H fun x H1=>∃ c,x = .bl c/\Q (.bl (!c)) H1
theorem pe_one {op} {t:TE} (h:PE X a t):PE X (.BoolOp op [a] pos) t:=⟨fun pins s σ H Q I hw=>BoolOp_one (h pins s σ H Q I hw)⟩
theorem pe_and (ha:PE X a ta) (hb:PE X (.BoolOp .And (b :: rest) pos) tb):PE X (.BoolOp .And (a :: b :: rest) pos) (tAndV ta tb):=by
 refine ⟨?_⟩
 intro pins s σ H Q I h
 refine BoolOp_and (thn (ha pins s σ H _ I h) fun v s1 hzz => ?_)
 obtain ⟨x,H1,I1,r1,q1⟩ := hzz
 obtain ⟨c,rfl,q1⟩ := q1
 cases r1
 refine wpAny_truthy_bool ?_
 cases c with
 | true=>exact hb pins s1 σ H1 Q I1 q1
 | false=>exact ⟨.bl false,H1,I1,rfl,q1⟩
theorem pe_or (ha:PE X a ta) (hb:PE X (.BoolOp .Or (b :: rest) pos) tb):PE X (.BoolOp .Or (a :: b :: rest) pos) (tOrV ta tb):=by
 refine ⟨?_⟩
 intro pins s σ H Q I h
 refine BoolOp_or (thn (ha pins s σ H _ I h) fun v s1 hzz => ?_)
 obtain ⟨x,H1,I1,r1,q1⟩ := hzz
 obtain ⟨c,rfl,q1⟩ := q1
 cases r1
 refine wpAny_truthy_bool ?_
 cases c with
 | false=>exact hb pins s1 σ H1 Q I1 q1
 | true=>exact ⟨.bl true,H1,I1,rfl,q1⟩
theorem pe_not (ha:PE X a ta):PE X (.UnaryOp .Not a pos) (tNotV ta):=by
 refine ⟨?_⟩
 intro pins s σ H Q I h
 refine UnaryOp_ (thn (ha pins s σ H _ I h) fun v s1 hzz => ?_)
 obtain ⟨x,H1,I1,r1,q1⟩ := hzz
 obtain ⟨c,rfl,q1⟩ := q1
 cases r1
 exact not_of (wpAny_truthy_bool ⟨.bl (!c),H1,I1,rfl,q1⟩)
def tIf (t:TT) (ta tb:TE):TE:=fun σ H Q=>t σ H fun c H1=>if c=true then ta σ H1 Q else tb σ H1 Q
theorem pe_ifExp {c:Expr} (hc:PT X c tA) (ha:PE X a ta) (hb:PE X b tb):PE X (.IfExp c a b pos) (tIf tA ta tb):=by
 refine ⟨?_⟩
 intro pins s σ H Q I h
 refine wpAny_IfExp (thn (hc pins s σ H _ I h) fun d s1 hzz => ?_)
 obtain ⟨H1,I1,q1⟩ := hzz
 cases d with
 | true=>exact ha pins s1 σ H1 Q I1 q1
 | false=>exact hb pins s1 σ H1 Q I1 q1
end
end L2

namespace L2
open PySem PySem.Spec PyProof.Rows

def SqL (K:PySem.W.Frag) (H:Hp) (a:Addr) (xs:List V):Prop :=
 Rd H a (.lst xs) \/
  ∃ (o:Obj) (its:Array Value) (n:Nat),K.lookup a=some o/\o.cls = .type "list" /\ o.dict=none/\o.data = .seq its n/\its.size<=sizeLine/\Vals xs its.toList
def SqT (K:PySem.W.Frag) (H:Hp) (a:Addr) (xs:List V):Prop :=
 Rd H a (.tup xs) \/
  ∃ (o:Obj) (its:Array Value) (n:Nat),K.lookup a=some o/\o.cls = .type "tuple" /\ o.data = .seq its n/\its.size<=sizeLine/\Vals xs its.toList
def absV:Value->Option V
 | .none=>some .non
 | .bool b=>some (.bl b)
 | .int i _=>some (.int i)
 | .str x _=>some (.str x)
 | .bytes b _=>some (.byt b)
 | .float b _=>some (.flt b)
 | .ref a=>some (.ref a)
 | .type n=>some (.ty n)
 | _=>none
theorem RelV.abs {x:V} {u:Value} (r:RelV x u):absV u=some x:=by
 cases x with
 | non=>cases r; rfl
 | bl _=>cases r; rfl
 | int _=>obtain ⟨t,rfl⟩ := r; rfl
 | str _=>obtain ⟨t,rfl⟩ := r; rfl
 | byt _=>obtain ⟨t,rfl⟩ := r; rfl
 | flt _=>obtain ⟨t,rfl⟩ := r; rfl
 | ref _=>cases r; rfl
 | ty _=>cases r; rfl
theorem RelV.inj {x y:V} {u:Value} (r:RelV x u) (q:RelV y u):x=y:=Option.some.inj (r.abs.symm.trans q.abs)
theorem Vals.inj:∀ {xs ys:List V} {us:List Value},Vals xs us->Vals ys us->xs=ys
 | _,_,_,.nil,.nil=>rfl
 | _,_,_,.cons r t,.cons r' t'=>by rw [r.inj r',Vals.inj t t']
section
variable {X:Cx} {pins:List (Addr × Obj)} {σ:St} {H:Hp} {s:Shared} {a:Addr} {xs ys:List V}
theorem SqL.of {K:PySem.W.Frag} (h:H a=some (.lst xs)):SqL K H a xs:=.inl (.inl h)
theorem SqT.of {K:PySem.W.Frag} (h:H a=some (.tup xs)):SqT K H a xs:=.inl (.inl h)
theorem Inv.list (I:Inv X pins σ H s) (h:SqL X.K H a xs):∃ its:List Value,Vals xs its/\PlainL s.heap a its.toArray/\xs.length<=sizeLine:=by
 rcases h with h | ⟨o,its,n,hk,hc,hd,hs,hz,r⟩
 ·obtain ⟨z,its,n,r,e⟩ := h.ok I.hok
  exact ⟨its,r,⟨_,n,e,rfl,rfl,rfl⟩,z⟩
 ·refine ⟨its.toList,r,⟨o,n,I.kIn a o hk,hc,hd,by simpa using hs⟩,?_⟩
  have e:=r.length
  simp only [Array.length_toList] at e
  (first|lia|omega)
theorem Inv.tuple (I:Inv X pins σ H s) (h:SqT X.K H a xs):∃ its:List Value,Vals xs its/\IsTup s.heap a its.toArray/\xs.length<=sizeLine:=by
 rcases h with h | ⟨o,its,n,hk,hc,hs,hz,r⟩
 ·obtain ⟨z,its,r,p⟩ := h.ok I.hok
  exact ⟨its,r,p,z⟩
 ·refine ⟨its.toList,r,⟨o,I.kIn a o hk,hc,n,by simpa using hs⟩,?_⟩
  have e:=r.length
  simp only [Array.length_toList] at e
  (first|lia|omega)
theorem Inv.list_inj (I:Inv X pins σ H s) (h:SqL X.K H a xs) (h':SqL X.K H a ys):xs=ys:=by
 obtain ⟨its,r,⟨o,n,e,_,_,d⟩,_⟩ := I.list h
 obtain ⟨its',r',⟨o',n',e',_,_,d'⟩,_⟩ := I.list h'
 rw [e] at e'; cases e'
 rw [d] at d'
 injection d' with d1 _
 have:its=its':=by simpa using congrArg Array.toList d1
 subst this
 exact r.inj r'
theorem Inv.tuple_inj (I:Inv X pins σ H s) (h:SqT X.K H a xs) (h':SqT X.K H a ys):xs=ys:=by
 obtain ⟨its,r,⟨o,e,_,n,d⟩,_⟩ := I.tuple h
 obtain ⟨its',r',⟨o',e',_,n',d'⟩,_⟩ := I.tuple h'
 rw [e] at e'; cases e'
 rw [d] at d'
 injection d' with d1 _
 have:its=its':=by simpa using congrArg Array.toList d1
 subst this
 exact r.inj r'
end

abbrev Cx.wish (X:Cx) (E:Value->Shared->Prop):Cx:={ X with xe:=E }
abbrev Cx.nox (X:Cx):Cx:=X.wish fun _ _=>False
theorem Cx.Ok.wish {X:Cx} (ok:X.Ok) (E:Value->Shared->Prop):(X.wish E).Ok :=
 ⟨ok.mod,ok.kind,ok.glob,ok.blt,ok.above,ok.inj,ok.has,ok.cab,ok.hd,ok.frames,ok.stk,ok.exf,ok.bs,ok.bsz,ok.noex,ok.exfs,ok.funs,ok.frf⟩
theorem Cx.Ok.unwish {X:Cx} {E:Value->Shared->Prop} (ok:(X.wish E).Ok):X.Ok :=
 ⟨ok.mod,ok.kind,ok.glob,ok.blt,ok.above,ok.inj,ok.has,ok.cab,ok.hd,ok.frames,ok.stk,ok.exf,ok.bs,ok.bsz,ok.noex,ok.exfs,ok.funs,ok.frf⟩
section
variable {X:Cx} {pins:List (Addr × Obj)} {σ:St} {H:Hp} {s:Shared} {E:Value->Shared->Prop}
theorem Inv.wish (I:Inv X pins σ H s) (E:Value->Shared->Prop):Inv (X.wish E) pins σ H s:=⟨I.ok.wish E,I.os,I.bare,I.base,I.loc,I.cell,I.free,I.freeC,I.pin,I.hok,I.len⟩
theorem Inv.unwish (I:Inv (X.wish E) pins σ H s):Inv X pins σ H s:=⟨I.ok.unwish,I.os,I.bare,I.base,I.loc,I.cell,I.free,I.freeC,I.pin,I.hok,I.len⟩
theorem SP.unwish {D:Ends} {f:Flow} {s':Shared} (h:SP (X.wish E) pins D f s'):SP X pins D f s':=by
 cases f with
 | next=>obtain ⟨σ',H',I,q⟩ := h; exact ⟨σ',H',I.unwish,q⟩
 | brk=>obtain ⟨σ',H',I,q⟩ := h; exact ⟨σ',H',I.unwish,q⟩
 | cont=>obtain ⟨σ',H',I,q⟩ := h; exact ⟨σ',H',I.unwish,q⟩
 | ret u=>obtain ⟨v,σ',H',I,r,q⟩ := h; exact ⟨v,σ',H',I.unwish,r,q⟩
theorem PSs.nox {st:List Stmt} {t:TS} (h:PSs X.nox st t):PSs X st t:=⟨fun pins s σ H D I hw =>
 wpAny_mono (h pins s σ H D (I.wish _) hw) (fun _ _ q=>q.unwish) fun _ _ z=>False.elim z⟩
end

section
variable {X:Cx} {st:Stmt} {rest:List Stmt} {t u:TS} {e:Expr} {te:TE} {pos:Pos}
def tNext:TS:=fun D σ H=>D.nx σ H
def tSeq (t u:TS):TS:=fun D σ H=>t { D with nx:=u D } σ H
theorem zR:PSs X [] tNext:=⟨fun _ _ σ H _ I h=>wpAny_execs_nil ⟨σ,H,I,h⟩⟩
theorem zD (h1:PS X st t) (h2:PSs X rest u):PSs X (st :: rest) (tSeq t u):=by
 refine ⟨?_⟩
 intro pins s σ H D I h
 refine wpAny_execs_cons (thn (h1 pins s σ H { D with nx:=u D } I h) fun f s1 q => ?_)
 cases f with
 | next =>
  obtain ⟨σ',H',I',q⟩ := q
  exact h2 pins s1 σ' H' D I' q
 | ret v=>exact q
 | brk=>exact q
 | cont=>exact q
theorem zI (h1:PS X st t):PSs X [st] t:=by
 refine ⟨?_⟩
 intro pins s σ H D I h
 refine wpAny_execs_cons (thn (h1 pins s σ H D I h) fun f s1 q => ?_)
 cases f with
 | next=>exact wpAny_execs_nil q
 | ret v=>exact q
 | brk=>exact q
 | cont=>exact q
theorem Inv.quiet {pins:List (Addr × Obj)} {σ:St} {H:Hp} {s:Shared} (I:Inv X pins σ H s):interactive X.env=false:=by simp [interactive,I.ok.kind]
def tDrop (te:TE):TS:=fun D σ H=>te σ H fun _ H1=>D.nx σ H1
theorem yB (he:PE X e te) (hs:swapsWith e none pos.line X.env=pure false:=by rfl):PS X (.Expr e pos) (tDrop te):=by
 refine ⟨?_⟩
 intro pins s σ H D I h
 exact wpAny_Expr_any (thn (he pins s σ H _ I h) fun v s1 ⟨x,H1,I1,r1,q1⟩=>⟨σ,H1,I1,q1⟩) I.quiet hs
def tRet (te:TE):TS:=fun D σ H=>te σ H D.rt
theorem zS (he:PE X e te):PS X (.Return (some e) pos) (tRet te):=by
 refine ⟨?_⟩
 intro pins s σ H D I h
 exact wpAny_Return_some (thn (he pins s σ H _ I h) fun v s1 ⟨x,H1,I1,r1,q1⟩=>⟨x,σ,H1,I1,r1,q1⟩)
def tIfS (c:TT) (t u:TS):TS:=fun D σ H=>c σ H fun b H1=>if b=true then t D σ H1 else u D σ H1
theorem zZ {c:Expr} {a b:List Stmt} {tc:TT} (hc:PT X c tc) (ha:PSs X a t) (hb:PSs X b u):PS X (.If c a b pos) (tIfS tc t u):=by
 refine ⟨?_⟩
 intro pins s σ H D I h
 refine wpAny_If (thn (hc pins s σ H _ I h) fun d s1 hzz => ?_)
 obtain ⟨H1,I1,q1⟩ := hzz
 cases d with
 | true=>exact ha pins s1 σ H1 D I1 q1
 | false=>exact hb pins s1 σ H1 D I1 q1
end

abbrev TG:=V->St->Hp->(St->Hp->Prop)->Prop
abbrev TGs:=List V->St->Hp->(St->Hp->Prop)->Prop
structure PG (X:Cx) (target:Expr) (t:TG)  : Prop where
 go:∀ (pins:List (Addr × Obj)) (s:Shared) (σ:St) (H:Hp) (v:V) (u:Value) (Q:St->Hp->Prop),Inv X pins σ H s->RelV v u->t v σ H Q ->
  wpAny (model X.prog X.w) X.A (assign target X.env u) (fun _ s'=>∃ σ' H',Inv X pins σ' H' s'/\Q σ' H') X.xe s
instance {X:Cx} {target:Expr} {t:TG}:CoeFun (PG X target t) (fun _=>∀ (pins:List (Addr × Obj)) (s:Shared) (σ:St) (H:Hp) (v:V) (u:Value) (Q:St->Hp->Prop),Inv X pins σ H s->RelV v u->t v σ H Q ->
  wpAny (model X.prog X.w) X.A (assign target X.env u) (fun _ s'=>∃ σ' H',Inv X pins σ' H' s'/\Q σ' H') X.xe s):=⟨PG.go⟩
structure PGs (X:Cx) (ts:List Expr) (t:TGs)  : Prop where
 go:∀ (pins:List (Addr × Obj)) (s:Shared) (σ:St) (H:Hp) (vs:List V) (us:List Value) (Q:St->Hp->Prop),Inv X pins σ H s->Vals vs us->t vs σ H Q ->
  wpAny (model X.prog X.w) X.A (assignInOrder ((assignEach ts X.env).map (·.2)) us) (fun _ s'=>∃ σ' H',Inv X pins σ' H' s'/\Q σ' H') X.xe s
instance {X:Cx} {ts:List Expr} {t:TGs}:CoeFun (PGs X ts t) (fun _=>∀ (pins:List (Addr × Obj)) (s:Shared) (σ:St) (H:Hp) (vs:List V) (us:List Value) (Q:St->Hp->Prop),Inv X pins σ H s->Vals vs us->t vs σ H Q ->
  wpAny (model X.prog X.w) X.A (assignInOrder ((assignEach ts X.env).map (·.2)) us) (fun _ s'=>∃ σ' H',Inv X pins σ' H' s'/\Q σ' H') X.xe s):=⟨PGs.go⟩
abbrev TSet:=V->V->V->Hp->(Hp->Prop)->Prop
def PSet (X:Cx) (t:TSet):Prop :=
 ∀ (pins:List (Addr × Obj)) (s:Shared) (σ:St) (H:Hp) (o i v:V) (ov iv u:Value) (Q:Hp->Prop),Inv X pins σ H s->RelV o ov->RelV i iv->RelV v u->t o i v H Q ->
  wpAny (model X.prog X.w) X.A (setItem ov iv u) (fun _ s'=>∃ H',Inv X pins σ H' s'/\Q H') X.xe s
abbrev TIp:=V->V->Hp->VK->Prop
def PIp (X:Cx) (op:Operator) (t:TIp):Prop :=
 ∀ (pins:List (Addr × Obj)) (s:Shared) (σ:St) (H:Hp) (x y:V) (v u:Value) (Q:VK),Inv X pins σ H s->RelV x v->RelV y u->t x y H Q ->
  wpAny (model X.prog X.w) X.A (inplaceOp op v u) (EP X pins σ Q) X.xe s
section
variable {X:Cx} {pos:Pos}
def gName (i:Nat):TG:=fun v σ H Q=>Q (σ.set i (some v)) H
theorem zV {i:Nat} {x:Str} (hN:X.N.Nodup) (hi:X.N[i]? = some x) (hx:Loc X.env.scope x) (hf:X.fn x=true\/X.env.scope.names.lookup x=some .local:=by first | exact .inl rfl | exact .inr rfl | assumption):PG X (.Name x pos) (gName i):=by
 refine ⟨?_⟩
 intro pins s σ H v u Q I r h
 exact wpAny_assign_Name (store_ok I hN hi hx r (fun s' I'=>⟨_,H,I',h⟩) hf)
def gNil:TGs:=fun vs σ H Q=>vs=[]/\Q σ H
def gCons (t:TG) (u:TGs):TGs:=fun vs σ H Q=>∃ v r,vs=v :: r/\t v σ H fun σ' H'=>u r σ' H' Q
theorem jO:PGs X [] gNil:=by
 refine ⟨?_⟩
 intro pins s σ H vs us Q I r h
 obtain ⟨e,h⟩ := h
 subst e
 cases r
 exact assignInOrder_nil ⟨σ,H,I,h⟩
theorem yC {e:Expr} {es:List Expr} {t:TG} {u:TGs} (h1:PG X e t) (h2:PGs X es u)
  (hs:(assignEach (e :: es) X.env).map (·.2)=assign e X.env :: (assignEach es X.env).map (·.2):=by rfl):PGs X (e :: es) (gCons t u):=by
 refine ⟨?_⟩
 intro pins s σ H vs us Q I r h
 obtain ⟨v,vr,e1,h⟩ := h
 subst e1
 cases r with
 | cons r rr =>
  rw [hs]
  refine assignInOrder_cons (thn (h1 pins s σ H _ _ _ I r h) fun _ s1 hzz => ?_)
  obtain ⟨σ1,H1,I1,q1⟩ := hzz
  exact h2 pins s1 σ1 H1 _ _ Q I1 rr q1
def gTup (K:PySem.W.Frag) (n:Nat) (t:TGs):TG:=fun v σ H Q=>∃ a xs,v = .ref a/\SqT K H a xs/\xs.length=n/\t xs σ H Q
theorem qU {es:List Expr} {k:Nat} {t:TGs} {n:Nat} (hc:X.calm=true) (h:PGs X es t)
  (hn:(assignEach es X.env).length=n:=by rfl) (hst:(assignEach es X.env).findIdx? (·.1)=none:=by rfl):PG X (.Tuple es k pos) (gTup X.K n t):=by
 refine ⟨?_⟩
 intro pins s σ H v u Q I r hw
 obtain ⟨a,xs,e1,hq,hl,hw⟩ := hw
 subst e1
 cases r
 obtain ⟨its,rv,ht,hz⟩ := I.tuple hq
 refine assign_Tuple_tuple (I.ok.hd hc) ht (by simp [hn,<- hl,rv.length]) hst fun h' hx => ?_
 have I1:Inv X pins σ H { s with heap:=h' }:=I.kept (t':=s.toks) fun b o e=>hx b o (Nat.ne_of_lt (Heap.lt_size e)) e
 exact h pins _ σ H xs _ Q I1 (by simpa using rv) hw
def gSub (to ti:TE) (t:TSet):TG:=fun v σ H Q=>to σ H fun o H1=>ti σ H1 fun i H2=>t o i v H2 fun H3=>Q σ H3
theorem pg_sub {o i:Expr} {to ti:TE} {t:TSet} (ho:PE X o to) (hi:PE X i ti) (hs:PSet X t)
  (ha:∀ v,assign (.Subscript o i pos) X.env v=(do
   let ov <- holding [v] (eval o X.env)
   let iv <- holding [v,ov] (eval i X.env)
   standAt pos
   holding [v,ov,iv] (setItem ov iv v)
   release [v,ov,iv] []):=by intro _; rfl):PG X (.Subscript o i pos) (gSub to ti t):=by
 refine ⟨?_⟩
 intro pins s σ H v u Q I r h
 rw [ha]
 refine wpAny_bind (wpAny_holding (thn (ho pins s σ H _ I h) fun ov s1 hzz => ?_))
 obtain ⟨x,H1,I1,r1,q1⟩ := hzz
 refine wpAny_bind (wpAny_holding (thn (hi pins s1 σ H1 _ I1 q1) fun iv s2 hzz => ?_))
 obtain ⟨y,H2,I2,r2,q2⟩ := hzz
 refine wpAny_bind (wpAny_standAt (wpAny_bind (wpAny_holding (thn (hs pins s2 σ H2 x y v ov iv u _ I2 r1 r2 r q2) fun _ s3 hzz => ?_))))
 obtain ⟨H3,I3,q3⟩ := hzz
 exact wpAny_release ⟨σ,H3,I3,q3⟩
def tAsg (te:TE) (g:TG):TS:=fun D σ H=>te σ H fun x H1=>g x σ H1 D.nx
theorem qT {tg e:Expr} {te:TE} {g:TG} (he:PE X e te) (hg:PG X tg g) (hs:swapsWithSole [tg] e pos.line X.env=pure false:=by rfl) (hw:swappedStores [tg] e X.env=pure none:=by rfl)
  (h1:(assignEach [tg] X.env).map (·.2)=[assign tg X.env]:=by rfl):PS X (.Assign [tg] e pos) (tAsg te g):=by
 refine ⟨?_⟩
 intro pins s σ H D I h
 refine wpAny_Assign_stores (thn (he pins s σ H _ I h) fun v s1 ⟨x,H1,I1,r1,q1⟩ => ?_) hs hw
 rw [h1]
 exact thn (hg pins s1 σ H1 x v _ I1 r1 q1) fun _ s2 q=>q
theorem zN {i:Nat} {x:Str} {e:Expr} {te:TE} {pos':Pos} (hN:X.N.Nodup) (hi:X.N[i]? = some x) (hx:Loc X.env.scope x) (he:PE X e te) (hs:swapsWith e (some (.Name x pos')) pos.line X.env=pure false:=by rfl) (hf:X.fn x=true\/X.env.scope.names.lookup x=some .local:=by first | exact .inl rfl | exact .inr rfl | assumption) :
  PS X (.Assign [.Name x pos'] e pos) (tAsg te (gName i)):=by
 refine ⟨?_⟩
 intro pins s σ H D I h
 refine wpAny_Assign_Name (thn (he pins s σ H _ I h) fun v s1 ⟨y,H1,I1,r1,q1⟩ => ?_) hs
 exact store_ok I1 hN hi hx r1 (fun s2 I2=>⟨_,H1,I2,q1⟩) hf
def tAug (i:Nat) (te:TE) (ti:TIp):TS:=fun D σ H=>∃ x,σ[i]? = some (some x)/\te σ H fun y H1=>ti x y H1 fun z H2=>D.nx (σ.set i (some z)) H2
theorem ps_aug {i:Nat} {x:Str} {e:Expr} {te:TE} {op:Operator} {ti:TIp} {pos':Pos} (hN:X.N.Nodup) (hi:X.N[i]? = some x) (hx:Loc X.env.scope x) (he:PE X e te) (ho:PIp X op ti) (hf:X.fn x=true\/X.env.scope.names.lookup x=some .local:=by first | exact .inl rfl | exact .inr rfl | assumption) :
  PS X (.AugAssign (.Name x pos') op e pos) (tAug i te ti):=by
 refine ⟨?_⟩
 intro pins s σ H D I h
 obtain ⟨v,e1,h⟩ := h
 obtain ⟨m,hn,hl⟩ := I.loc
 have vis:Vis X.env.scope x:=by rcases hx with k | k; exact .inl k; exact .inr (.inl k)
 obtain ⟨u,r,l⟩ := hl i x v hi e1 vis
 refine wpAny_AugAssign_Name ?_
 have go:wpAny (model X.prog X.w) X.A (eval e X.env) (fun w s₂=>wpAny (model X.prog X.w) X.A (inplaceOp op u w) (fun r s₃=>wpAny (model X.prog X.w) X.A (storeName X.env x r) (fun _=>SP X pins D .next) X.xe s₃) X.xe s₂) X.xe s:=by
  refine thn (he pins s σ H _ I h) fun w s1 hzz => ?_
  obtain ⟨y,H1,I1,r1,q1⟩ := hzz
  refine thn (ho pins s1 σ H1 v y u w _ I1 r r1 q1) fun z s2 hzz => ?_
  obtain ⟨zv,H2,I2,r2,q2⟩ := hzz
  exact store_ok I2 hN hi hx r2 (fun s3 I3=>⟨_,H2,I3,q2⟩) hf
 rcases l with ⟨hk,hm⟩ | ⟨hk,c,hc,hcell⟩
 ·exact wpAny_loadName_local I.ok.kind hk hn hm go
 ·rcases hk with hk | hk
  ·exact wpAny_loadName_cell I.ok.kind hk hc hcell go
  ·rcases hx with k | k
   ·have:X.env.scope.names.lookup x=some .free:=hk
    rw [k] at this; cases this
   ·have:X.env.scope.names.lookup x=some .free:=hk
    rw [k] at this; cases this
def ipI (f:Int->Int->Int):TIp:=fun x y H Q=>∃ i j,x = .int i/\y = .int j/\Q (.int (f i j)) H
theorem ip_add:PIp X .Add (ipI fun i j=>i+j):=by
 intro pins s σ H x y v u Q I r1 r2 h
 obtain ⟨i,j,e1,e2,q⟩ := h
 subst e1; subst e2
 obtain ⟨t,rfl⟩ := r1
 obtain ⟨t',rfl⟩ := r2
 exact iadd_int ⟨.int _,H,I.tok _,⟨_,rfl⟩,q⟩
end

section
variable {X:Cx} {pos:Pos}
def tWhile (c:TT) (tb:TS):TS:=fun D σ H=>∃ W:Nat->St->Hp->Prop,(∃ m,W m σ H)/\∀ m σ H,W m σ H ->
 c σ H fun b H1=>if b=true then ∃ N:St->Hp->Prop,(∀ σ' H',N σ' H'->∃ m',m'<m/\W m' σ' H')/\tb { D with nx:=N,ct:=N,bk:=D.nx } σ H1 else D.nx σ H1
theorem ps_while {c:Expr} {body:List Stmt} {tc:TT} {tb:TS} (hp:PassesOwn (model X.prog X.w) X.A X.env X.xe) (hc:PT X c tc) (hb:PSs X body tb):PS X (.While c body [] pos) (tWhile tc tb):=by
 refine ⟨?_⟩
 intro pins s σ H D I h
 obtain ⟨W,⟨m0,w0⟩,turn⟩ := h
 refine wpAny_While (codeAny_whileLoop (fun n s'=>∃ σ' H',Inv X pins σ' H' s'/\W n σ' H') ?_ m0 ⟨σ,H,I,w0⟩)
 rintro n s1 ⟨σ1,H1,I1,w1⟩
 refine wpAny_passesOwn hp (thn (hc pins s1 σ1 H1 _ I1 (turn n σ1 H1 w1)) fun b s2 hzz => ?_)
 obtain ⟨H2,I2,q2⟩ := hzz
 cases b with
 | true =>
  obtain ⟨N,hN,q2⟩ := q2
  rw [if_pos rfl]
  refine wpAny_passesOwn hp (thn (hb pins s2 σ1 H2 _ I2 q2) fun f s3 q3 => ?_)
  cases f with
  | next =>
   obtain ⟨σ3,H3,I3,n3⟩ := q3
   obtain ⟨m',hm,w3⟩ := hN σ3 H3 n3
   exact ⟨m',hm,σ3,H3,I3,w3⟩
  | cont =>
   obtain ⟨σ3,H3,I3,n3⟩ := q3
   obtain ⟨m',hm,w3⟩ := hN σ3 H3 n3
   exact ⟨m',hm,σ3,H3,I3,w3⟩
  | brk=>exact q3
  | ret v=>exact q3
 | false =>
  rw [if_neg Bool.false_ne_true]
  exact wpAny_execs_nil ⟨σ1,H2,I2,q2⟩
end

structure It where
 go:Nat->Hp->Prop
 yld:Nat->Hp->V->Hp->Prop
 stop:Nat->Hp->Prop
def FpOk (X:Cx) (pins:List (Addr × Obj)) (H:Hp) (b:Addr):Prop :=
 H b=none/\b≠X.env.locals/\b ∉ X.fs/\(b∈X.ex\/X.s₀.heap.objs.size<=b)/\(∀ x c,X.env.cells.lookup x=some c->c≠b)/\∀ p∈X.pn++pins,p.1≠b
theorem Inv.fpOk {X:Cx} {pins:List (Addr × Obj)} {σ:St} {H H':Hp} {s:Shared} {b:Addr} (I:Inv X pins σ H s) (hb:s.heap.objs.size<=b) (hn:H' b=none):FpOk X pins H' b:=by
 refine ⟨hn,Nat.ne_of_gt (Nat.lt_of_lt_of_le I.lt hb),I.nofs hb,.inr (Nat.le_trans I.sz hb),fun x c e z => ?_,fun p hp z => ?_⟩
 ·obtain ⟨v,q⟩ := I.cell x c e
  exact absurd (Nat.lt_of_lt_of_le q.lt (by rw [z]; exact hb)) (Nat.lt_irrefl _)
 ·exact absurd (Nat.lt_of_lt_of_le (Heap.lt_size (I.pin p hp).1) (by rw [z]; exact hb)) (Nat.lt_irrefl _)
structure Turn (P:Program) (w:World) (K:PySem.W.Frag) (tg:Expr) (J:It) (fp:List Addr) (it:Addr) (tn:Nat->Heap->Prop):Prop where
 mem:it∈fp
 obj:∀ i h,tn i h->∀ b∈fp,∃ o,h.get? b=some o/\∀ v,o.data ≠ .cell v
 keep:∀ i h h',tn i h->(∀ b∈fp,∀ o,h.get? b=some o->h'.get? b=some o)->tn i h'
 item:∀ (X:Cx),X.prog=P->X.w=w->X.K=K->X.calm=true->∀ (i:Nat) (pins:List (Addr × Obj)) (s:Shared) (σ:St) (H:Hp) (E:Value->Shared->Prop),Inv X pins σ H s->(∀ b∈fp,FpOk X pins H b)->tn i s.heap->J.go i H ->
  wpAny (model P w) X.A (pyNext (.ref it)) (fun r s1=>∃ u,r=some u /\
   wpAny (model P w) X.A (letOwnedTupleGo tg (.ref it) u) (fun _ s2=>∃ x H',Inv X pins σ H' s2/\RelV x u/\J.yld i H x H'/\tn (i+1) s2.heap/\∀ b∈fp,H' b=none) E s1) E s
 done:∀ (X:Cx),X.prog=P->X.w=w->X.K=K->X.calm=true->∀ (i:Nat) (pins:List (Addr × Obj)) (s:Shared) (σ:St) (H:Hp) (E:Value->Shared->Prop),Inv X pins σ H s->(∀ b∈fp,FpOk X pins H b)->tn i s.heap->J.stop i H ->
  wpAny (model P w) X.A (pyNext (.ref it)) (fun r s1=>r=none/\Inv X pins σ H s1) E s
 self:∀ (A:Around) (i:Nat) (s:Shared) (Q:Value->Shared->Prop) (E:Value->Shared->Prop),tn i s.heap->Q (.ref it) s->wpAny (model P w) A (pyIter (.ref it)) Q E s
abbrev TI:=St->Hp->(It->Hp->Prop)->Prop
def PIE (X:Cx) (pins:List (Addr × Obj)) (σ:St) (tg:Expr) (R:It->Hp->Prop) (itv:Value) (s2:Shared):Prop :=
 ∃ (it:Addr) (fp:List Addr) (tn:Nat->Heap->Prop) (J:It) (H':Hp),itv = .ref it/\Inv X pins σ H' s2/\Turn X.prog X.w X.K tg J fp it tn/\tn 0 s2.heap/\(∀ b∈fp,FpOk X pins H' b)/\R J H'
structure PI (X:Cx) (tg iter:Expr) (wi:TI)  : Prop where
 go:∀ (pins:List (Addr × Obj)) (s:Shared) (σ:St) (H:Hp) (R:It->Hp->Prop),Inv X pins σ H s->wi σ H R ->
  wpAny (model X.prog X.w) X.A (eval iter X.env) (fun v s1=>wpAny (model X.prog X.w) X.A (pyIter v) (PIE X pins σ tg R) X.xe s1) X.xe s
instance {X:Cx} {tg iter:Expr} {wi:TI}:CoeFun (PI X tg iter wi) (fun _=>∀ (pins:List (Addr × Obj)) (s:Shared) (σ:St) (H:Hp) (R:It->Hp->Prop),Inv X pins σ H s->wi σ H R ->
  wpAny (model X.prog X.w) X.A (eval iter X.env) (fun v s1=>wpAny (model X.prog X.w) X.A (pyIter v) (PIE X pins σ tg R) X.xe s1) X.xe s):=⟨PI.go⟩

theorem go_of {M:Model} {A:Around} {E:Value->Shared->Prop} {s:Shared} {tg:Expr} {it:Addr} {u:Value} {o:Obj} {n:String} {vs:Array Value} {Q:Unit->Shared->Prop} (ho:s.heap.get? it=some o) (hc:o.cls = .type n) (hd:o.data = .fields vs)
    (hn:["enumerate", "zip", "dict_itemiterator", "dict_reverseitemiterator", "odict_iterator", "itertools.zip_longest", "itertools.pairwise"].contains n=false) (hQ:Q () s):wpAny M A (letOwnedTupleGo tg (.ref it) u) Q E s:=by
  unfold letOwnedTupleGo
  cases tg <;> first
    | exact wpAny_pure hQ
    | (cases u <;> first
        | exact wpAny_pure hQ
        | (refine wpAny_bind (wpAny_load ho ?_)
           rw [hc,hd]
           show wpAny M A (if (["enumerate", "zip", "dict_itemiterator", "dict_reverseitemiterator", "odict_iterator", "itertools.zip_longest", "itertools.pairwise"].contains n && vs[0]? == some (rawInt _))=true then _ else _) Q E s
           rw [if_neg (by intro h; rw [hn,Bool.false_and] at h; cases h)]
           exact wpAny_pure hQ))

def Itl (K:PySem.W.Frag) (a:Addr):It :=
 ⟨fun i H=>∃ xs x,SqL K H a xs/\xs[i]? = some x,fun i H x H'=>H'=H/\∀ xs,SqL K H a xs->xs[i]? = some x,fun i H=>∃ xs,SqL K H a xs/\xs.length<=i⟩
def Itt (K:PySem.W.Frag) (a:Addr):It :=
 ⟨fun i H=>∃ xs x,SqT K H a xs/\xs[i]? = some x,fun i H x H'=>H'=H/\∀ xs,SqT K H a xs->xs[i]? = some x,fun i H=>∃ xs,SqT K H a xs/\xs.length<=i⟩
def Itr (lo:Int) (n:Nat):It:=⟨fun i _=>i<n,fun i H x H'=>H'=H/\x = .int (lo+i),fun i _=>n<=i⟩
theorem turn_list {P:Program} {w:World} {K:PySem.W.Frag} {tg:Expr} (a it:Addr):Turn P w K tg (Itl K a) [it] it (fun i h=>h.IsListIter it a i) where
 mem:=by simp
 obj:=fun i h st b hb=>by
  have e:b=it:=by simpa using hb
  subst e
  obtain ⟨o,e,c,d⟩ := st
  exact ⟨o,e,fun v z=>by rw [d] at z; cases z⟩
 keep:=fun i h h' st k=>st.at fun o e=>k it (by simp) o e
 item:=by
  intro X hP hw hK hc i pins s σ H E I hf st hg
  subst hP hw hK
  obtain ⟨xs,x,hq,hx⟩ := hg
  obtain ⟨its,rv,p,hz⟩ := I.list hq
  obtain ⟨u,hu,ru⟩ := rv.get hx
  obtain ⟨f0,f1,f2,f3,f4,f5⟩ := hf it (by simp)
  refine wpAny_pyNext_list_item st p.isList (x:=u) (by simpa using hu) fun h' st' sb => ?_
  have I1:Inv X pins σ H { s with heap:=h' }:=I.turned (t':=s.toks) (fun b o hb e=>(sb.2 b hb).trans e) f0 f1 f3 f4 f5
  obtain ⟨o,e,c,d⟩ := id st'
  exact ⟨u,rfl,go_of (s:={ s with heap:=h' }) e c d (by decide) ⟨x,H,I1,ru,⟨rfl,fun ys hy=>by rw [I.list_inj hy hq]; exact hx⟩,st',fun b hb=>(hf b hb).1⟩⟩
 done:=by
  intro X hP hw hK hc i pins s σ H E I hf st hg
  subst hP hw hK
  obtain ⟨xs,hq,hx⟩ := hg
  obtain ⟨its,rv,p,hz⟩ := I.list hq
  obtain ⟨f0,f1,f2,f3,f4,f5⟩ := hf it (by simp)
  have hl:=rv.length
  exact wpAny_pyNext_list_end (I.ok.hd hc) st p.isList (by simp; (first|lia|omega)) fun h' eb=>⟨rfl,I.turned (t':=s.toks) (fun b o hb e=>eb b o hb e) f0 f1 f3 f4 f5⟩
 self:=fun _ _ _ _ _ st h=>wpAny_pyIter_listiter st h
theorem turn_tuple {P:Program} {w:World} {K:PySem.W.Frag} {tg:Expr} (a it:Addr):Turn P w K tg (Itt K a) [it] it (fun i h=>h.IsTupleIter it a i) where
 mem:=by simp
 obj:=fun i h st b hb=>by
  have e:b=it:=by simpa using hb
  subst e
  obtain ⟨o,e,c,d⟩ := st
  exact ⟨o,e,fun v z=>by rw [d] at z; cases z⟩
 keep:=fun i h h' st k=>st.at fun o e=>k it (by simp) o e
 item:=by
  intro X hP hw hK hc i pins s σ H E I hf st hg
  subst hP hw hK
  obtain ⟨xs,x,hq,hx⟩ := hg
  obtain ⟨its,rv,p,hz⟩ := I.tuple hq
  obtain ⟨u,hu,ru⟩ := rv.get hx
  obtain ⟨f0,f1,f2,f3,f4,f5⟩ := hf it (by simp)
  refine wpAny_pyNext_tuple_item st (show s.heap.IsTuple a its.toArray from p) (x:=u) (by simpa using hu) fun h' st' sb => ?_
  have I1:Inv X pins σ H { s with heap:=h' }:=I.turned (t':=s.toks) (fun b o hb e=>(sb.2 b hb).trans e) f0 f1 f3 f4 f5
  obtain ⟨o,e,c,d⟩ := id st'
  exact ⟨u,rfl,go_of (s:={ s with heap:=h' }) e c d (by decide) ⟨x,H,I1,ru,⟨rfl,fun ys hy=>by rw [I.tuple_inj hy hq]; exact hx⟩,st',fun b hb=>(hf b hb).1⟩⟩
 done:=by
  intro X hP hw hK hc i pins s σ H E I hf st hg
  subst hP hw hK
  obtain ⟨xs,hq,hx⟩ := hg
  obtain ⟨its,rv,p,hz⟩ := I.tuple hq
  obtain ⟨f0,f1,f2,f3,f4,f5⟩ := hf it (by simp)
  have hl:=rv.length
  exact wpAny_pyNext_tuple_end (I.ok.hd hc) st (show s.heap.IsTuple a its.toArray from p) (by simp; (first|lia|omega)) fun h' eb=>⟨rfl,I.turned (t':=s.toks) (fun b o hb e=>eb b o hb e) f0 f1 f3 f4 f5⟩
 self:=fun _ _ _ _ _ st h=>wpAny_pyIter_tupleiter st h
theorem turn_range {P:Program} {w:World} {K:PySem.W.Frag} {tg:Expr} (it:Addr) (lo:Int) (n:Nat):Turn P w K tg (Itr lo n) [it] it (fun i h=>IsRangeIter h it (lo+(i:Nat) * 1) ((n:Int) - (i:Nat)) 1) where
 mem:=by simp
 obj:=fun i h st b hb=>by
  have e:b=it:=by simpa using hb
  subst e
  exact ⟨_,st,fun v z=>by
   have z':Data.fields _=Data.cell v:=z
   cases z'⟩
 keep:=fun i h h' st k=>k it (by simp) _ st
 item:=by
  intro X hP hw hK hc i pins s σ H E I hf st hg
  subst hP hw hK
  obtain ⟨f0,f1,f2,f3,f4,f5⟩ := hf it (by simp)
  have W:=Walks.range (prog:=X.prog) (w:=X.w) (I.ok.hd hc) it lo 1 n
  refine W.item i s _ _ hg st fun v h' tk hv st' kk => ?_
  obtain ⟨t,rfl⟩ := hv
  have I1:Inv X pins σ H { s with heap:=h',toks:=tk }:=I.turned (fun b o hb e=>kk b o (by simpa using hb) e) f0 f1 f3 f4 f5
  refine ⟨_,rfl,go_of (s:={ s with heap:=h',toks:=tk }) (n := "range_iterator") st' rfl rfl (by decide) ⟨.int (lo+i),H,I1,⟨t,?_⟩,⟨rfl,rfl⟩,st',fun b hb=>(hf b hb).1⟩⟩
  rw [Int.mul_one]
 done:=by
  intro X hP hw hK hc i pins s σ H E I hf st hg
  subst hP hw hK
  obtain ⟨f0,f1,f2,f3,f4,f5⟩ := hf it (by simp)
  exact wpAny_pyNext_range_end (I.ok.hd hc) st (by have:n<=i:=hg; (first|lia|omega)) fun h' eb=>⟨rfl,I.turned (t':=s.toks) (fun b o hb e=>eb b o hb e) f0 f1 f3 f4 f5⟩
 self:=fun _ _ _ _ _ st h=>wpAny_pyIter_rangeiter st h
end L2

namespace L2
open PySem PySem.Spec PyProof.Rows
section
variable {X:Cx} {tg:Expr}
def iList (K:PySem.W.Frag) (tl:TE):TI:=fun σ H R=>tl σ H fun x H1=>∃ a,x = .ref a/\(∃ xs,SqL K H1 a xs)/\R (Itl K a) H1
def iTup (K:PySem.W.Frag) (tl:TE):TI:=fun σ H R=>tl σ H fun x H1=>∃ a,x = .ref a/\(∃ xs,SqT K H1 a xs)/\R (Itt K a) H1
theorem wE {l:Expr} {tl:TE} (hl:PE X l tl):PI X tg l (iList X.K tl):=by
 refine ⟨?_⟩
 intro pins s σ H R I h
 refine thn (hl pins s σ H _ I h) fun v s1 hzz => ?_
 obtain ⟨x,H1,I1,r1,q1⟩ := hzz
 obtain ⟨a,e,⟨xs,hq⟩,q⟩ := q1
 subst e
 cases r1
 obtain ⟨its,rv,p,hz⟩ := I1.list hq
 refine wpAny_pyIter_list p.isList ?_
 refine ⟨s1.heap.objs.size,[s1.heap.objs.size],_,_,H1,rfl,I1.kept (t':=s1.toks) fun b o e=>Heap.get?_push_of_some _ e,turn_list a _,⟨_,Heap.get?_push_size _ rfl,rfl,rfl⟩,fun b hb => ?_,q⟩
 have e:b=s1.heap.objs.size:=by simpa using hb
 subst e
 exact I1.fpOk (Nat.le_refl _) (I1.hok.fresh (Nat.le_refl _))
theorem pi_tup {l:Expr} {tl:TE} (hl:PE X l tl):PI X tg l (iTup X.K tl):=by
 refine ⟨?_⟩
 intro pins s σ H R I h
 refine thn (hl pins s σ H _ I h) fun v s1 hzz => ?_
 obtain ⟨x,H1,I1,r1,q1⟩ := hzz
 obtain ⟨a,e,⟨xs,hq⟩,q⟩ := q1
 subst e
 cases r1
 obtain ⟨its,rv,p,hz⟩ := I1.tuple hq
 refine wpAny_pyIter_tuple (show s1.heap.IsTuple a its.toArray from p) ?_
 refine ⟨s1.heap.objs.size,[s1.heap.objs.size],_,_,H1,rfl,I1.kept (t':=s1.toks) fun b o e=>Heap.get?_push_of_some _ e,turn_tuple a _,⟨_,Heap.get?_push_size _ rfl,rfl,rfl⟩,fun b hb => ?_,q⟩
 have e:b=s1.heap.objs.size:=by simpa using hb
 subst e
 exact I1.fpOk (Nat.le_refl _) (I1.hok.fresh (Nat.le_refl _))
theorem range_it {pins:List (Addr × Obj)} {σ:St} {H:Hp} {s:Shared} {R:It->Hp->Prop} {E:Value->Shared->Prop} {lo hi:Int} {t u v:Tok} {tk:Nat} (I:Inv X pins σ H s) (h1 : -(2 ^ 62)<=lo) (h2:lo<2 ^ 62) (h3 : -(2 ^ 62)<=hi) (h4:hi<2 ^ 62)
  (q:R (Itr lo (hi - lo).toNat) H):wpAny (model X.prog X.w) X.A (pyIter (.ref s.heap.objs.size)) (PIE X pins σ tg R) E { s with heap:=s.heap.push { cls:=.type "range",data:=.fields #[.int lo t,.int hi u,.int 1 v] },toks:=tk }:=by
 refine wpAny_pyIter_range (IsRange.new ..) (small_one h1 h2 h3 h4) ?_
 have I1:Inv X pins σ H { s with heap:=s.heap.push { cls:=.type "range",data:=.fields #[.int lo t,.int hi u,.int 1 v] },toks:=tk }:=I.kept fun b o e=>Heap.get?_push_of_some _ e
 refine ⟨(s.heap.push { cls:=.type "range",data:=.fields #[.int lo t,.int hi u,.int 1 v] }).objs.size,[(s.heap.push { cls:=.type "range",data:=.fields #[.int lo t,.int hi u,.int 1 v] }).objs.size],_,_,H,rfl,
  I1.kept (t':=tk) fun b o e=>Heap.get?_push_of_some _ e,turn_range _ lo (hi - lo).toNat,?_,fun b hb => ?_,q⟩
 ·have e1:lo+((0:Nat):Int) * 1=lo:=by simp
  have e2:(((hi - lo).toNat:Nat):Int) - ((0:Nat):Int)=Builtin.Range.rangeSize lo hi 1:=by rw [rangeSize_one]; split <;> (first|lia|omega)
  show IsRangeIter _ _ (lo+((0:Nat):Int) * 1) ((((hi - lo).toNat:Nat):Int) - ((0:Nat):Int)) 1
  rw [e1,e2]
  exact Heap.get?_push_size _ rfl
 ·have e:b=(s.heap.push { cls:=.type "range",data:=.fields #[.int lo t,.int hi u,.int 1 v] }).objs.size:=by simpa using hb
  subst e
  exact I1.fpOk (Nat.le_refl _) (I1.hok.fresh (Nat.le_refl _))
def iRng1 (ta:TA):TI:=fun σ H R=>ta σ H fun vs H1=>∃ j:Int,vs=[.int j] /\ -(2 ^ 62)<=j/\j<2 ^ 62/\R (Itr 0 j.toNat) H1
theorem jY {a:Expr} {ta:TA} {p pos:Pos} (hg:Gl X "range") (hm:X.mg "range" = none) (ha:PA X [a] ta) (hs:starEach [a] X.env=[(false,eval a X.env)]:=by rfl):PI X tg (.Call (.Name "range" p) [a] [] pos) (iRng1 ta):=by
 refine ⟨?_⟩
 intro pins s σ H R I h
 refine Call_ (ld_blt I hg hm boot_range (PyProof.Rows.callWith_type1 (thn (ha pos pins s σ H _ I h) fun us s1 ⟨vs,H1,I1,r1,q1⟩ => ?_) hs rfl))
 obtain ⟨j,e,q1,q2,q⟩ := q1
 subst e
 cases r1 with
 | cons r rr =>
  cases rr
  obtain ⟨t,rfl⟩ := r
  exact call_range_1 (range_it I1 (by (first|lia|omega)) (by (first|lia|omega)) q1 q2 (by simpa using q))
def tFor (wi:TI) (g:TG) (tb:TS):TS:=fun D σ H=>wi σ H fun J H1=>∃ W:Nat->Nat->St->Hp->Prop,(∃ m,W 0 m σ H1)/\∀ i m σ H,W i m σ H ->
 (J.stop i H/\D.nx σ H)\/(J.go i H/\∃ N:St->Hp->Prop,(∀ σ' H',N σ' H'->∃ m',m'<m/\W (i+1) m' σ' H')/\∀ x H',J.yld i H x H'->g x σ H' fun σ2 H2=>tb { D with nx:=N,ct:=N,bk:=D.nx } σ2 H2)
def pinsAt (fp:List Addr) (h:Heap):List (Addr × Obj):=fp.filterMap fun b=>(h.get? b).map fun o=>(b,o)
theorem wY {fp:List Addr} {h:Heap} {b:Addr} {o:Obj} (hb:b∈fp) (e:h.get? b=some o):(b,o)∈pinsAt fp h:=List.mem_filterMap.mpr ⟨b,hb,by rw [e]; rfl⟩
theorem of_pinsAt {fp:List Addr} {h:Heap} {p:Addr × Obj} (hp:p∈pinsAt fp h):p.1∈fp/\h.get? p.1=some p.2:=by
 obtain ⟨b,hb,e⟩ := List.mem_filterMap.mp hp
 cases q:h.get? b with
 | none=>rw [q] at e; cases e
 | some o =>
  rw [q] at e
  have e':(b,o)=p:=Option.some.inj e
  subst e'
  exact ⟨hb,q⟩
theorem Inv.pinned {pins:List (Addr × Obj)} {σ:St} {H:Hp} {s:Shared} {fp:List Addr} (I:Inv X pins σ H s) (hf:∀ b∈fp,FpOk X pins H b) (ho:∀ b∈fp,∃ o,s.heap.get? b=some o/\∀ v,o.data ≠ .cell v):Inv X (pins++pinsAt fp s.heap) σ H s :=
 I.pins_of fun p hp=>(List.mem_append.mp hp).elim (fun z=>I.pin p (List.mem_append_right _ z)) fun z=>by
  obtain ⟨hb,e⟩ := of_pinsAt z
  obtain ⟨f0,f1,f2,_⟩ := hf p.1 hb
  obtain ⟨o,e',d⟩ := ho p.1 hb
  rw [e] at e'; cases e'
  exact ⟨e,f0,f1,f2,d⟩
theorem Inv.unpinned {pins pl:List (Addr × Obj)} {σ:St} {H:Hp} {s:Shared} (I:Inv X (pins++pl) σ H s):Inv X pins σ H s:=I.pins_of fun p hp=>I.pin p (List.mem_append_right _ (List.mem_append_left _ hp))
theorem kH {iter:Expr} {body:List Stmt} {wi:TI} {g:TG} {tb:TS} {pos:Pos} (hp:PassesOwn (model X.prog X.w) X.A X.env X.xe) (hc:X.calm=true) (hi:PI X tg iter wi) (hg:PG X tg g) (hb:PSs X body tb)
  (hs:∀ x,foldedSetIterable iter X.env x=pure x:=by intro _; rfl):PS X (.For tg iter body [] pos) (tFor wi g tb):=by
 refine ⟨?_⟩
 intro pins s σ H D I h
 refine wpAny_For (thn (hi pins s σ H _ I h) fun v s1 h1=>thn h1 fun itv s2 h2 => ?_) hs
 obtain ⟨it,fp,tn,J,H2,e,I2,T,st2,f2,W,⟨m0,w0⟩,turn⟩ := h2
 subst e
 have stat:∀ {H':Hp},(∀ b∈fp,H' b=none)->∀ b∈fp,FpOk X pins H' b:=fun hn b hb=>⟨hn b hb,(f2 b hb).2⟩
 refine codeAny_forLoop_any (fun n s'=>∃ i σ' H',Inv X pins σ' H' s'/\tn i s'.heap/\(∀ b∈fp,H' b=none)/\W i n σ' H') ?_ m0 ⟨0,σ,H2,I2,st2,fun b hb=>(f2 b hb).1,w0⟩
 rintro n s3 ⟨i,σ3,H3,I3,st3,fr3,w3⟩
 rcases turn i n σ3 H3 w3 with ⟨stop,qn⟩ | ⟨go,N,hN,step⟩
 ·refine wpAny_passesOwn hp (thn (T.done X rfl rfl rfl hc i pins s3 σ3 H3 X.xe I3 (stat fr3) st3 stop) fun r s4 hzz => ?_)
  obtain ⟨hr,I4⟩ := hzz
  subst hr
  exact wpAny_execs_nil ⟨σ3,H3,I4,qn⟩
 ·refine wpAny_passesOwn hp (thn (T.item X rfl rfl rfl hc i pins s3 σ3 H3 X.xe I3 (stat fr3) st3 go) fun r s4 hzz => ?_)
  obtain ⟨u,hr,h4⟩ := hzz
  subst hr
  refine wpAny_passesOwn hp (thn h4 fun _ s5 hzz => ?_)
  obtain ⟨x,H5,I5,r5,y5,st5,fr5⟩ := hzz
  have I5':=I5.pinned (stat fr5) (T.obj _ _ st5)
  refine wpAny_passesOwn hp (thn (hg _ s5 σ3 H5 x u _ I5' r5 (step x H5 y5)) fun _ s6 hzz => ?_)
  obtain ⟨σ6,H6,I6,q6⟩ := hzz
  refine wpAny_passesOwn hp (thn (hb _ s6 σ6 H6 _ I6 q6) fun f s7 q7 => ?_)
  have again:∀ {σ7:St} {H7:Hp},Inv X (pins++pinsAt fp s5.heap) σ7 H7 s7->N σ7 H7->∃ m,m<n/\∃ i σ' H',Inv X pins σ' H' s7/\tn i s7.heap/\(∀ b∈fp,H' b=none)/\W i m σ' H':=fun {σ7 H7} I7 n7=>by
   obtain ⟨m',hm,w7⟩ := hN σ7 H7 n7
   refine ⟨m',hm,i+1,σ7,H7,I7.unpinned,T.keep _ _ _ st5 fun b hb o e=>(I7.pin (b,o) (List.mem_append_right _ (List.mem_append_right _ (wY hb e)))).1,fun b hb => ?_,w7⟩
   obtain ⟨o,e,d⟩ := T.obj _ _ st5 b hb
   exact (I7.pin (b,o) (List.mem_append_right _ (List.mem_append_right _ (wY hb e)))).2.1
  cases f with
  | next=>obtain ⟨σ7,H7,I7,n7⟩ := q7; exact again I7 n7
  | cont=>obtain ⟨σ7,H7,I7,n7⟩ := q7; exact again I7 n7
  | brk=>obtain ⟨σ7,H7,I7,q7⟩ := q7; exact ⟨σ7,H7,I7.unpinned,q7⟩
  | ret v=>obtain ⟨x7,σ7,H7,I7,r7,q7⟩ := q7; exact ⟨x7,σ7,H7,I7.unpinned,r7,q7⟩
end

theorem for_list {K:PySem.W.Frag} {a:Addr} {xs:List V} {g:TG} {tb:TS} {D:Ends} {σ:St} {H:Hp} (Pv:Nat->St->Hp->Prop) (h0:Pv 0 σ H) (hl:∀ i σ H,i<=xs.length->Pv i σ H->SqL K H a xs)
  (hs:∀ i x σ H,xs[i]? = some x->Pv i σ H->g x σ H fun σ2 H2=>tb { D with nx:=Pv (i+1),ct:=Pv (i+1),bk:=D.nx } σ2 H2) (hd:∀ σ H,Pv xs.length σ H->D.nx σ H) :
  ∃ W:Nat->Nat->St->Hp->Prop,(∃ m,W 0 m σ H)/\∀ i m σ H,W i m σ H ->
   ((Itl K a).stop i H/\D.nx σ H)\/((Itl K a).go i H/\∃ N:St->Hp->Prop,(∀ σ' H',N σ' H'->∃ m',m'<m/\W (i+1) m' σ' H')/\∀ x H',(Itl K a).yld i H x H'->g x σ H' fun σ2 H2=>tb { D with nx:=N,ct:=N,bk:=D.nx } σ2 H2):=by
 refine ⟨fun i m σ H=>m=xs.length - i/\i<=xs.length/\Pv i σ H,⟨xs.length,by simp,Nat.zero_le _,h0⟩,?_⟩
 rintro i m σ H ⟨rfl,hi,p⟩
 have q:=hl i σ H hi p
 by_cases hlt:i<xs.length
 ·refine .inr ⟨⟨xs,xs[i],q,by simp [hlt]⟩,Pv (i+1),fun σ' H' p'=>⟨xs.length - (i+1),by (first|lia|omega),rfl,hlt,p'⟩,fun x H' y => ?_⟩
  obtain ⟨e,y⟩ := y
  subst e
  exact hs i x σ _ (y xs q) p
 ·have e:i=xs.length:=by (first|lia|omega)
  subst e
  exact .inl ⟨⟨xs,q,Nat.le_refl _⟩,hd σ H p⟩
theorem kU {lo:Int} {n:Nat} {g:TG} {tb:TS} {D:Ends} {σ:St} {H:Hp} (Pv:Nat->St->Hp->Prop) (h0:Pv 0 σ H)
  (hs:∀ i σ H,i<n->Pv i σ H->g (.int (lo+i)) σ H fun σ2 H2=>tb { D with nx:=Pv (i+1),ct:=Pv (i+1),bk:=D.nx } σ2 H2) (hd:∀ σ H,Pv n σ H->D.nx σ H) :
  ∃ W:Nat->Nat->St->Hp->Prop,(∃ m,W 0 m σ H)/\∀ i m σ H,W i m σ H ->
   ((Itr lo n).stop i H/\D.nx σ H)\/((Itr lo n).go i H/\∃ N:St->Hp->Prop,(∀ σ' H',N σ' H'->∃ m',m'<m/\W (i+1) m' σ' H')/\∀ x H',(Itr lo n).yld i H x H'->g x σ H' fun σ2 H2=>tb { D with nx:=N,ct:=N,bk:=D.nx } σ2 H2):=by
 refine ⟨fun i m σ H=>m=n - i/\i<=n/\Pv i σ H,⟨n,by simp,Nat.zero_le _,h0⟩,?_⟩
 rintro i m σ H ⟨rfl,hi,p⟩
 by_cases hlt:i<n
 ·refine .inr ⟨hlt,Pv (i+1),fun σ' H' p'=>⟨n - (i+1),by (first|lia|omega),rfl,hlt,p'⟩,fun x H' y => ?_⟩
  obtain ⟨e,y⟩ := y
  subst e y
  exact hs i σ _ hlt p
 ·have e:i=n:=by (first|lia|omega)
  subst e
  exact .inl ⟨Nat.le_refl _,hd σ H p⟩
end L2

namespace L2
open PySem PySem.Spec PyProof.Rows

abbrev R2:=V->V->Hp->VK->Prop
def OpR (X:Cx) (f:Value->Value->Sem Value) (r:R2):Prop :=
 ∀ (pins:List (Addr × Obj)) (s:Shared) (σ:St) (H:Hp) (x y:V) (v u:Value) (Q:VK),Inv X pins σ H s->RelV x v->RelV y u->r x y H Q ->
  wpAny (model X.prog X.w) X.A (f v u) (EP X pins σ Q) X.xe s
def UnR (X:Cx) (f:Value->Sem Value) (r:V->Hp->VK->Prop):Prop :=
 ∀ (pins:List (Addr × Obj)) (s:Shared) (σ:St) (H:Hp) (x:V) (v:Value) (Q:VK),Inv X pins σ H s->RelV x v->r x H Q ->
  wpAny (model X.prog X.w) X.A (f v) (EP X pins σ Q) X.xe s
def CallR (X:Cx) (f:Value) (r:List V->Hp->VK->Prop):Prop :=
 ∀ (pins:List (Addr × Obj)) (s:Shared) (σ:St) (H:Hp) (xs:List V) (us:List Value) (Q:VK),Inv X pins σ H s->Vals xs us->r xs H Q ->
  wpAny (model X.prog X.w) X.A (call f us) (EP X pins σ Q) X.xe s
def TruR (X:Cx) (r:V->Hp->(Bool->Hp->Prop)->Prop):Prop :=
 ∀ (pins:List (Addr × Obj)) (s:Shared) (σ:St) (H:Hp) (x:V) (v:Value) (Q:Bool->Hp->Prop),Inv X pins σ H s->RelV x v->r x H Q ->
  wpAny (model X.prog X.w) X.A (truthy v) (TP X pins σ Q) X.xe s

def tOp (r:R2) (ta tb:TE):TE:=fun σ H Q=>ta σ H fun x H1=>tb σ H1 fun y H2=>r x y H2 Q
def tUn (r:V->Hp->VK->Prop) (ta:TE):TE:=fun σ H Q=>ta σ H fun x H1=>r x H1 Q
def rI (C:Int->Int->Prop) (g:Int->Int->V):R2:=fun x y H Q=>∃ i j,x = .int i/\y = .int j/\C i j/\Q (g i j) H
def rI0 (g:Int->Int->V):R2:=fun x y H Q=>∃ i j,x = .int i/\y = .int j/\Q (g i j) H
def rU (g:Int->V):V->Hp->VK->Prop:=fun x H Q=>∃ i,x = .int i/\Q (g i) H

section
variable {X:Cx} {a b c:Expr} {ta tb tc:TE} {pos:Pos}

theorem binT (ha:PE X a ta) (hb:PE X b tb) {pins:List (Addr × Obj)} {s:Shared} {σ:St} {H:Hp} {R:V->V->Hp->Prop} (I:Inv X pins σ H s)
  (h:ta σ H fun x H1=>tb σ H1 fun y H2=>R x y H2) {Q:Value->Shared->Prop} {f:Value->Value->Sem Value}
  (hf:∀ v u s2 x y H2,Inv X pins σ H2 s2->RelV x v->RelV y u->R x y H2->wpAny (model X.prog X.w) X.A (f v u) Q X.xe s2) :
  wpAny (model X.prog X.w) X.A (eval a X.env) (fun v s₁=>wpAny (model X.prog X.w) X.A (eval b X.env) (fun u s₂=>wpAny (model X.prog X.w) X.A (f v u) Q X.xe s₂) X.xe s₁) X.xe s:=by
 refine thn (ha pins s σ H _ I h) fun v s1 hzz => ?_
 obtain ⟨x,H1,I1,r1,q1⟩ := hzz
 refine thn (hb pins s1 σ H1 _ I1 q1) fun u s2 hzz => ?_
 obtain ⟨y,H2,I2,r2,q2⟩ := hzz
 exact hf v u s2 x y H2 I2 r1 r2 q2

theorem zL {op:Operator} {r:R2} (ho:OpR X (binaryOp op) r) (ha:PE X a ta) (hb:PE X b tb):PE X (.BinOp a op b pos) (tOp r ta tb):=by
 refine ⟨?_⟩
 intro pins s σ H Q I h
 exact wpAny_BinOp (binT ha hb I h fun v u s2 x y H2 I2 rx ry q=>ho pins s2 σ H2 x y v u Q I2 rx ry q)
theorem pe_un {op:UnaryOp} {r:V->Hp->VK->Prop} (ho:UnR X (unaryOp op) r) (ha:PE X a ta):PE X (.UnaryOp op a pos) (tUn r ta):=by
 refine ⟨?_⟩
 intro pins s σ H Q I h
 exact UnaryOp_ (thn (ha pins s σ H _ I h) fun v s1 ⟨x,H1,I1,r1,q1⟩=>ho pins s1 σ H1 x v Q I1 r1 q1)
theorem opI {f:Value->Value->Sem Value} {C:Int->Int->Prop} {g:Int->Int->Int}
  (rule:∀ (i j:Int) (t u:Tok) (s:Shared) (Q:Value->Shared->Prop) (E:Value->Shared->Prop),C i j->Q (.int (g i j) s.toks) { s with toks:=s.toks+1 }->wpAny (model X.prog X.w) X.A (f (.int i t) (.int j u)) Q E s) :
  OpR X f (rI C fun i j => .int (g i j)):=by
 intro pins s σ H x y v u Q I rx ry h
 obtain ⟨i,j,rfl,rfl,hc,q⟩ := h
 obtain ⟨t,rfl⟩ := rx
 obtain ⟨t',rfl⟩ := ry
 exact rule i j t t' s _ _ hc ⟨.int (g i j),H,I.tok _,⟨_,rfl⟩,q⟩
theorem opI0 {f:Value->Value->Sem Value} {g:Int->Int->Int}
  (rule:∀ (i j:Int) (t u:Tok) (s:Shared) (Q:Value->Shared->Prop) (E:Value->Shared->Prop),Q (.int (g i j) s.toks) { s with toks:=s.toks+1 }->wpAny (model X.prog X.w) X.A (f (.int i t) (.int j u)) Q E s) :
  OpR X f (rI0 fun i j => .int (g i j)):=by
 intro pins s σ H x y v u Q I rx ry h
 obtain ⟨i,j,rfl,rfl,q⟩ := h
 obtain ⟨t,rfl⟩ := rx
 obtain ⟨t',rfl⟩ := ry
 exact rule i j t t' s _ _ ⟨.int (g i j),H,I.tok _,⟨_,rfl⟩,q⟩
theorem opB0 {f:Value->Value->Sem Value} {g:Int->Int->Bool}
  (rule:∀ (i j:Int) (t u:Tok) (s:Shared) (Q:Value->Shared->Prop) (E:Value->Shared->Prop),Q (.bool (g i j)) s->wpAny (model X.prog X.w) X.A (f (.int i t) (.int j u)) Q E s) :
  OpR X f (rI0 fun i j => .bl (g i j)):=by
 intro pins s σ H x y v u Q I rx ry h
 obtain ⟨i,j,rfl,rfl,q⟩ := h
 obtain ⟨t,rfl⟩ := rx
 obtain ⟨t',rfl⟩ := ry
 exact rule i j t t' s _ _ ⟨.bl (g i j),H,I,rfl,q⟩

def CPow (i j:Int):Prop:=0<=j/\j<=1000000/\i.natAbs<2 ^ 64
def CMul (i j:Int):Prop:=(-(2 ^ 64)<i/\i<2 ^ 64)\/(-(2 ^ 64)<j/\j<2 ^ 64)
theorem CMul.ok {i j:Int} (h:CMul i j):IntMulOk i j:=by
 rcases h with ⟨h1,h2⟩ | ⟨h1,h2⟩
 ·exact .of_left (intBits_le_64 h1 h2)
 ·exact .of_right (intBits_le_64 h1 h2)
theorem yX:OpR X (binaryOp .Add) (rI0 fun i j => .int (i+j)):=opI0 fun _ _ _ _ _ _ _ q=>add_int q
theorem jL:OpR X (binaryOp .Sub) (rI0 fun i j => .int (i - j)):=opI0 fun _ _ _ _ _ _ _ q=>sub_int q
theorem wI:OpR X (binaryOp .Mult) (rI CMul fun i j => .int (i * j)):=opI fun _ _ _ _ _ _ _ hc q=>mul_int q hc.ok
theorem wJ:OpR X (binaryOp .Mod) (rI (fun _ j=>0<j) fun i j => .int (i % j)):=opI fun i j _ _ _ _ _ hc q=>by
 have h1:(0:Int)<j:=hc
 exact mod_int' (by (first|lia|omega)) (by rw [Int.fmod_eq_emod_of_nonneg i (by (first|lia|omega))]; exact q)
theorem op_pow:OpR X (binaryOp .Pow) (rI CPow fun i j => .int (i ^ j.toNat)):=opI fun _ _ _ _ _ _ _ hc q=>pow_int_small hc.1 hc.2.1 hc.2.2 q
theorem unI {f:Value->Sem Value} {g:Int->Int}
  (rule:∀ (i:Int) (t:Tok) (s:Shared) (Q:Value->Shared->Prop) (E:Value->Shared->Prop),Q (.int (g i) s.toks) { s with toks:=s.toks+1 }->wpAny (model X.prog X.w) X.A (f (.int i t)) Q E s) :
  UnR X f (rU fun i => .int (g i)):=by
 intro pins s σ H x v Q I rx h
 obtain ⟨i,rfl,q⟩ := h
 obtain ⟨t,rfl⟩ := rx
 exact rule i t s _ _ ⟨.int (g i),H,I.tok _,⟨_,rfl⟩,q⟩
theorem un_neg:UnR X (unaryOp .USub) (rU fun i => .int (-i)):=unI fun _ _ _ _ _ q=>neg_int q
end

def scal:V->V->Bool
 | .non,.non=>true | .non,.int _=>true | .int _,.non=>true | .non,.bl _=>true | .bl _,.non=>true | .non,.str _=>true | .str _,.non=>true
 | .int _,.int _=>true | .bl _,.bl _=>true | .str _,.str _=>true | .byt _,.byt _=>true
 | .int _,.str _=>true | .str _,.int _=>true | .bl _,.str _=>true | .str _,.bl _=>true
 | _,_=>false
def rEq:R2:=fun x y H Q=>scal x y=true/\Q (.bl (decide (x=y))) H
def rNe:R2:=fun x y H Q=>scal x y=true/\Q (.bl (!decide (x=y))) H

theorem dec_int {i j:Int}:decide (V.int i=V.int j)=(i == j):=by
 rw [Bool.eq_iff_iff]
 simp
 exact ⟨fun h=>by injection h,fun h=>by rw [h]⟩
theorem dec_bl {i j:Bool}:decide (V.bl i=V.bl j)=(i == j):=by
 rw [Bool.eq_iff_iff]
 simp
 exact ⟨fun h=>by injection h,fun h=>by rw [h]⟩
theorem dec_str {i j:Str}:decide (V.str i=V.str j)=(i == j):=by
 rw [Bool.eq_iff_iff]
 simp
 exact ⟨fun h=>by injection h,fun h=>by rw [h]⟩
theorem dec_byt {i j:Array UInt8}:decide (V.byt i=V.byt j)=(i.toList == j.toList):=by
 rw [Bool.eq_iff_iff]
 cases i
 cases j
 simp
 exact ⟨fun h=>by injection h with h; injection h,fun h=>by rw [h]⟩

section
variable {X:Cx} {a b c:Expr} {ta tb tc:TE} {pos:Pos}
theorem yK {pins:List (Addr × Obj)} {σ:St} {H:Hp} {s:Shared} {Q:VK} {k k':Bool} (I:Inv X pins σ H s) (q:Q (.bl k) H) (e:k=k'):EP X pins σ Q (.bool k') s:=by
 subst e
 exact ⟨.bl k,H,I,rfl,q⟩
theorem yQ:OpR X (compareOp .Eq) rEq:=by
 intro pins s σ H x y v u Q I rx ry h
 obtain ⟨hs,q⟩ := h
 cases x with
 | non =>
  cases rx
  cases y with
  | non=>cases ry; exact PySem.EqNone.eq_none_none (yK I q (by simp))
  | bl j=>cases ry; exact PySem.EqNone.eq_none_bool (yK I q (by simp))
  | int j=>obtain ⟨t',rfl⟩ := ry; exact PySem.EqNone.eq_none_int (yK I q (by simp))
  | str j=>obtain ⟨t',rfl⟩ := ry; exact PySem.EqNone.eq_none_str (yK I q (by simp))
  | _=>exact absurd (show false=true from hs) Bool.false_ne_true
 | bl i =>
  cases rx
  cases y with
  | non=>cases ry; exact PySem.EqNone.eq_bool_none (yK I q (by simp))
  | bl j=>cases ry; exact eq_bool (yK I q dec_bl)
  | str j=>obtain ⟨t',rfl⟩ := ry; exact PySem.EqMixed.eq_bool_str (yK I q (by simp))
  | _=>exact absurd (show false=true from hs) Bool.false_ne_true
 | int i =>
  obtain ⟨t,rfl⟩ := rx
  cases y with
  | non=>cases ry; exact PySem.EqNone.eq_int_none (yK I q (by simp))
  | int j=>obtain ⟨t',rfl⟩ := ry; exact eq_int (yK I q dec_int)
  | str j=>obtain ⟨t',rfl⟩ := ry; exact PySem.EqMixed.eq_int_str (yK I q (by simp))
  | _=>exact absurd (show false=true from hs) Bool.false_ne_true
 | str i =>
  obtain ⟨t,rfl⟩ := rx
  cases y with
  | non=>cases ry; exact PySem.EqNone.eq_str_none (yK I q (by simp))
  | bl j=>cases ry; exact PySem.EqMixed.eq_str_bool (yK I q (by simp))
  | int j=>obtain ⟨t',rfl⟩ := ry; exact PySem.EqMixed.eq_str_int (yK I q (by simp))
  | str j=>obtain ⟨t',rfl⟩ := ry; exact eq_str (yK I q dec_str)
  | _=>exact absurd (show false=true from hs) Bool.false_ne_true
 | byt i =>
  obtain ⟨t,rfl⟩ := rx
  cases y with
  | byt j=>obtain ⟨t',rfl⟩ := ry; exact PySem.W.eq_bytes (yK I q dec_byt)
  | _=>exact absurd (show false=true from hs) Bool.false_ne_true
 | _=>cases y <;> exact absurd (show false=true from hs) Bool.false_ne_true
theorem op_ne:OpR X (compareOp .NotEq) rNe:=by
 intro pins s σ H x y v u Q I rx ry h
 obtain ⟨hs,q⟩ := h
 cases x with
 | non =>
  cases rx
  cases y with
  | non=>cases ry; exact PySem.EqNone.ne_none_none (yK I q (by simp))
  | bl j=>cases ry; exact PySem.EqNone.ne_none_bool (yK I q (by simp))
  | int j=>obtain ⟨t',rfl⟩ := ry; exact PySem.EqNone.ne_none_int (yK I q (by simp))
  | str j=>obtain ⟨t',rfl⟩ := ry; exact PySem.EqNone.ne_none_str (yK I q (by simp))
  | _=>exact absurd (show false=true from hs) Bool.false_ne_true
 | bl i =>
  cases rx
  cases y with
  | non=>cases ry; exact PySem.EqNone.ne_bool_none (yK I q (by simp))
  | bl j=>cases ry; exact ne_bool (yK I q (congrArg not dec_bl))
  | str j=>obtain ⟨t',rfl⟩ := ry; exact PySem.EqMixed.ne_bool_str (yK I q (by simp))
  | _=>exact absurd (show false=true from hs) Bool.false_ne_true
 | int i =>
  obtain ⟨t,rfl⟩ := rx
  cases y with
  | non=>cases ry; exact PySem.EqNone.ne_int_none (yK I q (by simp))
  | int j=>obtain ⟨t',rfl⟩ := ry; exact ne_int (yK I q (congrArg not dec_int))
  | str j=>obtain ⟨t',rfl⟩ := ry; exact PySem.EqMixed.ne_int_str (yK I q (by simp))
  | _=>exact absurd (show false=true from hs) Bool.false_ne_true
 | str i =>
  obtain ⟨t,rfl⟩ := rx
  cases y with
  | non=>cases ry; exact PySem.EqNone.ne_str_none (yK I q (by simp))
  | bl j=>cases ry; exact PySem.EqMixed.ne_str_bool (yK I q (by simp))
  | int j=>obtain ⟨t',rfl⟩ := ry; exact PySem.EqMixed.ne_str_int (yK I q (by simp))
  | str j=>obtain ⟨t',rfl⟩ := ry; exact ne_str (yK I q (congrArg not dec_str))
  | _=>exact absurd (show false=true from hs) Bool.false_ne_true
 | byt i =>
  obtain ⟨t,rfl⟩ := rx
  cases y with
  | byt j=>obtain ⟨t',rfl⟩ := ry; exact PySem.W.ne_bytes (yK I q (congrArg not dec_byt))
  | _=>exact absurd (show false=true from hs) Bool.false_ne_true
 | _=>cases y <;> exact absurd (show false=true from hs) Bool.false_ne_true

theorem op_lt:OpR X (compareOp .Lt) (rI0 fun i j => .bl (decide (i<j))):=opB0 fun _ _ _ _ _ _ _ q=>lt_int q
theorem op_gt:OpR X (compareOp .Gt) (rI0 fun i j => .bl (decide (j<i))):=opB0 fun _ _ _ _ _ _ _ q=>gt_int q
theorem op_ge:OpR X (compareOp .GtE) (rI0 fun i j => .bl (decide (j<=i))):=opB0 fun _ _ _ _ _ _ _ q=>ge_int q
theorem op_isN:OpR X (compareOp .Is) (fun x y H Q=>y = .non/\Q (.bl (decide (x = .non))) H):=by
 intro pins s σ H x y v u Q I rx ry h
 obtain ⟨rfl,q⟩ := h
 cases ry
 refine is_none_gen (yK I q ?_)
 cases x <;> first
  | (cases rx; rfl)
  | (obtain ⟨t,rfl⟩ := rx; rfl)
theorem op_notN:OpR X (compareOp .IsNot) (fun x y H Q=>y = .non/\Q (.bl (!decide (x = .non))) H):=by
 intro pins s σ H x y v u Q I rx ry h
 obtain ⟨rfl,q⟩ := h
 cases ry
 refine isnot_none_gen (yK I q ?_)
 cases x <;> first
  | (cases rx; rfl)
  | (obtain ⟨t,rfl⟩ := rx; rfl)

theorem op_notin_str:OpR X (compareOp .NotIn) (fun x y H Q=>∃ i j,x = .str i/\y = .str j/\Q (.bl (!(!(Builtin.Str.occurrences j i 0 j.length 1).isEmpty))) H):=by
 intro pins s σ H x y v u Q I rx ry h
 obtain ⟨i,j,rfl,rfl,q⟩ := h
 obtain ⟨t,rfl⟩ := rx
 obtain ⟨t',rfl⟩ := ry
 exact notIn_str (yK I q rfl)
theorem nomark (b:Expr) {op:CmpOp} (h:op ≠ .In:=by decide) (h2:op ≠ .NotIn:=by decide):behindInMarks op b=false:=by
 have e1:(op == CmpOp.In)=false:=by cases op <;> first | rfl | exact absurd rfl h
 have e2:(op == CmpOp.NotIn)=false:=by cases op <;> first | rfl | exact absurd rfl h2
 cases b <;> simp [behindInMarks,e1,e2]
theorem qA {op:CmpOp} {r:R2} (ho:OpR X (compareOp op) r) (ha:PE X a ta) (hb:PE X b tb) (hm:behindInMarks op b=false):PE X (.Compare a [op] [b] pos) (tOp r ta tb):=by
 refine ⟨?_⟩
 intro pins s σ H Q I h
 exact wpAny_Compare1 (binT ha hb I h fun v u s2 x y H2 I2 rx ry q=>ho pins s2 σ H2 x y v u Q I2 rx ry q) hm
def tTest (t:TE):TT:=fun σ H Q=>t σ H fun x H'=>∃ k,x = .bl k/\Q k H'
theorem zM {op:CmpOp} {r:R2} (ho:OpR X (compareOp op) r) (ha:PE X a ta) (hb:PE X b tb) (hm:behindInMarks op b=false):PT X (.Compare a [op] [b] pos) (tTest (tOp r ta tb)):=by
 refine ⟨?_⟩
 intro pins s σ H Q I h
 refine wpAny_isTrue_Compare1 (thn (ha pins s σ H _ I h) fun v s1 ⟨x,H1,I1,r1,q1⟩=>thn (hb pins s1 σ H1 _ I1 q1) fun u s2 ⟨y,H2,I2,r2,q2⟩ =>
  thn (ho pins s2 σ H2 x y v u _ I2 r1 r2 q2) fun c s3 ⟨z,H3,I3,r3,k,e,q3⟩ => ?_) hm
 subst e
 cases r3
 exact wpAny_truthy_bool ⟨H3,I3,q3⟩
def TruV (K:PySem.W.Frag) (x:V) (H:Hp) (k:Bool):Prop :=
 match x with
 | .non=>k=false
 | .bl b=>k=b
 | .int i=>k=(i != 0)
 | .str y=>y.length<=sizeLine/\k=((y.length:Int) != 0)
 | .byt y=>y.size<=sizeLine/\k=((y.size:Int) != 0)
 | .ref p=>(∃ xs,SqL K H p xs/\k = !xs.isEmpty)\/(∃ xs,SqT K H p xs/\k = !xs.isEmpty)\/∃ kvs,H p=some (.dK kvs)/\k = !kvs.isEmpty
 | _=>False
theorem isEmpty_kv {κ:Type} {kvs:List (κ × V)} {vs:List (κ × Value)} (r:KV kvs vs):(!vs.isEmpty) = !kvs.isEmpty:=by
 cases r <;> rfl
theorem isEmpty_of {xs:List V} {its:List Value} (r:Vals xs its):(!its.toArray.isEmpty) = !xs.isEmpty:=by
 cases r <;> simp
theorem line63:(sizeLine:Nat)<2 ^ 63:=by rw [sizeLine_eq]; decide
theorem tru_ok:TruR X (fun x H Q=>∃ k,TruV X.K x H k/\Q k H):=by
 intro pins s σ H x v Q I rx h
 obtain ⟨k,e,q⟩ := h
 have hl:=line63
 have hs:sizeLine=16777216:=sizeLine_eq
 cases x with
 | non =>
  cases rx
  have e':k=false:=e
  subst e'
  exact truthy_none ⟨H,I,q⟩
 | bl b =>
  cases rx
  have e':k=b:=e
  subst e'
  exact wpAny_truthy_bool ⟨H,I,q⟩
 | int i =>
  obtain ⟨t,rfl⟩ := rx
  have e':k=(i != 0):=e
  subst e'
  exact PySem.P.truthy_int ⟨H,I,q⟩
 | str y =>
  obtain ⟨t,rfl⟩ := rx
  obtain ⟨hy,e'⟩ : y.length<=sizeLine/\k=((y.length:Int) != 0):=e
  subst e'
  exact PySem.P.truthy_str (by (first|lia|omega)) ⟨H,I.tok _,q⟩
 | byt y =>
  obtain ⟨t,rfl⟩ := rx
  obtain ⟨hy,e'⟩ : y.size<=sizeLine/\k=((y.size:Int) != 0):=e
  subst e'
  exact PySem.W.truthy_bytes (by (first|lia|omega)) ⟨H,I.tok _,q⟩
 | ref p =>
  cases rx
  have e':(∃ xs,SqL X.K H p xs/\k = !xs.isEmpty)\/(∃ xs,SqT X.K H p xs/\k = !xs.isEmpty)\/∃ kvs,H p=some (.dK kvs)/\k = !kvs.isEmpty:=e
  rcases e' with ⟨xs,hx,e'⟩ | ⟨xs,hx,e'⟩ | ⟨kvs,hx,e'⟩
  ·subst e'
   obtain ⟨its,r,pl,hz⟩ := I.list hx
   have hlen:=r.length
   exact wpAny_truthy_list pl.isList (by simp only [List.size_toArray]; (first|lia|omega)) ⟨H,I.tok _,by rw [isEmpty_of r]; exact q⟩
  ·subst e'
   obtain ⟨its,r,pl,hz⟩ := I.tuple hx
   have hlen:=r.length
   exact truthy_tuple pl (by simp only [List.size_toArray]; (first|lia|omega)) ⟨H,I.tok _,by rw [isEmpty_of r]; exact q⟩
  ·subst e'
   obtain ⟨hz,hS,vs,r,m⟩ : kvs.length<=sizeLine/\(p == sysModules)=false/\∃ vs,KV kvs vs/\s.heap.DictOf (mixKind X.prog X.w) p vs:=I.hok p _ hx
   have hlen:kvs.length=vs.length:=Paired.length r
   exact wpAny_truthy_dict hS m (by (first|lia|omega)) ⟨H,I.tok _,by rw [isEmpty_kv r]; exact q⟩
 | _=>exact (show False from e).elim
theorem pt_truth (ha:PE X a ta) (he:∀ whole,isTrue a X.env whole=(do let v <- whole; standAt a.pos; holding [v] (truthy v))) :
  PT X a (fun σ H Q=>ta σ H fun x H'=>∃ k,TruV X.K x H' k/\Q k H'):=by
 refine ⟨?_⟩
 intro pins s σ H Q I h
 exact isTrue_plain (thn (ha pins s σ H _ I h) fun v s1 ⟨x,H1,I1,r1,q1⟩=>tru_ok pins s1 σ H1 x v Q I1 r1 q1) (he _)

theorem kS:OpR X (binaryOp .Add) (fun x y H Q=>∃ i j,x = .str i/\y = .str j/\i.length+j.length<=sizeLine/\Q (.str (i++j)) H):=by
 intro pins s σ H x y v u Q I rx ry h
 obtain ⟨i,j,rfl,rfl,hz,q⟩ := h
 obtain ⟨t,rfl⟩ := rx
 obtain ⟨t',rfl⟩ := ry
 exact add_str (fun t' tk=>⟨.str (i++j),H,I.tok _,⟨_,rfl⟩,q⟩) hz
theorem vals1 {x:V} {us:List Value} (r:Vals [x] us):∃ u,us=[u]/\RelV x u:=by
 cases r with
 | cons r1 r2=>cases r2; exact ⟨_,rfl,r1⟩
theorem vals2 {x y:V} {us:List Value} (r:Vals [x,y] us):∃ u w',us=[u,w']/\RelV x u/\RelV y w':=by
 cases r with
 | cons r1 r2 =>
  cases r2 with
  | cons r3 r4=>cases r4; exact ⟨_,_,rfl,r1,r3⟩
theorem call_int1:CallR X (.type "int") (fun xs H Q=>(∃ i,xs=[.int i]/\Q (.int i) H)\/∃ k,xs=[.bl k]/\Q (.int (if k then 1 else 0)) H):=by
 intro pins s σ H xs us Q I r h
 rcases h with ⟨i,rfl,q⟩ | ⟨k,rfl,q⟩
 ·obtain ⟨u,rfl,t,rfl⟩ := vals1 r
  exact call_int_int ⟨.int i,H,I,⟨_,rfl⟩,q⟩
 ·obtain ⟨u,rfl,r1⟩ := vals1 r
  cases r1
  exact call_int_bool ⟨.int (if k then 1 else 0),H,I.tok _,⟨_,rfl⟩,q⟩
theorem call_str_int:CallR X (.type "str") (fun xs H Q=>∃ i,xs=[.int i]/\i.natAbs.log2<1920/\Q (.str (toString i)) H):=by
 intro pins s σ H xs us Q I r h
 obtain ⟨i,rfl,hz,q⟩ := h
 obtain ⟨u,rfl,t,rfl⟩ := vals1 r
 exact PySem.P.str_of_int hz ⟨.str _,H,I.tok _,⟨_,rfl⟩,q⟩
end
end L2

namespace L2
open PySem PySem.Spec PyProof.Rows

structure ObjM (h:Heap) (x dx C:Addr) (mA:Str->Option Value):Prop where
 obj:h.get? x=some (PySem.W.instObj C dx)
 ns:h.Ns1 dx mA
 ne:dx≠x

theorem wO {h:Heap} {dx:Addr} {mA:Str->Option Value} (n:h.Ns1 dx mA):∃ od,h.get? dx=some od/\∀ name,PySem.W.lookIn name od=some (mA name):=by
 obtain ⟨o,es,ep,ho,hd,hk,_,hm⟩ := n
 refine ⟨o,ho,fun name => ?_⟩
 have e:=hm name
 unfold nsFind findBy at e
 rw [<- Array.find?_toList] at e
 unfold PySem.W.lookIn
 rw [hd]
 dsimp only
 split
 ·rename_i y q
  rw [q] at e
  exact congrArg some e
 ·rename_i q
  rw [q] at e
  have a:es.toList.any (·.refKey)=false:=by
   rw [List.any_eq_false]
   intro y hy
   obtain ⟨z,t,hkey⟩ := hk y (Array.mem_toList_iff.mp hy)
   simp [DictEntry.refKey,hkey]
  have a':¬ es.toList.any (·.refKey)=true:=by rw [a]; exact Bool.false_ne_true
  rw [if_neg a']
  exact congrArg some e

theorem ObjM.look {h:Heap} {x dx C:Addr} {mA:Str->Option Value} (I:ObjM h x dx C mA):∃ od,PySem.W.InstAt h x (PySem.W.instObj C dx) C (some od)/\∀ name,PySem.W.lookIn name od=some (mA name) :=
 let ⟨od,ho,hl⟩ := wO I.ns
 ⟨od,⟨I.obj,rfl,rfl,ho⟩,hl⟩

section
variable {prog:Program} {w:World} {A:Around} {E:Value->Shared->Prop} {s:Shared} {K:PySem.W.Frag} {x dx C f:Addr} {mA:Str->Option Value} {name:Str} {v:Value}

theorem get_map {expr:Bool} {Q:Value->Shared->Prop} (X:K.In s.heap) (I:ObjM s.heap x dx C mA) (hg:PySem.W.plainGet K C name=true) (hh:PySem.W.hasDictIn K C=true)
  (ha:PySem.W.findIn K (.ref C) name=some none) (hv:mA name=some v) (hv':PySem.W.handedIn v=true) (h:Q v { s with toks:=s.toks+1 }) :
  wpAny (model prog w) A (getAttr (.ref x) name expr) Q E s:=by
 obtain ⟨od,J,hl⟩ := I.look
 exact PySem.W.get_value X J (PySem.W.plainGet_of hg).1 (PySem.W.findObj_own hh ha rfl (by rw [hl,hv])) hv' h

theorem set_map {ns:List Str} {Q:Unit->Shared->Prop} (X:K.In s.heap) (I:ObjM s.heap x dx C mA)
  (hs:PySem.W.findIn K (.ref C) "__setattr__" = some (some (.builtin "object.__setattr__"))) (hp:PySem.W.plainOver K C=true) (ht:PySem.W.takerIn K C name=some none) (hh:PySem.W.hasDictIn K C=true)
  (hw:PySem.Within mA ns) (hsz:ns.length<=sizeLine)
  (h:∀ h',ObjM h' x dx C (fun y=>if y=name then some v else mA y)->Heap.SameBut dx s.heap h'->Q () { s with heap:=h',toks:=s.toks+2 }) :
  wpAny (model prog w) A (setAttr (.ref x) name v) Q E s:=by
 obtain ⟨od,J,hl⟩ := I.look
 refine PySem.W.set_plain X J hs (PySem.W.osa_open (s:={ s with toks:=s.toks+1 }) (r:=none) X J hp ht fun b => ?_)
 obtain ⟨cd,hc,hd'⟩ := PySem.W.any_some hh
 have hx:s.heap.get? x=some ⟨.ref C,some dx,.plain,#[]⟩ := I.obj
 refine wpAny_bind (wpAny_pure (wpAny_bind (wpAny_bind (wpAny_loadPart hx (wpAny_bind (PySem.W.Looks.here (s:={ s with toks:=s.toks+1 }) (PySem.W.looks_clsIn X hc) ?_))))))
 rw [hd']
 refine wpAny_pure (a:=some dx) (wpAny_bind (wpAny_pure (wpAny_bind ?_)))
 refine wpAny_nsSet1 (s:={ s with toks:=s.toks+1 }) I.ns fun h' hn2 hs2 => ?_
 obtain ⟨oD,esD,epD,hoD,hdD,hcD⟩ := hn2.count (PySem.Within.cons name v hw)
 refine wpAny_bind (wpAny_lookBehind hoD (by rw [hdD]; exact pastItsLine_dict (Nat.le_trans hcD (by rw [List.length_cons]; (first|lia|omega)))) ?_)
 exact wpAny_pure (h _ ⟨(hs2.2 _ (Ne.symm I.ne)).trans I.obj,hn2,I.ne⟩ hs2)

theorem make_map {R:Result->Shared->Prop} {vs:List Value} {kw:List (Str × Value)} (X:K.In s.heap) (hm:PySem.W.makesIn K C=true)
  (hi:PySem.W.findIn K (.ref C) "__init__" = some (some (.ref f))) (hf:PySem.W.typeIn K (.ref f)=some (.type "function"))
  (h:codeAny (model prog w) (A.under (.builtin "type.__call__" ⟨.ref C :: vs,kw⟩)) (.call (.ref f) ⟨.ref (s.heap.objs.size+1) :: vs,kw⟩) (PySem.W.InitBack (s.heap.objs.size+1) R)
   { s with heap:=(s.heap.push PySem.W.emptyDict).push (PySem.W.instObj C s.heap.objs.size) }) :
  codeAny (model prog w) A (.call (.ref C) ⟨vs,kw⟩) R s:=by
 obtain ⟨hh,g,d,t,os⟩ := s
 exact PySem.W.make_core (PySem.W.makes_of X hm) (PySem.W.looks_findIn X hi) (fun self=>PySem.W.bind_fn X self hf) (.inl rfl) h
end

def putF (f:Str) (v:V):List (Str × V)->List (Str × V)
 | []=>[(f,v)]
 | (g,x) :: r=>if g=f then (g,v) :: r else (g,x) :: putF f v r
theorem lookup_putF (f g:Str) (v:V):∀ fs:List (Str × V),(putF f v fs).lookup g=if g=f then some v else fs.lookup g
 | []=>by
  show List.lookup g [(f,v)]=_
  by_cases h:g=f
  ·have hb:(g == f)=true:=beq_iff_eq.mpr h
   simp only [List.lookup,hb,if_pos h]
  ·have hb:(g == f)=false:=beq_eq_false_iff_ne.mpr h
   simp only [List.lookup,hb,if_neg h]
 | (k,x) :: r=>by
  have ih:=lookup_putF f g v r
  rw [show putF f v ((k,x) :: r)=(if k=f then (k,v) :: r else (k,x) :: putF f v r) from rfl]
  by_cases hk:k=f
  ·rw [if_pos hk]
   by_cases h:g=k
   ·have hb:(g == k)=true:=beq_iff_eq.mpr h
    simp only [List.lookup,hb,if_pos (h.trans hk)]
   ·have hb:(g == k)=false:=beq_eq_false_iff_ne.mpr h
    simp only [List.lookup,hb,if_neg (fun e:g=f=>h (e.trans hk.symm))]
  ·rw [if_neg hk]
   by_cases h:g=k
   ·have hb:(g == k)=true:=beq_iff_eq.mpr h
    simp only [List.lookup,hb,if_neg (fun e:g=f=>hk (h.symm.trans e))]
   ·have hb:(g == k)=false:=beq_eq_false_iff_ne.mpr h
    simp only [List.lookup,hb]
    exact ih
theorem wP (f:Str) (v:V):∀ fs:List (Str × V),f∈(putF f v fs).map (·.1)/\∀ g,g∈fs.map (·.1)->g∈(putF f v fs).map (·.1)
 | []=>⟨by simp [putF],fun g h=>by simp at h⟩
 | (k,x) :: r=>by
  obtain ⟨i1,i2⟩ := wP f v r
  rw [show putF f v ((k,x) :: r)=(if k=f then (k,v) :: r else (k,x) :: putF f v r) from rfl]
  by_cases hk:k=f
  ·rw [if_pos hk]
   subst hk
   exact ⟨by simp,fun g h=>by simpa using h⟩
  ·rw [if_neg hk]
   refine ⟨?_,fun g h => ?_⟩
   ·rw [List.map_cons]
    exact List.mem_cons_of_mem _ i1
   ·rw [List.map_cons] at h ⊢
    rcases List.mem_cons.mp h with e | e
    ·exact List.mem_cons.mpr (.inl e)
    ·exact List.mem_cons_of_mem _ (i2 g e)
theorem length_putF (f:Str) (v:V):∀ fs:List (Str × V),(putF f v fs).length<=fs.length+1
 | []=>by simp [putF]
 | (k,x) :: r=>by
  have ih:=length_putF f v r
  rw [show putF f v ((k,x) :: r)=(if k=f then (k,v) :: r else (k,x) :: putF f v r) from rfl]
  by_cases hk:k=f
  ·rw [if_pos hk,List.length_cons,List.length_cons]; (first|lia|omega)
  ·rw [if_neg hk,List.length_cons,List.length_cons]; (first|lia|omega)

theorem RelO.some_of {v:V} {o:Option Value} (r:RelO (some v) o):∃ u,o=some u/\RelV v u:=by
 cases o with
 | none=>exact (show False from r).elim
 | some u=>exact ⟨u,rfl,r⟩
theorem handed_of {v:V} {u:Value} (r:RelV v u):PySem.W.handedIn u=true:=by
 cases v with
 | non=>cases (show u=Value.none from r); rfl
 | bl b=>cases (show u=Value.bool b from r); rfl
 | int i=>obtain ⟨t,e⟩ := (show ∃ t,u=Value.int i t from r); cases e; rfl
 | str x=>obtain ⟨t,e⟩ := (show ∃ t,u=Value.str x t from r); cases e; rfl
 | byt b=>obtain ⟨t,e⟩ := (show ∃ t,u=Value.bytes b t from r); cases e; rfl
 | flt b=>obtain ⟨t,e⟩ := (show ∃ t,u=Value.float b t from r); cases e; rfl
 | ref a=>cases (show u=Value.ref a from r); rfl
 | ty n=>cases (show u=Value.type n from r); rfl

section
variable {P:Program} {w:World} {H H':Hp} {h h':Heap} {a C dx:Addr} {fs fs':List (Str × V)}
theorem ins_get (hok:HOk P w H h) (e:H a=some (.ins C dx fs)):∃ mA,ObjM h a dx C mA/\(∀ f,RelO (fs.lookup f) (mA f))/\PySem.Within mA (fs.map (·.1))/\fs.length<=1000/\H dx=some (.own a):=by
 obtain ⟨d,z,ne,ob,mA,n,r,q⟩ := (show ObjOk P w H h a (.ins C dx fs) from hok a _ e)
 exact ⟨mA,⟨ob,n,ne⟩,r,q,z,d⟩
end

structure Cls (K:PySem.W.Frag) (C:Addr):Prop where
 pg:PySem.W.plainGet K C Str.empty=true
 hd:PySem.W.hasDictIn K C=true
 po:PySem.W.plainOver K C=true
 sa:PySem.W.findIn K (.ref C) "__setattr__" = some (some (.builtin "object.__setattr__"))
theorem Cls.get {K:PySem.W.Frag} {C:Addr} (c:Cls K C) (f:Str):PySem.W.plainGet K C f=true:=c.pg
def NoAttr (K:PySem.W.Frag) (C:Addr) (f:Str):Prop:=PySem.W.findIn K (.ref C) f=some none
theorem NoAttr.taker {K:PySem.W.Frag} {C:Addr} {f:Str} (n:NoAttr K C f):PySem.W.takerIn K C f=some none:=by
 unfold PySem.W.takerIn
 rw [show PySem.W.findIn K (.ref C) f=some none from n]
 rfl
section
variable {X:Cx} {pins:List (Addr × Obj)} {σ:St} {H:Hp} {s:Shared} {a C dx:Addr} {fs:List (Str × V)} {f:Str} {v:V} {A:Around} {E:Value->Shared->Prop}

theorem getattr_ok {b:Bool} {Q:Value->Shared->Prop} (I:Inv X pins σ H s) (e:H a=some (.ins C dx fs)) (c:Cls X.K C) (n:NoAttr X.K C f) (l:fs.lookup f=some v)
  (h:∀ u s',Inv X pins σ H s'->RelV v u->Q u s'):wpAny (model X.prog X.w) A (getAttr (.ref a) f b) Q E s:=by
 obtain ⟨mA,O,r,_,_,_⟩ := ins_get I.hok e
 obtain ⟨u,hu,ru⟩ := RelO.some_of (v:=v) (o:=mA f) (by rw [<- l]; exact r f)
 exact get_map I.kIn O (c.get f) c.hd n hu (handed_of ru) (h u _ (I.tok _) ru)

theorem setattr_ok {y:V} {u:Value} {Q:Unit->Shared->Prop} (I:Inv X pins σ H s) (e:H a=some (.ins C dx fs)) (c:Cls X.K C) (n:NoAttr X.K C f) (hl:fs.length<1000) (ry:RelV y u)
  (h:∀ s',Inv X pins σ (upd H a (.ins C dx (putF f y fs))) s'->Q () s'):wpAny (model X.prog X.w) A (setAttr (.ref a) f u) Q E s:=by
 obtain ⟨mA,O,r,wi,_,ho⟩ := ins_get I.hok e
 have hz:(fs.map (·.1)).length<=sizeLine:=by rw [List.length_map,sizeLine_eq]; (first|lia|omega)
 refine set_map I.kIn O c.sa c.po n.taker c.hd wi hz fun h' O' sb=>h _ ?_
 have hd:∃ o,h'.get? dx=some o:=let ⟨o,_,_,e',_⟩ := O'.ns; ⟨o,e'⟩
 refine I.write (x:=a) (e:=dx) (by rw [e]; exact True.intro) (.inr ho) (fun b q hb z=>(sb.2 b hb).trans z) hd ?_
 refine ⟨by rw [zH O.ne]; exact ho,?_,O.ne,O'.obj,_,O'.ns,fun g => ?_,fun g hg => ?_⟩
 ·have:=length_putF f y fs; (first|lia|omega)
 ·show RelO ((putF f y fs).lookup g) (if g=f then some u else mA g)
  rw [lookup_putF]
  by_cases q:g=f
  ·rw [if_pos q,if_pos q]; exact ry
  ·rw [if_neg q,if_neg q]; exact r g
 ·by_cases q:g=f
  ·rw [q]; exact (wP f y fs).1
  ·refine (wP f y fs).2 g (wi g fun z=>hg ?_)
   show (if g=f then some u else mA g)=none
   rw [if_neg q]; exact z

theorem Inv.made (I:Inv X pins σ H s):Inv X pins σ (upd (upd H s.heap.objs.size (.own (s.heap.objs.size+1))) (s.heap.objs.size+1) (.ins C s.heap.objs.size []))
  { s with heap:=(s.heap.push PySem.W.emptyDict).push (PySem.W.instObj C s.heap.objs.size) }:=by
 have e1:(s.heap.push PySem.W.emptyDict).get? s.heap.objs.size=some PySem.W.emptyDict:=Heap.get?_push_size s.heap rfl
 have e2:((s.heap.push PySem.W.emptyDict).push (PySem.W.instObj C s.heap.objs.size)).get? (s.heap.objs.size+1)=some (PySem.W.instObj C s.heap.objs.size):=by
  have:=Heap.get?_push_size (s.heap.push PySem.W.emptyDict) (o:=PySem.W.instObj C s.heap.objs.size) rfl
  rwa [Heap.size_push] at this
 have e3:(s.heap.push PySem.W.emptyDict).Ns s.heap.objs.size (fun _=>none):=⟨PySem.W.emptyDict,#[],_,e1,rfl,(fun e he=>absurd he (by simp)),fun _=>rfl⟩
 have I1:=I.laid (a:=s.heap.objs.size) (o:=.own (s.heap.objs.size+1)) (h':=s.heap.push PySem.W.emptyDict) (t':=s.toks) (fun b u q=>Heap.get?_push_of_some _ q) (Nat.le_refl _) ⟨_,e1⟩
 refine I1.laid (a:=s.heap.objs.size+1) (o:=.ins C s.heap.objs.size []) (t':=s.toks) (fun b u q=>Heap.get?_push_of_some _ q) (Nat.le_of_eq (Heap.size_push _ _)) ?_
 have ne:s.heap.objs.size≠s.heap.objs.size+1:=Nat.ne_of_lt (Nat.lt_succ_self _)
 refine ⟨by rw [zH ne,zC],Nat.zero_le _,ne,e2,fun _=>none,(Heap.Ns1.of_empty e3).at fun o q=>Heap.get?_push_of_some _ q,fun _=>True.intro,fun y hy=>absurd rfl hy⟩

theorem attr_of {prog:Program} {w:World} {env:Env} {e:Expr} {f:Str} {pos:Pos} {s:Shared} {Q:Value->Shared->Prop} (hb:attributeBase e f env (eval e env)=eval e env)
  (h:wpAny (model prog w) A (eval e env) (fun o s₁=>wpAny (model prog w) A (getAttr o f true) Q E s₁) E s):wpAny (model prog w) A (eval (.Attribute e f pos) env) Q E s :=
 Attribute_any_ h (by rw [arm_eval_Attribute,hb])
end

def tFld (K:PySem.W.Frag) (ta:TE) (f:Str):TE:=fun σ H Q=>ta σ H fun x H1=>∃ a C dx fs v,x = .ref a/\H1 a=some (.ins C dx fs)/\Cls K C/\NoAttr K C f/\fs.lookup f=some v/\Q v H1
def sFld (K:PySem.W.Frag) (ta tv:TE) (f:Str):TS:=fun D σ H=>tv σ H fun y H1=>ta σ H1 fun x H2=>∃ a C dx fs,x = .ref a/\H2 a=some (.ins C dx fs)/\Cls K C/\NoAttr K C f/\fs.length<1000 /\
 D.nx σ (upd H2 a (.ins C dx (putF f y fs)))
def InOp (X:Cx) (op:Operator) (rd:V->V->Hp->VK->Prop):Prop :=
 ∀ (pins:List (Addr × Obj)) (s:Shared) (σ:St) (H:Hp) (x y:V) (u v:Value) (Q:VK),Inv X pins σ H s->RelV x u->RelV y v->rd x y H Q->wpAny (model X.prog X.w) X.A (inplaceOp op u v) (EP X pins σ Q) X.xe s
def sFldAug (K:PySem.W.Frag) (ta tv:TE) (rd:V->V->Hp->VK->Prop) (f:Str):TS:=fun D σ H=>ta σ H fun x H1=>∃ a C dx fs v,x = .ref a/\H1 a=some (.ins C dx fs)/\Cls K C/\NoAttr K C f/\fs.lookup f=some v /\
 tv σ H1 fun y H2=>rd v y H2 fun z H3=>∃ dx' fs',H3 a=some (.ins C dx' fs')/\fs'.length<1000/\D.nx σ (upd H3 a (.ins C dx' (putF f z fs')))

section
variable {X:Cx} {o e value:Expr} {f:Str} {pos pos' tpos:Pos} {ta tv:TE}
theorem yI (he:PE X e ta) (hb:attributeBase e f X.env (eval e X.env)=eval e X.env):PE X (.Attribute e f pos) (tFld X.K ta f):=by
 refine ⟨?_⟩
 intro pins s σ H Q I h
 refine attr_of hb (thn (he pins s σ H _ I h) fun u s1 hzz => ?_)
 obtain ⟨x,H1,I1,rx,a,C,dx,fs,v,ex,ea,c,n,l,q⟩ := hzz
 subst ex
 obtain rfl:u=Value.ref a:=rx
 exact getattr_ok I1 ea c n l fun u' s2 I2 ru=>⟨v,H1,I2,ru,q⟩
theorem ps_fld (ha:PE X o ta) (hv:PE X value tv) (hs:swapsWith value (some (.Attribute o f pos')) pos.line X.env=pure false):PS X (.Assign [.Attribute o f pos'] value pos) (sFld X.K ta tv f):=by
 refine ⟨?_⟩
 intro pins s σ H D I h
 refine plainObj_wpAny_Assign_Attribute (thn (hv pins s σ H _ I h) fun u s1 ⟨y,H1,I1,ry,q⟩=>thn (ha pins s1 σ H1 _ I1 q) fun ov s2 ⟨x,H2,I2,rx,a,C,dx,fs,ex,ea,c,n,l,q2⟩ => ?_) hs
 subst ex
 obtain rfl:ov=Value.ref a:=rx
 exact setattr_ok I2 ea c n l ry fun s3 I3=>⟨σ,_,I3,q2⟩
theorem kQ {op:Operator} {rd:V->V->Hp->VK->Prop} (ha:PE X o ta) (hv:PE X value tv) (hop:InOp X op rd):PS X (.AugAssign (.Attribute o f tpos) op value pos) (sFldAug X.K ta tv rd f):=by
 refine ⟨?_⟩
 intro pins s σ H D I h
 refine wpAny_AugAssign_AttributeAny (thn (ha pins s σ H _ I h) fun ov s1 hzz => ?_)
 obtain ⟨x,H1,I1,rx,a,C,dx,fs,v,ex,ea,c,n,l,q⟩ := hzz
 subst ex
 obtain rfl:ov=Value.ref a:=rx
 refine getattr_ok I1 ea c n l fun u s2 I2 ru=>thn (hv pins s2 σ H1 _ I2 q) fun w3 s3 ⟨y,H2,I3,ry,q3⟩=>thn (hop pins s3 σ H2 v y u w3 _ I3 ru ry q3) fun w4 s4 hzz => ?_
 obtain ⟨z,H3,I4,rz,dx',fs',ea',l',q4⟩ := hzz
 exact setattr_ok I4 ea' c n l' rz fun s5 I5=>⟨σ,_,I5,q4⟩
def rAdd:V->V->Hp->VK->Prop:=fun x y H Q=>∃ i j,x = .int i/\y = .int j/\Q (.int (i+j)) H
theorem in_add:InOp X .Add rAdd:=by
 rintro pins s σ H x y u v Q I rx ry ⟨i,j,rfl,rfl,q⟩
 obtain ⟨t,rfl⟩ := (show ∃ t,u=Value.int i t from rx)
 obtain ⟨t',rfl⟩ := (show ∃ t',v=Value.int j t' from ry)
 exact PyProof.Rows.iadd_int ⟨.int (i+j),H,I.tok _,⟨_,rfl⟩,q⟩
end

section
variable {X:Cx} {pins:List (Addr × Obj)} {σ:St} {H:Hp} {s:Shared} {A:Around} {E:Value->Shared->Prop} {Q:Value->Shared->Prop} {c:Value} {b:Bool}
inductive TyOf (K:PySem.W.Frag) (H:Hp):V->Value->Prop where
 | non:TyOf K H .non (.type "NoneType")
 | bl (x:Bool):TyOf K H (.bl x) (.type "bool")
 | int (i:Int):TyOf K H (.int i) (.type "int")
 | str (x:Str):TyOf K H (.str x) (.type "str")
 | flt (x:UInt64):TyOf K H (.flt x) (.type "float")
 | lst {a:Addr} {xs:List V} (e:H a=some (.lst xs)):TyOf K H (.ref a) (.type "list")
 | frz {a:Addr} {o:Obj} {xs:List V} (e:H a=some (.frz o (.lst xs))):TyOf K H (.ref a) (.type "list")
 | tup {a:Addr} {xs:List V} (e:H a=some (.tup xs)):TyOf K H (.ref a) (.type "tuple")
 | dK {a:Addr} {kvs:List (Key × V)} (e:H a=some (.dK kvs)):TyOf K H (.ref a) (.type "dict")
 | dT {a:Addr} {kvs:List (List Key × V)} (e:H a=some (.dT kvs)):TyOf K H (.ref a) (.type "dict")
 | ins {a C dx:Addr} {fs:List (Str × V)} (e:H a=some (.ins C dx fs)) (cl:Cls K C) (ha:PySem.W.findIn K (.ref C) "__class__" = some (some (.builtin "object.__class__")))
   (hn:PySem.W.specialIn K (.builtin "object.__class__") "__get__" = some (some (.builtin "getset_descriptor.__get__"))) (htk:PySem.W.takesIn K (.builtin "object.__class__")=some true)
   (hm:PySem.W.mroIn K C (.type "object")=some true):TyOf K H (.ref a) (.ref C)
theorem isinst_ok {x:V} {u t:Value} (I:Inv X pins σ H s) (rx:RelV x u) (ty:TyOf X.K H x t) (e:PySem.W.kitOne X.K t c=some b) (h:∀ tk,Q (.bool b) { s with toks:=tk }) :
  wpAny (model X.prog X.w) A (call (.builtin "isinstance") [u,c]) Q E s:=by
 cases ty with
 | non=>cases (show u=Value.none from rx); exact PySem.W.kia_one PySem.W.kitx_none I.kIn True.intro e (fun z=>nomatch z) h
 | bl y=>cases (show u=Value.bool y from rx); exact PySem.W.kia_one PySem.W.kitx_bool I.kIn True.intro e (fun z=>nomatch z) h
 | int i=>obtain ⟨t,q⟩ := (show ∃ t,u=Value.int i t from rx); cases q; exact PySem.W.kia_one PySem.W.kitx_int I.kIn True.intro e (fun z=>nomatch z) h
 | str y=>obtain ⟨t,q⟩ := (show ∃ t,u=Value.str y t from rx); cases q; exact PySem.W.kia_one PySem.W.kitx_str I.kIn True.intro e (fun z=>nomatch z) h
 | flt y=>obtain ⟨t,q⟩ := (show ∃ t,u=Value.float y t from rx); cases q; exact PySem.W.kia_one PySem.W.kitx_float I.kIn True.intro e (fun z=>nomatch z) h
 | @lst a xs ea =>
  cases (show u=Value.ref a from rx)
  obtain ⟨_,_,n,_,h1⟩ := (show ObjOk X.prog X.w H s.heap a (.lst xs) from I.hok a _ ea)
  exact PySem.W.kia_one PySem.W.kitx_list I.kIn ⟨_,h1,rfl⟩ e (fun z=>nomatch z) h
 | @frz a ob xs ea =>
  cases (show u=Value.ref a from rx)
  obtain ⟨_,_,_,n,_,h1⟩ := (show ObjOk X.prog X.w H s.heap a (.frz ob (.lst xs)) from I.hok a _ ea)
  exact PySem.W.kia_one PySem.W.kitx_list I.kIn ⟨_,h1,rfl⟩ e (fun z=>nomatch z) h
 | @tup a xs ea =>
  cases (show u=Value.ref a from rx)
  obtain ⟨_,_,_,p⟩ := (show ObjOk X.prog X.w H s.heap a (.tup xs) from I.hok a _ ea)
  obtain ⟨o,h1,h2,_⟩ := p
  exact PySem.W.kia_one PySem.W.kitx_tuple I.kIn ⟨o,h1,h2⟩ e (fun z=>nomatch z) h
 | @dK a kvs ea =>
  cases (show u=Value.ref a from rx)
  obtain ⟨_,_,vs,_,p⟩ := (show ObjOk X.prog X.w H s.heap a (.dK kvs) from I.hok a _ ea)
  obtain ⟨o,es,ep,h1,h2,_⟩ := p
  exact PySem.W.kia_one PySem.W.kitx_dict I.kIn ⟨o,h1,h2.1⟩ e (fun z=>nomatch z) h
 | @dT a kvs ea =>
  cases (show u=Value.ref a from rx)
  obtain ⟨_,_,xs,_,o,es,ep,h1,h2,_⟩ := (show ObjOk X.prog X.w H s.heap a (.dT kvs) from I.hok a _ ea)
  exact PySem.W.kia_one PySem.W.kitx_dict I.kIn ⟨o,h1,h2.1⟩ e (fun z=>nomatch z) h
 | @ins a C dx fs ea cl ha hn htk hm =>
  cases (show u=Value.ref a from rx)
  obtain ⟨mA,O,_⟩ := ins_get I.hok ea
  obtain ⟨od,J,_⟩ := O.look
  exact PySem.W.kia_one (PySem.W.kitx_own (cl.get _) cl.hd ha hn htk hm) I.kIn J e (fun z=>nomatch z) h
end
end L2

namespace L2
open PySem PySem.Spec PyProof.Rows

structure Room (k:Nat) (A:Around):Prop where
 hd:A.handled=none
 dp:A.depth+3 * k+5<recursionLimit
 un:A.units+16 * k+200<cLine
theorem Room.mono {j k:Nat} {A:Around} (r:Room k A) (h:j<=k):Room j A:=⟨r.hd,by have:=r.dp; (first|lia|omega),by have:=r.un; (first|lia|omega)⟩
theorem Room.deeper {k:Nat} {A:Around} (r:Room (k+1) A) (env:Env):Room k (A.deeper env) :=
 ⟨r.hd,by have:=r.dp; show A.depth+1+3 * k+5<_; (first|lia|omega),by have:=r.un; show A.units+3+16 * k+200<_; (first|lia|omega)⟩
theorem make_depth {A:Around} {C:Addr} {us:List Value} {kw:List (Str × Value)}:(A.under (.builtin "type.__call__" ⟨.ref C :: us,kw⟩)).depth=A.depth+1:=by
 first | rfl | simp [Around.under,Code.weight,Code.isCreation,Code.isGuard,Code.isCaller,Code.frames,Code.isFrame,guardIds]
theorem make_units {A:Around} {C:Addr} {us:List Value} {kw:List (Str × Value)}:(A.under (.builtin "type.__call__" ⟨.ref C :: us,kw⟩)).units=A.units+1:=by
 first | rfl | simp [Around.under,Code.cUnits,Code.frames,Code.isFrame]
theorem Room.make {k:Nat} {A:Around} (r:Room (k+1) A) (C:Addr) (us:List Value) (kw:List (Str × Value)):Room k (A.under (.builtin "type.__call__" ⟨.ref C :: us,kw⟩)) :=
 ⟨r.hd,by have:=r.dp; rw [make_depth]; (first|lia|omega),by have:=r.un; rw [make_units]; (first|lia|omega)⟩
theorem Room.depth {k:Nat} {A:Around} (r:Room k A):A.depth<recursionLimit:=by have:=r.dp; (first|lia|omega)
theorem Room.units {k:Nat} {A:Around} (r:Room k A):A.units+64<cLine:=by have:=r.un; (first|lia|omega)
def tNil:TA:=fun _ H Q=>Q [] H
def tCons (ta:TE) (tr:TA):TA:=fun σ H Q=>ta σ H fun x H1=>tr σ H1 fun xs H2=>Q (x :: xs) H2
section
variable {X:Cx} {e:Expr} {es:List Expr} {te:TE} {t:TA} {pos:Pos}
theorem zB:PA X [] tNil:=⟨fun _ _ _ _ H Q I h=>Calls.spliced_nil ⟨[],H,I,.nil,h⟩⟩
theorem zA (ha:PE X e te) (hr:PA X es t) (hs:starEach (e :: es) X.env=(false,eval e X.env) :: starEach es X.env:=by rfl):PA X (e :: es) (tCons te t):=by
 refine ⟨?_⟩
 intro pos pins s σ H Q I h
 rw [hs]
 show wpAny _ _ (spliced ((false,eval e X.env) :: backTo pos (starEach es X.env))) _ _ s
 refine Calls.spliced_cons (thn (ha pins s σ H _ I h) fun u s1 hzz => ?_)
 obtain ⟨x,H1,I1,r1,q1⟩ := hzz
 exact thn (hr pos pins s1 σ H1 _ I1 q1) fun us s2 ⟨xs,H2,I2,r2,q2⟩=>⟨x :: xs,H2,I2,.cons r1 r2,q2⟩

def tTup (t:TA):TE:=fun σ H Q=>t σ H fun xs H1=>xs.length<=sizeLine/\∀ p,H1 p=none->Q (.ref p) (upd H1 p (.tup xs))
def tLst (t:TA):TE:=fun σ H Q=>t σ H fun xs H1=>xs.length<=sizeLine/\∀ p,H1 p=none->Q (.ref p) (upd H1 p (.lst xs))
theorem zQ {x1} (h:PA X es t):PE X (.Tuple es x1 pos) (tTup t):=by
 refine ⟨?_⟩
 intro pins s σ H Q I hq
 refine wpAny_Tuple_spliced (thn (h pos pins s σ H _ I hq) fun us s1 ⟨xs,H1,I1,r,z,q⟩=>⟨by rw [<- r.length]; exact z,?_⟩)
 have hf:H1 s1.heap.objs.size=none:=I1.hok.fresh (Nat.le_refl _)
 refine ⟨.ref s1.heap.objs.size,upd H1 s1.heap.objs.size (.tup xs),I1.laid (t':=s1.toks) (fun b u e=>Heap.get?_push_of_some _ e) (Nat.le_refl _) ?_,rfl,q _ hf⟩
 exact ⟨z,us,r,⟨_,Heap.get?_push_size _ rfl,rfl,_,rfl⟩⟩
theorem zK (h:PA X es t):PE X (.List es pos) (tLst t):=by
 refine ⟨?_⟩
 intro pins s σ H Q I hq
 refine wpAny_List_spliced (thn (h pos pins s σ H _ I hq) fun us s1 ⟨xs,H1,I1,r,z,q⟩=>⟨by rw [<- r.length]; exact z,?_⟩)
 have hf:H1 s1.heap.objs.size=none:=I1.hok.fresh (Nat.le_refl _)
 refine ⟨.ref s1.heap.objs.size,upd H1 s1.heap.objs.size (.lst xs),I1.laid (t':=s1.toks) (fun b u e=>Heap.get?_push_of_some _ e) (Nat.le_refl _) ?_,rfl,q _ hf⟩
 exact ⟨z,us,0,r,Heap.get?_push_size _ rfl⟩
end

abbrev Sp:=List V->Hp->VK->XK->Prop
abbrev CXT:=List Env->Hp->Shared->XK->Value->Shared->Prop

structure Env0 (P:Program) (w:World) (K:PySem.W.Frag) (mg:Str->Option Value) (base:Heap) (A:Around) (outer:List Env) (s:Shared) (H:Hp):Prop where
 frames:A.frames=some outer
 mod:Mod K mg base
 bs:∀ b o,base.get? b=some o->s.heap.get? b=some o/\H b=none
 bsz:base.objs.size<=s.heap.objs.size
 funs:s.heap.FunFrames base outer
 frf:∀ b∈frs outer,H b=none
 hok:HOk P w H s.heap
 bare:AllBare s.gens
def CE (outer:List Env) (P:Program) (w:World) (H:Hp) (s:Shared) (Q:VK) (u:Value) (s':Shared):Prop :=
 ∃ v H',s'.os=s.os/\AllBare s'.gens/\Un (frs outer) [] H H' s.heap s'.heap/\HOk P w H' s'.heap/\RelV v u/\Q v H'
def CR (CX:CXT) (outer:List Env) (P:Program) (w:World) (H:Hp) (s:Shared) (Q:VK) (E:XK) (r:Result) (s':Shared):Prop :=
 match r with
 | .ok (.ret u)=>CE outer P w H s Q u s'
 | .ok _=>False
 | .error e=>CX outer H s E e s'
structure FnOk (P:Program) (w:World) (K:PySem.W.Frag) (mg:Str->Option Value) (base:Heap) (CX:CXT) (k:Nat) (f:Addr) (fd:FuncData) (ps:List Str) (sp:Sp):Prop where
 len:∀ vs H Q E,sp vs H Q E->vs.length=ps.length
 run:∀ (A:Around) (outer:List Env) (s:Shared) (H:Hp) (args:Args) (us:List Value) (vs:List V) (Q:VK) (E:XK),Room k A->Env0 P w K mg base A outer s H->BindsTo s fd args (ps.zip us)->Vals vs us->sp vs H Q E ->
  codeAny (model P w) A (.call (.ref f) args) (CR CX outer P w H s Q E) s
theorem Env0.make {P:Program} {w:World} {K:PySem.W.Frag} {mg:Str->Option Value} {base:Heap} {A:Around} {outer:List Env} {s:Shared} {H:Hp} (e:Env0 P w K mg base A outer s H) (C:Addr) (us:List Value) (kw:List (Str × Value)) :
  Env0 P w K mg base (A.under (.builtin "type.__call__" ⟨.ref C :: us,kw⟩)) outer s H:=⟨by first | exact e.frames | (simpa [Around.under,Code.envs,Code.isFrame,pushEnvs] using e.frames),e.mod,e.bs,e.bsz,e.funs,e.frf,e.hok,e.bare⟩
section
variable {X:Cx} {pins:List (Addr × Obj)} {σ:St} {H:Hp} {s s':Shared}
theorem Inv.env0 (I:Inv X pins σ H s):Env0 X.prog X.w X.K X.mg X.base X.A X.stack s H :=
 ⟨I.ok.frames,I.ok.mod,I.bs,Nat.le_trans I.ok.bsz I.sz,I.stack,I.stkFree,I.hok,I.bare⟩
theorem Inv.after {Q:VK} {u:Value} (I:Inv X pins σ H s) (h:CE X.stack X.prog X.w H s Q u s'):EP X pins σ Q u s':=by
 obtain ⟨v,H',os,bare,un,hok,r,q⟩ := h
 obtain ⟨hh,g,d,t,os'⟩ := s'
 obtain rfl:os'=s.os:=os
 exact ⟨v,H',I.call (h':=hh) (g':=g) (d':=d) (t':=t) (ch:=[]) un hok bare (fun b z=>absurd z (by simp)),r,q⟩
end

def tCall (sp:Sp) (dvs:List V) (E:XK) (t:TA):TE:=fun σ H Q=>t σ H fun vs H1=>sp (vs++dvs) H1 Q E
def tMake (C:Addr) (sp:Sp) (dvs:List V) (E:XK) (t:TA):TE:=fun σ H Q=>t σ H fun vs H1=>∀ x dx,H1 x=none->H1 dx=none->dx≠x ->
 sp (.ref x :: (vs++dvs)) (upd (upd H1 dx (.own x)) x (.ins C dx [])) (fun v H2=>v = .non/\Q (.ref x) H2) E

def Binds (K:PySem.W.Frag) (fd:FuncData) (ps:List Str) (ds:List Value):Prop :=
 ∀ (s:Shared) (us:List Value),K.In s.heap->(us++ds).length=ps.length->BindsTo s fd ⟨us,[]⟩ (ps.zip (us++ds))
theorem Binds.all {K:PySem.W.Frag} {fd:FuncData} {ps:List Str} (h:∀ us:List Value,us.length=ps.length->bindArgs fd ⟨us,[]⟩=pure (ps.zip us)):Binds K fd ps []:=fun s us _ hl=>by
 rw [List.append_nil] at hl ⊢
 exact .of_eq (h us hl)

def Passes (CX:CXT) (X:Cx) (E:XK):Prop:=∀ (pins:List (Addr × Obj)) (σ:St) (H:Hp) (s:Shared) (e:Value) (s':Shared),Inv X pins σ H s->CX X.stack H s E e s'->X.xe e s'

section
variable {X:Cx} {CX:CXT} {k:Nat} {f C:Addr} {fd:FuncData} {ps:List Str} {sp:Sp} {dvs:List V} {ds:List Value} {E:XK} {x m:Str} {p pos apos:Pos} {e o:Expr} {es:List Expr} {ta:TE} {t:TA}

theorem run_fn {pins:List (Addr × Obj)} {σ:St} {H:Hp} {s:Shared} {Q:VK} {us:List Value} {vs:List V} (F:FnOk X.prog X.w X.K X.mg X.base CX k f fd ps sp) (hr:Room k X.A) (hb:Binds X.K fd ps ds) (hd:Vals dvs ds) (hx:Passes CX X E)
  (I:Inv X pins σ H s) (r:Vals vs us) (h:sp (vs++dvs) H Q E):wpAny (model X.prog X.w) X.A (call (.ref f) us) (EP X pins σ Q) X.xe s:=by
 have r2:Vals (vs++dvs) (us++ds):=r.append hd
 have hl:(us++ds).length=ps.length:=by rw [<- r2.length]; exact F.len _ _ _ _ h
 refine wpAny_call (codeAny_mono (F.run X.A X.stack s H ⟨us,[]⟩ (us++ds) (vs++dvs) Q E hr I.env0 (hb s us I.kIn hl) r2 h) fun r s' hq => ?_)
 cases r with
 | error e=>exact hx pins σ H s e s' I hq
 | ok fl =>
  cases fl with
  | ret u=>exact I.after hq
  | next=>exact False.elim hq
  | brk=>exact False.elim hq
  | cont=>exact False.elim hq

theorem pe_call (F:FnOk X.prog X.w X.K X.mg X.base CX k f fd ps sp) (hr:Room k X.A) (hg:Gl X x) (hm:X.mg x=some (.ref f)) (hk:PySem.W.keepIn X.K (.ref f)=true) (hb:Binds X.K fd ps ds) (hd:Vals dvs ds) (hx:Passes CX X E)
  (ha:PA X (e :: es) t) (hdb:(x == ("__debug__" : Str))=false:=by decide) (he:starEach (e :: es) X.env=(false,eval e X.env) :: starEach es X.env:=by rfl) (hpl:(backTo pos (starEach es X.env)).any (·.1)=false:=by rfl) :
  PE X (.Call (.Name x p) (e :: es) [] pos) (tCall sp dvs E t):=by
 refine ⟨?_⟩
 intro pins s σ H Q I h
 refine wpAny_Call_Name_kw (vB I hg hm ?_ hdb)
 refine PySem.W.callWith_K (h₀:=X.base) I.ok.mod.kin hk (thn (ha pos pins s σ H _ I h) fun us s1 ⟨vs,H1,I1,r,q⟩=>⟨I1.kIn,?_⟩) he hpl
 exact run_fn F hr hb hd hx I1 r q
theorem pe_call0 (F:FnOk X.prog X.w X.K X.mg X.base CX k f fd ps sp) (hr:Room k X.A) (hg:Gl X x) (hm:X.mg x=some (.ref f)) (hk:PySem.W.keepIn X.K (.ref f)=true) (hb:Binds X.K fd ps ds) (hd:Vals dvs ds) (hx:Passes CX X E)
  (hdb:(x == ("__debug__" : Str))=false:=by decide):PE X (.Call (.Name x p) [] [] pos) (tCall sp dvs E tNil):=by
 refine ⟨?_⟩
 intro pins s σ H Q I h
 refine wpAny_Call_Name_kw (vB I hg hm ?_ hdb)
 exact PySem.W.callWith_K0 I.kIn hk (run_fn (us:=[]) F hr hb hd hx I .nil h)

structure Mk (K:PySem.W.Frag) (C f:Addr):Prop where
 makes:PySem.W.makesIn K C=true
 init:PySem.W.findIn K (.ref C) "__init__" = some (some (.ref f))
 fn:PySem.W.isFn K (.ref f)=true
 kp:PySem.W.keepIn K (.ref C)=true

theorem run_make {pins:List (Addr × Obj)} {σ:St} {H:Hp} {s:Shared} {Q:VK} {us:List Value} {vs:List V} (M:Mk X.K C f) (F:FnOk X.prog X.w X.K X.mg X.base CX k f fd ps sp) (hr:Room (k+1) X.A) (hb:Binds X.K fd ps ds) (hd:Vals dvs ds)
  (hx:Passes CX X E) (I:Inv X pins σ H s) (r:Vals vs us)
  (h:∀ x dx,H x=none->H dx=none->dx≠x->sp (.ref x :: (vs++dvs)) (upd (upd H dx (.own x)) x (.ins C dx [])) (fun v H2=>v = .non/\Q (.ref x) H2) E) :
  wpAny (model X.prog X.w) X.A (call (.ref C) us) (EP X pins σ Q) X.xe s:=by
 have hq:=h (s.heap.objs.size+1) s.heap.objs.size (I.hok.fresh (Nat.le_succ _)) (I.hok.fresh (Nat.le_refl _)) (Nat.ne_of_lt (Nat.lt_succ_self _))
 have I2:=Inv.made (C:=C) I
 have r2:Vals (V.ref (s.heap.objs.size+1) :: (vs++dvs)) (Value.ref (s.heap.objs.size+1) :: (us++ds)):=.cons rfl (r.append hd)
 have hl:(Value.ref (s.heap.objs.size+1) :: us++ds).length=ps.length:=by
  have e:=r2.length
  rw [F.len _ _ _ _ hq] at e
  exact e.symm
 refine wpAny_call (make_map (f:=f) I.kIn M.makes M.init (beq_iff_eq.mp M.fn) (codeAny_mono (F.run _ X.stack _ _ ⟨Value.ref (s.heap.objs.size+1) :: us,[]⟩ (Value.ref (s.heap.objs.size+1) :: (us++ds)) _ _ E (hr.make C us [])
  (I2.env0.make C us []) (hb _ (Value.ref (s.heap.objs.size+1) :: us) I2.kIn hl) r2 hq) fun r s' hq' => ?_))
 cases r with
 | error e=>exact hx pins σ _ _ e s' I2 hq'
 | ok fl =>
  cases fl with
  | ret u =>
   obtain ⟨v,H',I3,rv,ev,q3⟩ := I2.after hq'
   subst ev
   exact ⟨rv,⟨V.ref (s.heap.objs.size+1),H',I3,rfl,q3⟩⟩
  | next=>exact False.elim hq'
  | brk=>exact False.elim hq'
  | cont=>exact False.elim hq'
theorem pe_make (M:Mk X.K C f) (F:FnOk X.prog X.w X.K X.mg X.base CX k f fd ps sp) (hr:Room (k+1) X.A) (hg:Gl X x) (hm:X.mg x=some (.ref C)) (hb:Binds X.K fd ps ds) (hd:Vals dvs ds) (hx:Passes CX X E)
  (ha:PA X (e :: es) t) (hdb:(x == ("__debug__" : Str))=false:=by decide) (he:starEach (e :: es) X.env=(false,eval e X.env) :: starEach es X.env:=by rfl) (hpl:(backTo pos (starEach es X.env)).any (·.1)=false:=by rfl) :
  PE X (.Call (.Name x p) (e :: es) [] pos) (tMake C sp dvs E t):=by
 refine ⟨?_⟩
 intro pins s σ H Q I h
 refine wpAny_Call_Name_kw (vB I hg hm ?_ hdb)
 refine PySem.W.callWith_K (h₀:=X.base) I.ok.mod.kin M.kp (thn (ha pos pins s σ H _ I h) fun us s1 ⟨vs,H1,I1,r,q⟩=>⟨I1.kIn,?_⟩) he hpl
 exact run_make M F hr hb hd hx I1 r q
end

structure PK (X:Cx) (kws:List Keyword) (t:TA)  : Prop where
 go:∀ (pos:Pos) (pins:List (Addr × Obj)) (s:Shared) (σ:St) (H:Hp) (Q:List V->Hp->Prop),Inv X pins σ H s->t σ H Q->wpAny (model X.prog X.w) X.A (evalAll ((backToKw pos (keywordEach kws X.env)).map (·.2))) (AP X pins σ Q) X.xe s
instance {X:Cx} {kws:List Keyword} {t:TA}:CoeFun (PK X kws t) (fun _=>∀ (pos:Pos) (pins:List (Addr × Obj)) (s:Shared) (σ:St) (H:Hp) (Q:List V->Hp->Prop),Inv X pins σ H s->t σ H Q->wpAny (model X.prog X.w) X.A (evalAll ((backToKw pos (keywordEach kws X.env)).map (·.2))) (AP X pins σ Q) X.xe s):=⟨PK.go⟩
section
variable {X:Cx} {CX:CXT} {k:Nat} {f C:Addr} {fd:FuncData} {ps ks:List Str} {sp:Sp} {E:XK} {x m:Str} {p pos apos kpos:Pos} {e o:Expr} {es:List Expr} {kws:List Keyword} {te ta:TE} {t tk:TA} {nm:Option Str}
variable {g:List Value->List Value->List Value} {gV:List V->List V->List V}
end

structure FnScope (N P:List Str) (sc:Scope):Prop where
 kind:sc.kind = .function
 co:sc.isCoroutine=false
 gen:sc.isGenerator=false
 nd:N.Nodup
 pre:N.take P.length=P
 par:∀ x∈P,sc.names.lookup x=some .local\/sc.names.lookup x=some .cell
 nofree:∀ y∈sc.names,y.2 ≠ .free

theorem bindL_out {kindOf:Str->Option NameKind} {x:Str}:∀ {binds:List (Str × Value)} {m:Str->Option Value},(∀ v,(x,v) ∉ binds)->bindL kindOf binds m x=m x
 | [],_,_=>rfl
 | (n,v) :: r,m,h=>by
  unfold bindL
  rw [bindL_out fun w hw=>h w (List.mem_cons_of_mem _ hw)]
  split
  ·have:x≠n:=by rintro rfl; exact h v List.mem_cons_self
   simp [this]
  ·rfl
theorem bindC_out {kindOf:Str->Option NameKind} {x:Str}:∀ {binds:List (Str × Value)} {m:Str->Option Value},(∀ v,(x,v) ∉ binds)->bindC kindOf binds m x=m x
 | [],_,_=>rfl
 | (n,v) :: r,m,h=>by
  unfold bindC
  rw [bindC_out fun w hw=>h w (List.mem_cons_of_mem _ hw)]
  split
  ·rfl
  ·have:x≠n:=by rintro rfl; exact h v List.mem_cons_self
   simp [this]
theorem bindL_get {kindOf:Str->Option NameKind} {x:Str} {v:Value}:∀ {P:List Str} {vs:List Value} {i:Nat} {m:Str->Option Value},P.Nodup->P[i]? = some x->vs[i]? = some v->kindOf x=some .local ->
  bindL kindOf (P.zip vs) m x=some v
 | [],_,_,_,_,h,_,_=>by simp at h
 | _ :: _,[],_,_,_,_,h,_=>by simp at h
 | p :: P,w :: vs,0,m,nd,h1,h2,hk=>by
  simp at h1 h2; subst h1; subst h2
  show bindL kindOf ((p,w) :: P.zip vs) m p=_
  unfold bindL
  rw [bindL_out fun v hv=>(List.nodup_cons.mp nd).1 (List.of_mem_zip hv).1,if_pos hk]
  simp
 | p :: P,w :: vs,i+1,m,nd,h1,h2,hk=>by
  show bindL kindOf ((p,w) :: P.zip vs) m x=_
  unfold bindL
  exact bindL_get (i:=i) (List.nodup_cons.mp nd).2 (by simpa using h1) (by simpa using h2) hk
theorem bindC_get {kindOf:Str->Option NameKind} {x:Str} {v:Value}:∀ {P:List Str} {vs:List Value} {i:Nat} {m:Str->Option Value},P.Nodup->P[i]? = some x->vs[i]? = some v->kindOf x≠some .local ->
  bindC kindOf (P.zip vs) m x=some v
 | [],_,_,_,_,h,_,_=>by simp at h
 | _ :: _,[],_,_,_,_,h,_=>by simp at h
 | p :: P,w :: vs,0,m,nd,h1,h2,hk=>by
  simp at h1 h2; subst h1; subst h2
  show bindC kindOf ((p,w) :: P.zip vs) m p=_
  unfold bindC
  rw [bindC_out fun v hv=>(List.nodup_cons.mp nd).1 (List.of_mem_zip hv).1,if_neg hk]
  simp
 | p :: P,w :: vs,i+1,m,nd,h1,h2,hk=>by
  show bindC kindOf ((p,w) :: P.zip vs) m x=_
  unfold bindC
  exact bindC_get (i:=i) (List.nodup_cons.mp nd).2 (by simpa using h1) (by simpa using h2) hk

def start (N:List Str) (vs:List V):St:=vs.map some++List.replicate (N.length - vs.length) none

def cxOf (CX:CXT) (P:Program) (w:World) (K:PySem.W.Frag) (mg:Str->Option Value) (base:Heap) (N:List Str) (qual:Str) (scope:Scope) (f:Addr) (cd:Value) (A:Around) (outer:List Env) (s:Shared) (H:Hp) (E:XK):Cx where
 prog:=P
 w:=w
 K:=K
 mg:=mg
 base:=base
 A:=A.deeper (envOfC qual scope s.heap.objs.size f cd)
 N:=N
 s₀:=s
 H₀:=H
 env:=envOfC qual scope s.heap.objs.size f cd
 outer:=outer
 stack:=envOfC qual scope s.heap.objs.size f cd :: outer
 ex:=[]
 calm:=true
 fn:=fun _=>true
 pn:=[]
 xe:=fun e s'=>wpAny (model P w) (A.deeper (envOfC qual scope s.heap.objs.size f cd)) (leaving (envOfC qual scope s.heap.objs.size f cd) e) (fun _ s''=>CX outer H s E e s'') (fun e' s''=>CX outer H s E e' s'') s'

theorem cell_has {sc:Scope} {n:Nat} {x:Str} (h:sc.names.lookup x=some .cell):∃ c,(cellsFrom n sc.names []).lookup x=some c:=by
 have q:=PySem.W.cellsFrom_some sc.names n [] (.inl h)
 exact Option.isSome_iff_exists.mp q

theorem inv_start {CX:CXT} {P:Program} {w:World} {K:PySem.W.Frag} {mg:Str->Option Value} {base:Heap} {N ps:List Str} {qual:Str} {scope:Scope} {f:Addr} {cd:Value} {A:Around} {outer:List Env} {s s1:Shared} {H:Hp} {E:XK} {us:List Value} {vs:List V}
  (S:FnScope N ps scope) (hd:A.handled=none) (e0:Env0 P w K mg base A outer s H) (hl:vs.length=ps.length) (r:Vals vs us)
  (x:InCallC s s.heap.objs.size (bindL (envOfC qual scope s.heap.objs.size f cd).kindOf (ps.zip us) fun _=>none) (cellsFrom (s.heap.objs.size+1) scope.names []) (bindC (envOfC qual scope s.heap.objs.size f cd).kindOf (ps.zip us) fun _=>none) s1) :
  Inv (cxOf CX P w K mg base N qual scope f cd A outer s H E) [] (start N vs) H s1:=by
 have hpl:ps.length<=N.length:=by have:=congrArg List.length S.pre; rw [List.length_take] at this; (first|lia|omega)
 obtain ⟨h1,tk,rfl,hk⟩ := x.done
 have noA:∀ b:Addr,b ∉ (cxOf CX P w K mg base N qual scope f cd A outer s H E).ex:=fun b z=>absurd (show b∈([]:List Addr) from z) (by simp)
 refine ⟨⟨e0.mod,S.kind,rfl,rfl,Nat.le_refl _,fun y z c h1 h2 => ?_,fun y hy => ?_,fun y c _ h => ?_,fun _=>hd,Around.frames_deeper e0.frames,.inr ⟨rfl,rfl⟩,fun b z=>absurd z (noA b),e0.bs,e0.bsz,fun b _ _=>noA b,fun b z=>absurd z (noA b),e0.funs,e0.frf⟩,
  rfl,e0.bare,Un.kept hk,⟨_,x.toInCall.ns,fun i y v h1 h2 h3 => ?_⟩,fun y c h=>⟨_,x.cell y c h⟩,e0.hok.fresh (Nat.le_refl _),fun y c h => ?_,fun p hp=>absurd (show p∈([]:List (Addr × Obj)) from hp) (by simp),e0.hok.kept hk,?_⟩
 ·exact name_of_addr x.apart (PySem.mem_of_lookup h1) (PySem.mem_of_lookup h2)
 ·have hy:scope.names.lookup y=some .cell\/scope.names.lookup y=some .free:=hy
  rcases hy with hy | hy
  ·exact cell_has hy
  ·exact absurd rfl (S.nofree _ (PySem.mem_of_lookup hy))
 ·exact Nat.le_of_lt (x.above y c (PySem.mem_of_lookup h))
 ·have hi:i<vs.length:=by
   unfold start at h2
   by_cases hi:i<vs.length
   ·exact hi
   ·rw [List.getElem?_append_right (by simpa using hi)] at h2
    rw [List.getElem?_replicate] at h2
    split at h2 <;> cases h2
  have ha:vs[i]? = some v:=by
   unfold start at h2
   rw [List.getElem?_append_left (by simpa using hi),List.getElem?_map] at h2
   cases e:vs[i]? with
   | none=>rw [e] at h2; cases h2
   | some a=>rw [e] at h2; cases h2; rfl
  obtain ⟨u,hu,rv⟩ := r.get ha
  have hp:ps[i]? = some y:=by
   rw [<- S.pre,List.getElem?_take_of_lt (by (first|lia|omega))]; exact h1
  have ndP:ps.Nodup:=by rw [<- S.pre]; exact S.nd.sublist (List.take_sublist _ _)
  refine ⟨u,rv,?_⟩
  rcases S.par y (List.mem_of_getElem? hp) with k | k
  ·exact .inl ⟨k,bindL_get ndP hp hu k⟩
  ·obtain ⟨c,e⟩ := cell_has (n:=s.heap.objs.size+1) k
   refine .inr ⟨.inl k,c,e,?_⟩
   have q:=x.cell y c e
   rw [bindC_get ndP hp hu (by show scope.names.lookup y≠_; rw [k]; decide)] at q
   exact q
 ·exact e0.hok.fresh (Nat.le_of_lt (x.above y c (PySem.mem_of_lookup h)))
 ·unfold start
  show _=N.length
  rw [List.length_append,List.length_map,List.length_replicate]
  (first|lia|omega)

theorem fn_of {CX:CXT} {P:Program} {w:World} {K:PySem.W.Frag} {mg:Str->Option Value} {base:Heap} {k:Nat} {f:Addr} {name qual:Str} {params:Arguments} {body:List Stmt} {scope:Scope} {dV kV doc pm cdv ct oc:Value} {an od:Option Addr}
  {osl:Array (Option Value)} {N ps:List Str} {sp:Sp} (lk:K.lookup f=some ⟨oc,od,.func (PySem.W.fnOf name qual params body scope dV kV doc pm an cdv ct),osl⟩) (hcd:PySem.W.codeIn K cdv qual=true) (S:FnScope N ps scope)
  (len:∀ vs H Q E,sp vs H Q E->vs.length=ps.length)
  (hbody:∀ (A:Around) (outer:List Env) (s:Shared) (H:Hp) (vs:List V) (Q:VK) (E:XK),Room k (A.deeper (envOfC qual scope s.heap.objs.size f cdv))->sp vs H Q E ->
   ∃ t,PSs (cxOf CX P w K mg base N qual scope f cdv A outer s H E) body t/\t { nx:=fun _ H'=>Q .non H',rt:=Q } (start N vs) H) :
  FnOk P w K mg base CX (k+1) f (PySem.W.fnOf name qual params body scope dV kV doc pm an cdv ct) ps sp:=by
 refine ⟨len,fun A outer s H args us vs Q E hr e0 hb r hsp => ?_⟩
 have hl:=len _ _ _ _ hsp
 have KX:K.In s.heap:=e0.mod.kin.keeps fun b o e=>(e0.bs b o e).1
 have lim:s.heap.NoLimit:=e0.mod.nolimit.keeps fun b o e=>(e0.bs b o e).1
 have hkind:∀ y∈ps.zip us,scope.names.lookup y.1=some .local\/(scope.names.lookup y.1=some .cell/\((cellsFrom (s.heap.objs.size+1) scope.names []).lookup y.1).isSome=true):=fun ⟨n,v⟩ hy=>by
  rcases S.par n (List.of_mem_zip hy).1 with q | q
  ·exact .inl q
  ·exact .inr ⟨q,PySem.W.cellsFrom_some _ _ _ (.inl q)⟩
 refine codeAny_call_function hr.depth (KX _ _ lk) rfl S.co S.gen rfl (PySem.W.codeRec_of KX hcd) (hb _ _ _ _ ?_)
 refine wpAny_newFunctionEnv_cells S.kind hkind fun env he s1 x => ?_
 subst he
 refine ⟨lim.keeps x.toInCall.keep,codeAny_func ?_⟩
 obtain ⟨t,ht,hq⟩ := hbody A outer s H vs Q E (hr.deeper _) hsp
 have I:Inv (cxOf CX P w K mg base N qual scope f cdv A outer s H E) [] (start N vs) H s1:=inv_start S hr.hd e0 hl r x
 refine wpAny_mono (ht [] s1 (start N vs) H _ I hq) (fun fl s' hs => ?_) fun e s' hs=>hs
 have fin:∀ {σ':St} {H':Hp} {v:V} {u:Value},Inv (cxOf CX P w K mg base N qual scope f cdv A outer s H E) [] σ' H' s'->RelV v u->Q v H'->CE outer P w H s Q u s' :=
  fun {σ' H' v u} J rv q=>⟨v,H',J.os,J.bare,J.base,J.hok,rv,q⟩
 cases fl with
 | ret u =>
  obtain ⟨v,σ',H',J,rv,q⟩ := hs
  exact fin J rv q
 | next =>
  obtain ⟨σ',H',J,q⟩ := hs
  exact fin (v:=V.non) (u:=Value.none) J rfl q
 | brk =>
  obtain ⟨_,_,_,q⟩ := hs
  exact False.elim q
 | cont =>
  obtain ⟨_,_,_,q⟩ := hs
  exact False.elim q
end L2

namespace L2
open PySem PySem.Spec PyProof.Rows
section
variable {X:Cx} {x:Str} {p pos:Pos} {e:Expr} {es:List Expr} {t:TA} {id T:String} {r:List V->Hp->VK->Prop}

def tCB (r:List V->Hp->VK->Prop) (t:TA):TE:=fun σ H Q=>t σ H fun vs H1=>r vs H1 Q
theorem zU (hc:CallR X (.builtin id) r) (hg:Gl X x) (hm:X.mg x=none) (hv:bootBuiltins x=some (.builtin id)) (ha:PA X (e :: es) t) (hn:x ≠ "__name__" := by decide) (hdb:(x == ("__debug__" : Str))=false:=by decide)
  (he:starEach (e :: es) X.env=(false,eval e X.env) :: starEach es X.env:=by rfl) (hpl:(backTo pos (starEach es X.env)).any (·.1)=false:=by rfl):PE X (.Call (.Name x p) (e :: es) [] pos) (tCB r t):=by
 refine ⟨?_⟩
 intro pins s σ H Q I h
 refine wpAny_Call_Name_kw (ld_blt I hg hm hv ?_ hn hdb)
 exact PyProof.Rows.callWith_builtin1 (thn (ha pos pins s σ H _ I h) fun us s1 ⟨vs,H1,I1,r1,q1⟩=>hc pins s1 σ H1 vs us Q I1 r1 q1) he hpl
theorem yV (hc:CallR X (.type T) r) (hg:Gl X x) (hm:X.mg x=none) (hv:bootBuiltins x=some (.type T)) (ha:PA X (e :: es) t) (hn:x ≠ "__name__" := by decide) (hdb:(x == ("__debug__" : Str))=false:=by decide)
  (he:starEach (e :: es) X.env=(false,eval e X.env) :: starEach es X.env:=by rfl) (hpl:(backTo pos (starEach es X.env)).any (·.1)=false:=by rfl):PE X (.Call (.Name x p) (e :: es) [] pos) (tCB r t):=by
 refine ⟨?_⟩
 intro pins s σ H Q I h
 refine wpAny_Call_Name_kw (ld_blt I hg hm hv ?_ hn hdb)
 exact PyProof.Rows.callWith_type1 (thn (ha pos pins s σ H _ I h) fun us s1 ⟨vs,H1,I1,r1,q1⟩=>hc pins s1 σ H1 vs us Q I1 r1 q1) he hpl
end
end L2

namespace HT
open PySem PyProof.Rows

section
open PySem.SeqAt
open PySem.AutoSeq1 (wpAny_loadPart')
open PySem.MeetsSeq PySem.MeetsSeq2 PySem.MeetsSeq3

end

section
variable {prog:Program} {w:World} {A:Around} {E:Value->Shared->Prop} {s:Shared}

def sIx (n d:Nat):Option Int->Nat
 | none=>d
 | some v=>if v<0 then (v+(n:Int)).toNat else min v.toNat n
theorem sIx_none (n d:Nat):sIx n d none=d:=rfl
theorem sIx_nat (n d k:Nat):sIx n d (some (k:Int))=min k n:=by
 show (if (k:Int)<0 then ((k:Int)+(n:Int)).toNat else min (k:Int).toNat n)=min k n
 rw [if_neg (by (first|lia|omega)),Int.toNat_natCast]
theorem sIx_le (n d:Nat) (hd:d<=n) (o:Option Int):sIx n d o<=n:=by
 cases o with
 | none=>exact hd
 | some v =>
  show (if v<0 then (v+(n:Int)).toNat else min v.toNat n)<=n
  by_cases hv:v<0
  ·rw [if_pos hv]; (first|lia|omega)
  ·rw [if_neg hv]; exact Nat.min_le_right _ _
theorem clip_eq (v:Int) (n d:Nat):(if v<0 then max (v+(n:Int)) 0 else min v (n:Int))=((sIx n d (some v):Nat):Int):=by
 show (if v<0 then max (v+(n:Int)) 0 else min v (n:Int))=(((if v<0 then (v+(n:Int)).toNat else min v.toNat n):Nat):Int)
 by_cases hv:v<0
 ·simp only [if_pos hv]; (first|lia|omega)
 ·simp only [if_neg hv]; (first|lia|omega)
theorem adjust_gen (lo hi:Option Int) (n:Nat):Builtin.Slice.sliceAdjust lo hi 1 (n:Int)=(((sIx n 0 lo:Nat):Int),((sIx n n hi:Nat):Int)):=by
 have h1:¬ ((1:Int)<0):=by (first|lia|omega)
 unfold Builtin.Slice.sliceAdjust
 simp only [h1,if_false]
 refine Prod.ext ?_ ?_
 ·cases lo with
  | none=>rfl
  | some v=>exact clip_eq v n 0
 ·cases hi with
  | none=>rfl
  | some v=>exact clip_eq v n n
theorem places_gen (i j:Nat):Builtin.Slice.slicePlaces (i:Int) (j:Int) 1=j - i:=by
 unfold Builtin.Slice.slicePlaces
 have h1:(1:Int) > 0:=by (first|lia|omega)
 simp only [h1,if_true,Int.ediv_one]
 split <;> (first|lia|omega)
theorem slicePart_ {v:Value} {o:Option Int} {Q:Option Int->Shared->Prop} (p:IsPart v o) (h:Q o s):wpAny (model prog w) A (Builtin.Slice.slicePartIndex v) Q E s:=by
 cases p with
 | none=>exact slicePart_none h
 | int i t=>exact slicePart_int h
theorem wK {sl:Addr} {vl vu:Value} {lo hi:Option Int} {n:Nat} {Q:Int × Int × Nat->Shared->Prop} (hs:s.heap.IsSliceOf sl vl vu .none) (pl:IsPart vl lo) (pu:IsPart vu hi)
  (h:Q (((sIx n 0 lo:Nat):Int),1,sIx n n hi - sIx n 0 lo) s):wpAny (model prog w) A (Builtin.Slice.sliceApplied (.ref sl) (pure (n:Int))) Q E s:=by
 obtain ⟨os,hos,hcs,hds⟩ := id hs
 unfold Builtin.Slice.sliceApplied Builtin.Slice.sliceFields
 refine wpAny_bind (wpAny_bind (wpAny_field hos hds (x:=vl) rfl (wpAny_bind (wpAny_field hos hds (x:=vu) rfl (wpAny_bind (wpAny_field hos hds (x:=.none) rfl (wpAny_pure ?_)))))))
 refine wpAny_bind (slicePart_none ?_)
 show wpAny _ _ (if ((1:Int) == 0)=true then _ else _) _ _ s
 rw [if_neg (by decide)]
 refine wpAny_bind (slicePart_ pl (wpAny_bind (slicePart_ pu (wpAny_bind (wpAny_pure ?_)))))
 show wpAny _ _ (match Builtin.Slice.sliceAdjust lo hi 1 (n:Int) with | (lo,hi)=>pure (lo,(1:Int),Builtin.Slice.slicePlaces lo hi 1)) _ _ s
 rw [adjust_gen lo hi n]
 show wpAny _ _ (pure (((sIx n 0 lo:Nat):Int),(1:Int),Builtin.Slice.slicePlaces ((sIx n 0 lo:Nat):Int) ((sIx n n hi:Nat):Int) 1)) _ _ s
 rw [places_gen]
 exact wpAny_pure h
theorem pick_gen (xs:Array Value) (i k:Nat):((List.range k).filterMap fun (m:Nat)=>xs[((i:Int)+(m:Int) * 1).toNat]?).toArray=((xs.toList.drop i).take k).toArray:=by
 have e:(fun (m:Nat)=>xs[((i:Int)+(m:Int) * 1).toNat]?)=fun m=>xs[i+m]?:=by
  funext m
  have:((i:Int)+(m:Int) * 1).toNat=i+m:=by (first|lia|omega)
  rw [this]
 rw [e]
 have:=pick_run xs i k
 rw [List.filterMap_map] at this
 have e2:((fun x=>xs[x]?) ∘ fun x=>i+x)=fun m=>xs[i+m]?:=rfl
 rw [e2] at this
 rw [this]

theorem getItem_tuple_cut {t sl:Addr} {items:Array Value} {vl vu:Value} {lo hi:Option Int} {Q:Value->Shared->Prop} (ht:IsTup s.heap t items) (hs:s.heap.IsSliceOf sl vl vu .none) (pl:IsPart vl lo) (pu:IsPart vu hi)
  (hw:¬ (sIx items.size 0 lo=0/\sIx items.size items.size hi=items.size))
  (h:Q (.ref s.heap.objs.size) { s with heap:=s.heap.push { cls:=.type "tuple",data:=.seq ((items.toList.drop (sIx items.size 0 lo)).take (sIx items.size items.size hi - sIx items.size 0 lo)).toArray } })
  (hsz:items.size<=sizeLine):wpAny (model prog w) A (getItem (.ref t) (.ref sl)) Q E s:=by
 have htake:sizeOk (.seq ((items.toList.drop (sIx items.size 0 lo)).take (sIx items.size items.size hi - sIx items.size 0 lo)).toArray):=by
  show ((items.toList.drop (sIx items.size 0 lo)).take (sIx items.size items.size hi - sIx items.size 0 lo)).toArray.size<=sizeLine
  rw [List.size_toArray,List.length_take,List.length_drop,Array.length_toList]
  (first|lia|omega)
 have hj:sIx items.size items.size hi<=items.size:=sIx_le _ _ (Nat.le_refl _) hi
 obtain ⟨os,hos,hcs,hds⟩ := id hs
 have hTs:s.TypeIs (.ref sl) "slice" := ⟨os,hos,hcs⟩
 unfold getItem
 try with_reducible refine wpAny_holding ?_
 first | refine wpAny_bind (wpAny_pure ?_) | skip
 refine wpAny_bind (wpAny_sequenceKey ht.typeIs (by decide) ?_)
 refine wpAny_bind (wpAny_callSpecial?_slot (name:=Str.ofString "__getitem__") ht.typeIs PyProof.Rows.slot_tuple_getitem
  (wpAny_call_entry PyProof.Rows.slot_tuple_getitem ht.typeIs entry_tuple_getitem ?_ (args_tuple_getitem _ _)))
 show wpAny _ _ (Builtin.Tuple.tupleItemsOf (.ref t) >>= _) _ _ s
 refine wpAny_bind (tupleItemsOf_ ht ?_)
 refine wpAny_bind (wpAny_typeOf hTs ?_)
 rw [if_pos (by decide)]
 refine wpAny_bind (wK hs pl pu ?_)
 have hno:¬ ((((sIx items.size 0 lo:Nat):Int) == 0 && (1:Int) == 1 && (sIx items.size items.size hi - sIx items.size 0 lo) == items.size)=true):=by
  intro q
  rw [Bool.and_eq_true,Bool.and_eq_true] at q
  have q1:((sIx items.size 0 lo:Nat):Int)=0:=eq_of_beq q.1.1
  have q2:sIx items.size items.size hi - sIx items.size 0 lo=items.size:=eq_of_beq q.2
  exact hw ⟨by (first|lia|omega),by (first|lia|omega)⟩
 show wpAny _ _ (if (((sIx items.size 0 lo:Nat):Int) == 0 && (1:Int) == 1 && (sIx items.size items.size hi - sIx items.size 0 lo) == items.size)=true then _ else _) _ _ s
 rw [if_neg hno,pick_gen]
 first
  | exact wpAny_bind (m:=Builtin.Tuple.tupleExact _) (wpAny_newObj_type (wpAny_pure ⟨_,rfl,wpAny_pure h⟩) htake)
  | exact wpAny_bind (m:=Builtin.Tuple.tupleExact _) (wpAny_newObj_type (wpAny_bind (wpAny_pure (wpAny_pure ⟨_,rfl,wpAny_pure h⟩))) htake)
  | exact wpAny_bind (wpAny_bind (m:=Builtin.Tuple.tupleExact _) (wpAny_newObj_type (wpAny_pure (wpAny_pure ⟨_,rfl,wpAny_pure h⟩)) htake))
  | exact wpAny_bind (wpAny_bind (m:=Builtin.Tuple.tupleExact _) (wpAny_newObj_type (wpAny_pure ⟨_,rfl,wpAny_pure h⟩) htake))
end
end HT

namespace L2
open PySem PySem.Spec PyProof.Rows

abbrev TO:=St->Hp->(Option Int->Hp->Prop)->Prop
structure PO (X:Cx) (e:Option Expr) (t:TO)  : Prop where
 go:∀ (pins:List (Addr × Obj)) (s:Shared) (σ:St) (H:Hp) (Q:Option Int->Hp->Prop),Inv X pins σ H s->t σ H Q ->
  wpAny (model X.prog X.w) X.A (evalPart e X.env) (fun u s'=>∃ o H',Inv X pins σ H' s'/\IsPart u o/\Q o H') X.xe s
instance {X:Cx} {e:Option Expr} {t:TO}:CoeFun (PO X e t) (fun _=>∀ (pins:List (Addr × Obj)) (s:Shared) (σ:St) (H:Hp) (Q:Option Int->Hp->Prop),Inv X pins σ H s->t σ H Q ->
  wpAny (model X.prog X.w) X.A (evalPart e X.env) (fun u s'=>∃ o H',Inv X pins σ H' s'/\IsPart u o/\Q o H') X.xe s):=⟨PO.go⟩
def tNoPart:TO:=fun _ H Q=>Q none H
def tPart (t:TE):TO:=fun σ H Q=>t σ H fun x H1=>∃ i,x = .int i/\Q (some i) H1

section
variable {X:Cx} {e:Expr} {te:TE} {lo hi:Option Expr} {tl th:TO} {pos p2:Pos}

theorem wD:PO X none tNoPart:=by
 refine ⟨?_⟩
 intro pins s σ H Q I h
 rw [evalPart_none]
 exact wpAny_pure ⟨none,H,I,.none,h⟩
theorem wC (h:PE X e te):PO X (some e) (tPart te):=by
 refine ⟨?_⟩
 intro pins s σ H Q I hw
 rw [evalPart_some]
 refine thn (h pins s σ H _ I hw) fun u s1 hzz => ?_
 obtain ⟨x,H1,I1,r1,q1⟩ := hzz
 obtain ⟨i,rfl,q⟩ := q1
 obtain ⟨t,rfl⟩ := r1
 exact ⟨some i,H1,I1,.int i t,q⟩

def SlR (X:Cx) (r:V->Option Int->Option Int->Hp->VK->Prop):Prop :=
 ∀ (pins:List (Addr × Obj)) (s:Shared) (σ:St) (H:Hp) (x:V) (v vl vu:Value) (lo hi:Option Int) (sl:Addr) (Q:VK),Inv X pins σ H s->RelV x v->s.heap.IsSliceOf sl vl vu .none->IsPart vl lo->IsPart vu hi->r x lo hi H Q ->
  ∃ T id,typeLookup (.type T) "__getitem__" = pure (some (.builtin id))/\s.TypeIs v T/\wpAny (model X.prog X.w) X.A (getItem v (.ref sl)) (EP X pins σ Q) X.xe s
def tSl (r:V->Option Int->Option Int->Hp->VK->Prop) (te:TE) (tl th:TO):TE:=fun σ H Q=>te σ H fun x H1=>tl σ H1 fun l H2=>th σ H2 fun u H3=>r x l u H3 Q
theorem qE {r:V->Option Int->Option Int->Hp->VK->Prop} (hr:SlR X r) (he:PE X e te) (hl:PO X lo tl) (hu:PO X hi th):PE X (.Subscript e (.Slice lo hi none p2) pos) (tSl r te tl th):=by
 refine ⟨?_⟩
 intro pins s σ H Q I h
 refine Subscript_ (thn (he pins s σ H _ I h) fun v s1 hzz => ?_)
 obtain ⟨x,H1,I1,r1,q1⟩ := hzz
 refine wpAny_Slice (thn (hl pins s1 σ H1 _ I1 q1) fun vl s2 ⟨l,H2,I2,pl,q2⟩=>thn (hu pins s2 σ H2 _ I2 q2) fun vu s3 hzz => ?_)
 obtain ⟨u,H3,I3,pu,q3⟩ := hzz
 rw [evalPart_none]
 refine wpAny_pure ?_
 have I4:Inv X pins σ H3 { s3 with heap:=s3.heap.push { cls:=.type "slice",data:=.fields #[vl,vu,.none] } }:=I3.kept (t':=s3.toks) fun b ob q=>Heap.get?_push_of_some _ q
 obtain ⟨T,id,hT,ht,hg⟩ := hr pins { s3 with heap:=s3.heap.push { cls:=.type "slice",data:=.fields #[vl,vu,.none] } } σ H3 x v vl vu l u s3.heap.objs.size Q I4 r1 (Heap.IsSliceOf.new ..) pl pu q3
 show wpAny (model X.prog X.w) X.A (subscriptTail e (.Slice lo hi none p2) v (.ref s3.heap.objs.size)) (EP X pins σ Q) X.xe { s3 with heap:=s3.heap.push { cls:=.type "slice",data:=.fields #[vl,vu,.none] } }
 exact tail_any (ops:=[.ref s3.heap.objs.size,v]) ht hT hg (by with_unfolding_all rfl)

def cutV (xs:List V) (lo hi:Option Int):List V:=(xs.drop (HT.sIx xs.length 0 lo)).take (HT.sIx xs.length xs.length hi - HT.sIx xs.length 0 lo)
theorem cutV_length (xs:List V) (lo hi:Option Int):(cutV xs lo hi).length<=xs.length:=by
 unfold cutV
 rw [List.length_take,List.length_drop]
 (first|lia|omega)
def rSlT (K:PySem.W.Frag):V->Option Int->Option Int->Hp->VK->Prop:=fun x lo hi H Q=>∃ a xs,x = .ref a/\SqT K H a xs /\
 ¬ (HT.sIx xs.length 0 lo=0/\HT.sIx xs.length xs.length hi=xs.length)/\∀ p,H p=none->Q (.ref p) (upd H p (.tup (cutV xs lo hi)))
theorem sl_tup:SlR X (rSlT X.K):=by
 intro pins s σ H x v vl vu lo hi sl Q I rx hs pl pu h
 obtain ⟨a,xs,rfl,hx,hw,q⟩ := h
 cases rx
 obtain ⟨its,r,ht,hz⟩ := I.tuple hx
 have hlen:its.toArray.size=xs.length:=by rw [List.size_toArray]; exact r.length.symm
 refine ⟨"tuple",_,PyProof.Rows.slot_tuple_getitem.lookup,ht.typeIs,?_⟩
 refine HT.getItem_tuple_cut ht hs pl pu (by rw [hlen]; exact hw) ?_ (by rw [hlen]; exact hz)
 rw [hlen]
 refine ⟨.ref s.heap.objs.size,_,I.laid (t':=s.toks) (o:=.tup (cutV xs lo hi)) (fun b ob q=>Heap.get?_push_of_some _ q) (Nat.le_refl _) ?_,rfl,q _ (I.hok.fresh (Nat.le_refl _))⟩
 exact ⟨Nat.le_trans (cutV_length xs lo hi) hz,_,(r.drop (HT.sIx xs.length 0 lo)).take (HT.sIx xs.length xs.length hi - HT.sIx xs.length 0 lo),IsTup.new _ _⟩

end
end L2

namespace L2
open PySem PySem.Spec PyProof.Rows

def ixN (n:Nat) (i:Int):Option Nat:=if 0<=i then (if i<n then some i.toNat else none) else if -(n:Int)<=i then some (i+n).toNat else none
def atI {α:Type} (xs:List α) (i:Int):Option α:=(ixN xs.length i).bind fun j=>xs[j]?
theorem ixN_seq {n:Nat} {i:Int} {j:Nat} (h:ixN n i=some j):seqIndex? i n=some j/\j<n /\ -(n:Int)<=i/\i<n:=by
 unfold ixN at h
 by_cases h0 : 0<=i
 ·rw [if_pos h0] at h
  by_cases h1:i<n
  ·rw [if_pos h1] at h
   have e:i.toNat=j:=Option.some.inj h
   exact ⟨by rw [seqIndex_of h0 h1,e],by (first|lia|omega),by (first|lia|omega),h1⟩
  ·rw [if_neg h1] at h; cases h
 ·rw [if_neg h0] at h
  by_cases h1 : -(n:Int)<=i
  ·rw [if_pos h1] at h
   have e:(i+n).toNat=j:=Option.some.inj h
   exact ⟨by rw [seqIndex_neg (by (first|lia|omega)) h1,e],by (first|lia|omega),h1,by (first|lia|omega)⟩
  ·rw [if_neg h1] at h; cases h
theorem atI_get {α:Type} {xs:List α} {i:Int} {v : α} (h:atI xs i=some v):∃ j,seqIndex? i xs.length=some j/\xs[j]? = some v/\j<xs.length /\ -(xs.length:Int)<=i/\i<xs.length:=by
 unfold atI at h
 cases e:ixN xs.length i with
 | none=>rw [e] at h; cases h
 | some j =>
  rw [e] at h
  obtain ⟨h1,h2,h3,h4⟩ := ixN_seq e
  exact ⟨j,h1,h,h2,h3,h4⟩
theorem qB {α:Type} {xs:List α} {j:Nat} {v : α} (h:xs[j]? = some v):atI xs (j:Int)=some v:=by
 have hj:j<xs.length:=(List.getElem?_eq_some_iff.mp h).1
 have e:ixN xs.length (j:Int)=some j:=by
  unfold ixN
  rw [if_pos (by (first|lia|omega)),if_pos (by (first|lia|omega))]; simp
 unfold atI; rw [e]; exact h
theorem atI_last {α:Type} (xs:List α) (v : α):atI (xs++[v]) (-1)=some v:=by
 have hl:(xs++[v]).length=xs.length+1:=by simp
 have e:ixN (xs++[v]).length (-1)=some xs.length:=by
  unfold ixN
  rw [hl,if_neg (by decide),if_pos (by (first|lia|omega))]
  congr 1
  (first|lia|omega)
 unfold atI
 rw [e]
 show (xs++[v])[xs.length]? = some v
 simp

def PlainIx (b:Expr):Prop:=∀ o i,subscripted b false o i=operate [o,i] (getItem o i)
def IxR (X:Cx) (r:R2):Prop :=
 ∀ (value slice:Expr) (pins:List (Addr × Obj)) (s:Shared) (σ:St) (H:Hp) (x y:V) (v u:Value) (Q:VK),Inv X pins σ H s->RelV x v->RelV y u->r x y H Q ->
  subscripted slice false v u=operate [v,u] (getItem v u)->wpAny (model X.prog X.w) X.A (subscriptTail value slice v u) (EP X pins σ Q) X.xe s
def MtR (X:Cx) (id:String) (r:V->List V->Hp->VK->Prop):Prop :=
 ∀ (pins:List (Addr × Obj)) (s:Shared) (σ:St) (H:Hp) (x:V) (xs:List V) (v:Value) (us:List Value) (Q:VK),Inv X pins σ H s->RelV x v->Vals xs us->r x xs H Q ->
  wpAny (model X.prog X.w) X.A (call (.builtin id) (v :: us)) (EP X pins σ Q) X.xe s
section
variable {X:Cx} {a b:Expr} {ta tb:TE} {pos:Pos}
theorem yH {r:R2} (hr:IxR X r) (ha:PE X a ta) (hb:PE X b tb) (hs:PlainIx b):PE X (.Subscript a b pos) (tOp r ta tb):=by
 refine ⟨?_⟩
 intro pins s σ H Q I h
 exact Subscript_ (binT ha hb I h fun v u s2 x y H2 I2 rx ry q=>hr a b pins s2 σ H2 x y v u Q I2 rx ry q (hs _ _))

def rIxL (K:PySem.W.Frag):R2:=fun x y H Q=>∃ p xs i v,x = .ref p/\y = .int i/\SqL K H p xs/\atI xs i=some v/\Q v H
def rIxT (K:PySem.W.Frag):R2:=fun x y H Q=>∃ p xs i v,x = .ref p/\y = .int i/\SqT K H p xs/\atI xs i=some v/\Q v H
def rIxS:R2:=fun x y H Q=>∃ z i c,x = .str z/\y = .int i/\z.length<=sizeLine/\atI z.cps.toList i=some c/\Q (.str ⟨#[c]⟩) H
theorem yD:IxR X (rIxL X.K):=by
 intro value slice pins s σ H x y v u Q I rx ry h hs
 obtain ⟨p,xs,i,z,rfl,rfl,hq,he,q⟩ := h
 cases rx
 obtain ⟨t,rfl⟩ := ry
 obtain ⟨its,r,pl,hz⟩ := I.list hq
 obtain ⟨j,h1,h2,h3,h4,h5⟩ := atI_get he
 obtain ⟨w,ew,rw'⟩ := r.get h2
 have hl:=r.length
 have hn:=line63
 have fin:EP X pins σ Q w s:=⟨z,H,I,rw',q⟩
 by_cases h0 : 0<=i
 ·have hj:i.toNat=j:=by
   rw [seqIndex_of h0 h5] at h1
   exact Option.some.inj h1
  exact item_listR pl.isList h0 (by (first|lia|omega)) (by rw [hj]; simpa using ew) fin hs
 ·have hj:(i+(its.toArray.size:Int)).toNat=j:=by
   rw [seqIndex_neg (by (first|lia|omega)) h4] at h1
   rw [List.size_toArray,<- hl]
   exact Option.some.inj h1
  exact subscriptTail_builtinR (x:=w) pl.isList.typeIs slot_list_getitem.lookup
   (wpAny_getItem_list_neg (Q:=fun r s'=>r=w/\EP X pins σ Q r s') pl.isList (by (first|lia|omega)) (by rw [List.size_toArray] <;> (first|lia|omega)) (by (first|lia|omega)) (by rw [hj]; simpa using ew) ⟨rfl,fin⟩) hs
theorem jG:IxR X (rIxT X.K):=by
 intro value slice pins s σ H x y v u Q I rx ry h hs
 obtain ⟨p,xs,i,z,rfl,rfl,hq,he,q⟩ := h
 cases rx
 obtain ⟨t,rfl⟩ := ry
 obtain ⟨its,r,pl,hz⟩ := I.tuple hq
 obtain ⟨j,h1,h2,h3,h4,h5⟩ := atI_get he
 obtain ⟨w,ew,rw'⟩ := r.get h2
 have hl:=r.length
 have hn:=line63
 have fin:EP X pins σ Q w s:=⟨z,H,I,rw',q⟩
 exact subscriptTail_builtinR (x:=w) pl.typeIs slot_tuple_getitem.lookup
  (getItem_tuple (j:=j) (Q:=fun r s'=>r=w/\EP X pins σ Q r s') pl (by (first|lia|omega)) (by (first|lia|omega)) (by rw [List.size_toArray,<- hl]; exact h1) (by simpa using ew) ⟨rfl,fin⟩) hs
theorem ix_str:IxR X rIxS:=by
 intro value slice pins s σ H x y v u Q I rx ry h hs
 obtain ⟨z,i,c,rfl,rfl,hz,he,q⟩ := h
 obtain ⟨t,rfl⟩ := rx
 obtain ⟨t',rfl⟩ := ry
 obtain ⟨j,h1,h2,h3,h4,h5⟩ := atI_get he
 have hl:z.cps.toList.length=z.length:=by simp [Str.length]
 rw [hl] at h1 h4 h5
 have hn:=line63
 exact tail_any (typeIs_str s z t) slot_str_getitem.lookup (getItem_str (c:=c) (by
  have e1:decide (i < -(2 ^ 63:Int))=false:=decide_eq_false (by (first|lia|omega))
  have e2:decide (i ≥ 2 ^ 63)=false:=decide_eq_false (by (first|lia|omega))
  rw [e1,e2,Bool.or_false]) (by rw [h1]; simpa using h2) ⟨.str ⟨#[c]⟩,H,I.tok _,⟨_,rfl⟩,q⟩) hs
theorem mapSeq_set (its:List Value) (n j:Nat) (u:Value):Obj.mapSeq (·.setIfInBounds j u) { cls:=.type "list",data:=.seq its.toArray n }={ cls:=.type "list",data:=.seq (its.set j u).toArray n }:=by
 simp [Obj.mapSeq]
theorem Inv.lst {pins:List (Addr × Obj)} {σ:St} {H:Hp} {s:Shared} {p:Addr} {xs:List V} (I:Inv X pins σ H s) (h:H p=some (.lst xs)) :
  ∃ (its:List Value) (n:Nat),Vals xs its/\s.heap.get? p=some { cls:=.type "list",data:=.seq its.toArray n }/\xs.length<=sizeLine:=by
 obtain ⟨z,its,n,r,e⟩ := I.hok p _ h
 exact ⟨its,n,r,e,z⟩
theorem Inv.lstUpd {pins:List (Addr × Obj)} {σ:St} {H:Hp} {s:Shared} {p:Addr} {xs ys:List V} {its its':List Value} {n n':Nat} {f:Obj->Obj} (I:Inv X pins σ H s) (h:H p=some (.lst xs))
  (ho:s.heap.get? p=some { cls:=.type "list",data:=.seq its.toArray n }) (hf:f { cls:=.type "list",data:=.seq its.toArray n }={ cls:=.type "list",data:=.seq its'.toArray n' }) (r:Vals ys its') (hz:ys.length<=sizeLine) (t:Nat) :
  Inv X pins σ (upd H p (.lst ys)) { s with heap:=s.heap.update p f,toks:=t }:=by
 have e:(s.heap.update p f).get? p=some { cls:=.type "list",data:=.seq its'.toArray n' }:=by
  rw [Heap.get?_update_self f ho (by rw [hf] <;> rfl),hf]
 refine I.write (x:=p) (e:=p) (by rw [h]; trivial) (.inl rfl) (fun b u hb q=>(Heap.get?_update_other _ _ (Ne.symm hb)).trans q) ⟨_,e⟩ ?_
 exact ⟨hz,its',n',r,e⟩
def rSetL:V->V->V->Hp->(Hp->Prop)->Prop:=fun o i v H Q=>∃ p xs k j,o = .ref p/\i = .int k/\H p=some (.lst xs)/\ixN xs.length k=some j/\Q (upd H p (.lst (xs.set j v)))
theorem set_list:PSet X rSetL:=by
 intro pins s σ H o i v ov iv u Q I ro ri rv h
 obtain ⟨p,xs,k,j,rfl,rfl,hp,hj,q⟩ := h
 cases ro
 obtain ⟨t,rfl⟩ := ri
 obtain ⟨its,n,r,ho,hz⟩ := I.lst hp
 obtain ⟨h1,h2,h3,h4⟩ := ixN_seq hj
 have hl:=r.length
 have hn:=line63
 have I':Inv X pins σ (upd H p (.lst (xs.set j v))) { s with heap:=s.heap.update p (Obj.mapSeq (·.setIfInBounds j u)) } :=
  I.lstUpd hp ho (mapSeq_set its n j u) (r.set rv j) (by rw [List.length_set]; exact hz) s.toks
 by_cases h0 : 0<=k
 ·have hk:k.toNat=j:=by
   rw [seqIndex_of h0 h4] at h1
   exact Option.some.inj h1
  exact PySem.W.ki_setAt ho h0 (by (first|lia|omega)) (by rw [List.size_toArray,<- hl]; exact h4) (by rw [hk]; exact ⟨_,I',q⟩)
 ·have hk:(k+(its.toArray.size:Int)).toNat=j:=by
   rw [seqIndex_neg (by (first|lia|omega)) h3] at h1
   rw [List.size_toArray,<- hl]
   exact Option.some.inj h1
  exact PySem.W.ki_setBack ho (by (first|lia|omega)) (by rw [List.size_toArray,<- hl]; exact h3) (by (first|lia|omega)) (by rw [hk]; exact ⟨_,I',q⟩)

theorem slice_bounds (lo hi:Option Int) (n:Nat):(sliceBounds lo hi none n).1=((HT.sIx n 0 lo:Nat):Int)/\(sliceBounds lo hi none n).2.1=((HT.sIx n n hi:Nat):Int)/\(sliceBounds lo hi none n).2.2=1:=by
 refine ⟨?_,?_,rfl⟩
 ·cases lo with
  | none=>simp [sliceBounds,HT.sIx]
  | some i =>
   simp only [sliceBounds,HT.sIx,Option.getD_none,show (1:Int) > 0 by decide,if_true]
   by_cases h:i<0
   ·simp only [h,if_true] <;> (first|lia|omega)
   ·simp only [h,if_false] <;> (first|lia|omega)
 ·cases hi with
  | none=>simp [sliceBounds,HT.sIx]
  | some i =>
   simp only [sliceBounds,HT.sIx,Option.getD_none,show (1:Int) > 0 by decide,if_true]
   by_cases h:i<0
   ·simp only [h,if_true] <;> (first|lia|omega)
   ·simp only [h,if_false] <;> (first|lia|omega)
theorem slicePick_cut (its:List Value) (lo hi:Option Int):slicePick its.toArray lo hi none=((its.drop (HT.sIx its.length 0 lo)).take (HT.sIx its.length its.length hi - HT.sIx its.length 0 lo)).toArray:=by
 obtain ⟨h1,h2,h3⟩ := slice_bounds lo hi its.toArray.size
 unfold slicePick
 rw [h1,h2,h3]
 simp only [sliceRange_one,pick_run,List.size_toArray] <;> rfl
def rSlL (K:PySem.W.Frag):V->Option Int->Option Int->Hp->VK->Prop:=fun x lo hi H Q=>∃ a xs,x = .ref a/\SqL K H a xs/\∀ p,H p=none->Q (.ref p) (upd H p (.lst (cutV xs lo hi)))
theorem sl_list:SlR X (rSlL X.K):=by
 intro pins s σ H x v vl vu lo hi sl Q I rx hs pl pu h
 obtain ⟨a,xs,rfl,hx,q⟩ := h
 cases rx
 obtain ⟨its,r,ht,hz⟩ := I.list hx
 have hlen:=r.length
 refine ⟨"list",_,slot_list_getitem.lookup,ht.isList.typeIs,?_⟩
 refine wpAny_getItem_list_slice ht.isList hs pl pu .none (by simp) ?_ (by rw [List.size_toArray] <;> (first|lia|omega))
 rw [slicePick_cut,<- hlen]
 refine ⟨.ref s.heap.objs.size,_,I.laid (t':=s.toks) (o:=.lst (cutV xs lo hi)) (fun b ob q=>Heap.get?_push_of_some _ q) (Nat.le_refl _) ?_,rfl,q _ (I.hok.fresh (Nat.le_refl _))⟩
 exact ⟨Nat.le_trans (cutV_length xs lo hi) hz,_,0,(r.drop (HT.sIx xs.length 0 lo)).take (HT.sIx xs.length xs.length hi - HT.sIx xs.length 0 lo),Heap.get?_push_size _ rfl⟩

def flatV:V->Bool
 | .non=>true
 | .bl _=>true
 | .int _=>true
 | .str _=>true
 | _=>false
def eqV:V->V->Bool
 | .non,.non=>true
 | .bl a,.bl b=>a == b
 | .bl a,.int b=>(if a then 1 else 0) == b
 | .int a,.bl b=>a == (if b then 1 else 0)
 | .int a,.int b=>a == b
 | .str a,.str b=>a == b
 | _,_=>false
theorem eqAt_V {A:Around} {s:Shared} {y x:V} {u v:Value} (ry:RelV y u) (rx:RelV x v) (fy:flatV y=true) (fx:flatV x=true):SeqAt.EqAt A s u v (eqV y x):=by
 cases y with
 | non =>
  cases ry
  cases x with
  | non=>cases rx; exact SeqAt.EqAt.same _
  | bl b=>cases rx; exact SeqAt.EqAt.none_bool b
  | int b=>obtain ⟨t,rfl⟩ := rx; exact SeqAt.EqAt.none_int b t
  | str b=>obtain ⟨t,rfl⟩ := rx; exact SeqAt.EqAt.none_str b t
  | _=>exact absurd (show false=true from fx) Bool.false_ne_true
 | bl a =>
  cases ry
  cases x with
  | non=>cases rx; exact SeqAt.EqAt.bool_none a
  | bl b=>cases rx; exact SeqAt.EqAt.bool_bool a b
  | int b=>obtain ⟨t,rfl⟩ := rx; exact SeqAt.EqAt.bool_int a b t
  | str b=>obtain ⟨t,rfl⟩ := rx; exact SeqAt.EqAt.bool_str a b t
  | _=>exact absurd (show false=true from fx) Bool.false_ne_true
 | int a =>
  obtain ⟨t',rfl⟩ := ry
  cases x with
  | non=>cases rx; exact SeqAt.EqAt.int_none a t'
  | bl b=>cases rx; exact SeqAt.EqAt.int_bool a t' b
  | int b=>obtain ⟨t,rfl⟩ := rx; exact SeqAt.EqAt.int_int a t' b t
  | str b=>obtain ⟨t,rfl⟩ := rx; exact SeqAt.EqAt.int_str a t' b t
  | _=>exact absurd (show false=true from fx) Bool.false_ne_true
 | str a =>
  obtain ⟨t',rfl⟩ := ry
  cases x with
  | non=>cases rx; exact SeqAt.EqAt.str_none a t'
  | bl b=>cases rx; exact SeqAt.EqAt.str_bool a t' b
  | int b=>obtain ⟨t,rfl⟩ := rx; exact SeqAt.EqAt.str_int a t' b t
  | str b=>obtain ⟨t,rfl⟩ := rx; exact SeqAt.EqAt.str_str a t' b t
  | _=>exact absurd (show false=true from fx) Bool.false_ne_true
 | _=>exact absurd (show false=true from fy) Bool.false_ne_true
def eqU (x:V) (u:Value):Bool:=match u with
 | .none=>eqV .non x
 | .bool b=>eqV (.bl b) x
 | .int i _=>eqV (.int i) x
 | .str z _=>eqV (.str z) x
 | _=>false
theorem eqU_of {x y:V} {u:Value} (r:RelV y u) (f:flatV y=true):eqU x u=eqV y x:=by
 cases y with
 | non=>cases r; rfl
 | bl b=>cases r; rfl
 | int i=>obtain ⟨t,rfl⟩ := r; rfl
 | str z=>obtain ⟨t,rfl⟩ := r; rfl
 | _=>exact absurd (show false=true from f) Bool.false_ne_true
theorem any_eqU {x:V}:∀ {xs:List V} {us:List Value},Vals xs us->xs.all flatV=true->us.any (eqU x)=xs.any fun y=>eqV y x
 | _,_,.nil,_=>rfl
 | y :: xs,u :: us,.cons r t,f=>by
  rw [List.all_cons,Bool.and_eq_true] at f
  rw [List.any_cons,List.any_cons,eqU_of r f.1,any_eqU t f.2]
theorem qW {A:Around} {s:Shared} {x:V} {v:Value} (rx:RelV x v) (fx:flatV x=true):∀ {xs:List V} {us:List Value},Vals xs us->xs.all flatV=true->∀ u∈us,SeqAt.EqAt A s u v (eqU x u)
 | _,_,.nil,_=>fun u hu=>by cases hu
 | y :: xs,u :: us,.cons r t,f=>fun u' hu=>by
  rw [List.all_cons,Bool.and_eq_true] at f
  rcases List.mem_cons.mp hu with rfl | hu
  ·rw [eqU_of r f.1]; exact eqAt_V r rx f.1 fx
  ·exact qW rx fx t f.2 u' hu
def inV (x:V) (xs:List V):Bool:=xs.any fun y=>eqV y x
def rIn (K:PySem.W.Frag) (neg:Bool):R2:=fun x y H Q=>∃ p xs,y = .ref p/\(SqL K H p xs\/SqT K H p xs)/\flatV x=true/\xs.all flatV=true/\Q (.bl (if neg then !inV x xs else inV x xs)) H
theorem qQ:OpR X (compareOp .In) (rIn X.K false):=by
 intro pins s σ H x y v u Q I rx ry h
 obtain ⟨p,xs,rfl,hq,fx,fs,q⟩ := h
 cases ry
 rcases hq with hq | hq
 ·obtain ⟨its,r,pl,hz⟩ := I.list hq
  refine SeqAt.in_listAt (eqU x) pl.isList (fun w hw=>qW rx fx r fs w (by simpa using hw)) ⟨.bl _,H,I,rfl,?_⟩
  rw [show its.toArray.any (eqU x)=its.any (eqU x) by simp,any_eqU r fs]
  exact q
 ·obtain ⟨its,r,pl,hz⟩ := I.tuple hq
  refine SeqAt.in_tupleAt (eqU x) pl (fun w hw=>qW rx fx r fs w (by simpa using hw)) ⟨.bl _,H,I,rfl,?_⟩
  rw [show its.toArray.any (eqU x)=its.any (eqU x) by simp,any_eqU r fs]
  exact q
theorem qL:OpR X (compareOp .NotIn) (rIn X.K true):=by
 intro pins s σ H x y v u Q I rx ry h
 obtain ⟨p,xs,rfl,hq,fx,fs,q⟩ := h
 cases ry
 rcases hq with hq | hq
 ·obtain ⟨its,r,pl,hz⟩ := I.list hq
  refine SeqAt.notIn_listAt (eqU x) pl.isList (fun w hw=>qW rx fx r fs w (by simpa using hw)) ⟨.bl _,H,I,rfl,?_⟩
  rw [show its.toArray.any (eqU x)=its.any (eqU x) by simp,any_eqU r fs]
  exact q
 ·obtain ⟨its,r,pl,hz⟩ := I.tuple hq
  refine SeqAt.notIn_tupleAt (eqU x) pl (fun w hw=>qW rx fx r fs w (by simpa using hw)) ⟨.bl _,H,I,rfl,?_⟩
  rw [show its.toArray.any (eqU x)=its.any (eqU x) by simp,any_eqU r fs]
  exact q
theorem zT:CallR X (.builtin "len") (fun xs H Q=>∃ p ys,xs=[.ref p]/\(SqL X.K H p ys\/SqT X.K H p ys)/\Q (.int ys.length) H):=by
 intro pins s σ H xs us Q I r h
 obtain ⟨p,ys,rfl,hq,q⟩ := h
 obtain ⟨u,rfl,rx⟩ := vals1 r
 cases rx
 have hn:=line63
 rcases hq with hq | hq
 ·obtain ⟨its,r',pl,hz⟩ := I.list hq
  have hlen:=r'.length
  exact Calls.call_len_list pl.isList (by simp only [List.size_toArray] <;> (first|lia|omega)) ⟨.int ys.length,H,I.tok _,⟨s.toks+1,by rw [List.size_toArray,hlen]⟩,q⟩
 ·obtain ⟨its,r',pl,hz⟩ := I.tuple hq
  have hlen:=r'.length
  exact len_tuple pl (by simp only [List.size_toArray] <;> (first|lia|omega)) ⟨.int ys.length,H,I.tok _,⟨s.toks+1,by rw [List.size_toArray,hlen]⟩,q⟩
theorem qM:CallR X (.builtin "len") (fun xs H Q=>∃ z,xs=[.str z]/\z.length<=sizeLine/\Q (.int z.length) H):=by
 intro pins s σ H xs us Q I r h
 obtain ⟨z,rfl,hz,q⟩ := h
 obtain ⟨u,rfl,t,rfl⟩ := vals1 r
 have hn:=line63
 exact len_str (by (first|lia|omega)) ⟨.int z.length,H,I.tok _,⟨_,rfl⟩,q⟩
theorem call_list_of:CallR X (.type "list") (fun xs H Q=>∃ p ys,xs=[.ref p]/\(SqL X.K H p ys\/SqT X.K H p ys)/\∀ l,H l=none->Q (.ref l) (upd H l (.lst ys))):=by
 intro pins s σ H xs us Q I r h
 obtain ⟨p,ys,rfl,hq,q⟩ := h
 obtain ⟨u,rfl,rx⟩ := vals1 r
 cases rx
 have fin:∀ (its:List Value),Vals ys its->ys.length<=sizeLine->∀ (h':Heap) (c':Nat),(∀ b o',s.heap.get? b=some o'->h'.get? b=some o') ->
   h'.get? s.heap.objs.size=some { cls:=.type "list",dict:=none,data:=.seq its.toArray c',slots:=#[] }->EP X pins σ Q (.ref s.heap.objs.size) { s with heap:=h' }:=fun its r' hz h' c' kp e =>
  ⟨.ref s.heap.objs.size,_,I.laid (t':=s.toks) kp (Nat.le_refl _) (show ObjOk X.prog X.w _ h' _ (.lst ys) from ⟨hz,its,c',r',e⟩),rfl,q _ (I.hok.fresh (Nat.le_refl _))⟩
 rcases hq with hq | hq
 ·obtain ⟨its,r',pl,hz⟩ := I.list hq
  have hlen:=r'.length
  obtain ⟨o,ho,hc,n,hd⟩ := pl.isList
  exact call_list_seq p (.inl rfl) ho hc hd (fun h' c' kp e=>fin its r' hz h' c' kp e) (by simp only [List.size_toArray] <;> (first|lia|omega))
 ·obtain ⟨its,r',pl,hz⟩ := I.tuple hq
  have hlen:=r'.length
  obtain ⟨o,ho,hc,n,hd⟩ := pl
  exact call_list_seq p (.inr rfl) ho hc hd (fun h' c' kp e=>fin its r' hz h' c' kp e) (by simp only [List.size_toArray] <;> (first|lia|omega))
theorem jN:CallR X (.type "tuple") (fun xs H Q=>∃ p ys,xs=[.ref p]/\((SqL X.K H p ys/\∀ l,H l=none->Q (.ref l) (upd H l (.tup ys)))\/(SqT X.K H p ys/\Q (.ref p) H))):=by
 intro pins s σ H xs us Q I r h
 obtain ⟨p,ys,rfl,h⟩ := h
 obtain ⟨u,rfl,rx⟩ := vals1 r
 cases rx
 rcases h with ⟨hq,q⟩ | ⟨hq,q⟩
 ·obtain ⟨its,r',pl,hz⟩ := I.list hq
  have hlen:=r'.length
  refine call_tuple_list pl.isList (fun h' kp => ?_) (by simp only [List.size_toArray] <;> (first|lia|omega))
  have I1:Inv X pins σ H { s with heap:=h' }:=I.kept (t':=s.toks) kp
  have I2:Inv X pins σ (upd H h'.objs.size (.tup ys)) { s with heap:=h'.push { cls:=.type "tuple",data:=.seq its.toArray } } :=
   I1.laid (t':=s.toks) (fun b o e=>Heap.get?_push_of_some _ e) (Nat.le_refl _) (show ObjOk X.prog X.w _ _ _ (.tup ys) from ⟨hz,its,r',IsTup.new _ _⟩)
  exact ⟨.ref h'.objs.size,_,I2,rfl,q _ (I1.hok.fresh (Nat.le_refl _))⟩
 ·obtain ⟨its,r',pl,hz⟩ := I.tuple hq
  exact call_tuple_same pl ⟨.ref p,H,I,rfl,q⟩

def tyV (K:PySem.W.Frag) (T:String) (x:V) (H:Hp):Prop:=match x with
 | .str _=>T = "str"
 | .int _=>T = "int"
 | .ref p=>(T = "list" /\ ∃ xs,SqL K H p xs)\/(T = "tuple" /\ ∃ o,K.lookup p=some o/\o.cls = .type "tuple" /\ o.dict=none) \/
   (T = "dict" /\ ((∃ kvs,H p=some (.dK kvs))\/∃ kvs,H p=some (.dT kvs)))\/(T = "set" /\ ∃ S n,H p=some (.set S n))
 | _=>False
theorem tyV_is {pins:List (Addr × Obj)} {σ:St} {H:Hp} {s:Shared} {T:String} {x:V} {v:Value} (I:Inv X pins σ H s) (r:RelV x v) (ty:tyV X.K T x H) :
  s.TypeIs v T/\∀ a,v = .ref a->∃ ob,s.heap.get? a=some ob/\ob.dict=none:=by
 cases x with
 | str z =>
  obtain ⟨t,rfl⟩ := r
  cases (show T = "str" from ty)
  exact ⟨typeIs_str s z t,fun _ e=>nomatch e⟩
 | int i =>
  obtain ⟨t,rfl⟩ := r
  cases (show T = "int" from ty)
  exact ⟨typeIs_int s i t,fun _ e=>nomatch e⟩
 | ref p =>
  cases r
  rcases ty with ⟨rfl,xs,hq⟩ | ⟨rfl,o,hk,hc,hd⟩ | ⟨rfl,hk⟩ | ⟨rfl,S,n,hk⟩
  ·obtain ⟨its,_,pl,_⟩ := I.list hq
   refine ⟨pl.isList.typeIs,fun a e => ?_⟩
   cases e
   obtain ⟨o,n,e,c,hd,_⟩ := pl
   exact ⟨o,e,hd⟩
  ·refine ⟨⟨o,I.kIn p o hk,hc⟩,fun a e => ?_⟩
   cases e
   exact ⟨o,I.kIn _ o hk,hd⟩
  ·have z:∃ o,s.heap.get? p=some o/\o.ExactDict:=by
    rcases hk with ⟨kvs,hk⟩ | ⟨kvs,hk⟩
    ·obtain ⟨_,_,_,_,o,_,_,e,ex,_⟩ := I.hok p _ hk
     exact ⟨o,e,ex⟩
    ·obtain ⟨_,_,_,_,o,_,_,e,ex,_⟩ := I.hok p _ hk
     exact ⟨o,e,ex⟩
   obtain ⟨o,e,ex⟩ := z
   refine ⟨⟨o,e,ex.1⟩,fun a e2 => ?_⟩
   cases e2
   exact ⟨o,e,ex.2.1⟩
  ·obtain ⟨o,_,_,_,e,ex,_⟩ := I.hok p _ hk
   refine ⟨⟨o,e,ex.1⟩,fun a e2 => ?_⟩
   cases e2
   exact ⟨o,e,ex.2.1⟩
 | _=>exact False.elim ty
def tBM0 (K:PySem.W.Frag) (T:String) (r:V->List V->Hp->VK->Prop) (to:TE):TE:=fun σ H Q=>to σ H fun x H1=>tyV K T x H1/\r x [] H1 Q
def tBM (K:PySem.W.Frag) (T:String) (r:V->List V->Hp->VK->Prop) (to:TE) (t:TA):TE:=fun σ H Q=>to σ H fun x H1=>tyV K T x H1/\t σ H1 fun xs H2=>r x xs H2 Q
variable {o e:Expr} {es:List Expr} {to:TE} {t:TA} {name:Str} {apos cpos:Pos} {T id:String} {r:V->List V->Hp->VK->Prop}
theorem pe_bm0 (pa:PlainAttrs T) (slot:Slot T name id) (hty:typeOf (.builtin id)=pure (.type "method_descriptor")) (hm:MtR X id r) (ho:PE X o to)
  (hbase:attributeBase o name X.env (eval o X.env)=eval o X.env:=by rfl) (hline:(apos.endLine == cpos.line)=true:=by rfl):PE X (.Call (.Attribute o name apos) [] [] cpos) (tBM0 X.K T r to):=by
 refine ⟨?_⟩
 intro pins s σ H Q I h
 refine wpAny_Call_method0_late hbase hline (thn (ho pins s σ H _ I h) fun v s1 hzz => ?_)
 obtain ⟨x,H1,I1,r1,ty,q1⟩ := hzz
 obtain ⟨h1,h2⟩ := tyV_is I1 r1 ty
 exact ⟨T,id,pa,slot,hty,h1,h2,Calls.callWith_builtin rfl (PySem.evalArgs_none (hm pins s1 σ H1 x [] v [] Q I1 r1 .nil q1))⟩
theorem yP (pa:PlainAttrs T) (slot:Slot T name id) (hty:typeOf (.builtin id)=pure (.type "method_descriptor")) (hm:MtR X id r) (ho:PE X o to) (ha:PA X (e :: es) t)
  (hbase:attributeBase o name X.env (eval o X.env)=eval o X.env:=by rfl)
  (hfew:((backTo cpos (starEach (e :: es) X.env)).all (fun x => !x.1) && (backToKw cpos (keywordEach [] X.env)).all (fun x=>x.1.isSome)
   && decide ((e :: es).length+([]:List Keyword).length+(if ([]:List Keyword).isEmpty then 0 else 1)<30))=true:=by rfl)
  (hline:(apos.endLine == cpos.line)=true:=by rfl) (hs:starEach (e :: es) X.env=(false,eval e X.env) :: starEach es X.env:=by rfl) (hplain:(backTo cpos (starEach es X.env)).any (·.1)=false:=by rfl) :
  PE X (.Call (.Attribute o name apos) (e :: es) [] cpos) (tBM X.K T r to t):=by
 refine ⟨?_⟩
 intro pins s σ H Q I h
 refine wpAny_Call_method_late hbase hfew hline rfl (thn (ho pins s σ H _ I h) fun v s1 hzz => ?_)
 obtain ⟨x,H1,I1,r1,ty,q1⟩ := hzz
 obtain ⟨h1,h2⟩ := tyV_is I1 r1 ty
 refine ⟨T,id,pa,slot,hty,h1,h2,?_⟩
 have hA:=ha cpos pins s1 σ H1 _ I1 q1
 rw [hs] at hA ⊢
 refine Calls.callWith_builtin (by show (false || (backTo cpos (starEach es X.env)).any (·.1))=false; rw [hplain] <;> rfl) (Calls.evalArgs_plain ?_)
 exact thn hA fun us s2 ⟨vs,H2,I2,r2,q2⟩=>hm pins s2 σ H2 x vs v us Q I2 r1 r2 q2
/- xs.append(e),list.index on a module's tuple .. are MtR facts of 06m -/
end
end L2

namespace L2
open PySem PySem.Spec PyProof.Rows

def MtM (X:Cx) (id:String) (r:V->List V->Hp->VK->Prop):Prop :=
 ∀ (pins:List (Addr × Obj)) (s:Shared) (σ:St) (H:Hp) (x:V) (xs:List V) (v:Value) (us:List Value) (Q:VK),Inv X pins σ H s->RelV x v->Vals xs us->r x xs H Q ->
  wpAny (model X.prog X.w) X.A (call (.builtin id) (v :: us)) (EP X pins σ Q) X.xe s

theorem Vals.one:∀ {x:V} {us:List Value},Vals [x] us->∃ u,us=[u]/\RelV x u
 | _,_,.cons r .nil=>⟨_,rfl,r⟩
theorem Vals.zero:∀ {us:List Value},Vals [] us->us=[]
 | _,.nil=>rfl
theorem Vals.reverse {xs:List V} {us:List Value} (h:Vals xs us):Vals xs.reverse us.reverse:=by
 induction h with
 | nil=>exact .nil
 | cons r t ih=>rw [List.reverse_cons,List.reverse_cons]; exact Vals.append ih (.cons r .nil)
theorem Vals.rep {xs:List V} {us:List Value} (h:Vals xs us):∀ k:Nat,Vals (List.replicate k xs).flatten (List.replicate k us).flatten
 | 0 => .nil
 | k+1=>by
  rw [List.replicate_succ,List.replicate_succ,List.flatten_cons,List.flatten_cons]
  exact Vals.append h (Vals.rep h k)
theorem foldl_rep (its:List Value):∀ (k:Nat) (acc:List Value),
  List.foldl (fun x1 x2=>x1++x2) acc.toArray (List.replicate k its.toArray)=(acc++(List.replicate k its).flatten).toArray
 | 0,acc=>by simp
 | k+1,acc=>by
  have e:acc.toArray++its.toArray=(acc++its).toArray:=by simp
  have e2:(acc++its)++(List.replicate k its).flatten=acc++(List.replicate (k+1) its).flatten:=by
   rw [List.replicate_succ,List.flatten_cons,List.append_assoc]
  rw [<- e2,<- foldl_rep its k (acc++its),<- e,List.replicate_succ,List.foldl_cons]

section
variable {X:Cx} {pins:List (Addr × Obj)} {σ:St} {H:Hp} {s:Shared} {l b:Addr} {xs ys zs:List V}

theorem Inv.lset {its its':List Value} {n:Nat} {f:Array Value->Array Value} {t':Nat} (I:Inv X pins σ H s) (hH:H l=some (.lst xs))
  (e:s.heap.get? l=some { cls:=.type "list",data:=.seq its.toArray n }) (hf:f its.toArray=its'.toArray) (hv:Vals ys its') (hz:ys.length<=sizeLine) :
  Inv X pins σ (upd H l (.lst ys)) { s with heap:=s.heap.update l (Obj.mapSeq f),toks:=t' }:=by
 have q:=PySem.IsL.update e f
 rw [hf] at q
 refine I.write (x:=l) (e:=l) (by rw [hH]; exact trivial) (.inl rfl) (fun b' u hb hu=>(Heap.get?_update_other s.heap (Obj.mapSeq f) (Ne.symm hb)).trans hu) ⟨_,q⟩ ?_
 exact ⟨hz,its',_,hv,q⟩
theorem Inv.lnew {its:List Value} {t':Nat} (I:Inv X pins σ H s) (hv:Vals ys its) (hz:ys.length<=sizeLine) :
  Inv X pins σ (upd H s.heap.objs.size (.lst ys)) { s with heap:=s.heap.push { cls:=.type "list",data:=.seq its.toArray },toks:=t' } :=
 I.laid (fun _ _ q=>Heap.get?_push_of_some _ q) (Nat.le_refl _) ⟨hz,its,0,hv,Heap.get?_push_size _ rfl⟩
theorem Inv.fresh (I:Inv X pins σ H s):H s.heap.objs.size=none:=I.hok.fresh (Nat.le_refl _)
theorem Inv.lstM (I:Inv X pins σ H s) (hH:H l=some (.lst xs)):xs.length<=sizeLine/\∃ (its:List Value) (n:Nat),Vals xs its/\xs.length=its.length/\s.heap.get? l=some { cls:=.type "list",data:=.seq its.toArray n }:=by
 obtain ⟨z,its,n,r,e⟩ := I.hok l _ hH
 exact ⟨z,its,n,r,r.length,e⟩

theorem notLongL {n:Nat} (h:n<=sizeLine):Builtin.List.listTooLong n=false:=by
 unfold Builtin.List.listTooLong
 exact decide_eq_false (by (first|lia|omega))
end

section
variable {X:Cx}

def rAppend:V->List V->Hp->VK->Prop:=fun x vs H Q=>∃ l xs y,x = .ref l/\vs=[y]/\H l=some (.lst xs)/\xs.length<sizeLine/\Q .non (upd H l (.lst (xs++[y])))
theorem yJ:MtM X "list.append" rAppend:=by
 intro pins s σ H x vs v us Q I rx rv h
 obtain ⟨l,xs,y,rfl,rfl,hH,hz,q⟩ := h
 cases rx
 obtain ⟨u,rfl,ru⟩ := rv.one
 obtain ⟨z,its,n,r,hl,e⟩ := I.lstM hH
 refine call_meets F.slot_list_append ⟨_,e,rfl⟩ F.entry_list_append (F.args_list_append_2 _ _) (PySem.list_append l its.toArray n u (by rw [List.size_toArray]; (first|lia|omega))) ⟨e,?_⟩
 refine ⟨.non,_,I.lset (its':=its++[u]) hH e (by simp) (r.append (.cons ru .nil)) ?_,rfl,q⟩
 rw [List.length_append,List.length_singleton]
 (first|lia|omega)

def rExtend:V->List V->Hp->VK->Prop:=fun x vs H Q=>∃ l b xs zs,x = .ref l/\vs=[.ref b]/\H l=some (.lst xs)/\H b=some (.lst zs)/\xs.length+zs.length<=sizeLine/\Q .non (upd H l (.lst (xs++zs)))
theorem mt_extend:MtM X "list.extend" rExtend:=by
 intro pins s σ H x vs v us Q I rx rv h
 obtain ⟨l,b,xs,zs,rfl,rfl,hH,hB,hz,q⟩ := h
 cases rx
 obtain ⟨u,rfl,ru⟩ := rv.one
 cases ru
 obtain ⟨z,its,n,r,hl,e⟩ := I.lstM hH
 obtain ⟨z2,its2,n2,r2,hl2,e2⟩ := I.lstM hB
 have hsz:its.toArray.size+its2.toArray.size<=sizeLine:=by rw [List.size_toArray,List.size_toArray]; (first|lia|omega)
 have hlong:¬ (!its.toArray.isEmpty && Builtin.List.listTooLong (its.toArray.size+its2.toArray.size))=true:=by
  rw [notLongL hsz,Bool.and_false]
  exact Bool.false_ne_true
 refine call_meets F.slot_list_extend ⟨_,e,rfl⟩ F.entry_list_extend (F.args_list_extend_2 _ _)
  (AutoSeq1.list_extend_list_list_0 l its.toArray n b its2.toArray n2 hlong (by rw [List.size_toArray]; (first|lia|omega)) (by (first|lia|omega))) ⟨e,e2,?_⟩
 refine ⟨.non,_,I.lset (its':=its++its2) hH e (by simp) (r.append r2) ?_,rfl,q⟩
 rw [List.length_append]
 (first|lia|omega)

def rReverse:V->List V->Hp->VK->Prop:=fun x vs H Q=>∃ l xs,x = .ref l/\vs=[]/\H l=some (.lst xs)/\Q .non (upd H l (.lst xs.reverse))
theorem mt_reverse:MtM X "list.reverse" rReverse:=by
 intro pins s σ H x vs v us Q I rx rv h
 obtain ⟨l,xs,rfl,rfl,hH,q⟩ := h
 cases rx
 have hus:=rv.zero
 subst hus
 obtain ⟨z,its,n,r,hl,e⟩ := I.lstM hH
 refine call_meets F.slot_list_reverse ⟨_,e,rfl⟩ F.entry_list_reverse (F.args_list_reverse_1 _) (AutoSeq1.list_reverse_list_0 l its.toArray n (by rw [List.size_toArray]; (first|lia|omega))) ⟨e,?_⟩
 refine ⟨.non,_,I.lset (its':=its.reverse) hH e (by simp) r.reverse ?_,rfl,q⟩
 rw [List.length_reverse]
 (first|lia|omega)

def rCat:R2:=fun x y H Q=>∃ l b xs zs,x = .ref l/\y = .ref b/\H l=some (.lst xs)/\H b=some (.lst zs)/\xs.length+zs.length<=sizeLine/\∀ p,H p=none->Q (.ref p) (upd H p (.lst (xs++zs)))
theorem yA:OpR X (binaryOp .Add) rCat:=by
 intro pins s σ H x y v u Q I rx ry h
 obtain ⟨l,b,xs,zs,rfl,rfl,hH,hB,hz,q⟩ := h
 cases rx
 cases ry
 obtain ⟨z,its,n,r,hl,e⟩ := I.lstM hH
 obtain ⟨z2,its2,n2,r2,hl2,e2⟩ := I.lstM hB
 refine PySem.P.add_list e e2 ?_ (by rw [List.size_toArray,List.size_toArray]; (first|lia|omega))
 have ea:its.toArray++its2.toArray=(its++its2).toArray:=by simp
 rw [ea]
 exact ⟨.ref _,_,I.lnew (t':=s.toks) (r.append r2) (by rw [List.length_append]; (first|lia|omega)),rfl,q _ I.fresh⟩
def rRep:R2:=fun x y H Q=>∃ l k xs,x = .ref l/\y = .int k/\H l=some (.lst xs) /\ -(2 ^ 63)<=k/\k<2 ^ 63/\xs.length * k.toNat<=sizeLine /\
 ∀ p,H p=none->Q (.ref p) (upd H p (.lst (List.replicate k.toNat xs).flatten))
theorem len_rep {α:Type} (xs:List α) (k:Nat):(List.replicate k xs).flatten.length=k * xs.length:=by
 induction k with
 | zero=>simp
 | succ k ih=>rw [List.replicate_succ,List.flatten_cons,List.length_append,ih,Nat.succ_mul,Nat.add_comm]
theorem wX:OpR X (binaryOp .Mult) rRep:=by
 intro pins s σ H x y v u Q I rx ry h
 obtain ⟨l,k,xs,rfl,rfl,hH,h1,h2,hz,q⟩ := h
 cases rx
 obtain ⟨t,rfl⟩ := ry
 obtain ⟨z,its,n,r,hl,e⟩ := I.lstM hH
 have hlen:its.toArray.size * k.toNat<=sizeLine:=by rw [List.size_toArray,<- hl]; exact hz
 have hcap:¬ its.toArray.size * k.toNat > (2 ^ 63 - 1) / 8:=by
  have:(sizeLine:Nat)<=(2 ^ 63 - 1) / 8:=by decide
  (first|lia|omega)
 have hfit:¬ (!Builtin.List.listFitsIndex k)=true:=by
  rw [fitsIndex_both h1 h2]
  exact Bool.false_ne_true
 have hlong:¬ Builtin.List.listTooLong (its.toArray.size * k.toNat)=true:=by
  rw [notLongL hlen]
  exact Bool.false_ne_true
 have hnew:List.foldl (fun x1 x2=>x1++x2) #[] (List.replicate (if its.toArray.isEmpty=true then 0 else k.toNat) its.toArray)=(List.replicate k.toNat its).flatten.toArray:=by
  have f0:∀ m:Nat,List.foldl (fun x1 x2=>x1++x2) #[] (List.replicate m its.toArray)=(List.replicate m its).flatten.toArray:=fun m=>by
   have:=foldl_rep its m []
   rw [List.nil_append] at this
   exact this
  rw [f0]
  cases its with
  | nil=>simp
  | cons a r'=>rw [if_neg (by simp)]
 refine wpAny_binaryOp_repeat_ref (T := "list") (U := "int") (by decide) ⟨_,e,rfl⟩ (fun s'=>typeIs_int s' k t) noFill_list_mul F.fills_int_mul F.slot_int_rmul repeat_list F.slot_int_index.lookup
  (call_meets F.slot_int_rmul (typeIs_int s k t) F.entry_int_rmul (F.args_int_rmul_2 _ _) (int___rmul___int_list k t l its.toArray n)
   ⟨e,rfl,⟨_,e,rfl⟩,call_meets F.slot_list_mul ⟨_,e,rfl⟩ F.entry_list_mul (F.args_list_mul_2 _ _) (AutoListH.list___mul___list_int_3 l its.toArray n k t hfit hcap hlong) ⟨e,?_⟩⟩)
 rw [hnew]
 exact ⟨.ref _,_,I.lnew (t':=s.toks) (r.rep k.toNat) (by rw [len_rep,Nat.mul_comm]; exact hz),rfl,q _ I.fresh⟩

end

section
variable {prog:Program} {w:World} {A:Around} {E:Value->Shared->Prop} {s:Shared}
set_option maxRecDepth 100000 in
end

section
variable {X:Cx}
end
end L2

namespace Att
open PySem PySem.W PySem.Calls PyProof.Rows

theorem ints_of_wellAll {P:Params} {h:Heap}:∀ (ns:List Int) (vs:List Value),WellAll P h vs (ns.map WData.int)->IntsAre vs ns:=by
 intro ns
 induction ns with
 | nil =>
  intro vs w
  rw [List.map_nil] at w
  cases w
  exact .nil
 | cons n ns ih =>
  intro vs w
  rw [List.map_cons] at w
  cases w with
  | cons a b =>
   cases a
   exact .cons _ _ (ih _ b)

theorem script_of {l:OpenLaw} {n:Nat} (hn:l.most=some n) {P:Params} {h:Heap} {args:List WData} {vals:List Value}
  (hpre:l.row.toRowW.claim.pre args=true) (hwl:WellAll P h vals args) :
  ∃ a vs ns,vals=[Value.ref a]/\args=[WData.list (ns.map WData.int)]/\h.get? a=some { cls:=.type "list",data:=.seq vs.toArray }/\IntsAre vs ns/\ns.length<=n:=by
 have hsh:WShape.hasAll [] args [.list .int]=true:=(pre_splitW hpre).1
 have hc:l.pre.holds [] { args:=args }=true:=(pre_splitW hpre).2
 obtain ⟨d,r,rfl,h1,h2⟩ := hasAllW_cons hsh
 obtain rfl:=hasAllW_nil h2
 obtain ⟨xs,rfl,h3⟩ := hasW_list h1
 obtain ⟨ns,rfl⟩ := items_int h3
 have hlen:ns.length<=n:=by
  unfold OpenLaw.pre at hc
  have h4:(WTm.not (.lt (.lit (.int (n:Int))) (.len (.arg 0)))).holds [] { args:=[.list (ns.map .int)] }=true:=by
   have h4:=(holds_andW hc).1
   rw [hn] at h4
   exact h4
  have h5:=condW_of h4 (w_not (w_lt w_lit (w_len_list (w_arg rfl))))
  rw [List.length_map] at h5
  refine Nat.le_of_not_lt fun q => ?_
  have q':(n:Int)<((ns.length:Nat):Int):=by (first|lia|omega)
  first
   | (rw [decide_eq_true q'] at h5; exact absurd h5 (by decide))
   | (simp at h5; (first|lia|omega))
 cases hwl with
 | cons w1 w2 =>
  cases w2
  cases w1 with
  | list ho hall=>exact ⟨_,_,ns,rfl,rfl,ho,ints_of_wellAll ns _ hall,hlen⟩

theorem post_true (l:OpenLaw) (args:List WData):l.row.toRowW.claim.post args (.bool true) args=true :=
 postW_of (r:=l.row.toRowW) (X:=(true == true))
  (show WShape.has [] (.bool true) .bool=true by first | rfl | decide | simp [WShape.has,WShape.arms,WShape.armsAll])
  (show (WTm.eq .res (.lit (.bool true))).value [] { args:=args,res:=some (.bool true),after:=args }=some (.bool (true == true)) from w_eq_bool (w_res rfl) w_lit) rfl

theorem attach_call {l:OpenLaw} {n:Nat} {q:Program} {loose:List Str} {XP:(Str->Option Value)->Heap->Prop} {YP:World->Heap->Prop} {d:DefRec}
  (hn:l.most=some n) (hdf:d.params.defaults=[])
  (call:∀ (w:World) (s₀ s₁:Shared) (mg mb:Str->Option Value) (fa:Addr) (o:Obj) (pm cd doc:Value) (a:Addr) (vs:List Value) (ns:List Int),
   Ground q loose [] XP w s₀ mg mb s₁.heap->YP w s₁.heap ->
   s₁.heap.get? fa=some o->o.data = .func (docDef d.name d.params d.body d.scope pm cd doc)->s₁.heap.CodeRec cd d.name->mg d.name=some (.ref fa) ->
   s₁.heap.get? a=some { cls:=.type "list",data:=.seq vs.toArray }->IntsAre vs ns->ns.length<=n->s₁.gens = #[] ->
   codeAny (model l.prog w) callerA (.call (.ref fa) ⟨[.ref a],[]⟩) (fun r s'=>r = .ok (.ret (.bool true))/\OldK s₁.heap s'.heap/\s'.os=s₁.os/\AllBare s'.gens) s₁) :
  WalkO q loose XP YP l.row.toRowW d [] (fun f vs=>PySem.call f vs):=by
 intro w s₀ s₁ mg mb G Y fa o pm cd doc dV kV ho hd hcd hD hmg hg args vals as hpre hlay hrd hwl hlo
 obtain rfl:dV = .none:=Dflts.none hD hdf
 obtain rfl:kV = .none:=Dflts.noKw hD
 obtain ⟨a,vs,ns,rfl,rfl,hobj,hints,hlen⟩ := script_of hn hpre hwl
 refine enter_call (codeAny_mono (call w s₀ s₁ mg mb fa o pm cd doc a vs ns G Y ho (fd_plain hd) hcd hmg hobj hints hlen hg) fun r s' hq => ?_)
 obtain ⟨rfl,h2,h3,h4⟩ := hq
 exact ⟨.inl ⟨.bool true,.bool true,[],rfl,fun _=>rfl,.bool true,post_true l _,fun _=>⟨List.Pairwise.nil,fun _ hm=>(nomatch hm)⟩⟩,h2,h3,h4⟩

section
variable {prog:Program} {w:World} {A:Around} {E:Value->Shared->Prop} {s:Shared} {K:Frag}

def ledger (h:Heap) (L d:Addr):List (Addr × Obj):=(List.range h.objs.size).filterMap fun a=>if a=L\/a=d then none else (h.get? a).map fun o=>(a,o)
end
end Att

namespace L2
open PySem PySem.Spec PyProof.Rows

theorem vals_ints:∀ {vs:List Value} {ns:List Int},IntsAre vs ns->Vals (ns.map V.int) vs
 | _,_,.nil => .nil
 | _,_,.cons n t h => .cons ⟨t,rfl⟩ (vals_ints h)

def Only (H:Hp):Prop:=∀ b,H b=none\/∃ o xs,H b=some (.frz o (.lst xs))

theorem law_call {P:Program} {w:World} {K:PySem.W.Frag} {mg mb:Str->Option Value} {CX:CXT} {k:Nat} {fa a:Addr} {fd:FuncData} {x:Str} {sp:Sp} {s₁:Shared} {vs:List Value} {ns:List Int}
  (KX:K.In s₁.heap) (hns:s₁.heap.Ns mainGlobals mg) (hb:s₁.heap.Ns builtinsNs mb) (hbb:∀ x:Str,x ≠ "__name__" -> mb x=bootBuiltins x) (hlim:s₁.heap.NoLimit) (hg:s₁.gens = #[])
  (ha:s₁.heap.get? a=some { cls:=.type "list",data:=.seq vs.toArray }) (hi:IntsAre vs ns) (hl:ns.length<=sizeLine) (hr:Room k callerA)
  (F:∀ base:Heap,K.In base->base.Ns mainGlobals mg->FnOk P w K mg base CX k fa fd [x] sp) (hbind:∀ (s:Shared) (u:Value),BindsTo s fd ⟨[u],[]⟩ [(x,u)])
  (hsp:∀ H:Hp,Only H->SqL K H a (ns.map V.int)->sp [.ref a] H (fun v _=>v = .bl true) fun _ _ _=>False)
  (hCX:∀ H e s',CX [] H s₁ (fun _ _ _=>False) e s'->False) :
  codeAny (model P w) callerA (.call (.ref fa) ⟨[.ref a],[]⟩) (fun r s'=>r = .ok (.ret (.bool true))/\OldK s₁.heap s'.heap/\s'.os=s₁.os/\AllBare s'.gens) s₁:=by
 have rv:=vals_ints hi
 have lenV:=hi.length
 have core:∀ H:Hp,Only H->SqL K H a (ns.map V.int)->HOk P w H s₁.heap->(∀ b,H b≠none->b=a)->(H a≠none->K.lookup a=none) ->
   codeAny (model P w) callerA (.call (.ref fa) ⟨[.ref a],[]⟩) (fun r s'=>r = .ok (.ret (.bool true))/\OldK s₁.heap s'.heap/\s'.os=s₁.os/\AllBare s'.gens) s₁:=by
  intro H hO hS hok hA hK
  have base_of:∀ {b:Addr} {o:Obj},s₁.heap.get? b=some o->H b=none->(hidT s₁.heap H).get? b=some o:=fun e n=>hidT_get e n
  have noA:∀ {b:Addr} {o:Obj} {es:Array DictEntry} {ep:Nat},s₁.heap.get? b=some o->o.data = .dict es ep->H b=none:=fun {b o es ep} e d=>by
   cases q:H b with
   | none=>rfl
   | some u =>
    have e':b=a:=hA b (by rw [q]; simp)
    subst e'
    rw [ha] at e; cases e
    have d':Data.seq vs.toArray _=Data.dict es ep:=d
    cases d'
  have nsK:∀ {b:Addr} {m:Str->Option Value},s₁.heap.Ns b m->(hidT s₁.heap H).Ns b m:=fun {b m} ⟨o,es,ep,e,d,r⟩=>⟨o,es,ep,base_of e (noA e d),d,r⟩
  have hKb:K.In (hidT s₁.heap H):=fun b o e=>base_of (KX b o e) (by
   cases q:H b with
   | none=>rfl
   | some u =>
    have e':b=a:=hA b (by rw [q]; simp)
    subst e'
    rw [hK (by rw [q]; simp)] at e; cases e)
  have hM:Mod K mg (hidT s₁.heap H):=⟨hKb,nsK hns,⟨mb,nsK hb,hbb⟩,let ⟨mc,h1,h2⟩ := hlim; ⟨mc,nsK h1,h2⟩⟩
  have e0:Env0 P w K mg (hidT s₁.heap H) callerA [] s₁ H:=⟨rfl,hM,fun b o e=>of_hidT e,Nat.le_of_eq (hidT_size _ _),trivial,fun b hb=>absurd (show b∈([]:List Addr) from hb) (by simp),hok,.of_eq hg⟩
  refine codeAny_mono ((F _ hKb (nsK hns)).run callerA [] s₁ H ⟨[.ref a],[]⟩ [.ref a] [.ref a] _ _ hr e0 (hbind s₁ (.ref a)) (.cons rfl .nil) (hsp H hO hS)) fun r s' h => ?_
  cases r with
  | error e=>exact (hCX H e s' h).elim
  | ok fl =>
   cases fl with
   | next=>exact False.elim h
   | brk=>exact False.elim h
   | cont=>exact False.elim h
   | ret u =>
    obtain ⟨v,H',os,bare,un,hok',r',q⟩ := h
    have q':v = .bl true:=q
    subst q'
    obtain rfl:u=Value.bool true:=r'
    refine ⟨rfl,OldK.of_keep fun b o e => ?_,os,bare⟩
    cases q:H b with
    | none=>exact un.keep b o e q (by intro z; exact absurd (show b∈([]:List Addr) from z) (by simp)) (by simp)
    | some u =>
     rcases hO b with z | ⟨ob,xs,z⟩
     ·rw [q] at z; cases z
     ·have z2:=un.frzs b ob _ z
      obtain ⟨e1,_⟩ := hok b _ z
      obtain ⟨e2,_⟩ := hok' b _ z2
      rw [e] at e1; cases e1
      exact e2
 cases hk:K.lookup a with
 | some o =>
  have e:=KX a o hk
  rw [ha] at e
  cases e
  refine core (fun _=>none) (fun _ => .inl rfl) (.inr ⟨_,vs.toArray,_,hk,rfl,rfl,rfl,by rw [List.size_toArray,lenV]; exact hl,by simpa using rv⟩) (fun b u z=>by have z':(none:Option HO)=some u:=z; cases z') (fun b z=>absurd rfl z) fun z=>absurd rfl z
 | none =>
  refine core (fun b=>if b=a then some (.frz { cls:=.type "list",data:=.seq vs.toArray } (.lst (ns.map V.int))) else none) (fun b => ?_) (.inl (.inr ⟨{ cls:=.type "list",data:=.seq vs.toArray },if_pos rfl⟩)) (fun b u z => ?_) (fun b z => ?_) fun _=>hk
  ·by_cases hb:b=a
   ·exact .inr ⟨_,_,if_pos hb⟩
   ·exact .inl (if_neg hb)
  ·by_cases hb:b=a
   ·have z':=(if_pos hb).symm.trans z
    cases z'
    subst hb
    exact ⟨ha,by rw [List.length_map]; exact hl,vs,_,rv,ha⟩
   ·have z':=(if_neg hb).symm.trans z
    cases z'
  ·by_cases hb:b=a
   ·exact hb
   ·exact absurd (if_neg hb) z
end L2

namespace L2
open PySem PySem.Spec PyProof.Rows

theorem walk_of {l:PySem.W.OpenLaw} {n k:Nat} {q:Program} {loose:List Str} {XP:(Str->Option Value)->Heap->Prop} {YP:World->Heap->Prop} {d:DefRec} {K:Params->PySem.W.Frag} {CX:World->CXT} {sp:World->Sp} {x:Str}
  (hn:l.most=some n) (hn2:n<=sizeLine) (hdf:d.params.defaults=[]) (hr:Room k callerA)
  (hY:∀ (w:World) (h:Heap),YP w h->(K w.params).In h)
  (F:∀ (w:World) (mg:Str->Option Value) (fa:Addr) (h:Heap),(K w.params).In h->h.Ns mainGlobals mg->mg d.name=some (.ref fa) ->
   ∃ fd:FuncData,(∀ (s:Shared) (u:Value),BindsTo s fd ⟨[u],[]⟩ [(x,u)]) /\
    ∀ base:Heap,(K w.params).In base->base.Ns mainGlobals mg->FnOk l.prog w (K w.params) mg base (CX w) k fa fd [x] (sp w))
  (hsp:∀ (w:World) (H:Hp) (a:Addr) (ns:List Int),ns.length<=n->Only H->SqL (K w.params) H a (ns.map V.int)->sp w [.ref a] H (fun v _=>v = .bl true) fun _ _ _=>False)
  (hCX:∀ (w:World) (H:Hp) (s:Shared) (e:Value) (s':Shared),CX w [] H s (fun _ _ _=>False) e s'->False) :
  PySem.W.WalkO q loose XP YP l.row.toRowW d [] (fun f vs=>PySem.call f vs):=by
 refine Att.attach_call hn hdf fun w s₀ s₁ mg mb fa o pm cd doc a vs ns G Y ho hd hcd hmg hobj hints hlen hg => ?_
 have KX:=hY w _ Y
 obtain ⟨fd,hb,hF⟩ := F w mg fa _ KX G.T.g hmg
 exact law_call KX G.T.g G.T.b G.T.builtins G.T.nolimit hg hobj hints (Nat.le_trans hlen hn2) hr hF hb (fun H hO hS=>hsp w H a ns hlen hO hS) fun H e s'=>hCX w H s₁ e s'
end L2


namespace L2
open PySem PySem.Spec PyProof.Rows

def inClass (s:Stmt) (j:Nat):Stmt:=match s with
 | .ClassDef _ _ _ body _ _ _ _ _ _ _=>body.getD j (.Pass ⟨0,0,0,0⟩)
 | _ => .Pass ⟨0,0,0,0⟩
def defArgs (s:Stmt):Arguments:=match s with
 | .FunctionDef _ a _ _ _ _ _ _ _ _=>a
 | _=>{ posonlyargs:=[],args:=[],vararg:=none,kwonlyargs:=[],kw_defaults:=[],kwarg:=none,defaults:=[] }
def defBody (s:Stmt):List Stmt:=match s with
 | .FunctionDef _ _ b _ _ _ _ _ _ _=>b
 | _=>[]
def defScope (s:Stmt):Scope:=match s with
 | .FunctionDef _ _ _ _ _ _ sc _ _ _=>sc
 | _=>{ kind:=.function,names:=[],isGenerator:=false,isCoroutine:=false }

abbrev E0:XK:=fun _ _ _=>False
structure Fun (K:PySem.W.Frag) (x qual:Str) (st:Stmt) (f:Addr) (fd:FuncData):Prop where
 ex:∃ (oc:Value) (od:Option Addr) (kV doc pm:Value) (an:Option Addr) (cdv ct:Value) (osl:Array (Option Value)),
  fd=PySem.W.fnOf x qual (defArgs st) (defBody st) (defScope st) .none kV doc pm an cdv ct/\K.lookup f=some ⟨oc,od,.func fd,osl⟩/\PySem.W.codeIn K cdv qual=true
 kp:PySem.W.keepIn K (.ref f)=true
section
variable {P:Program} {w:World} {K:PySem.W.Frag} {mg:Str->Option Value} {base:Heap}
theorem Fun.binds {x qual:Str} {st:Stmt} {f:Addr} {fd:FuncData} {ps:List Str} (F:Fun K x qual st f fd)
  (h:∀ (kV doc pm:Value) (an:Option Addr) (cdv ct:Value) (us:List Value),us.length=ps.length->bindArgs (PySem.W.fnOf x qual (defArgs st) (defBody st) (defScope st) .none kV doc pm an cdv ct) ⟨us,[]⟩=pure (ps.zip us)):Binds K fd ps []:=by
 obtain ⟨oc,od,kV,doc,pm,an,cdv,ct,osl,rfl,lk,hcd⟩ := F.ex
 exact .all (h kV doc pm an cdv ct)
theorem yF {x qual:Str} {st:Stmt} {f:Addr} {oc:Value} {od an:Option Addr} {osl:Array (Option Value)} {kV doc pm cdv ct:Value} (l:K.lookup f=some ⟨oc,od,.func (PySem.W.fnOf x qual (defArgs st) (defBody st) (defScope st) .none kV doc pm an cdv ct),osl⟩)
  (c:PySem.W.codeIn K cdv qual=true) (k:PySem.W.keepIn K (.ref f)=true):Fun K x qual st f (PySem.W.fnOf x qual (defArgs st) (defBody st) (defScope st) .none kV doc pm an cdv ct):=⟨⟨oc,od,kV,doc,pm,an,cdv,ct,osl,rfl,l,c⟩,k⟩
end
theorem hu_of {A:Around} {k:Nat} (hr:Room k A):A.units+1<cLine:=Nat.lt_of_le_of_lt (Nat.add_le_add_left (by decide : 1<=64) _) hr.units
theorem small1000 {n:Nat} (h:n<=1000):n<sizeLine:=Nat.lt_of_le_of_lt h (by decide)

section
variable {X:Cx}
theorem pv (i:Nat) {x:Str} {pos:Pos} (hN:X.N[i]? = some x:=by rfl) (hv:Vis X.env.scope x:=by first | exact Or.inl rfl | exact Or.inr (Or.inl rfl) | exact Or.inr (Or.inr rfl)) (hd:(x == ("__debug__" : Str))=false:=by decide)
  (hcd:(x == ("__classdict__" : Str))=false:=by decide):PE X (.Name x pos) (tVar i):=pe_var hN hv hd hcd
end

theorem iteF {A B:Prop} (h:B):if false=true then A else B:=by
 rw [if_neg Bool.false_ne_true]
 exact h
theorem iteT {A B:Prop} (h:A):if true=true then A else B:=by
 rw [if_pos rfl]
 exact h
theorem ite2 {c A B:Prop} [Decidable c] (h1:c->A) (h2:¬ c->B):if c then A else B:=by
 by_cases h:c
 ·rw [if_pos h]
  exact h1 h
 ·rw [if_neg h]
  exact h2 h
def Same (H H':Hp):Prop:=∀ b o,H b=some o->H' b=some o
theorem Same.refl (H:Hp):Same H H:=fun _ _ h=>h
theorem Same.trans {H H1 H2:Hp} (a:Same H H1) (b:Same H1 H2):Same H H2:=fun c o h=>b c o (a c o h)
theorem Same.free {H H':Hp} (e:Same H H') {l:Addr} (h:H' l=Option.none):H l=Option.none:=by
 cases q:H l with
 | none=>rfl
 | some o =>
  rw [e l o q] at h
  cases h
end L2

namespace L2
open PySem PySem.Spec PyProof.Rows

theorem comp_turns {prog:Program} {w:World} {A:Around} {R:Result->Shared->Prop} {s:Shared} {elt target iter:Expr} {ifs:List Expr} {scope:Scope} {pos:Pos} {it acc:Value} {env:Env} (J:Nat->Shared->Prop)
  (turn:∀ n s,J n s->wpAny (model prog w) A (pyNext it) (fun r s1=>match r with
   | none=>R (.ok .next) s1
   | some v=>wpAny (model prog w) A (letOwnedTupleGo target it v) (fun _ s1=>wpAny (model prog w) A (assign target env v) (fun _ s2 =>
     wpAny (model prog w) A (forIn ifs true fun c r=>if r=true then do let ok <- isTrue c env (eval c env); pure (ForInStep.yield ok) else pure (ForInStep.yield r)) (fun ok s3 =>
      if ok=true then wpAny (model prog w) A (eval elt env) (fun x s4 =>
       wpAny (model prog w) A (call (.builtin "list.append") [acc,x]) (fun _ s5=>∃ m,m<n/\J m s5) (fun _ _=>False) s4) (fun _ _=>False) s3
      else ∃ m,m<n/\J m s3) (fun _ _=>False) s2) (fun _ _=>False) s1) (fun _ _=>False) s1) (fun _ _=>False) s)
  (n:Nat) (h:J n s) :
  codeAny (model prog w) A (.compLoop (.ListComp elt [⟨target,iter,ifs,0⟩] scope pos) 0 it acc env) R s:=by
 refine codeAny_loop rfl J (fun n s hI => ?_) n h
 show wpAny _ A ((compTurn (.ListComp elt [⟨target,iter,ifs,0⟩] scope pos) 0 it acc env).onRaise (fun x=>do noteFrame x env; theTreesLotGoes x)) _ _ s
 refine wpAny_noted (wpAny_mono (E:=fun _ _=>False) ?_ (fun _ _ q=>q) fun _ _ q=>q.elim)
 rw [compTurn_list]
 refine wpAny_bind (wpAny_standAt (wpAny_bind (thn (turn n s hI) fun r s1 h1 => ?_)))
 cases r with
 | none=>exact wpAny_pure h1
 | some v =>
  refine wpAny_bind (thn h1 fun _ s1 h1 => ?_)
  refine wpAny_bind (thn h1 fun _ s2 h2=>wpAny_bind (thn h2 fun ok s3 h3 => ?_))
  cases ok with
  | false=>exact wpAny_pure ⟨rfl,h3⟩
  | true=>exact wpAny_bind (wpAny_bind (thn h3 fun x s4 h4=>wpAny_bind (thn h4 fun _ s5 h5=>wpAny_pure (wpAny_pure ⟨rfl,h5⟩))))

theorem closure_ok {env:Env}:∀ (names:List (Str × NameKind)) (acc:List (Str × Addr)),(∀ y∈names,y.2 = .free->∃ c,env.cells.lookup y.1=some c) ->
  ∃ cl:List (Str × Addr),(forIn names acc (fun (y:Str × NameKind) (r:List (Str × Addr))=>if (y.2 == NameKind.free)=true then do let a <- cellOf env y.1; pure (ForInStep.yield ((y.1,a) :: r)) else pure (ForInStep.yield r)):Sem _)=pure cl /\
   ∀ x,(∀ c,cl.lookup x=some c->acc.lookup x=some c\/env.cells.lookup x=some c)/\((acc.lookup x).isSome=true\/(x,NameKind.free)∈names->(cl.lookup x).isSome=true)
 | [],acc,_=>⟨acc,rfl,fun x=>⟨fun c h => .inl h,fun h=>h.elim id fun z=>nomatch z⟩⟩
 | (n,k) :: r,acc,hf=>by
  by_cases hk:k = .free
  ·subst hk
   obtain ⟨c,hc⟩ := hf (n,.free) List.mem_cons_self rfl
   obtain ⟨cl,e,q⟩ := closure_ok r ((n,c) :: acc) fun y hy=>hf y (List.mem_cons_of_mem _ hy)
   refine ⟨cl,?_,fun x=>⟨fun d hd => ?_,fun hx => ?_⟩⟩
   ·rw [List.forIn_cons]
    have e1:cellOf env n=pure c:=by unfold cellOf; simp only [hc]
    simp only [beq_self_eq_true,if_true,e1]
    exact e
   ·rcases (q x).1 d hd with z | z
    ·by_cases hx:x=n
     ·subst hx; rw [List.lookup_cons_self] at z; cases z; exact .inr hc
     ·rw [List.lookup_cons,beq_eq_false_iff_ne.mpr hx] at z; exact .inl z
    ·exact .inr z
   ·refine (q x).2 ?_
    by_cases hxn:x=n
    ·subst hxn; exact .inl (by rw [List.lookup_cons_self]; rfl)
    ·rcases hx with z | z
     ·exact .inl (by rw [List.lookup_cons,beq_eq_false_iff_ne.mpr hxn]; exact z)
     ·rcases List.mem_cons.mp z with z | z
      ·cases z; exact absurd rfl hxn
      ·exact .inr z
  ·obtain ⟨cl,e,q⟩ := closure_ok r acc fun y hy=>hf y (List.mem_cons_of_mem _ hy)
   refine ⟨cl,?_,fun x=>⟨(q x).1,fun hx=>(q x).2 ?_⟩⟩
   ·rw [List.forIn_cons]
    have hb:(k == NameKind.free)=false:=by simpa using hk
    simp only [hb,Bool.false_eq_true,if_false]
    exact e
   ·rcases hx with z | z
    ·exact .inl z
    ·rcases List.mem_cons.mp z with z | z
     ·cases z; exact absurd rfl hk
     ·exact .inr z
theorem closure_at {env:Env} {scope:Scope} (hf:∀ y∈scope.names,y.2 = .free->∃ c,env.cells.lookup y.1=some c) :
  ∃ cl,closureFor scope env=pure cl/\(∀ x c,cl.lookup x=some c->env.cells.lookup x=some c)/\∀ x,(x,NameKind.free)∈scope.names->∃ c,cl.lookup x=some c:=by
 obtain ⟨cl,e,q⟩ := closure_ok scope.names [] hf
 refine ⟨cl,?_,fun x c h => ?_,fun x hx=>Option.isSome_iff_exists.mp ((q x).2 (.inr hx))⟩
 ·unfold closureFor
  exact (congrArg (· >>= fun r=>pure r) e).trans rfl
 ·rcases (q x).1 c h with z | z
  ·simp at z
  ·exact z

abbrev Cx.comp (X:Cx) (N:List Str) (scope:Scope) (cl:List (Str × Addr)) (C:Addr) (fp:List Addr) (s:Shared) (H:Hp):Cx :=
 { X with N:=N,s₀:=s,H₀:=H,env:=compEnvC scope cl C X.env,outer:=X.stack,stack:=X.stack,ex:=fp,fn:=fun _=>false,pn:=[],xe:=fun _ _=>False }

structure PTs (X:Cx) (ifs:List Expr) (t:TT)  : Prop where
 go:∀ (pins:List (Addr × Obj)) (s:Shared) (σ:St) (H:Hp) (Q:Bool->Hp->Prop),Inv X pins σ H s->t σ H Q ->
  wpAny (model X.prog X.w) X.A (forIn ifs true fun c r=>if r=true then do let ok <- isTrue c X.env (eval c X.env); pure (ForInStep.yield ok) else pure (ForInStep.yield r)) (TP X pins σ Q) X.xe s
instance {X:Cx} {ifs:List Expr} {t:TT}:CoeFun (PTs X ifs t) (fun _=>∀ (pins:List (Addr × Obj)) (s:Shared) (σ:St) (H:Hp) (Q:Bool->Hp->Prop),Inv X pins σ H s->t σ H Q ->
  wpAny (model X.prog X.w) X.A (forIn ifs true fun c r=>if r=true then do let ok <- isTrue c X.env (eval c X.env); pure (ForInStep.yield ok) else pure (ForInStep.yield r)) (TP X pins σ Q) X.xe s):=⟨PTs.go⟩
def tYes:TT:=fun _ H Q=>Q true H
theorem wB {X:Cx}:PTs X [] tYes:=⟨fun _ _ _ H _ I h=>wpAny_tests_nil ⟨H,I,h⟩⟩
theorem pts_one {X:Cx} {c:Expr} {t:TT} (h:PT X c t):PTs X [c] t:=⟨fun pins s σ H Q I q=>wpAny_tests_one (h pins s σ H Q I q)⟩
def compSt (own:Nat) (js:List Nat) (σ:St):St:=List.replicate own none++js.map fun j=>(σ[j]?).join
def CompGo (J:It) (p:Addr) (σ0:St) (H0:Hp) (g:TG) (tt:TT) (te:TE) (R:Hp->Prop):Prop :=
 ∃ W:Nat->Nat->St->Hp->Prop,(∃ m,W 0 m σ0 H0)/\∀ i m σ' H',W i m σ' H' ->
  (J.stop i H'/\R H')\/(J.go i H'/\∀ x H2,J.yld i H' x H2->g x σ' H2 fun σ3 H3=>tt σ3 H3 fun b H4 =>
   if b=true then te σ3 H4 fun v H5=>∃ ys,H5 p=some (.lst ys)/\ys.length<sizeLine/\∃ m',m'<m/\W (i+1) m' σ3 (upd H5 p (.lst (ys++[v])))
   else ∃ m',m'<m/\W (i+1) m' σ3 H4)
def tComp (wi:TI) (own:Nat) (js:List Nat) (g:TG) (tt:TT) (te:TE):TE:=fun σ H Q=>wi σ H fun J H1=>∀ p,H1 p=none->CompGo J p (compSt own js σ) (upd H1 p (.lst [])) g tt te (Q (.ref p))
inductive Frees (N:List Str):List Str->List Nat->Prop where
 | nil:Frees N [] []
 | cons {y:Str} {j:Nat} {ys:List Str} {js:List Nat} (h:N[j]? = some y) (r:Frees N ys js):Frees N (y :: ys) (j :: js)
theorem Frees.at {N:List Str}:∀ {ys:List Str} {js:List Nat},Frees N ys js->∀ (i:Nat) (y:Str),ys[i]? = some y->∃ j,js[i]? = some j/\N[j]? = some y
 | _,_,.nil,_,_,e=>by simp at e
 | _,_,.cons (j:=j) h _,0,_,e=>by simp at e; subst e; exact ⟨j,rfl,h⟩
 | _,_,.cons _ r,i+1,y,e=>by
  obtain ⟨j,h1,h2⟩ := r.at i y (by simpa using e)
  exact ⟨j,by simpa using h1,h2⟩
theorem Frees.length {N:List Str}:∀ {ys:List Str} {js:List Nat},Frees N ys js->ys.length=js.length
 | _,_,.nil=>rfl
 | _,_,.cons _ r=>by simp [r.length]
theorem wN {f:Str->NameKind->NameKind}:∀ {names:List (Str × NameKind)} {x:Str},(names.map fun y=>(y.1,f y.1 y.2)).lookup x=(names.lookup x).map (f x)
 | [],_=>rfl
 | (n,k) :: r,x=>by
  by_cases h:x=n
  ·subst h; rw [List.map_cons,List.lookup_cons_self,List.lookup_cons_self]; rfl
  ·have hb:(x == n)=false:=beq_eq_false_iff_ne.mpr h
   rw [List.map_cons,List.lookup_cons,List.lookup_cons,hb]
   exact wN
def relK (env:Env) (n:Str) (k:NameKind):NameKind:=if (k == .free && env.scope.kind == .function && env.kindOf n == some .cell)=true then .cell else k
theorem relabel_look (scope:Scope) (env:Env) (x:Str):(relabel scope env).names.lookup x=(scope.names.lookup x).map (relK env x):=by
 have e:(relabel scope env).names=scope.names.map fun y=>(y.1,relK env y.1 y.2):=by
  unfold relabel
  refine List.map_congr_left fun y _ => ?_
  obtain ⟨n,k⟩ := y
  show (if (k == .free && env.scope.kind == .function && env.kindOf n == some .cell)=true then (n,NameKind.cell) else (n,k))=(n,relK env n k)
  unfold relK
  split <;> rfl
 rw [e,wN]

section
variable {X:Cx} {elt target iter:Expr} {ifs:List Expr} {scope:Scope} {own ys:List Str} {js:List Nat} {wi:TI} {g:TG} {tt:TT} {te:TE} {pos:Pos}
theorem comp_block {pins:List (Addr × Obj)} {σ:St} {H:Hp} {s2:Shared} {it:Addr} {fp:List Addr} {tn:Nat->Heap->Prop} {J:It} {Q:VK} {E:Value->Shared->Prop} {cl:List (Str × Addr)} {RR:Value->Addr->Result->Shared->Prop}
  (hc:X.calm=true) (I:Inv X pins σ H s2) (T:Turn X.prog X.w X.K target J fp it tn) (st:tn 0 s2.heap) (fpk:∀ b∈fp,FpOk X pins H b)
  (hkind:scope.kind = .function) (hcell:∀ y∈scope.names,y.2 ≠ .cell) (fr:Frees X.N ys js) (hys:∀ y∈ys,X.env.kindOf y=some .cell)
  (hcl1:∀ x c,cl.lookup x=some c->X.env.cells.lookup x=some c) (hcl2:∀ x,(x,NameKind.free)∈scope.names->∃ c,cl.lookup x=some c)
  (hvis:∀ y∈ys,(relabel scope X.env).names.lookup y=some .cell)
  (hg:∀ cl C fp s H,PG (X.comp (own++ys) scope cl C fp s H) target g) (ht:∀ cl C fp s H,PTs (X.comp (own++ys) scope cl C fp s H) ifs tt) (he:∀ cl C fp s H,PE (X.comp (own++ys) scope cl C fp s H) elt te)
  (h:∀ p,H p=none->∃ W:Nat->Nat->St->Hp->Prop,(∃ m,W 0 m (compSt own.length js σ) (upd H p (.lst [])))/\∀ i m σ' H',W i m σ' H' ->
   (J.stop i H'/\Q (.ref p) H')\/(J.go i H'/\∀ x H2,J.yld i H' x H2->g x σ' H2 fun σ3 H3=>tt σ3 H3 fun b H4 =>
    if b=true then te σ3 H4 fun v H5=>∃ ys,H5 p=some (.lst ys)/\ys.length<sizeLine/\∃ m',m'<m/\W (i+1) m' σ3 (upd H5 p (.lst (ys++[v])))
    else ∃ m',m'<m/\W (i+1) m' σ3 H4))
  (hRR:∀ D C (H':Hp) (s':Shared),Inv X pins σ H' s'->Q (.ref D) H'->(∃ m,s'.heap.Ns C m)->H' C=none->C≠X.env.locals->X.s₀.heap.objs.size<=C->(∀ x c,X.env.cells.lookup x=some c->c≠C)->(∀ p∈X.pn++pins,p.1≠C)->RR (.ref D) C (.ok .next) s') :
  wpAny (model X.prog X.w) X.A (newList []) (fun acc s3=>wpAny (model X.prog X.w) X.A (newFunctionEnv scope X.env.globals cl [] X.env.qual none .none (some X.env)) (fun cenv s4 =>
   codeAny (model X.prog X.w) X.A (.compStart (.ListComp elt [⟨target,iter,ifs,0⟩] scope pos) 0 (.ref it) acc { cenv with scope:=relabel scope X.env }) (RR acc cenv.locals) s4) E s3) E s2:=by
 refine wpAny_newObj_type (wpAny_newFunctionEnv hcell (by intro y hy; simp at hy) (fun h1 hns1 hsb1 => ?_) hkind)
 have hnp:H s2.heap.objs.size=none:=I.hok.fresh (Nat.le_refl _)
 have I3:Inv X pins σ (upd H s2.heap.objs.size (.lst [])) { s2 with heap:=s2.heap.push { cls:=.type "list",data:=.seq ([]:List Value).toArray },toks:=s2.toks } :=
  I.lnew (its:=[]) (ys:=[]) .nil (Nat.zero_le _)
 obtain ⟨W,⟨m0,w0⟩,turn⟩ := h _ hnp
 clear h
 generalize hH0:upd H s2.heap.objs.size (.lst [])=H0 at I3 w0
 generalize hp:s2.heap.objs.size=p at *
 have eS:({ s2 with heap:=s2.heap.push { cls:=.type "list",data:=.seq ([]:List Value).toArray },toks:=s2.toks }:Shared)={ s2 with heap:=s2.heap.push { cls:=.type "list",data:=.seq ([]:List Value).toArray } }:=rfl
 rw [eS] at I3
 clear eS
 generalize hs3:({ s2 with heap:=s2.heap.push { cls:=.type "list",data:=.seq ([]:List Value).toArray } }:Shared)=s3 at *
 have heap3:s3.heap=s2.heap.push { cls:=.type "list",data:=.seq ([]:List Value).toArray }:=by rw [<- hs3]
 have old3:∀ b o,s2.heap.get? b=some o->s3.heap.get? b=some o:=fun b o e=>by rw [heap3]; exact Heap.get?_push_of_some _ e
 generalize hC:s3.heap.objs.size=C at *
 have st3:tn 0 s3.heap:=T.keep _ _ _ st fun b _ o e=>old3 b o e
 have fp3:∀ b∈fp,b<C:=fun b hb=>by
  obtain ⟨o,e,_⟩ := T.obj _ _ st3 b hb
  have:=Heap.lt_size e
  rw [hC] at this; exact this
 have nH0:∀ b∈fp,H0 b=none:=fun b hb=>by
  obtain ⟨o,e,_⟩ := T.obj _ _ st b hb
  rw [<- hH0,zH (fun z=>by have:=Heap.lt_size e; rw [hp,z] at this; exact Nat.lt_irrefl _ this)]
  exact (fpk b hb).1
 have old1:∀ b o,s3.heap.get? b=some o->h1.get? b=some o:=fun b o e =>
  hsb1.extBut b o (fun z=>by have:=Heap.lt_size e; rw [hC,z] at this; exact Nat.lt_irrefl _ this) (Heap.get?_push_of_some _ e)
 have nstk:∀ b∈fp,b ∉ frs X.stack:=fun b hb z=>by
  rcases List.mem_cons.mp (I.stkSub b z) with e | e
  ·exact (fpk b hb).2.1 e
  ·exact (fpk b hb).2.2.1 e
 have ncC:∀ x c,X.env.cells.lookup x=some c->c≠C:=fun x c e z=>by
  obtain ⟨v,o,ho,_⟩ := I3.cell x c e
  have:=Heap.lt_size ho
  rw [hC,z] at this; exact Nat.lt_irrefl _ this
 have LC:C≠X.env.locals:=fun z=>by have:=I3.lt; rw [hC,z] at this; exact Nat.lt_irrefl _ this
 have sC:X.s₀.heap.objs.size<=C:=by rw [<- hC]; exact I3.sz
 have rl:∀ x k,(compEnvC scope cl C X.env).kindOf x=some k->(k = .cell\/k = .free)->(x,NameKind.free)∈scope.names:=fun x k e hk=>by
  have e':(relabel scope X.env).names.lookup x=some k:=e
  rw [relabel_look] at e'
  cases q:scope.names.lookup x with
  | none=>rw [q] at e'; cases e'
  | some k0 =>
   rw [q] at e'
   have m0:=PySem.mem_of_lookup q
   have n0:=hcell _ m0
   have:relK X.env x k0=k:=Option.some.inj e'
   unfold relK at this
   split at this
   ·rename_i z
    have:k0 = .free:=by
     simp only [Bool.and_eq_true,beq_iff_eq] at z
     exact z.1.1
    rw [<- this]; exact m0
   ·rcases hk with hk | hk
    ·exact absurd (this.trans hk) n0
    ·rw [<- hk,<- this]; exact m0
 let Y:=X.comp (own++ys) scope cl C fp s3 H0
 have okY:Y.Ok:=by
  refine ⟨I.ok.mod,?_,I.ok.glob,I.ok.blt,?_,fun x y c e1 e2=>I.ok.inj x y c (hcl1 x c e1) (hcl1 y c e2),fun x hx => ?_,fun x c z=>(nomatch z),I.ok.hd,I.ok.frames,.inl rfl,fun b hb=>⟨?_,fun x c e=>(fpk b hb).2.2.2.2.1 x c (hcl1 x c e)⟩,fun b o e=>I3.bs b o e,?_,fun b o e hb => ?_,nstk,I3.stack,I3.stkFree⟩
  ·exact hkind
  ·exact Nat.le_of_eq hC
  ·rcases hx with hx | hx
   ·exact hcl2 x (rl x _ hx (.inl rfl))
   ·exact hcl2 x (rl x _ hx (.inr rfl))
  ·exact Nat.ne_of_lt (fp3 b hb)
  ·exact Nat.le_trans I.ok.bsz I3.sz
  ·rcases (fpk b hb).2.2.2.1 with z | z
   ·exact I.ok.noex b o e z
   ·exact absurd (Nat.lt_of_lt_of_le (Heap.lt_size e) (Nat.le_trans I.ok.bsz z)) (Nat.lt_irrefl _)
 have I4:Inv Y [] (compSt own.length js σ) H0 { s3 with heap:=h1,toks:=s3.toks+([]:List (Str × Value)).length }:=by
  refine ⟨okY,rfl,I3.bare,Un.kept old1,⟨_,hns1,fun i x v e1 e2 e3 => ?_⟩,fun x c e => ?_,?_,fun x c e=>I3.freeC x c (hcl1 x c e),fun p hp=>absurd (show p∈([]:List (Addr × Obj)) from hp) (by simp),I3.hok.kept old1,?_⟩
  ·have e1:(own++ys)[i]? = some x:=e1
   have hi:own.length<=i:=Nat.le_of_not_lt fun lt=>by
    unfold compSt at e2
    rw [List.getElem?_append_left (by simpa using lt),List.getElem?_replicate] at e2
    split at e2 <;> cases e2
   rw [List.getElem?_append_right hi] at e1
   obtain ⟨j,hj,hN⟩ := fr.at _ _ e1
   unfold compSt at e2
   rw [List.getElem?_append_right (by simpa using hi),List.length_replicate,List.getElem?_map,hj] at e2
   have e2:(σ[j]?).join=some v:=Option.some.inj e2
   have e2' : σ[j]? = some (some v):=by
    cases q : σ[j]? with
    | none=>rw [q] at e2; cases e2
    | some z=>rw [q] at e2; rw [show z=some v from e2]
   have my:=List.mem_of_getElem? e1
   have hk:=hys x my
   obtain ⟨m,hn,hl⟩ := I3.loc
   obtain ⟨u,r,q⟩ := hl j x v hN e2' (.inr (.inl hk))
   refine ⟨u,r,?_⟩
   rcases q with ⟨k,_⟩ | ⟨_,c,e,z⟩
   ·rw [hk] at k; cases k
   ·obtain ⟨c',e'⟩ := hcl2 x (rl x _ (hvis x my) (.inl rfl))
    have:c'=c:=by have:=hcl1 x c' e'; rw [e] at this; exact (Option.some.inj this).symm
    subst this
    refine .inr ⟨?_,c',e',?_⟩
    ·exact .inl (hvis x my)
    ·obtain ⟨o,ho,hd⟩ := z
     exact ⟨o,old1 _ _ ho,hd⟩
  ·obtain ⟨v,o,ho,hd⟩ := I3.cell x c (hcl1 x c e)
   exact ⟨v,o,old1 _ _ ho,hd⟩
  ·exact I3.hok.fresh (Nat.le_of_eq hC)
  ·unfold compSt
   show _=(own++ys).length
   rw [List.length_append,List.length_replicate,List.length_map,List.length_append,fr.length]
 have stat:∀ {H':Hp},(∀ b∈fp,H' b=none)->∀ b∈fp,FpOk Y [] H' b:=fun hn b hb =>
  ⟨hn b hb,Nat.ne_of_lt (fp3 b hb),nstk b hb,.inl hb,fun x c e=>(fpk b hb).2.2.2.2.1 x c (hcl1 x c e),fun p hp=>absurd (show p∈([]:List (Addr × Obj)) from hp) (by simp)⟩
 have fin:∀ {σ':St} {H':Hp} {s':Shared},Inv Y [] σ' H' s'->Q (.ref p) H'->RR (.ref p) C (.ok .next) s':=fun {σ' H' s'} I' q=>by
  have back:Inv X pins σ H' s':=I3.call' (ch:=fp) I'.os I'.base I'.hok I'.bare fun b hb=>⟨(fpk b hb).2.2.2.1,(fpk b hb).2.1,(fpk b hb).2.2.2.2.1,(fpk b hb).2.2.2.2.2⟩
  obtain ⟨m,hn,_⟩ := I'.loc
  exact hRR p C H' s' back q ⟨m,hn⟩ I'.free LC sC ncC fun q hq z=>by
   have:=Heap.lt_size (I3.pin q hq).1
   rw [hC,z] at this; exact Nat.lt_irrefl _ this
 have loop:∀ s4:Shared,s4={ s3 with heap:=h1,toks:=s3.toks+([]:List (Str × Value)).length } ->
   codeAny (model X.prog X.w) X.A (.compLoop (.ListComp elt [⟨target,iter,ifs,0⟩] scope pos) 0 (.ref it) (.ref p) (compEnvC scope cl C X.env)) (RR (.ref p) C) s4:=by
  rintro s4 rfl
  refine comp_turns (fun n s'=>∃ i σ' H',Inv Y [] σ' H' s'/\tn i s'.heap/\(∀ b∈fp,H' b=none)/\W i n σ' H') ?_ m0 ⟨0,_,_,I4,T.keep _ _ _ st3 fun b _ o e=>old1 b o e,nH0,w0⟩
  rintro n s5 ⟨i,σ5,H5,I5,st5,fr5,w5⟩
  rcases turn i n σ5 H5 w5 with ⟨stop,qn⟩ | ⟨go,step⟩
  ·refine thn (T.done Y rfl rfl rfl hc i [] s5 σ5 H5 (fun _ _=>False) I5 (stat fr5) st5 stop) fun r s6 hzz => ?_
   obtain ⟨hr,I6⟩ := hzz
   subst hr
   exact fin I6 qn
  ·refine thn (T.item Y rfl rfl rfl hc i [] s5 σ5 H5 (fun _ _=>False) I5 (stat fr5) st5 go) fun r s6 hzz => ?_
   obtain ⟨u,hr,h6⟩ := hzz
   subst hr
   refine thn h6 fun _ s7 hzz => ?_
   obtain ⟨x,H7,I7,r7,y7,st7,fr7⟩ := hzz
   have I7':=I7.pinned (stat fr7) (T.obj _ _ st7)
   have again:∀ {σ9:St} {H9:Hp} {s9:Shared} {m':Nat},Inv Y ([]++pinsAt fp s7.heap) σ9 H9 s9->m'<n->W (i+1) m' σ9 H9->∃ m,m<n/\∃ i σ' H',Inv Y [] σ' H' s9/\tn i s9.heap/\(∀ b∈fp,H' b=none)/\W i m σ' H':=fun {σ9 H9 s9 m'} I9 hm w9=>by
    refine ⟨m',hm,i+1,σ9,H9,I9.unpinned,T.keep _ _ _ st7 fun b hb o e=>(I9.pin (b,o) (List.mem_append_right _ (List.mem_append_right _ (wY hb e)))).1,fun b hb => ?_,w9⟩
    obtain ⟨o,e,d⟩ := T.obj _ _ st7 b hb
    exact (I9.pin (b,o) (List.mem_append_right _ (List.mem_append_right _ (wY hb e)))).2.1
   refine thn (hg cl C fp s3 H0 _ s7 σ5 H7 x u _ I7' r7 (step x H7 y7)) fun _ s8 hzz => ?_
   obtain ⟨σ8,H8,I8,q8⟩ := hzz
   refine thn (ht cl C fp s3 H0 _ s8 σ8 H8 _ I8 q8) fun b s9 hzz => ?_
   obtain ⟨H9,I9,q9⟩ := hzz
   cases b with
   | false =>
    obtain ⟨m',hm,w9⟩ := q9
    exact again I9 hm w9
   | true =>
    refine thn (he cl C fp s3 H0 _ s9 σ8 H9 _ I9 q9) fun y s10 hzz => ?_
    obtain ⟨v,H10,I10,r10,zs,e10,z10,m',hm,w10⟩ := hzz
    refine thn (yJ (X:=Y) _ s10 σ8 H10 (.ref p) [v] (.ref p) [y] (fun _ H'=>H'=upd H10 p (.lst (zs++[v]))) I10 rfl (.cons r10 .nil) ⟨p,zs,v,rfl,rfl,e10,z10,rfl⟩) fun _ s11 hzz => ?_
    obtain ⟨_,H11,I11,_,q11⟩ := hzz
    subst q11
    exact again I11 hm w10
 have st4:tn 0 h1:=T.keep _ _ _ st3 fun b _ o e=>old1 b o e
 exact codeAny_compStart_list (loop _ rfl) (T.self _ 0 _ _ _ st4 (loop _ rfl))
end

section
variable {X:Cx} {elt target iter:Expr} {ifs:List Expr} {scope:Scope} {own ys:List Str} {js:List Nat} {wi:TI} {g:TG} {tt:TT} {te:TE} {pos:Pos}
structure CompSc (X:Cx) (scope:Scope) (ys:List Str):Prop where
 kind:scope.kind = .function
 cell:∀ y∈scope.names,y.2 ≠ .cell
 loc:∀ y∈scope.names,y.2 = .local->scope.names.lookup y.1=some .local
 free:∀ y∈scope.names,y.2 = .free->X.env.kindOf y.1=some .cell
 cap:∀ y∈ys,X.env.kindOf y=some .cell
 vis:∀ y∈ys,(relabel scope X.env).names.lookup y=some .cell
def compScB (sc scope:Scope) (ys:List Str):Bool :=
 scope.kind == .function && sc.kind == .function && (scope.names.all fun y=>y.2 != .cell && (y.2 != .local || scope.names.lookup y.1 == some .local) && (y.2 != .free || sc.names.lookup y.1 == some .cell)) &&
  ys.all fun y=>sc.names.lookup y == some .cell && scope.names.lookup y == some .free
theorem jB {sc:Scope} (hsc:X.env.scope=sc) (h:compScB sc scope ys=true):CompSc X scope ys:=by
 unfold compScB at h
 simp only [Bool.and_eq_true,List.all_eq_true,beq_iff_eq,bne_iff_ne,Bool.or_eq_true,ne_eq] at h
 obtain ⟨⟨⟨h1,h0⟩,h2⟩,h3⟩ := h
 subst hsc
 refine ⟨h1,fun y hy=>(h2 y hy).1.1,fun y hy e => ?_,fun y hy e => ?_,fun y hy=>(h3 y hy).1,fun y hy => ?_⟩
 ·rcases (h2 y hy).1.2 with z | z
  ·exact absurd e z
  ·exact z
 ·rcases (h2 y hy).2 with z | z
  ·exact absurd e z
  ·exact z
 ·rw [relabel_look,(h3 y hy).2]
  show some (relK X.env y .free)=_
  have z:X.env.kindOf y=some .cell:=(h3 y hy).1
  unfold relK
  rw [z,h0]
  rfl
theorem wW (hc:X.calm=true) (hi:PI X target iter wi) (S:CompSc X scope ys) (fr:Frees X.N ys js)
  (hg:∀ cl C fp s H,PG (X.comp (own++ys) scope cl C fp s H) target g) (ht:∀ cl C fp s H,PTs (X.comp (own++ys) scope cl C fp s H) ifs tt) (he:∀ cl C fp s H,PE (X.comp (own++ys) scope cl C fp s H) elt te)
  (hs:∀ x,foldedSetIterable iter X.env x=pure x:=by intro _; rfl):PE X (.ListComp elt [⟨target,iter,ifs,0⟩] scope pos) (tComp wi own.length js g tt te):=by
 refine ⟨?_⟩
 intro pins s σ H Q I h
 rw [eval_ListComp]
 obtain ⟨cl,e,c1,c2⟩ := closure_at (env:=X.env) (scope:=scope) fun y hy hf=>I.ok.has y.1 (.inl (S.free y hy hf))
 refine wpAny_comprehension_free (use:=none) rfl hs e S.kind S.loc (thn (hi pins s σ H _ I h) fun v s1 h1=>thn h1 fun itv s2 h2 => ?_)
 obtain ⟨it,fp,tn,J,H2,e,I2,T,st2,f2,q2⟩ := h2
 subst e
 refine comp_block (Q:=Q) (RR:=fun acc C=>compPost (model X.prog X.w) X.A X.xe none (EP X pins σ Q) acc C) hc I2 T st2 f2 S.kind S.cell fr S.cap c1 c2 S.vis hg ht he q2 ?_
 intro D C H' s' I' q hm n1 n2 n3 n4 n5
 obtain ⟨m,hn⟩ := hm
 exact ⟨m,hn,fun h' hs'=>⟨.ref D,H',I'.turned (fun b o hb e=>(hs'.2 b hb).trans e) n1 n2 (.inr n3) n4 n5,rfl,q⟩⟩
theorem ps_setcomp {i:Nat} {x:Str} {pos' spos:Pos} (hN:X.N.Nodup) (hix:X.N[i]? = some x) (hx:X.env.scope.names.lookup x=some .local) (hc:X.calm=true) (hi:PI X target iter wi) (S:CompSc X scope ys) (fr:Frees X.N ys js)
  (hg:∀ cl C fp s H,PG (X.comp (own++ys) scope cl C fp s H) target g) (ht:∀ cl C fp s H,PTs (X.comp (own++ys) scope cl C fp s H) ifs tt) (he:∀ cl C fp s H,PE (X.comp (own++ys) scope cl C fp s H) elt te)
  (hsw:swapsWith (.ListComp elt [⟨target,iter,ifs,0⟩] scope pos) (some (.Name x pos')) spos.line X.env=pure true:=by rfl)
  (hs:∀ x,foldedSetIterable iter X.env x=pure x:=by intro _; rfl):PS X (.Assign [.Name x pos'] (.ListComp elt [⟨target,iter,ifs,0⟩] scope pos) spos) (fun D σ H=>tComp wi own.length js g tt te σ H fun v H1=>D.nx (σ.set i (some v)) H1):=by
 refine ⟨?_⟩
 intro pins s σ H D I h
 rw [exec_Assign_Name_used _ _ _ _ hsw]
 refine wpAny_bind (wpAny_standAt (wpAny_bind ?_))
 show wpAny _ X.A (do let _ <- comprehension (.ListComp elt [⟨target,iter,ifs,0⟩] scope pos) scope X.env _ (newList []) false (eval iter X.env) (some (assign (.Name x pos') X.env))) _ _ s
 obtain ⟨cl,e,c1,c2⟩ := closure_at (env:=X.env) (scope:=scope) fun y hy hf=>I.ok.has y.1 (.inl (S.free y hy hf))
 refine wpAny_bind (thn (wpAny_comprehension_free (use:=some (assign (.Name x pos') X.env)) (Q:=fun _ s'=>SP X pins D .next s') rfl hs e S.kind S.loc
  (thn (hi pins s σ H _ I h) fun v s1 h1=>thn h1 fun itv s2 h2 => ?_)) fun _ s' hq=>wpAny_pure (wpAny_pure hq))
 obtain ⟨it,fp,tn,J,H2,e,I2,T,st2,f2,q2⟩ := h2
 subst e
 refine comp_block (Q:=fun v H1=>D.nx (σ.set i (some v)) H1) (RR:=fun acc C=>compPost (model X.prog X.w) X.A X.xe (some (assign (.Name x pos') X.env)) (fun _ s'=>SP X pins D .next s') acc C) hc I2 T st2 f2 S.kind S.cell fr S.cap c1 c2 S.vis hg ht he q2 ?_
 intro B C H' s' I' q hm n1 n2 n3 n4 n5
 obtain ⟨m,hn⟩ := hm
 show wpAny _ X.A (assign (.Name x pos') X.env (.ref B)) _ _ _
 refine wpAny_assign_Name (store_ok2 I' hN hix (.inl hx) (v:=.ref B) rfl (fun s2 I2 hsb => ?_) (.inr hx))
 obtain ⟨a,hsb,ha⟩ := hsb
 have ne:C≠a:=by
  rcases ha with z | z
  ·rw [z]; exact n2
  ·exact Ne.symm (n4 x a z)
 exact ⟨m,hn.sameBut hsb ne,fun h' hs'=>⟨_,H',I2.turned (fun b o hb e=>(hs'.2 b hb).trans e) n1 n2 (.inr n3) n4 n5,q⟩⟩
end
end L2

namespace L2
open PySem PySem.Spec PyProof.Rows
section
variable {X:Cx} {x:Str} {p pos:Pos} {e:Expr} {es:List Expr} {t:TA}

def GInt (mg:Str->Option Value) (x:Str) (i:Int):Prop:=∃ t,mg x=some (.int i t)
theorem yM {i:Int} (hg:Gl X x) (hm:GInt X.mg x i) (hd:(x == ("__debug__" : Str))=false:=by decide):PE X (.Name x pos) (tC (.int i)):=by
 obtain ⟨t,hm⟩ := hm
 exact pe_glob (v:=.int i) hg hm ⟨t,rfl⟩ hd
theorem kZ {a:Addr} (hg:Gl X x) (hm:X.mg x=some (.ref a)) (hd:(x == ("__debug__" : Str))=false:=by decide):PE X (.Name x pos) (tC (.ref a)):=pe_glob (v:=.ref a) hg hm rfl hd

structure Cal (P:Program) (w:World) (K:PySem.W.Frag) (mg:Str->Option Value) (base:Heap) (CX:CXT) (k:Nat) (x:Str) (ps:List Str) (sp:Sp):Prop where
 ex:∃ f fd,FnOk P w K mg base CX k f fd ps sp/\mg x=some (.ref f)/\PySem.W.keepIn K (.ref f)=true/\Binds K fd ps []
theorem zJ {CX:CXT} {k n:Nat} {ps:List Str} {sp:Sp} {E:XK} (C:Cal X.prog X.w X.K X.mg X.base CX k x ps sp) (hr:Room n X.A) (hg:Gl X x) (ha:PA X (e :: es) t) (hx:Passes CX X E) (hk:k<=n:=by first | decide | (first|lia|omega)) (hdb:(x == ("__debug__" : Str))=false:=by decide)
  (he:starEach (e :: es) X.env=(false,eval e X.env) :: starEach es X.env:=by rfl) (hpl:(backTo pos (starEach es X.env)).any (·.1)=false:=by rfl):PE X (.Call (.Name x p) (e :: es) [] pos) (tCall sp [] E t):=by
 obtain ⟨f,fd,F,hm,kp,hb⟩ := C.ex
 exact pe_call F (hr.mono hk) hg hm kp hb .nil hx ha hdb he hpl
theorem pe_callC0 {CX:CXT} {k n:Nat} {ps:List Str} {sp:Sp} {E:XK} (C:Cal X.prog X.w X.K X.mg X.base CX k x ps sp) (hr:Room n X.A) (hg:Gl X x) (hx:Passes CX X E) (hk:k<=n:=by first | decide | (first|lia|omega)) (hdb:(x == ("__debug__" : Str))=false:=by decide) :
  PE X (.Call (.Name x p) [] [] pos) (tCall sp [] E tNil):=by
 obtain ⟨f,fd,F,hm,kp,hb⟩ := C.ex
 exact pe_call0 F (hr.mono hk) hg hm kp hb .nil hx hdb

inductive Consts:List Expr->List V->Prop where
 | nil:Consts [] []
 | int {i j pos es vs} (r:Consts es vs):Consts (.Constant (.int i) j pos :: es) (.int i :: vs)
 | str {x j pos es vs} (r:Consts es vs):Consts (.Constant (.str x) j pos :: es) (.str x :: vs)
theorem zO:∀ {es:List Expr} {vs:List V},Consts es vs->PA X es (fun _ H Q=>Q vs H)
 | _,_,.nil=>⟨fun pos pins s σ H Q I h=>zB pos pins s σ H Q I h⟩
 | _,_,.int r=>⟨fun pos pins s σ H Q I h=>zA zE (zO r) (by rfl) pos pins s σ H Q I h⟩
 | _,_,.str r=>⟨fun pos pins s σ H Q I h=>zA zP (zO r) (by rfl) pos pins s σ H Q I h⟩

def rIsi (K:PySem.W.Frag):List V->Hp->VK->Prop:=fun xs H Q =>
 (∃ x n t b,xs=[x,.ty n]/\TyOf K H x t/\PySem.W.kitOne K t (.type n)=some b/\Q (.bl b) H)\/∃ x C t b,xs=[x,.ref C]/\TyOf K H x t/\PySem.W.kitOne K t (.ref C)=some b/\Q (.bl b) H
theorem call_isiK (K:PySem.W.Frag) (hK:X.K=K):CallR X (.builtin "isinstance") (rIsi K):=by
 subst hK
 intro pins s σ H xs us Q I r h
 rcases h with ⟨x,n,t,b,rfl,ty,e,q⟩ | ⟨x,C,t,b,rfl,ty,e,q⟩
 ·obtain ⟨u,w',rfl,ru,rw'⟩ := vals2 r
  cases rw'
  exact isinst_ok I ru ty e fun tk=>⟨.bl b,H,I.tok tk,rfl,q⟩
 ·obtain ⟨u,w',rfl,ru,rw'⟩ := vals2 r
  cases rw'
  exact isinst_ok I ru ty e fun tk=>⟨.bl b,H,I.tok tk,rfl,q⟩
theorem call_isi:CallR X (.builtin "isinstance") (rIsi X.K):=call_isiK X.K rfl

theorem ix_tupK (K:PySem.W.Frag) (hK:X.K=K):IxR X (rIxT K):=hK ▸ jG
theorem op_notIn_seqK (K:PySem.W.Frag) (hK:X.K=K):OpR X (compareOp .NotIn) (rIn K true):=hK ▸ qL
theorem rslice_isPart {v:Value} {o:Option Int} (p:IsPart v o):∃ l:Option (Int × Tok),v=partValue l/\l.map (·.1)=o:=by
 cases p with
 | none=>exact ⟨none,rfl,rfl⟩
 | int i t=>exact ⟨some (i,t),rfl,rfl⟩
def rSlS:V->Option Int->Option Int->Hp->VK->Prop:=fun x lo hi H Q=>∃ z,x = .str z/\z.length<=sizeLine/\Q (.str (Txt.slice z lo hi)) H
theorem sl_str:SlR X rSlS:=by
 intro pins s σ H x v vl vu lo hi sl Q I rx hs pl pu h
 obtain ⟨z,rfl,hz,q⟩ := h
 obtain ⟨t,rfl⟩ := (show ∃ t,v=Value.str z t from rx)
 obtain ⟨l,rfl,rfl⟩ := rslice_isPart pl
 obtain ⟨u,rfl,rfl⟩ := rslice_isPart pu
 refine ⟨"str",_,F.slot_str_getitem.lookup,typeIs_str s z t,wpAny_getItem_str_slice (l:=l) (u:=u) (st:=none) hs rfl ?_⟩
 unfold sliceMade Txt.slice at *
 split
 ·rename_i c
  have c':((1:Int) == 1 && (Builtin.Str.strSliceIndices (l.map (·.1)) (u.map (·.1)) 1 z.length).length == z.length)=true:=c
  rw [if_pos c'] at q
  exact ⟨.str z,H,I,⟨t,rfl⟩,q⟩
 ·rename_i c
  have c':¬ ((1:Int) == 1 && (Builtin.Str.strSliceIndices (l.map (·.1)) (u.map (·.1)) 1 z.length).length == z.length)=true:=c
  have le:=Txt.slice_le z (l.map (·.1)) (u.map (·.1))
  unfold Txt.slice at le
  rw [if_neg c'] at q le
  exact ⟨Nat.le_trans le hz,.str _,H,I.tok _,⟨_,rfl⟩,q⟩

theorem strsAre_of:∀ {ys:List Str} {us:List Value},Vals (ys.map V.str) us->StrsAre us ys
 | [],_,.nil => .nil
 | y :: ys,_,.cons r t=>by
  obtain ⟨k,rfl⟩ := (show ∃ t,_=Value.str y t from r)
  exact .cons y k (strsAre_of t)
def rJoin (K:PySem.W.Frag):V->List V->Hp->VK->Prop:=fun x vs H Q=>∃ z l ys,x = .str z/\vs=[.ref l]/\SqL K H l (ys.map V.str)/\(ys.map (·.length)).sum+ys.length * z.length<=16777216/\Q (.str (Txt.join z ys)) H
theorem wF:MtR X "str.join" (rJoin X.K):=by
 intro pins s σ H x vs v us Q I rx rv h
 obtain ⟨z,l,ys,rfl,rfl,hl,hz,q⟩ := h
 obtain ⟨t,rfl⟩ := (show ∃ t,v=Value.str z t from rx)
 obtain ⟨u,rfl,ru⟩ := rv.one
 cases ru
 obtain ⟨its,r,pl,hsz⟩ := I.list hl
 exact join_list pl.isList (by simpa using strsAre_of r) hz fun t' k=>⟨.str _,H,I.tok k,⟨t',rfl⟩,q⟩

def FirstAt (xs:List V) (y:V) (j:Nat):Prop:=(∃ z,xs[j]? = some z/\eqV z y=true)/\∀ (m:Nat) (z:V),m<j->xs[m]? = some z->eqV z y=false
def rIndex (S:Hp->Addr->List V->Prop):V->List V->Hp->VK->Prop:=fun x vs H Q=>∃ l xs y j,x = .ref l/\vs=[y]/\S H l xs/\flatV y=true/\xs.all flatV=true/\FirstAt xs y j/\Q (.int (j:Nat)) H
theorem first_items {xs:List V} {its:List Value} {y:V} {j:Nat} (r:Vals xs its) (fx:xs.all flatV=true) (f:FirstAt xs y j) :
  ∃ hj:j<its.length,eqU y its[j]=true/\∀ m (hm:m<its.length),m<j->eqU y its[m]=false:=by
 obtain ⟨⟨z,hz,ez⟩,hno⟩ := f
 have fz:∀ {m:Nat} {z:V},xs[m]? = some z->flatV z=true:=fun {m z} h=>List.all_eq_true.mp fx z (List.mem_of_getElem? h)
 obtain ⟨u,hu,ru⟩ := r.get hz
 obtain ⟨hj,eu⟩ := List.getElem?_eq_some_iff.mp hu
 refine ⟨hj,?_,fun m hm hlt => ?_⟩
 ·rw [eu,eqU_of ru (fz hz)]; exact ez
 ·have hm':m<xs.length:=by rw [r.length]; exact hm
  have hx:xs[m]? = some xs[m]:=List.getElem?_eq_getElem hm'
  obtain ⟨u',hu',ru'⟩ := r.get hx
  obtain ⟨_,eu'⟩ := List.getElem?_eq_some_iff.mp hu'
  rw [eu',eqU_of ru' (fz hx)]
  exact hno m _ hlt hx
theorem mt_indexL:MtR X "list.index" (rIndex (SqL X.K)):=by
 intro pins s σ H x vs v us Q I rx rv h
 obtain ⟨l,xs,y,j,rfl,rfl,hl,fy,fx,fa,q⟩ := h
 cases rx
 obtain ⟨u,rfl,ru⟩ := rv.one
 obtain ⟨its,r,pl,hsz⟩ := I.list hl
 obtain ⟨hj,h1,h2⟩ := first_items r fx fa
 obtain ⟨⟨cls,dd,data,sl⟩,n,ho,hc,hd,hdat⟩ := pl
 simp only at hc hd hdat
 subst hc hd hdat
 refine call_meets F.slot_list_index ⟨_,ho,rfl⟩ F.entry_list_index (F.args_list_index_2 _ _)
  (SeqAt.list_indexAt l its.toArray n _ sl u (eqU y) j (by simpa using hj) ?_ (by simpa using h1) (by simpa using h2)) ⟨ho,fun w hw=>qW ru fy r fx w (by simpa using hw),?_⟩
 ·have:=line63
  have z:=r.length
  (first|lia|omega)
 ·exact ⟨.int j,H,I.tok _,⟨_,rfl⟩,q⟩
theorem tuple_indexAt (l:Addr) (items:Array Value) (n:Nat) (dd:Option Addr) (sl:Array (Option Value)) (x:Value) (e:Value->Bool) (j:Nat) (hj:j<items.size)
  (hit:e items[j]=true) (hno:∀ m (hm:m<items.size),m<j->e items[m]=false) :
  Meets (Builtin.«tuple.index» ⟨[.ref l,x],[]⟩)
   (fun A R s=>s.heap.get? l=some { cls:=.type "tuple",dict:=dd,data:=.seq items n,slots:=sl }/\(∀ y,y∈items->SeqAt.EqAt A.in1 s y x (e y))/\R (.ok (.ret (.int j s.toks))) { s with toks:=s.toks+1 }):=by
 intro prog w A R s h
 obtain ⟨hp,g,d,tk,os⟩ := s; obtain ⟨hl,he,h⟩ := h
 unfold Builtin.«tuple.index»
 simp only [Std.Legacy.Range.forIn_eq_forIn_range']
 wp_walk using AutoSeq1.wpAny_loadPart' hl,wpAny_forIn_list _ (fun rest b s'=>b.1=none/\s'=⟨hp,g,d,tk,os⟩/\∃ i,i<=j/\rest=List.range' i (items.size - i)) _
 case turn =>
  rintro i rest b s' ⟨hb,rfl,i',hi',hr⟩
  have hlt:i'<items.size:=by (first|lia|omega)
  obtain ⟨q,hq⟩ : ∃ q,items.size - i'=q+1:=⟨items.size - i' - 1,by (first|lia|omega)⟩
  rw [hq,List.range'_succ] at hr
  injection hr with hi hrest
  subst hi
  rw [Array.getElem?_eq_getElem hlt]
  refine wpAny_bind (he _ (Array.getElem_mem hlt) prog w _ _ ?_)
  by_cases hij:i=j
  ·subst hij
   rw [hit]
   wp_walk
   exact h
  ·rw [hno i hlt (by (first|lia|omega))]
   wp_walk
   exact ⟨rfl,rfl,i+1,by (first|lia|omega),by rw [hrest,show items.size - (i+1)=q by (first|lia|omega)]⟩
 case fin =>
  rintro b s' ⟨_,_,i',hi',hr⟩
  exfalso
  have:=congrArg List.length hr
  rw [List.length_range'] at this
  simp at this
  (first|lia|omega)
 exact ⟨rfl,rfl,0,Nat.zero_le _,by simp [Std.Legacy.Range.size]⟩
theorem mt_indexT:MtR X "tuple.index" (rIndex (SqT X.K)):=by
 intro pins s σ H x vs v us Q I rx rv h
 obtain ⟨l,xs,y,j,rfl,rfl,hl,fy,fx,fa,q⟩ := h
 cases rx
 obtain ⟨u,rfl,ru⟩ := rv.one
 obtain ⟨its,r,pl,hsz⟩ := I.tuple hl
 obtain ⟨hj,h1,h2⟩ := first_items r fx fa
 obtain ⟨⟨cls,dd,data,sl⟩,ho,hc,n,hd⟩ := pl
 simp only at hc hd
 subst hc hd
 refine call_meets F.slot_tuple_index ⟨_,ho,rfl⟩ F.entry_tuple_index (F.args_tuple_index_2 _ _)
  (tuple_indexAt l its.toArray n dd sl u (eqU y) j (by simpa using hj) (by simpa using h1) (by simpa using h2)) ⟨ho,fun w hw=>qW ru fy r fx w (by simpa using hw),?_⟩
 exact ⟨.int j,H,I.tok _,⟨_,rfl⟩,q⟩
end
end L2

namespace L2
open PySem PySem.Spec PyProof.Rows
theorem yN:bootBuiltins "len" = some (.builtin "len"):=PySem.boot_len
theorem xM:bootBuiltins "isinstance" = some (.builtin "isinstance"):=by decide +kernel
theorem bt_int:bootBuiltins "int" = some (.type "int"):=by decide +kernel
theorem bt_bool:bootBuiltins "bool" = some (.type "bool"):=by decide +kernel
theorem bt_str:bootBuiltins "str" = some (.type "str"):=by decide +kernel
theorem bt_list:bootBuiltins "list" = some (.type "list"):=by decide +kernel
theorem bt_tuple:bootBuiltins "tuple" = some (.type "tuple"):=by decide +kernel
theorem bt_ValueError:bootBuiltins "ValueError" = some (.type "ValueError"):=by decide +kernel
theorem bt_sum:bootBuiltins "sum" = some (.builtin "sum"):=by decide +kernel
theorem small {n:Nat} (h:n<=1000):n<=sizeLine:=Nat.le_of_lt (small1000 h)
theorem zF {H:Hp} {p:Addr} (h:H p=none) (o:HO):Same H (upd H p o):=fun b u q=>by rw [zH (zG q h)]; exact q

def Scr (K:PySem.W.Frag) (H:Hp) (a:Addr) (ns:List Int):Prop :=
 (∃ o,H a=some (.frz o (.lst (ns.map V.int)))) \/
  ∃ (o:Obj) (its:Array Value) (n:Nat),K.lookup a=some o/\o.cls = .type "list" /\ o.dict=none/\o.data = .seq its n/\its.size<=sizeLine/\Vals (ns.map V.int) its.toList
theorem Scr.sq {K:PySem.W.Frag} {H:Hp} {a:Addr} {ns:List Int} (h:Scr K H a ns):SqL K H a (ns.map V.int):=by
 rcases h with h | h
 ·exact .inl (.inr h)
 ·exact .inr h
theorem Scr.of {K:PySem.W.Frag} {H:Hp} {a:Addr} {ns:List Int} (hO:Only H) (h:SqL K H a (ns.map V.int)):Scr K H a ns:=by
 rcases h with (h | h) | h
 ·rcases hO a with z | ⟨o,xs,z⟩
  ·rw [h] at z; cases z
  ·rw [h] at z; cases z
 ·exact .inl h
 ·exact .inr h
def Keep (st:Addr) (H H':Hp):Prop:=∀ b o,b≠st->H b=some o->H' b=some o
theorem Keep.refl (st:Addr) (H:Hp):Keep st H H:=fun _ _ _ e=>e
theorem Keep.trans {st:Addr} {H H1 H2:Hp} (a:Keep st H H1) (b:Keep st H1 H2):Keep st H H2:=fun c o n e=>b c o n (a c o n e)
theorem Keep.same {st:Addr} {H H1:Hp} (a:Same H H1):Keep st H H1:=fun c o _ e=>a c o e
theorem Keep.upd {st:Addr} {H:Hp} {o:HO}:Keep st H (upd H st o):=fun c u n e=>by rw [zH n]; exact e
def Draw (K:PySem.W.Frag) (H:Hp) (st:Addr):Prop:=∃ a ns k c,H st=some (.lst [.ref a,.int k,.int c])/\Scr K H a ns/\ns.length<=63/\0<=k/\0<=c
structure Drawn (K:PySem.W.Frag) (st:Addr) (H H':Hp):Prop where
 draw:Draw K H' st
 keep:Keep st H H'
def spLaw (K:PySem.W.Frag):Sp:=fun vs H Q _=>∃ (a:Addr) (ns:List Int),vs=[.ref a]/\Scr K H a ns/\ns.length<=63/\∀ H',Q (.bl true) H'
theorem atI_int {ns:List Int} {k:Int} (h0 : 0<=k) (h:k<(ns.length:Int)):∃ v:Int,atI (ns.map V.int) k=some (.int v):=by
 have hk:k.toNat<ns.length:=by (first|lia|omega)
 have q:atI (ns.map V.int) ((k.toNat:Nat):Int)=some (.int ns[k.toNat]):=qB (by rw [List.getElem?_map,List.getElem?_eq_getElem hk] <;> rfl)
 rw [show ((k.toNat:Nat):Int)=k by (first|lia|omega)] at q
 exact ⟨_,q⟩

def CompW (n:Nat) (fs:St) (Pv:Nat->List V->Hp->Prop) (i m:Nat) (σ:St) (H:Hp):Prop:=i<=n/\m=n - i/\(∃ v,σ=v :: fs)/\∃ ys,Pv i ys H
theorem CompW.next {n:Nat} {fs:St} {Pv:Nat->List V->Hp->Prop} {i:Nat} {v:Option V} {H:Hp} {ys:List V} (hi:i<n) (h:Pv (i+1) ys H):∃ m',m'<n - i/\CompW n fs Pv (i+1) m' (v :: fs) H :=
 ⟨n - (i+1),by (first|lia|omega),by (first|lia|omega),rfl,⟨v,rfl⟩,ys,h⟩
theorem comp_rng {lo:Int} {n:Nat} {fs:St} {tt:TT} {te:TE} {R:Hp->Prop} {p:Addr} {H0:Hp} (Pv:Nat->List V->Hp->Prop) (h0:Pv 0 [] H0)
  (hs:∀ i ys H,i<n->Pv i ys H->tt (some (.int (lo+(i:Nat))) :: fs) H fun b H4 =>
   if b=true then te (some (.int (lo+(i:Nat))) :: fs) H4 fun v H5=>∃ ys,H5 p=some (.lst ys)/\ys.length<sizeLine/\∃ m',m'<n - i/\CompW n fs Pv (i+1) m' (some (.int (lo+(i:Nat))) :: fs) (upd H5 p (.lst (ys++[v])))
   else ∃ m',m'<n - i/\CompW n fs Pv (i+1) m' (some (.int (lo+(i:Nat))) :: fs) H4)
  (hd:∀ ys H,Pv n ys H->R H):CompGo (Itr lo n) p (none :: fs) H0 (gName 0) tt te R:=by
 refine ⟨CompW n fs Pv,⟨n,Nat.zero_le _,rfl,⟨_,rfl⟩,[],h0⟩,fun i m σ' H' w => ?_⟩
 obtain ⟨hi,rfl,⟨v,rfl⟩,ys,hp⟩ := w
 by_cases hlt:i<n
 ·refine .inr ⟨hlt,fun x H2 y => ?_⟩
  obtain ⟨rfl,rfl⟩ := y
  exact hs i ys _ hlt hp
 ·have:i=n:=by (first|lia|omega)
  subst this
  exact .inl ⟨Nat.le_refl _,hd ys H' hp⟩
theorem vC {K:PySem.W.Frag} {t:Value} {n:String} {b:Bool} (h:PySem.W.subIn K t (.type n)=some b) (h1:(t == Value.type n)=false:=by decide) (h2:PySem.W.kitMeta n=true:=by decide +kernel):PySem.W.kitOne K t (.type n)=some b:=by
 unfold PySem.W.kitOne PySem.W.kitCls
 rw [h1]
 simp only [Bool.false_eq_true,if_false,h2,if_true]
 exact h
theorem kit_self {K:PySem.W.Frag} {t:Value} (h:(t == t)=true:=by decide):PySem.W.kitOne K t t=some true:=by
 unfold PySem.W.kitOne
 rw [if_pos h]
theorem sqT_of {K:PySem.W.Frag} {a:Addr} {its:Array Value} {n:Nat} {sl:Array (Option Value)} {dd:Option Addr} {xs:List V} (h:K.lookup a=some ⟨.type "tuple",dd,.seq its n,sl⟩) (hz:its.size<=sizeLine) (r:Vals xs its.toList) (H:Hp):SqT K H a xs :=
 .inr ⟨_,its,n,h,rfl,rfl,hz,r⟩
end L2

namespace L2
open PySem PySem.Spec PySem.W PyProof.Rows
section
variable {prog:Program} {w:World} {A:Around} {K:Frag} {E:Value->Shared->Prop} {h:Heap} {g:Array GenState} {d:PySem.Drawn} {t:Nat} {os:OsState} {R:Result->Shared->Prop}
variable {nm q:Str} {C N f:Addr} {bs bm bmB:List Value} {hdct:Bool} {sn:List Str} {sub:List Value} {ab:Bool} {col:Option Bool} {dd:Option Addr} {k0 k1 k2 k3 k5:Option Value} {B newId initId:String}
abbrev excObj (C tp:Addr):Obj:={ cls:=.ref C,data:=.fields #[.ref tp,.none,.none,.none,.bool false,.none] }
abbrev excHeap (h:Heap) (C:Addr) (rest:List Value):Heap:=(h.push { cls:=.type "tuple",data:=.seq rest.toArray }).push (excObj C h.objs.size)
theorem exc_make (X:K.In h) (hC:h.get? C=some (excClassObj nm q C N bs bm hdct sn sub ab col dd k0 k1 k2 k3 k5 newId)) (F:ExcBaseFacts B newId initId bmB) (T:OwnTail h bmB bm)
  (hi:findIn K (.ref C) "__init__" = some (some (.ref f))) (hf:typeIn K (.ref f)=some (.type "function")) {rest:List Value} (hrest:rest.length<=sizeLine)
  (hq:codeAny (model prog w) (A.under (.builtin "type.__call__" ⟨.ref C :: rest,[]⟩)) (.call (.ref f) ⟨.ref (h.objs.size+1) :: rest,[]⟩) (InitBack (h.objs.size+1) R) ⟨excHeap h C rest,g,d,t,os⟩) :
  codeAny (model prog w) A (.call (.ref C) ⟨rest,[]⟩) R ⟨h,g,d,t,os⟩ := by
 have f1:=tc_lookup
 have f2:=tc_bind (.ref C)
 have hT:(⟨h,g,d,t,os⟩ : Shared).TypeIs (.ref C) "type" := ⟨_,hC,rfl⟩
 refine codeAny_of_tree ?_
 show wpAny _ _ (callAny (.ref C) _) _ _ _
 repeat (any_goals (first | assumption | with_reducible refine wpAny_loadPart_at hC ?_ | wp_step))
 refine ⟨rfl,?_⟩
 refine codeAny_call_builtin_at (Code.quiet_builtin _ (by decide +kernel)) entry_typeCall (wpAny_check_type_call_sub hC ?_)
 repeat (first | with_reducible refine wpAny_loadPart_at hC ?_ | with_reducible refine wpAny_madeBy_exc hC ?_ | wp_step)
 refine codeAny_call_builtin_code (Code.quiet_builtin _ F.quiet) (wpAny_check_new_subT F T hC ?_)
 refine codeAny_exc_new_subT F T hC ?_ hrest
 show wpAny _ _ _ _ _ _
 have k:∀ b o,h.get? b=some o->(excHeap h C rest).get? b=some o:=fun b o e=>Heap.get?_push_of_some _ (Heap.get?_push_of_some _ e)
 have hx:(excHeap h C rest).get? (h.objs.size+1)=some (excObj C h.objs.size):=by heap_get
 have t1:Looks (model prog w) (excHeap h C rest) (typeOf (.ref (h.objs.size+1))) (.ref C):=(Looks.ld hx).andThen .now
 have hcC:(Value.ref C :: bm).contains (.ref C)=true:=by simp
 have i1:=(looks_findIn (M:=model prog w) X hi).keeps k
 have b1:=(bind_fn (M:=model prog w) X (.ref (h.objs.size+1)) hf).keeps k
 have s1:Looks (model prog w) (excHeap h C rest) (isSubtype (.ref C) (.ref C)) true:=by
  intro A' Q' E' s' kk hq'
  obtain ⟨h',g',d',t',os'⟩ := s'
  refine wpAny_isSubtype_exc (kk _ _ (k _ _ hC)) ?_
  rw [hcC]; exact hq'
 have n1:Looks (model prog w) (excHeap h C rest) (isInstance (.ref (h.objs.size+1)) (.ref C)) true:=t1.andThen s1
 refine wpAny_bind (n1.at ?_)
 have c1:Looks (model prog w) (excHeap h C rest) (specialOf (.ref (h.objs.size+1)) "__init__") (some (.ref f)):=t1.andThen i1
 unfold callSpecial?
 repeat (first | with_reducible refine wpAny_call ?_ | lk)
 refine codeAny_mono hq fun r s' z => ?_
 rcases r with e | (v | _ | _ | _) <;> first | exact z | exact z.elim | skip
 obtain ⟨rfl,z⟩ := z
 exact wpAny_pure (wpAny_pure z)

structure ExCls (K:Frag) (C:Addr):Prop where
 cd:∃ cd,clsIn K C=some cd/\cd.hasDict=true/\∀ self,refuseLoop self "__setattr__" cd.mro=pure ()
 obj:mroIn K C (.type "object")=some true
 base:mroIn K C (.type "BaseException")=some true
 sa:findIn K (.ref C) "__setattr__" = some (some (.builtin "object.__setattr__"))
 ga:findIn K (.ref C) "__getattribute__" = some (some (.builtin "BaseException.__getattribute__"))
 noHook:findIn K (.ref C) "__getattr__" = some none

section
variable {s:Shared} {x:Addr} {ox:Obj} {od:Option Obj} {name:Str} {v:Value} {expr:Bool} {Q:Value->Shared->Prop}
theorem exc_getattr (X:K.In s.heap) (I:InstAt s.heap x ox C od) (Ec:ExCls K C) (hf:findObj K C od name=some (.value v)) (hh:handedIn v=true) (hq:Q v { s with toks:=s.toks+1 }) :
  wpAny (model prog w) A (getAttr (.ref x) name expr) Q E s:=by
 obtain ⟨h,g,d,t,os⟩ := s
 have L0:=I.type (M:=model prog w)
 have L1:=looks_findIn (M:=model prog w) X Ec.ga
 have L2':=looks_findIn (M:=model prog w) X Ec.noHook
 have L3:=looks_find (M:=model prog w) X I hf
 have Lb:Looks (model prog w) h (isInstance (.ref x) (.type "BaseException")) true:=L0.andThen (looks_mroIn X Ec.base)
 have f3:=F.excAttr_ValueError.ga.bind (.ref x)
 have hx0:(expr && onTheHeap (Value.builtin "BaseException.__getattribute__"))=false:=by cases expr <;> rfl
 have hk:builtinKind "BaseException.__getattribute__" = some .slot:=by decide +kernel
 have hsplit:splitId "BaseException.__getattribute__" = some ("BaseException", "__getattribute__"):=by decide +kernel
 unfold getAttr getAttrBy
 refine wpAny_bind (wpAny_mkText (wpAny_holding (wpAny_bind (L0.at (wpAny_bind (L1.at ?_))))))
 show wpAny _ _ (getAttrByItsOwn _ _ _ _ _ _) _ _ _
 unfold getAttrByItsOwn
 refine wpAny_bind (L2'.at (wpAny_bind (wpAny_attempt (wpAny_holding ?_))))
 unfold callGetattribute
 rw [hx0]
 unfold boundAndCalled
 show wpAny _ _ (bindSpecial _ _ >>= _) _ _ _
 rw [f3]
 refine wpAny_bind (wpAny_pure (wpAny_call (codeAny_call_builtin F.excAttr_ValueError.ga.plain F.entry_bexc_ga (@check_slot (model prog w) _ _ _ "BaseException.__getattribute__" "BaseException" "__getattribute__" (.ref x) [.str name t] [] _ hk hsplit Lb (F.args_bexc_ga _ _) ?_))))
 refine wpAny_bind (wpAny_pure (wpAny_bind (wpAny_pure (wpAny_bind (L0.at (wpAny_bind (L3.at ?_)))))))
 refine wpAny_pure ?_
 show wpAny _ _ (handedOut v) _ _ _
 rw [handedOut_of hh]; exact wpAny_pure hq
theorem exc_osa {tk:Tok} {R:Result->Shared->Prop} (X:K.In s.heap) (I:InstAt s.heap x ox C od) (Ec:ExCls K C) (ha:findIn K (.ref C) name=some none)
  (hq:wpAny (model prog w) A.in1 (PySem.Builtin.ObjectAttr.storeInOwnDict (.ref x) (.ref C) (.str name tk) name v false)
   (fun fin s'=>match fin with | .done f=>R (.ok f) s' | .again c'=>c'.quiet=true/\codeAny (model prog w) A c' R s') (fun e s'=>R (.error e) s') s) :
  codeAny (model prog w) A (.call (.builtin "object.__setattr__") ⟨[.ref x,.str name tk,v],[]⟩) R s:=by
 have SF:=PySem.F.store_object
 obtain ⟨cd,hc,hd,hp⟩ := Ec.cd
 have sub:Looks (model prog w) s.heap (isInstance (.ref x) (.type "object")) true:=I.type.andThen (looks_mroIn X Ec.obj)
 refine codeAny_call_builtin SF.slot.plain SF.entry (@check_slot (model prog w) _ _ s "object.__setattr__" "object" "__setattr__" (.ref x) [.str name tk,v] [] _ SF.kind SF.split sub (SF.args (.ref x) (.str name tk) v) ?_)
 have hm:Looks (model prog w) s.heap (mroOf (.ref C)) cd.mro:=(looks_clsIn X hc).andThen .now
 rw [osa_eq,refuse_eq]
 refine wpAny_bind (wpAny_bind (I.type.here (wpAny_bind (hm.here ?_))))
 rw [hp]
 exact wpAny_pure (wpAny_bind (I.type.here (wpAny_bind ((looks_findIn X ha).here (wpAny_bind (wpAny_pure hq))))))
theorem exc_set_new {vs:Array Value} {Qu:Unit->Shared->Prop} (X:K.In s.heap) (hx:s.heap.get? x=some ox) (hcl:ox.cls = .ref C) (hdi:ox.dict=none) (hda:ox.data = .fields vs) (Ec:ExCls K C) (ha:findIn K (.ref C) name=some none)
  (hq:∀ h',h'.Ns1 s.heap.objs.size (fun y=>if y=name then some v else none)->h'.get? x=some { ox with dict:=some s.heap.objs.size }->(∀ b o,b≠x->s.heap.get? b=some o->h'.get? b=some o)->Qu () { s with heap:=h',toks:=s.toks+2 }) :
  wpAny (model prog w) A (setAttr (.ref x) name v) Qu E s:=by
 have I:InstAt s.heap x ox C none:=⟨hx,hcl,by unfold notCls; rw [hda],by rw [hdi]; trivial⟩
 obtain ⟨cd,hc,hd,hp⟩ := id Ec.cd
 refine set_plain X I Ec.sa (exc_osa (s:={ s with toks:=s.toks+1 }) X I Ec ha ?_)
 have hxlt:=Heap.lt_size hx
 clear I
 obtain ⟨oc,odi,oda,osl⟩ := ox
 dsimp only at hcl hdi hda
 subst hcl hdi hda
 refine wpAny_bind (wpAny_pure (wpAny_bind (wpAny_bind (wpAny_loadPart hx (wpAny_bind (Looks.here (s:={ s with toks:=s.toks+1 }) (looks_clsIn X hc) ?_))))))
 rw [hd]
 show wpAny _ _ (alloc { cls:=Value.type "dict",data:=Data.dict #[] } >>= _) _ _ _
 refine wpAny_bind (wpAny_alloc (wpAny_bind ?_))
 have hx1:=Heap.get?_push_of_some (h:=s.heap) ({ cls:=Value.type "dict",data:=Data.dict #[] }:Obj) hx
 refine wpAny_update hx1 (wpAny_pure ?_)
 have ne:s.heap.objs.size≠x:=Nat.ne_of_gt hxlt
 have hx2:=Heap.get?_update_self (fun o:Obj=>{ o with dict:=some s.heap.objs.size }) hx1 rfl
 have hd2:((s.heap.push ({ cls:=Value.type "dict",data:=Data.dict #[] }:Obj)).update x fun o=>{ o with dict:=some s.heap.objs.size }).Ns1 s.heap.objs.size (fun _=>none):=by
  refine ⟨_,#[],_,(Heap.get?_update_other _ _ (Ne.symm ne)).trans (Heap.get?_push_size _ rfl),rfl,fun e he=>by simp at he,List.Pairwise.nil,fun n=>rfl⟩
 refine wpAny_bind (wpAny_pure (wpAny_bind ?_))
 refine wpAny_nsSet1 (s:={ s with heap:=(s.heap.push ({ cls:=Value.type "dict",data:=Data.dict #[] }:Obj)).update x fun o=>{ o with dict:=some s.heap.objs.size },toks:=s.toks+1 }) hd2 fun h' hn2 hs2 => ?_
 have w0:PySem.Within (fun _:Str=>(none:Option Value)) []:=fun n hn=>by first | cases hn | exact absurd rfl hn | simp at hn
 obtain ⟨oD,esD,epD,hoD,hdD,hcD⟩ := hn2.count (PySem.Within.cons name v w0)
 refine wpAny_bind (wpAny_lookBehind hoD (by rw [hdD]; exact pastItsLine_dict (Nat.le_trans hcD (show 1<=sizeLine+1 by decide))) ?_)
 refine wpAny_pure (hq _ hn2 ((hs2.2 _ (Ne.symm ne)).trans hx2) fun b o hb e => ?_)
 have hbs:b≠s.heap.objs.size:=Nat.ne_of_lt (Heap.lt_size e)
 exact (hs2.2 _ hbs).trans ((Heap.get?_update_other _ _ (Ne.symm hb)).trans (Heap.get?_push_of_some _ e))
theorem exc_set_more {vs:Array Value} {dx:Addr} {mA:Str->Option Value} {ns:List Str} {Qu:Unit->Shared->Prop} (X:K.In s.heap) (hx:s.heap.get? x=some ox) (hcl:ox.cls = .ref C) (hdi:ox.dict=some dx) (hda:ox.data = .fields vs) (hn:s.heap.Ns1 dx mA)
  (hw:PySem.Within mA ns) (hsz:ns.length<sizeLine) (Ec:ExCls K C) (ha:findIn K (.ref C) name=some none)
  (hq:∀ h',h'.Ns1 dx (fun y=>if y=name then some v else mA y)->Heap.SameBut dx s.heap h'->Qu () { s with heap:=h',toks:=s.toks+2 }) :
  wpAny (model prog w) A (setAttr (.ref x) name v) Qu E s:=by
 obtain ⟨od,hod,_⟩ := wO hn
 have I:InstAt s.heap x ox C (some od):=⟨hx,hcl,by unfold notCls; rw [hda],by rw [hdi]; exact hod⟩
 obtain ⟨cd,hc,hd,hp⟩ := id Ec.cd
 refine set_plain X I Ec.sa (exc_osa (s:={ s with toks:=s.toks+1 }) X I Ec ha ?_)
 clear I
 obtain ⟨oc,odi,oda,osl⟩ := ox
 dsimp only at hcl hdi hda
 subst hcl hdi hda
 refine wpAny_bind (wpAny_pure (wpAny_bind (wpAny_bind (wpAny_loadPart hx (wpAny_bind (Looks.here (s:={ s with toks:=s.toks+1 }) (looks_clsIn X hc) ?_))))))
 rw [hd]
 refine wpAny_pure (a:=some dx) (wpAny_bind (wpAny_pure (wpAny_bind ?_)))
 refine wpAny_nsSet1 (s:={ s with toks:=s.toks+1 }) hn fun h' hn2 hs2 => ?_
 obtain ⟨oD,esD,epD,hoD,hdD,hcD⟩ := hn2.count (PySem.Within.cons name v hw)
 refine wpAny_bind (wpAny_lookBehind hoD (by rw [hdD]; exact pastItsLine_dict (Nat.le_trans hcD (by rw [List.length_cons]; (first|lia|omega)))) ?_)
 exact wpAny_pure (hq _ hn2 hs2)
end
end
end L2

namespace L2
open PySem PySem.Spec PyProof.Rows
def ExO (x C:Addr) (od:Option Addr):HO:=.ext fun h=>∃ o vs,h.get? x=some o/\o.cls = .ref C/\o.dict=od/\o.data = .fields vs/\6<=vs.size
def ExN (x C:Addr) (od:Option Addr):HO:=.ext fun h=>∃ o vs,h.get? x=some o/\o.cls = .ref C/\o.dict=od/\o.data = .fields vs/\6<=vs.size/\vs[1]? = some .none
def XdO (dx:Addr) (fs:List (Str × V)):HO:=.ext fun h=>∃ mA,h.Ns1 dx mA/\(∀ f,RelO (fs.lookup f) (mA f))/\PySem.Within mA (fs.map (·.1))
section
variable {P:Program} {w:World} {H:Hp} {h:Heap} {x C dx:Addr} {od:Option Addr} {fs:List (Str × V)}
theorem ExO.ok {o:Obj} {vs:Array Value} (e:h.get? x=some o) (hc:o.cls = .ref C) (hd:o.dict=od) (hf:o.data = .fields vs) (hz : 6<=vs.size):ObjOk P w H h x (ExO x C od) :=
 ⟨⟨o,vs,e,hc,hd,hf,hz⟩,⟨o,e⟩,fun h1 h2 ⟨o,vs,e,r⟩ k=>⟨o,vs,k o e,r⟩⟩
theorem ExN.ok {o:Obj} {vs:Array Value} (e:h.get? x=some o) (hc:o.cls = .ref C) (hd:o.dict=od) (hf:o.data = .fields vs) (hz : 6<=vs.size) (h1:vs[1]? = some .none):ObjOk P w H h x (ExN x C od) :=
 ⟨⟨o,vs,e,hc,hd,hf,hz,h1⟩,⟨o,e⟩,fun g1 g2 ⟨o,vs,e,r⟩ k=>⟨o,vs,k o e,r⟩⟩
theorem ExN.get (ok:HOk P w H h) (e:H x=some (ExN x C od)):∃ o vs,h.get? x=some o/\o.cls = .ref C/\o.dict=od/\o.data = .fields vs/\6<=vs.size/\vs[1]? = some .none:=(ok x _ e).1
theorem ExO.get (ok:HOk P w H h) (e:H x=some (ExO x C od)):∃ o vs,h.get? x=some o/\o.cls = .ref C/\o.dict=od/\o.data = .fields vs/\6<=vs.size:=(ok x _ e).1
theorem XdO.ok {mA:Str->Option Value} (n:h.Ns1 dx mA) (r:∀ f,RelO (fs.lookup f) (mA f)) (wi:PySem.Within mA (fs.map (·.1))):ObjOk P w H h dx (XdO dx fs):=by
 obtain ⟨o,es,ep,e,q⟩ := id n
 exact ⟨⟨mA,n,r,wi⟩,⟨o,e⟩,fun h1 h2 ⟨mA,n,r⟩ k=>⟨mA,n.at k,r⟩⟩
theorem XdO.get (ok:HOk P w H h) (e:H dx=some (XdO dx fs)):∃ mA,h.Ns1 dx mA/\(∀ f,RelO (fs.lookup f) (mA f))/\PySem.Within mA (fs.map (·.1)):=(ok dx _ e).1
end

def tFldX (K:PySem.W.Frag) (ta:TE) (f:Str):TE:=fun σ H Q=>ta σ H fun y H1=>∃ a C d fs v,y = .ref a/\H1 a=some (ExO a C (some d))/\H1 d=some (XdO d fs)/\ExCls K C/\NoAttr K C f/\fs.lookup f=some v/\Q v H1
def sFldX (K:PySem.W.Frag) (ta tv:TE) (f:Str):TS:=fun D σ H=>tv σ H fun y H1=>ta σ H1 fun u H2=>∃ a C od,u = .ref a/\H2 a=some (ExN a C od)/\ExCls K C/\NoAttr K C f /\
 ((od=none/\∀ d,H2 d=none->D.nx σ (upd (upd H2 d (XdO d [(f,y)])) a (ExN a C (some d))))\/∃ d fs,od=some d/\H2 d=some (XdO d fs)/\fs.length<1000/\D.nx σ (upd H2 d (XdO d (putF f y fs))))
section
variable {X:Cx} {o e value:Expr} {f:Str} {pos pos':Pos} {ta tv:TE}
theorem pe_fldX (he:PE X e ta) (hb:attributeBase e f X.env (eval e X.env)=eval e X.env:=by rfl):PE X (.Attribute e f pos) (tFldX X.K ta f):=by
 refine ⟨?_⟩
 intro pins s σ H Q I h
 refine attr_of hb (thn (he pins s σ H _ I h) fun u s1 hzz => ?_)
 obtain ⟨y,H1,I1,r1,a,C,d,fs,v,hy,ha,hd,ec,na,l,q⟩ := hzz
 subst hy
 cases r1
 obtain ⟨ox,vs,gx,hcl,hdi,hda,_⟩ := ExO.get I1.hok ha
 obtain ⟨mA,n,r,wi⟩ := XdO.get I1.hok hd
 obtain ⟨od,hod,hl⟩ := wO n
 have J:PySem.W.InstAt s1.heap a ox C (some od):=⟨gx,hcl,by unfold PySem.W.notCls; rw [hda],by rw [hdi]; exact hod⟩
 obtain ⟨u,eu,ru⟩ := RelO.some_of (by have:=r f; rw [l] at this; exact this)
 obtain ⟨cd,hc,hdd,_⟩ := ec.cd
 refine exc_getattr I1.kIn J ec (v:=u) ?_ (handed_of ru) ⟨v,H1,I1.tok _,ru,q⟩
 unfold PySem.W.findObj
 rw [hc,Option.bind_some,na,Option.bind_some]
 simp only [Option.bind_some,PySem.W.ownOf,hdd,if_true,hl,eu]
theorem Inv.excDict {pins:List (Addr × Obj)} {σ:St} {H:Hp} {s:Shared} {h':Heap} {a C:Addr} {oa ob:HO} {t':Nat} (I:Inv X pins σ H s) (ha:H a=some (ExN a C none))
  (keep:∀ b o,b≠a->s.heap.get? b=some o->h'.get? b=some o) (hat:∃ o,h'.get? a=some o) (hoa:ObjOk X.prog X.w (upd (upd H s.heap.objs.size ob) a oa) h' a oa) (hob:ObjOk X.prog X.w (upd (upd H s.heap.objs.size ob) a oa) h' s.heap.objs.size ob) :
  Inv X pins σ (upd (upd H s.heap.objs.size ob) a oa) { s with heap:=h',toks:=t' }:=by
 have hd:H s.heap.objs.size=none:=I.fresh
 have nda:a≠s.heap.objs.size:=zG ha hd
 have off:∀ b u,H b=some u->u≠ExN a C none->b≠a/\b≠s.heap.objs.size:=fun b u e ne=>⟨fun z=>by rw [z,ha] at e; exact ne (Option.some.inj e).symm,zG e hd⟩
 have up:∀ b,b≠a->b≠s.heap.objs.size->upd (upd H s.heap.objs.size ob) a oa b=H b:=fun b h1 h2=>by rw [zH h1,zH h2]
 refine I.un ⟨fun b o e n _ _=>keep b o (fun z=>by rw [z,ha] at n; cases n) e,fun b o e n _ _=>⟨o.slots,keep b o (fun z=>by rw [z,ha] at n; cases n) e⟩,fun b o e n _ => ?_,fun b o e _ => ?_,fun b xs e => ?_,fun b o xs e => ?_,fun b ps e => ?_⟩ fun b u e => ?_
 ·rw [up b (fun z=>by rw [z,ha] at n; cases n) (Nat.ne_of_lt (Heap.lt_size e))]; exact n
 ·by_cases z:b=a
  ·subst z; exact hat
  ·exact ⟨o,keep b o z e⟩
 ·obtain ⟨h1,h2⟩ := off b _ e (by intro z; cases z)
  rw [up b h1 h2]; exact e
 ·obtain ⟨h1,h2⟩ := off b _ e (by intro z; cases z)
  rw [up b h1 h2]; exact e
 ·obtain ⟨h1,h2⟩ := off b _ e (by intro z; cases z)
  exact ⟨#[],by rw [up b h1 h2,e]; simp⟩
 ·by_cases z:b=a
  ·subst z; rw [zC] at e; cases e; exact hoa
  ·rw [zH z] at e
   by_cases z2:b=s.heap.objs.size
   ·subst z2; rw [zC] at e; cases e; exact hob
   ·rw [zH z2] at e
    refine (I.hok b u e).stay (fun c v hc q=>keep c v ?_ q) (fun c q => ?_) fun c xs q => ?_
    ·rcases hc with hc | hc
     ·rw [hc]; exact z
     ·exact (off c _ hc (by intro z; cases z)).1
    ·obtain ⟨h1,h2⟩ := off c _ q (by intro z; cases z)
     rw [up c h1 h2]; exact q
    ·obtain ⟨h1,h2⟩ := off c _ q (by intro z; cases z)
     rw [up c h1 h2]; exact q
theorem ps_fldX (ha:PE X o ta) (hv:PE X value tv) (hs:swapsWith value (some (.Attribute o f pos')) pos.line X.env=pure false:=by rfl):PS X (.Assign [.Attribute o f pos'] value pos) (sFldX X.K ta tv f):=by
 refine ⟨?_⟩
 intro pins s σ H D I h
 refine plainObj_wpAny_Assign_Attribute (thn (hv pins s σ H _ I h) fun u s1 ⟨y,H1,I1,ry,q⟩=>thn (ha pins s1 σ H1 _ I1 q) fun ov s2 ⟨x,H2,I2,rx,a,C,od,ex,ea,ec,na,q2⟩ => ?_) hs
 subst ex
 obtain rfl:ov=Value.ref a:=rx
 obtain ⟨ox,vs,gx,hcl,hdi,hda,hz,h1⟩ := ExN.get I2.hok ea
 rcases q2 with ⟨rfl,q2⟩ | ⟨d,fs,rfl,hd,hl,q2⟩
 ·refine exc_set_new I2.kIn gx hcl hdi hda ec na fun h' hn hx' keep => ?_
  refine ⟨σ,_,I2.excDict ea keep ⟨_,hx'⟩ (ExN.ok hx' hcl rfl hda hz h1) (XdO.ok hn (fun g => ?_) fun g hg => ?_),q2 _ I2.fresh⟩
  ·show RelO ([(f,y)].lookup g) (if g=f then some u else none)
   by_cases z:g=f
   ·subst z; rw [List.lookup_cons_self,if_pos rfl]; exact ry
   ·rw [List.lookup_cons,beq_eq_false_iff_ne.mpr z,if_neg z]; exact True.intro
  ·by_cases z:g=f
   ·subst z; simp
   ·exact absurd (show (if g=f then some u else none)=none by rw [if_neg z]) hg
 ·obtain ⟨mA,n,r,wi⟩ := XdO.get I2.hok hd
  refine exc_set_more I2.kIn gx hcl hdi hda n wi (by rw [List.length_map,sizeLine_eq]; (first|lia|omega)) ec na fun h' hn sb => ?_
  refine ⟨σ,_,I2.write (x:=d) (e:=d) (by rw [hd]; exact True.intro) (.inl rfl) (fun b q hb z=>(sb.2 b hb).trans z) (let ⟨o,_,_,e',_⟩ := hn; ⟨o,e'⟩) (XdO.ok hn (fun g => ?_) fun g hg => ?_),q2⟩
  ·show RelO ((putF f y fs).lookup g) (if g=f then some u else mA g)
   rw [lookup_putF]
   by_cases q:g=f
   ·rw [if_pos q,if_pos q]; exact ry
   ·rw [if_neg q,if_neg q]; exact r g
  ·by_cases q:g=f
   ·rw [q]; exact (wP f y fs).1
   ·refine (wP f y fs).2 g (wi g fun z=>hg ?_)
    show (if g=f then some u else mA g)=none
    rw [if_neg q]; exact z
end

def Ours (X:Cx) (pins:List (Addr × Obj)) (H:Hp) (T:Addr):Prop:=H T=none/\X.s₀.heap.objs.size<=T/\T≠X.env.locals/\∀ p∈X.pn++pins,p.1≠T
def Tb (X:Cx) (pins:List (Addr × Obj)) (H:Hp) (x:Addr) (h:Heap):Prop :=
 ∃ oe vs,h.get? x=some oe/\oe.data = .fields vs/\(vs[1]? = some .none\/∃ T oT ts fl,vs[1]? = some (.ref T)/\T≠x/\Ours X pins H T/\h.get? T=some oT/\oT.data = .fields ts/\ts[3]? = some fl/\(fl = .none\/fl=rawInt X.env.locals))
def TbAt (X:Cx) (pins:List (Addr × Obj)) (H:Hp) (x:Addr) (fl:Value) (h:Heap):Prop :=
 ∃ oe vs T oT ts,h.get? x=some oe/\oe.data = .fields vs/\vs[1]? = some (.ref T)/\T≠x/\Ours X pins H T/\h.get? T=some oT/\oT.data = .fields ts/\ts[3]? = some fl
theorem TbAt.tb {X:Cx} {pins:List (Addr × Obj)} {H:Hp} {x:Addr} {fl:Value} {h:Heap} (t:TbAt X pins H x fl h) (hf:fl = .none\/fl=rawInt X.env.locals):Tb X pins H x h:=by
 obtain ⟨oe,vs,T,oT,ts,e,d,h1,r1,r2,r3,r4,r5⟩ := t
 exact ⟨oe,vs,e,d,.inr ⟨T,oT,ts,fl,h1,r1,r2,r3,r4,r5,hf⟩⟩
section
variable {X:Cx} {pins:List (Addr × Obj)} {σ:St} {H:Hp} {s:Shared} {h':Heap} {x C:Addr} {od:Option Addr}
theorem Inv.flight (I:Inv X pins σ H s) (hx:H x=some (ExO x C od)) {ch:List Addr} (hch:∀ b∈ch,Ours X pins H b) (ncell:∀ b∈ch,∀ y c,X.env.cells.lookup y=some c->c≠b)
  (keep:∀ b o,b≠x->b ∉ ch->b ∉ frs X.stack->s.heap.get? b=some o->h'.get? b=some o) (slot:∀ b o,b≠x->b ∉ ch->s.heap.get? b=some o->∃ sl,h'.get? b=some { o with slots:=sl })
  (hx':∃ o vs,h'.get? x=some o/\o.cls = .ref C/\o.dict=od/\o.data = .fields vs/\6<=vs.size):Inv X pins σ H { s with heap:=h' }:=by
 have nx:∀ b,H b=none->b≠x:=fun b n z=>by rw [z,hx] at n; cases n
 have nst:∀ b,b≠X.env.locals->b ∉ X.fs->b ∉ frs X.stack:=fun b h1 h2 z=>(List.mem_cons.mp (I.stkSub b z)).elim h1 h2
 have nch:∀ b u,H b=some u->b ∉ ch:=fun b u e z=>by rw [(hch b z).1] at e; cases e
 have nfr:∀ b u,H b=some u->b ∉ frs X.stack:=fun b u e z=>by rw [I.stkFree b z] at e; cases e
 refine I.step (g':=s.gens) (d':=s.drawn) (t':=s.toks) (ch:=ch) (fun b hb=>⟨.inr (hch b hb).2.1,(hch b hb).2.2.1,ncell b hb,(hch b hb).2.2.2⟩)
  (fun b o hL hf hc e n=>keep b o (nx b n) hc (nst b hL hf) e) (fun b o hL hf hc e n=>slot b o (nx b n) hc e) (fun b o hc e n=>n) (fun b o hc e => ?_) (fun _ _ e=>e) (fun _ _ _ e=>e) (fun b ps e=>⟨#[],by rw [e]; simp⟩) (fun m hm => ?_) (fun b u e => ?_) I.bare
 ·by_cases z:b=x
  ·subst z; obtain ⟨o,_,g,_⟩ := hx'; exact ⟨o,g⟩
  ·obtain ⟨sl,q⟩ := slot b o z hc e; exact ⟨_,q⟩
 ·obtain ⟨o,es,ep,ho,hd,r⟩ := hm
  obtain ⟨sl,q⟩ := slot _ o (nx _ I.free) (fun z=>(hch _ z).2.2.1 rfl) ho
  exact ⟨_,es,ep,q,hd,r⟩
 ·by_cases z:b=x
  ·subst z; rw [hx] at e; cases e
   obtain ⟨o,vs,g,r1,r2,r3,r4⟩ := hx'
   exact ExO.ok g r1 r2 r3 r4
  ·refine (I.hok b u e).stay (fun c v hc q => ?_) (fun _ q=>q) fun _ _ q=>q
   rcases hc with hc | hc
   ·rw [hc] at q ⊢; exact keep b v z (nch b u e) (nfr b u e) q
   ·exact keep c v (fun z2=>by rw [z2,hx] at hc; cases hc) (nch c _ hc) (nfr c _ hc) q

theorem Ours.ncell {T:Addr} {oT:Obj} {ts:Array Value} (I:Inv X pins σ H s) (g:s.heap.get? T=some oT) (d:oT.data = .fields ts):∀ b∈[T],∀ y c,X.env.cells.lookup y=some c->c≠b:=fun b hb y c e z=>by
 rw [List.mem_singleton.mp hb] at z
 obtain ⟨v,o,ho,hd⟩ := I.cell y c e
 rw [z,g] at ho; cases ho; rw [d] at hd; cases hd
theorem fly_entry {M:Model} {A:Around} {E:Value->Shared->Prop} {Q:Unit->Shared->Prop} {head:Value} {hadNext:Bool} (I:Inv X pins σ H s) (hst:X.stack=X.env :: X.outer) (hfr:X.env.frame=some X.env.locals) (hA:A.frames=some X.stack)
  (hx:H x=some (ExO x C od)) (hq:∀ s',Inv X pins σ H s'->TbAt X pins H x (rawInt X.env.locals) s'.heap->Q () s') :
  wpAny M A (do let a <- frameOf X.env; let pl <- entryPlaceOf X.env.locals hadNext; let b <- EntryCells.newEntry head a .none (rawInt X.env.locals) .none pl; setField (.ref x) 1 b) Q E s:=by
 have hl:s.heap.FunFrames X.base (X.env :: X.outer):=hst ▸ I.stack
 refine wpAny_bind (wpAny_frameOf_fun (hst ▸ hA) hl hfr fun h1 hs1 => ?_)
 refine wpAny_bind (wpAny_entryPlaceOf fun pl hpl => ?_)
 unfold EntryCells.newEntry newFields
 refine wpAny_bind (wpAny_newObj_type ?_ (hpl.sizeOk5 _ _ _ _ _))
 obtain ⟨ox,vs,gx,hcl,hdi,hda,hz⟩ := ExO.get I.hok hx
 have hxf:x ∉ (X.env :: X.outer).filterMap (·.frame):=fun hm=>by
  obtain ⟨_,o,ho,hnf⟩ := hl.mem hm
  rw [gx] at ho; cases ho; exact hnf vs hda
 have gx1:h1.get? x=some ox:=(hs1.2.1 x hxf).trans gx
 generalize hob:({ cls:=.type "traceback",dict:=none,data:=.fields ([head,.ref X.env.locals,.none,rawInt X.env.locals,.none]++(if pl.isEmpty then List.replicate 6 Value.none else pl)).toArray }:Obj)=ob
 have gx2:=Heap.get?_push_of_some (h:=h1) ob gx1
 have hz1 : 1<vs.size:=by (first|lia|omega)
 refine wpAny_setField gx2 hda hz1 ?_
 have sz:h1.objs.size=s.heap.objs.size:=hs1.1
 have hd3:=Obj.data_mapFields hda (·.setIfInBounds 1 (Value.ref h1.objs.size))
 have gx3:=Heap.get?_update_self (Obj.mapFields (·.setIfInBounds 1 (Value.ref h1.objs.size))) gx2 (Obj.isFreed_of_fields hd3)
 have hTx:h1.objs.size≠x:=Nat.ne_of_gt (Heap.lt_size gx1)
 have gT:(h1.push ob).get? h1.objs.size=some ob:=Heap.get?_push_size _ (by rw [<- hob]; rfl)
 have hT:H h1.objs.size=none:=by rw [sz]; exact I.fresh
 have keep:∀ b o,b≠x->h1.get? b=some o->((h1.push ob).update x (Obj.mapFields (·.setIfInBounds 1 (Value.ref h1.objs.size)))).get? b=some o:=fun b o hb e=>by
  rw [Heap.get?_update_other _ _ (Ne.symm hb)]; exact Heap.get?_push_of_some _ e
 have I':Inv X pins σ H { s with heap:=(h1.push ob).update x (Obj.mapFields (·.setIfInBounds 1 (Value.ref h1.objs.size))) }:=by
  refine I.flight hx (ch:=[]) (fun b hb=>(nomatch hb)) (fun b hb=>(nomatch hb)) (fun b o hb _ hf e=>keep b o hb ((hs1.2.1 b (by rw [<- hst]; exact hf)).trans e)) (fun b o hb _ e => ?_) ⟨_,_,gx3,(Obj.cls_mapFields _ _).trans hcl,?_,hd3,by simp; exact hz⟩
  ·obtain ⟨sl,q⟩ := hs1.2.2 b o e
   exact ⟨sl,keep b _ hb q⟩
  ·obtain ⟨oc,odi,oda,osl⟩ := ox
   simp only at hda
   subst hda
   exact hdi
 refine hq _ I' ⟨_,_,h1.objs.size,ob,_,gx3,hd3,by simp [hz1],hTx,⟨hT,?_,?_,fun p hp z => ?_⟩,?_,by rw [<- hob],?_⟩
 ·rw [sz]; exact I.sz
 ·rw [sz]; exact Nat.ne_of_gt I.lt
 ·have:=Heap.lt_size (I.pin p hp).1
  rw [z,sz] at this; exact Nat.lt_irrefl _ this
 ·rw [Heap.get?_update_other _ _ (Ne.symm hTx)]; exact gT
 ·first | (simp; done) | (rcases hpl with rfl | ⟨_,_,_,_,_,_,_,rfl⟩ <;> simp)
theorem fly_note {M:Model} {A:Around} {E:Value->Shared->Prop} {Q:Unit->Shared->Prop} (I:Inv X pins σ H s) (hst:X.stack=X.env :: X.outer) (hfr:X.env.frame=some X.env.locals) (hA:A.frames=some X.stack)
  (hx:H x=some (ExO x C od)) (tb:Tb X pins H x s.heap) (hq:∀ s',Inv X pins σ H s'->TbAt X pins H x (rawInt X.env.locals) s'.heap->Q () s'):wpAny M A (noteFrame (.ref x) X.env) Q E s:=by
 obtain ⟨oe,vs,ge,hd,h1⟩ := tb
 unfold noteFrame
 simp only [hfr]
 rcases h1 with h1 | ⟨T,oT,ts,fl,h1,hTx,ours,gT,dT,h3,hfl⟩
 ·refine wpAny_bind (wpAny_field ge hd h1 ?_)
  rw [if_neg (by decide)]
  exact fly_entry I hst hfr hA hx hq
 ·refine wpAny_bind (wpAny_field ge hd h1 ?_)
  rw [if_pos (show (Value.ref T != Value.none)=true from by simp)]
  refine wpAny_bind (wpAny_field gT dT h3 ?_)
  rcases hfl with rfl | rfl
  ·rw [if_neg (show ¬ ((Value.none == rawInt X.env.locals)=true) from by simp [rawInt])]
   refine wpAny_bind (wpAny_setField gT dT (Array.getElem?_eq_some_iff.mp h3).1 ?_)
   have other:∀ b,b≠T->(s.heap.update T (Obj.mapFields (·.setIfInBounds 3 Value.none))).get? b=s.heap.get? b:=fun b hb=>Heap.get?_update_other _ _ (Ne.symm hb)
   obtain ⟨ox,ws,gx,r⟩ := ExO.get I.hok hx
   have I':Inv X pins σ H { s with heap:=s.heap.update T (Obj.mapFields (·.setIfInBounds 3 Value.none)) }:=by
    refine I.flight hx (ch:=[T]) (fun b hb=>by rw [List.mem_singleton.mp hb]; exact ours) (Ours.ncell I gT dT) (fun b o hb hc _ e=>(other b fun z=>hc (by simp [z])).trans e) (fun b o hb hc e=>⟨o.slots,(other b fun z=>hc (by simp [z])).trans e⟩) ⟨ox,ws,(other x (Ne.symm hTx)).trans gx,r⟩
   exact fly_entry I' hst hfr hA hx hq
  ·rw [if_pos (show (rawInt X.env.locals == rawInt X.env.locals)=true from by simp)]
   exact wpAny_pure (hq s I ⟨oe,vs,T,oT,ts,ge,hd,h1,hTx,ours,gT,dT,h3⟩)
theorem fly_set {M:Model} {A:Around} {E:Value->Shared->Prop} {Q:Unit->Shared->Prop} {fl:Value} {to:Option Addr} (I:Inv X pins σ H s) (hx:H x=some (ExO x C od)) (tb:TbAt X pins H x fl s.heap)
  (hq:∀ s',Inv X pins σ H s'->TbAt X pins H x (to.elim Value.none fun f=>rawInt f) s'.heap->Q () s'):wpAny M A (setFlight (.ref x) to) Q E s:=by
 obtain ⟨oe,vs,T,oT,ts,ge,hd,h1,hTx,ours,gT,dT,h3⟩ := tb
 unfold setFlight
 refine wpAny_bind (wpAny_field ge hd h1 ?_)
 rw [if_pos (show (Value.ref T != Value.none)=true from by simp)]
 have hsz3:=(Array.getElem?_eq_some_iff.mp h3).1
 refine wpAny_setField gT dT hsz3 (hq _ ?_ ?_)
 ·obtain ⟨ox,ws,gx,r⟩ := ExO.get I.hok hx
  exact I.flight hx (ch:=[T]) (fun b hb=>by rw [List.mem_singleton.mp hb]; exact ours) (Ours.ncell I gT dT) (fun b o hb hc _ e=>(Heap.get?_update_other _ _ (fun z=>hc (by simp [z]))).trans e) (fun b o hb hc e=>⟨o.slots,(Heap.get?_update_other _ _ (fun z=>hc (by simp [z]))).trans e⟩) ⟨ox,ws,(Heap.get?_update_other _ _ hTx).trans gx,r⟩
 ·exact ⟨oe,vs,T,_,_,(Heap.get?_update_other _ _ hTx).trans ge,hd,h1,hTx,ours,Heap.get?_update_self _ gT (Obj.isFreed_of_fields (Obj.data_mapFields dT _)),Obj.data_mapFields dT _,by simp [hsz3]⟩
end

def CXE (P:Program) (w:World):CXT:=fun outer H s E e s'=>∃ x C d H',e = .ref x/\s'.os=s.os/\AllBare s'.gens/\Un (frs outer) [] H H' s.heap s'.heap/\HOk P w H' s'.heap/\H' x=some (ExO x C d) /\
 (∃ oe vs T oT ts,s'.heap.get? x=some oe/\oe.data = .fields vs/\vs[1]? = some (.ref T)/\T≠x/\H' T=none/\s.heap.objs.size<=T/\s'.heap.get? T=some oT/\oT.data = .fields ts/\ts[3]? = some .none)/\E (.ref C) d H'
theorem cxe_none {P:Program} {w:World} {outer:List Env} {H:Hp} {s:Shared} {e:Value} {s':Shared} (h:CXE P w outer H s (fun _ _ _=>False) e s'):False:=by
 obtain ⟨_,_,_,_,_,_,_,_,_,_,_,z⟩ := h
 exact z
def FlyW (X:Cx) (E:XK):Value->Shared->Prop:=fun e s1=>∃ x C d pins σ H,e = .ref x/\Inv X pins σ H s1/\H x=some (ExO x C d)/\Tb X pins H x s1.heap/\E (.ref C) d H
abbrev Cx.exc (X:Cx) (E:XK):Cx:=X.wish (FlyW X E)
section
variable {X:Cx} {E:XK}
theorem passN {P:Program} {w:World}:Passes (CXE P w) X E0:=fun _ _ _ _ _ _ _ h=>(cxe_none h).elim
theorem cxe_fly {pins:List (Addr × Obj)} {σ:St} {H:Hp} {s s':Shared} {e:Value} (I:Inv X pins σ H s) (h:CXE X.prog X.w X.stack H s E e s'):FlyW X E e s':=by
 obtain ⟨x,C,d,H',rfl,ho,hg,u,hok,hx,⟨oe,vs,T,oT,ts,ge,hd,h1,hTx,hT,lo,gT,dT,h3⟩,q⟩ := h
 have I':Inv X pins σ H' s':=I.call' (ch:=[]) ho u hok hg fun b z=>(nomatch z)
 refine ⟨x,C,d,pins,σ,H',rfl,I',hx,⟨oe,vs,ge,hd,.inr ⟨T,oT,ts,.none,h1,hTx,⟨hT,Nat.le_trans I.sz lo,Nat.ne_of_gt (Nat.lt_of_lt_of_le I.lt lo),fun p hp z => ?_⟩,gT,dT,h3,.inl rfl⟩⟩,q⟩
 have:=Heap.lt_size (I.pin p hp).1
 rw [z] at this
 exact absurd (Nat.lt_of_lt_of_le this lo) (Nat.lt_irrefl _)
theorem passX:Passes (CXE X.prog X.w) (X.exc E) E:=fun pins σ H s e s' I h=>cxe_fly I.unwish h
theorem fly_leave {e:Value} {s1:Shared} {E':Value->Shared->Prop} (hst:X.stack=X.env :: X.outer) (hfr:X.env.frame=some X.env.locals) (hex:X.ex=[]) (h:FlyW X E e s1) :
  wpAny (model X.prog X.w) X.A (leaving X.env e) (fun _ s''=>CXE X.prog X.w X.outer X.H₀ X.s₀ E e s'') E' s1:=by
 obtain ⟨x,C,d,pins,σ,H,rfl,I,hx,tb,q⟩ := h
 unfold leaving
 refine wpAny_bind (fly_note I hst hfr I.ok.frames hx tb fun s2 I2 t2=>fly_set (to:=none) I2 hx t2 fun s3 I3 t3 => ?_)
 obtain ⟨oe,vs,T,oT,ts,ge,hd,h1,hTx,ours,gT,dT,h3⟩ := t3
 have b:=I3.base
 rw [hex] at b
 exact ⟨x,C,d,H,rfl,I3.os,I3.bare,b,I3.hok,hx,⟨oe,vs,T,oT,ts,ge,hd,h1,hTx,ours.1,ours.2.1,gT,dT,h3⟩,q⟩
theorem own_fly (hst:X.stack=X.env :: X.outer) (hfr:X.env.frame=some X.env.locals):PassesOwn (model X.prog X.w) X.A X.env (FlyW X E):=fun e s1 h=>by
 obtain ⟨x,C,d,pins,σ,H,rfl,I,hx,tb,q⟩ := h
 refine fly_note I hst hfr I.ok.frames hx tb fun s2 I2 t2 => ?_
 have t2':=t2
 obtain ⟨oe,vs,T,oT,ts,ge,hd,h1,hTx,ours,gT,dT,h3⟩ := t2
 unfold cameBackBy
 refine wpAny_bind (wpAny_field ge hd h1 ?_)
 rw [if_neg (show ¬ ((Value.ref T == Value.none)=true) from by simp)]
 rw [hfr]
 exact fly_set (to:=some X.env.locals) I2 hx t2' fun s3 I3 t3=>⟨x,C,d,pins,σ,H,rfl,I3,hx,t3.tb (.inr rfl),q⟩
end
section
variable {P:Program} {w:World} {K:PySem.W.Frag} {mg:Str->Option Value} {base:Heap}
theorem Fun.okN {CX:CXT} {x qual:Str} {st:Stmt} {f:Addr} {fd:FuncData} {N ps:List Str} {k:Nat} {sp:Sp} (F:Fun K x qual st f fd) (S:FnScope N ps (defScope st)) (len:∀ vs H Q E,sp vs H Q E->vs.length=ps.length)
  (hbody:∀ (cdv:Value) (A:Around) (outer:List Env) (s:Shared) (H:Hp) (vs:List V) (Q:VK) (E:XK),Room k (A.deeper (envOfC qual (defScope st) s.heap.objs.size f cdv))->sp vs H Q E ->
   ∃ t,PSs (cxOf CX P w K mg base N qual (defScope st) f cdv A outer s H E).nox (defBody st) t/\t { nx:=fun _ H'=>Q .non H',rt:=Q } (start N vs) H):FnOk P w K mg base CX (k+1) f fd ps sp:=by
 obtain ⟨oc,od,kV,doc,pm,an,cdv,ct,osl,rfl,lk,hcd⟩ := F.ex
 refine fn_of lk hcd S len fun A outer s H vs Q E hr hsp => ?_
 obtain ⟨t,h,q⟩ := hbody cdv A outer s H vs Q E hr hsp
 exact ⟨t,h.nox,q⟩
theorem Fun.okX {x qual:Str} {st:Stmt} {f:Addr} {fd:FuncData} {N ps:List Str} {k:Nat} {sp:Sp} (F:Fun K x qual st f fd) (S:FnScope N ps (defScope st)) (len:∀ vs H Q E,sp vs H Q E->vs.length=ps.length)
  (hbody:∀ (cdv:Value) (A:Around) (outer:List Env) (s:Shared) (H:Hp) (vs:List V) (Q:VK) (E:XK),Room k (A.deeper (envOfC qual (defScope st) s.heap.objs.size f cdv))->sp vs H Q E ->
   ∃ t,PSs ((cxOf (CXE P w) P w K mg base N qual (defScope st) f cdv A outer s H E).exc E) (defBody st) t/\t { nx:=fun _ H'=>Q .non H',rt:=Q } (start N vs) H):FnOk P w K mg base (CXE P w) (k+1) f fd ps sp:=by
 obtain ⟨oc,od,kV,doc,pm,an,cdv,ct,osl,rfl,lk,hcd⟩ := F.ex
 refine fn_of lk hcd S len fun A outer s H vs Q E hr hsp => ?_
 obtain ⟨t,h,q⟩ := hbody cdv A outer s H vs Q E hr hsp
 refine ⟨t,⟨fun pins s1 σ H1 D I hw => ?_⟩,q⟩
 refine wpAny_mono (h pins s1 σ H1 D (I.wish _) hw) (fun fl s2 hs=>hs.unwish) fun e s2 fl => ?_
 exact fly_leave rfl rfl rfl fl
end
end L2

namespace L2
open PySem PySem.Spec PyProof.Rows
abbrev bmValue:List Value:=[.type "ValueError",.type "Exception",.type "BaseException",.type "object"]
structure ExMk (K:PySem.W.Frag) (C f:Addr):Prop where
 cls:∃ (B nw ini:String) (bmB:List Value),ExcBaseFacts B nw ini bmB/\bmB.contains (.type "BaseException")=true/\∃ nm q N bs bm hdct sn sub ab col dd k0 k1 k2 k3 k5,K.lookup C=some (excClassObj nm q C N bs bm hdct sn sub ab col dd k0 k1 k2 k3 k5 nw)/\∀ h,K.In h->OwnTail h bmB bm
 init:PySem.W.findIn K (.ref C) "__init__" = some (some (.ref f))
 fn:PySem.W.typeIn K (.ref f)=some (.type "function")
 kp:PySem.W.keepIn K (.ref C)=true
 ec:ExCls K C
theorem ExMk.ofValue {K:PySem.W.Frag} {C f:Addr} (h:∃ nm q N bs bm hdct sn sub ab col dd k0 k1 k2 k3 k5,K.lookup C=some (excClassObj nm q C N bs bm hdct sn sub ab col dd k0 k1 k2 k3 k5 "ValueError.__new__")/\∀ h,K.In h->OwnTail h bmValue bm)
  (i:PySem.W.findIn K (.ref C) "__init__" = some (some (.ref f))) (fn:PySem.W.typeIn K (.ref f)=some (.type "function")) (kp:PySem.W.keepIn K (.ref C)=true) (ec:ExCls K C):ExMk K C f :=
 ⟨⟨_,_,_,bmValue,F.excBase_ValueError,by decide,h⟩,i,fn,kp,ec⟩
section
variable {X:Cx} {pins:List (Addr × Obj)} {σ:St} {H:Hp} {s:Shared}
theorem Inv.excMade (I:Inv X pins σ H s) (C:Addr) (us:List Value):Inv X pins σ (upd H (s.heap.objs.size+1) (ExN (s.heap.objs.size+1) C none)) { s with heap:=excHeap s.heap C us }:=by
 have gx:(excHeap s.heap C us).get? (s.heap.objs.size+1)=some (excObj C s.heap.objs.size):=by heap_get
 refine I.laid (t':=s.toks) (fun b o e=>Heap.get?_push_of_some _ (Heap.get?_push_of_some _ e)) (Nat.le_succ _) (ExN.ok gx rfl rfl rfl (show 6<=6 by decide) rfl)
theorem run_exc {CX:CXT} {k:Nat} {f C:Addr} {fd:FuncData} {ps:List Str} {sp:Sp} {E:XK} {Q:Addr->Hp->Prop} {us:List Value} {vs:List V} (M:ExMk X.K C f) (G:FnOk X.prog X.w X.K X.mg X.base CX k f fd ps sp) (hr:Room (k+1) X.A) (hb:Binds X.K fd ps [])
  (hx:Passes CX X E) (I:Inv X pins σ H s) (r:Vals vs us) (hz:us.length<=sizeLine)
  (h:∀ x,H x=none->sp (.ref x :: vs) (upd H x (ExN x C none)) (fun v H2=>v = .non/\Q x H2) E) :
  wpAny (model X.prog X.w) X.A (call (.ref C) us) (fun u s'=>∃ x H',u = .ref x/\Inv X pins σ H' s'/\Q x H') X.xe s:=by
 have hq:=h (s.heap.objs.size+1) (I.hok.fresh (Nat.le_succ _))
 have I2:=I.excMade C us
 have r2:Vals (V.ref (s.heap.objs.size+1) :: vs) (Value.ref (s.heap.objs.size+1) :: us):=.cons rfl r
 have hl:(Value.ref (s.heap.objs.size+1) :: us++[]).length=ps.length:=by
  have e:=r2.length
  rw [G.len _ _ _ _ hq] at e
  rw [List.append_nil]
  exact e.symm
 obtain ⟨_,_,_,bmB,BF,hcb,nm,q,N,bs,bm,hdct,sn,sub,ab,col,dd,k0,k1,k2,k3,k5,hC,T⟩ := M.cls
 have KI:=I.kIn
 have bd:=hb { s with heap:=excHeap s.heap C us } (Value.ref (s.heap.objs.size+1) :: us) I2.kIn hl
 rw [List.append_nil] at bd
 obtain ⟨hh,g,d,t,os⟩ := s
 refine wpAny_call (exc_make KI (KI _ _ hC) BF (T _ KI) M.init M.fn hz (codeAny_mono (G.run _ X.stack _ _ ⟨Value.ref (hh.objs.size+1) :: us,[]⟩ _ _ _ E (hr.make C us []) (I2.env0.make C us []) bd r2 hq) fun r s' hq' => ?_))
 cases r with
 | error e=>exact hx pins σ _ _ e s' I2 hq'
 | ok fl =>
  cases fl with
  | ret u =>
   obtain ⟨v,H',I3,rv,ev,q3⟩ := I2.after hq'
   subst ev
   exact ⟨rv,hh.objs.size+1,H',rfl,I3,q3⟩
  | next=>exact False.elim hq'
  | brk=>exact False.elim hq'
  | cont=>exact False.elim hq'
theorem raise_stmt {M:Model} {A:Around} {E:Value->Shared->Prop} {env:Env} {xs:Sem Value} {Q:Flow->Shared->Prop} {K:PySem.W.Frag} {C:Addr} {s:Shared} {f:Addr} (hM:ExMk K C f) (hh:A.handled=none)
  (h:wpAny M A xs (fun v s1=>∃ x oe vs,v = .ref x/\K.In s1.heap/\s1.heap.get? x=some oe/\oe.cls = .ref C/\oe.data = .fields vs/\vs[1]? = some .none/\E (.ref x) s1) E s) :
  wpAny M A (raiseStmt env (some xs) none) Q E s:=by
 obtain ⟨_,_,_,bmB,BF,hcb,nm,q,N,bs,bm,hdct,sn,sub,ab,col,dd,k0,k1,k2,k3,k5,hC,T⟩ := hM.cls
 unfold raiseStmt
 refine wpAny_bind (thn h fun v s1 h1 => ?_)
 obtain ⟨x,oe,vs,rfl,KI,ge,hcl,hd,h1,hE⟩ := h1
 have hC1:=KI _ _ hC
 have hcB:(Value.ref C :: bm).contains (.type "BaseException")=true:=by rw [List.contains_cons,(T _ KI).hasType hcb,Bool.or_true]
 obtain ⟨hp,g,d,tk,os⟩ := s1
 repeat (first | (with_reducible refine wpAny_loadPart_at ge ?_; try rw [hcl]) | with_reducible refine wpAny_loadPart_at hC1 ?_ | (with_reducible refine wpAny_isSubtype_exc hC1 ?_; rw [hcB]) | with_reducible refine wpAny_field ge hd h1 ?_ | wp_step)
 exact wpAny_raiseNew_none hh hE
theorem Inv.excFlies {x C d:Addr} (I:Inv X pins σ H s) (hx:H x=some (ExN x C (some d))):Inv X pins σ (upd H x (ExO x C (some d))) s:=by
 obtain ⟨o,vs,g,r1,r2,r3,r4,r5⟩ := ExN.get I.hok hx
 exact I.write (h':=s.heap) (t':=s.toks) (x:=x) (e:=x) (by rw [hx]; exact True.intro) (.inl rfl) (fun _ _ _ q=>q) ⟨o,g⟩ (ExO.ok g r1 r2 r3 r4)
end
def tRaise (C:Addr) (sp:Sp) (E:XK) (t:TA):TS:=fun _ σ H=>t σ H fun vs H1=>vs.length<=sizeLine/\∀ x,H1 x=none ->
 sp (.ref x :: vs) (upd H1 x (ExN x C none)) (fun v H2=>v = .non/\∃ d,H2 x=some (ExN x C (some d))/\E (.ref C) (some d) (upd H2 x (ExO x C (some d)))) E
section
variable {X:Cx} {E:XK} {k:Nat} {f C:Addr} {fd:FuncData} {ps:List Str} {sp:Sp} {x:Str} {np cpos pos:Pos} {e:Expr} {es:List Expr} {t:TA}
theorem ps_raise (M:ExMk X.K C f) (G:FnOk X.prog X.w X.K X.mg X.base (CXE X.prog X.w) k f fd ps sp) (hr:Room (k+1) X.A) (hg:Gl (X.exc E) x) (hm:X.mg x=some (.ref C)) (hb:Binds X.K fd ps []) (ha:PA (X.exc E) (e :: es) t) (hc:X.calm=true:=by rfl)
  (hdb:(x == ("__debug__" : Str))=false:=by decide) (he:starEach (e :: es) X.env=(false,eval e X.env) :: starEach es X.env:=by rfl) (hpl:(backTo cpos (starEach es X.env)).any (·.1)=false:=by rfl) :
  PS (X.exc E) (.Raise (some (.Call (.Name x np) (e :: es) [] cpos)) none pos) (tRaise C sp E t):=by
 refine ⟨?_⟩
 intro pins s σ H D I h
 have cal:wpAny (model X.prog X.w) X.A (eval (.Call (.Name x np) (e :: es) [] cpos) X.env) (fun v s1=>∃ y oe vs,v = .ref y/\X.K.In s1.heap/\s1.heap.get? y=some oe/\oe.cls = .ref C/\oe.data = .fields vs/\vs[1]? = some .none/\FlyW X E (.ref y) s1) (FlyW X E) s:=by
  refine wpAny_Call_Name_kw (vB (X:=X.exc E) I hg hm ?_ hdb)
  refine PySem.W.callWith_K (h₀:=X.base) I.ok.mod.kin M.kp (thn (ha cpos pins s σ H _ I h) fun us s1 ⟨vs,H1,I1,r,hz,q⟩=>⟨I1.kIn,?_⟩) he hpl
  refine thn (run_exc (X:=X.exc E) (Q:=fun y H2=>∃ d,H2 y=some (ExN y C (some d))/\E (.ref C) (some d) (upd H2 y (ExO y C (some d)))) M G hr hb passX I1 r (by have:=r.length; rw [List.nil_append]; (first|lia|omega)) q) fun v s2 ⟨y,H2,ev,I2,d,hy,qe⟩ => ?_
  ·subst ev
   obtain ⟨o,ws,g,r1,r2,r3,r4,r5⟩ := ExN.get I2.hok hy
   exact ⟨y,o,ws,rfl,I2.kIn,g,r1,r3,r5,y,C,some d,pins,σ,_,rfl,I2.unwish.excFlies hy,zC,⟨o,ws,g,r3,.inl r5⟩,qe⟩
 show wpAny _ _ (exec (.Raise (some (.Call (.Name x np) (e :: es) [] cpos)) none pos) X.env) _ _ _
 rw [arm_exec_Raise]
 refine wpAny_bind (wpAny_standAt (raise_stmt (K:=X.K) M (I.ok.hd hc) ?_))
 exact wpAny_bind (thn cal fun v s1 h1=>wpAny_bind (wpAny_standAt (wpAny_pure h1)))
end
end L2

namespace L2
open PySem PySem.Spec PyProof.Rows
section
variable {X:Cx} {pins:List (Addr × Obj)} {σ:St} {H:Hp} {s:Shared}
theorem name_gone {M:Model} {A:Around} {E:Value->Shared->Prop} {i:Nat} {n:Str} {pos:Pos} {Q:Unit->Shared->Prop} (I:Inv X pins σ H s) (hN:X.N.Nodup) (hi:X.N[i]? = some n) (hl:X.env.scope.names.lookup n=some .local)
  (h:∀ s',Inv X pins (σ.set i none) H s'->Q () s'):wpAny M A (do bindName X.env n .none; unbindBehindTheSuite X.env n pos) Q E s:=by
 obtain ⟨m,hn,hlk⟩ := id I.loc
 have hcls:(X.env.scope.kind == .class || (X.env.scope.kind == .module && X.env.locals != X.env.globals))=false:=by rw [I.ok.kind]; rfl
 have hiσ:i<σ.length:=by rw [I.len]; exact (List.getElem?_eq_some_iff.mp hi).1
 refine wpAny_nameGoes_keeps hl hn hcls fun h' v hn' hs=>h _ ?_
 have neL:∀ b o,X.s₀.heap.get? b=some o->b≠X.env.locals:=fun b o e=>Nat.ne_of_lt (Nat.lt_of_lt_of_le (Heap.lt_size e) I.ok.above)
 refine ⟨I.ok,I.os,I.bare,⟨fun b o e n hb hx=>(hs.2 b (neL b o e)).trans (I.base.keep b o e n hb hx),fun b o e n hb hx => ?_,I.base.free,fun b o e hx => ?_,I.base.tups,I.base.frzs,I.base.tbls⟩,⟨_,hn',fun j y v' e1 e2 e3 => ?_⟩,fun y c e => ?_,I.free,I.freeC,fun p hp => ?_,fun b u e => ?_,by simpa using I.len⟩
 ·obtain ⟨sl,e1⟩ := I.base.slot b o e n hb hx
  exact ⟨sl,(hs.2 b (neL b o e)).trans e1⟩
 ·obtain ⟨o',e1⟩ := I.base.there b o e hx
  exact ⟨o',(hs.2 b (neL b o e)).trans e1⟩
 ·by_cases hj:j=i
  ·subst hj
   rw [List.getElem?_set_self hiσ] at e2
   cases e2
  ·rw [List.getElem?_set_ne (Ne.symm hj)] at e2
   obtain ⟨u',r',q⟩ := hlk j y v' e1 e2 e3
   refine ⟨u',r',?_⟩
   rcases q with ⟨k,e⟩ | ⟨k,c,e,z⟩
   ·refine .inl ⟨k,?_⟩
    have:y≠n:=fun e=>hj (nodup_ix hN e1 (e ▸ hi))
    simp [this,e]
   ·exact .inr ⟨k,c,e,z.sameBut hs (I.cne y c e)⟩
 ·obtain ⟨w',z⟩ := I.cell y c e
  exact ⟨w',z.sameBut hs (I.cne y c e)⟩
 ·obtain ⟨e,n,ne,nf,d⟩ := I.pin p hp
  exact ⟨(hs.2 p.1 ne).trans e,n,ne,nf,d⟩
 ·refine (I.hok b u e).stay (fun c w' hc q=>(hs.2 c ?_).trans q) (fun _ q=>q) fun _ _ q=>q
  rintro rfl
  rcases hc with rfl | hc
  ·rw [I.free] at e; cases e
  ·rw [I.free] at hc; cases hc
abbrev Cx.mark (X:Cx) (v:Value):Cx:={ X with A:=X.A.mark (some v),calm:=false,xe:=fun _ _=>False }
theorem Inv.mark (I:Inv X pins σ H s) (v:Value):Inv (X.mark v) pins σ H s :=
 ⟨⟨I.ok.mod,I.ok.kind,I.ok.glob,I.ok.blt,I.ok.above,I.ok.inj,I.ok.has,I.ok.cab,fun z=>(nomatch z),I.ok.frames,I.ok.stk,I.ok.exf,I.ok.bs,I.ok.bsz,I.ok.noex,I.ok.exfs,I.ok.funs,I.ok.frf⟩,I.os,I.bare,I.base,I.loc,I.cell,I.free,I.freeC,I.pin,I.hok,I.len⟩
theorem Inv.unmark {v:Value} (hd:X.calm=true->X.A.handled=none) (I:Inv (X.mark v) pins σ H s):Inv X pins σ H s :=
 ⟨⟨I.ok.mod,I.ok.kind,I.ok.glob,I.ok.blt,I.ok.above,I.ok.inj,I.ok.has,I.ok.cab,hd,I.ok.frames,I.ok.stk,I.ok.exf,I.ok.bs,I.ok.bsz,I.ok.noex,I.ok.exfs,I.ok.funs,I.ok.frf⟩,I.os,I.bare,I.base,I.loc,I.cell,I.free,I.freeC,I.pin,I.hok,I.len⟩
abbrev Cx.pinned (X:Cx) (pn:List (Addr × Obj)):Cx:={ X with pn:=pn }
theorem Inv.topin (I:Inv X pins σ H s):Inv (X.pinned (X.pn++pins)) [] σ H s :=
 ⟨⟨I.ok.mod,I.ok.kind,I.ok.glob,I.ok.blt,I.ok.above,I.ok.inj,I.ok.has,I.ok.cab,I.ok.hd,I.ok.frames,I.ok.stk,I.ok.exf,I.ok.bs,I.ok.bsz,I.ok.noex,I.ok.exfs,I.ok.funs,I.ok.frf⟩,I.os,I.bare,I.base,I.loc,I.cell,I.free,I.freeC,fun p hp=>I.pin p (by rw [List.append_nil] at hp; exact hp),I.hok,I.len⟩
theorem Inv.unpin {pins':List (Addr × Obj)} (I:Inv (X.pinned (X.pn++pins)) pins' σ H s):Inv X pins σ H s :=
 ⟨⟨I.ok.mod,I.ok.kind,I.ok.glob,I.ok.blt,I.ok.above,I.ok.inj,I.ok.has,I.ok.cab,I.ok.hd,I.ok.frames,I.ok.stk,I.ok.exf,I.ok.bs,I.ok.bsz,I.ok.noex,I.ok.exfs,I.ok.funs,I.ok.frf⟩,I.os,I.bare,I.base,I.loc,I.cell,I.free,I.freeC,fun p hp=>I.pin p (List.mem_append_left _ hp),I.hok,I.len⟩
end
structure Mch (K:PySem.W.Frag) (C CE:Addr):Prop where
 sub:PySem.W.subIn K (.ref C) (.ref CE)=some true
 ty:PySem.W.typeIn K (.ref CE)=some (.type "type")
 cl:(PySem.W.clsIn K CE).isSome=true
 base:PySem.W.subIn K (.ref CE) (.type "BaseException")=some true
theorem exc_matches {M:Model} {A:Around} {E:Value->Shared->Prop} {K:PySem.W.Frag} {s:Shared} {x C CE:Addr} {oe:Obj} {Q:Bool->Shared->Prop} (KI:K.In s.heap) (m:Mch K C CE) (ge:s.heap.get? x=some oe) (hcl:oe.cls = .ref C) (hq:Q true s) :
  wpAny M A (excMatches (.ref x) (.ref CE)) Q E s:=by
 obtain ⟨h,g,d,t,os⟩ := s
 have kc:PySem.W.kitCls K (.ref C) (.ref CE)=some true:=by
  unfold PySem.W.kitCls
  simp only [m.cl,m.ty,beq_self_eq_true,Bool.and_self,if_true]
  exact m.sub
 obtain ⟨L1,L2',L3⟩ := PySem.W.kit_cls (M:=M) (h:=h) KI kc
 have L4:=PySem.W.looks_subIn (M:=M) (h:=h) KI m.base
 have L5:PySem.W.Looks M h (typeOf (.ref x)) (.ref C):=hcl ▸ (PySem.W.Looks.ld ge).andThen .now
 have L6:PySem.W.Looks M h (isInstance (.ref CE) (.type "tuple")) false:=L1.andThen (PySem.W.Looks.of_pure tc_notTuple)
 have L7:PySem.W.Looks M h (isExcClass (.ref CE)) true:=L2'.andThen L4
 unfold excMatches
 refine wpAny_bind (L6.at (wpAny_bind (wpAny_pure (wpAny_bind ?_))))
 show wpAny M A (forIn [Value.ref CE] PUnit.unit _) _ E _
 simp only [List.forIn_cons,List.forIn_nil]
 refine wpAny_bind (wpAny_bind (L7.at ?_))
 refine wpAny_pure (wpAny_pure (wpAny_bind (L5.at (wpAny_bind (wpAny_bind (wpAny_bind (L3.at ?_)))))))
 exact wpAny_pure (wpAny_pure (wpAny_pure hq))

def behind (D:Ends) (i:Nat):Ends:={ nx:=fun σ H=>D.nx (σ.set i none) H,rt:=D.rt,bk:=fun σ H=>D.bk (σ.set i none) H,ct:=fun σ H=>D.ct (σ.set i none) H }
section
variable {X:Cx}
end
end L2

namespace L2
open PySem PySem.Spec PyProof.Rows
def EqD (K:PySem.W.Frag) (H:Hp):Nat->V->V->Prop
 | 0,x,y=>flatV x=true/\x=y
 | n+1,x,y=>(flatV x=true/\x=y)\/∃ a b xs ys,x = .ref a/\y = .ref b/\((SqL K H a xs/\SqL K H b ys)\/(SqT K H a xs/\SqT K H b ys))/\Paired (EqD K H n) xs ys
theorem eqV_same:∀ {x:V},flatV x=true->eqV x x=true
 | .non,_=>rfl
 | .bl b,_=>beq_self_eq_true b
 | .int i,_=>beq_self_eq_true i
 | .str z,_=>beq_self_eq_true z
theorem Paired.get {α β:Type} {F : α->β->Prop}:∀ {xs:List α} {ys:List β},Paired F xs ys->∀ (j:Nat) (x : α) (y : β),xs[j]? = some x->ys[j]? = some y->F x y
 | _,_,.nil,j,x,y,h,_=>by simp at h
 | _,_,.cons r t,0,x,y,h,q=>by simp at h q; subst h; subst q; exact r
 | _,_,.cons r t,j+1,x,y,h,q=>Paired.get t j x y (by simpa using h) (by simpa using q)
theorem Paired.len {α β:Type} {F : α->β->Prop}:∀ {xs:List α} {ys:List β},Paired F xs ys->xs.length=ys.length
 | _,_,.nil=>rfl
 | _,_,.cons _ t=>by simp [Paired.len t]
theorem Paired.imp {α β:Type} {F G : α->β->Prop} (h:∀ x y,F x y->G x y):∀ {xs:List α} {ys:List β},Paired F xs ys->Paired G xs ys
 | _,_,.nil => .nil
 | _,_,.cons r t => .cons (h _ _ r) (Paired.imp h t)
theorem all_true (n:Nat):(List.range n).all (fun _=>true)=true:=List.all_eq_true.mpr fun _ _=>rfl
section
variable {X:Cx} {pins:List (Addr × Obj)} {σ:St} {H:Hp} {s:Shared}
theorem vals_pair {K:PySem.W.Frag} {xs ys:List V} {us vs:List Value} {R:V->V->Prop} (p:Paired R xs ys) (r:Vals xs us) (q:Vals ys vs) (P:Value->Value->Prop) (h:∀ x y u v,R x y->RelV x u->RelV y v->P u v) :
  us.toArray.size=vs.toArray.size/\∀ j (h1:j<us.toArray.size) (h2:j<vs.toArray.size),P us.toArray[j] vs.toArray[j]:=by
 refine ⟨?_,fun j h1 h2 => ?_⟩
 ·have e1:=r.length; have e2:=q.length; have e3:=Paired.len p
  simp only [List.size_toArray]; (first|lia|omega)
 ·have l1:j<us.length:=by simpa using h1
  have l2:j<vs.length:=by simpa using h2
  have e1:=r.length; have e2:=q.length
  have g1:xs[j]? = some xs[j]:=List.getElem?_eq_getElem (by (first|lia|omega))
  have g2:ys[j]? = some ys[j]:=List.getElem?_eq_getElem (by (first|lia|omega))
  simp only [List.getElem_toArray]
  exact h _ _ _ _ (Paired.get p j _ _ g1 g2) (Paired.get r j _ _ g1 (List.getElem?_eq_getElem l1)) (Paired.get q j _ _ g2 (List.getElem?_eq_getElem l2))
theorem eqD_at (I:Inv X pins σ H s):∀ (n:Nat) (x y:V) (u v:Value) (A:Around),EqD X.K H n x y->RelV x u->RelV y v->A.units+n<=cLine->SeqAt.EqAt A s u v true
 | 0,x,y,u,v,A,⟨f,e⟩,ru,rv,_=>by subst e; rw [<- eqV_same f]; exact eqAt_V ru rv f f
 | n+1,x,y,u,v,A,.inl ⟨f,e⟩,ru,rv,_=>by subst e; rw [<- eqV_same f]; exact eqAt_V ru rv f f
 | n+1,x,y,u,v,A,.inr ⟨a,b,xs,ys,ex,ey,hs,p⟩,ru,rv,hu=>by
  subst ex ey
  cases ru; cases rv
  by_cases hab:a=b
  ·subst hab; exact SeqAt.EqAt.same _
  refine SeqAt.EqAt.of_refs hab ?_
  rcases hs with ⟨ha,hb⟩ | ⟨ha,hb⟩
  ·obtain ⟨us,r,pa,_⟩ := I.list ha
   obtain ⟨vs,q,pb,_⟩ := I.list hb
   obtain ⟨sz,he⟩ := vals_pair (K:=X.K) p r q (fun u v=>SeqAt.EqAt A.in1 s u v true) fun x y u v e ru rv=>eqD_at I n x y u v A.in1 e ru rv (by show A.units+1+n<=_; (first|lia|omega))
   have:=SeqAt.RcAt.lists (e:=fun _=>true) pa.isList pb.isList sz (by (first|lia|omega)) he
   rwa [all_true] at this
  ·obtain ⟨us,r,pa,_⟩ := I.tuple ha
   obtain ⟨vs,q,pb,_⟩ := I.tuple hb
   obtain ⟨sz,he⟩ := vals_pair (K:=X.K) p r q (fun u v=>SeqAt.EqAt A.in1 s u v true) fun x y u v e ru rv=>eqD_at I n x y u v A.in1 e ru rv (by show A.units+1+n<=_; (first|lia|omega))
   have:=SeqAt.RcAt.tuples (e:=fun _=>true) pa pb (by (first|lia|omega)) he
   rw [all_true,sz,beq_self_eq_true] at this
   exact this
def rEqD (K:PySem.W.Frag) (k:Bool):R2:=fun x y H Q=>∃ a b xs ys n,x = .ref a/\y = .ref b/\((SqL K H a xs/\SqL K H b ys)\/(SqT K H a xs/\SqT K H b ys))/\Paired (EqD K H n) xs ys/\n<=100/\Q (.bl k) H
theorem op_eqD {k:Nat} (hr:Room k X.A):OpR X (compareOp .Eq) (rEqD X.K true):=by
 intro pins s σ H x y v u Q I rx ry h
 obtain ⟨a,b,xs,ys,n,rfl,rfl,hs,p,hn,q⟩ := h
 cases rx; cases ry
 have hu:=hr.un
 rcases hs with ⟨ha,hb⟩ | ⟨ha,hb⟩
 ·obtain ⟨us,r,pa,_⟩ := I.list ha
  obtain ⟨vs,q',pb,_⟩ := I.list hb
  obtain ⟨sz,he⟩ := vals_pair (K:=X.K) p r q' (fun u v=>SeqAt.EqAt X.A.in1 s u v true) fun x y u v e ru rv=>eqD_at I n x y u v X.A.in1 e ru rv (by show X.A.units+1+n<=_; (first|lia|omega))
  have:=SeqAt.RcAt.lists (e:=fun _=>true) pa.isList pb.isList sz (by (first|lia|omega)) he
  rw [all_true] at this
  exact this _ _ _ _ ⟨.bl true,H,I,rfl,q⟩
 ·obtain ⟨us,r,pa,_⟩ := I.tuple ha
  obtain ⟨vs,q',pb,_⟩ := I.tuple hb
  obtain ⟨sz,he⟩ := vals_pair (K:=X.K) p r q' (fun u v=>SeqAt.EqAt X.A.in1 s u v true) fun x y u v e ru rv=>eqD_at I n x y u v X.A.in1 e ru rv (by show X.A.units+1+n<=_; (first|lia|omega))
  have:=SeqAt.RcAt.tuples (e:=fun _=>true) pa pb (by (first|lia|omega)) he
  rw [all_true,sz,beq_self_eq_true] at this
  exact this _ _ _ _ ⟨.bl true,H,I,rfl,q⟩
def CDivB (i j:Int):Prop:=0<j/\j.natAbs.log2<8000
theorem op_fdivB:OpR X (binaryOp .FloorDiv) (rI CDivB fun i j => .int (i / j)):=opI fun i j _ _ _ _ _ hc q=>by
 rw [<- Int.fdiv_eq_ediv_of_nonneg i (by have:=hc.1; (first|lia|omega))] at q
 exact floordiv_int (by have:=hc.1; (first|lia|omega)) q (.inl (PyProof.noPylong_of_log2 (by have:=hc.2; (first|lia|omega))))
def tCut (t:TS):TS:=fun D σ H=>∃ P:St->Hp->Prop,t { D with nx:=P } σ H/\∀ σ' H',P σ' H'->D.nx σ' H'
theorem wU {st:Stmt} {t:TS} (h:PS X st t):PS X st (tCut t):=by
 refine ⟨?_⟩
 intro pins s σ H D I hw
 obtain ⟨P,h1,h2⟩ := hw
 refine wpAny_mono (h pins s σ H _ I h1) (fun f s' q => ?_) fun _ _ z=>z
 cases f with
 | next=>obtain ⟨σ1,H1,I1,q⟩ := q; exact ⟨σ1,H1,I1,h2 _ _ q⟩
 | brk=>exact q
 | cont=>exact q
 | ret u=>exact q
end
section
variable {X:Cx} {o e:Expr} {es:List Expr} {m:Str} {apos pos:Pos} {ta:TE} {t:TA} {E:XK} {C:Addr}
theorem pe_fldXK {f:Str} {te:TE} (K:PySem.W.Frag) (hK:X.K=K) (he:PE X e te) (hb:attributeBase e f X.env (eval e X.env)=eval e X.env:=by rfl):PE X (.Attribute e f pos) (tFldX K te f):=by
 subst hK
 exact pe_fldX he hb
structure CalK (P:Program) (w:World) (K:PySem.W.Frag) (mg:Str->Option Value) (base:Heap) (CX:CXT) (k:Nat) (x:Str) (C:Addr) (ps:List Str) (sp:Sp):Prop where
 ex:∃ f fd,Mk K C f/\FnOk P w K mg base CX k f fd ps sp/\mg x=some (.ref C)/\Binds K fd ps []
theorem pe_makeC {x:Str} {p:Pos} {CX:CXT} {k n:Nat} {ps:List Str} {sp:Sp} (G:CalK X.prog X.w X.K X.mg X.base CX k x C ps sp) (hr:Room n X.A) (hg:Gl X x) (ha:PA X (e :: es) t) (hx:Passes CX X E) (hk:k+1<=n:=by first | decide | (first|lia|omega))
  (hdb:(x == ("__debug__" : Str))=false:=by decide) (he:starEach (e :: es) X.env=(false,eval e X.env) :: starEach es X.env:=by rfl) (hpl:(backTo pos (starEach es X.env)).any (·.1)=false:=by rfl) :
  PE X (.Call (.Name x p) (e :: es) [] pos) (tMake C sp [] E t):=by
 obtain ⟨f,fd,M,F,hm,hb⟩ := G.ex
 exact pe_make M F (hr.mono hk) hg hm hb .nil hx ha hdb he hpl
structure CalX (P:Program) (w:World) (K:PySem.W.Frag) (mg:Str->Option Value) (base:Heap) (k:Nat) (x:Str) (C:Addr) (ps:List Str) (sp:Sp):Prop where
 ex:∃ f fd,ExMk K C f/\FnOk P w K mg base (CXE P w) k f fd ps sp/\mg x=some (.ref C)/\Binds K fd ps []
theorem xI {x:Str} {np cpos:Pos} {k n:Nat} {ps:List Str} {sp:Sp} (G:CalX X.prog X.w X.K X.mg X.base k x C ps sp) (hr:Room n X.A) (hg:Gl (X.exc E) x) (ha:PA (X.exc E) (e :: es) t) (hc:X.calm=true:=by rfl) (hk:k+1<=n:=by first | decide | (first|lia|omega))
  (hdb:(x == ("__debug__" : Str))=false:=by decide) (he:starEach (e :: es) X.env=(false,eval e X.env) :: starEach es X.env:=by rfl) (hpl:(backTo cpos (starEach es X.env)).any (·.1)=false:=by rfl) :
  PS (X.exc E) (.Raise (some (.Call (.Name x np) (e :: es) [] cpos)) none pos) (tRaise C sp E t):=by
 obtain ⟨f,fd,M,F,hm,hb⟩ := G.ex
 exact ps_raise M F (hr.mono hk) hg hm hb ha hc hdb he hpl
end
end L2

namespace L2
open PySem PySem.Spec PySem.Builtin.Str PyProof.Rows
section
variable {X:Cx}
theorem vals_strs:∀ (ts:List Str) (k:Nat),Vals (ts.map V.str) (strsFrom k ts)
 | [],_ => .nil
 | x :: r,k => .cons ⟨k,rfl⟩ (vals_strs r (k+1))
def GStr (mg:Str->Option Value) (x z:Str):Prop:=∃ t,mg x=some (.str z t)
theorem pe_gstr {x z:Str} {pos:Pos} (hg:Gl X x) (hm:GStr X.mg x z) (hd:(x == ("__debug__" : Str))=false:=by decide):PE X (.Name x pos) (tC (.str z)):=by
 obtain ⟨t,hm⟩ := hm
 exact pe_glob (v:=.str z) hg hm ⟨t,rfl⟩ hd
def rSplit:V->List V->Hp->VK->Prop:=fun x vs H Q=>∃ t sep:Str,x = .str t/\vs=[.str sep]/\(sep.length == 0)=false/\t.length<=sizeLine/\(Txt.split t sep).length<=sizeLine/\∀ p,H p=none->Q (.ref p) (upd H p (.lst ((Txt.split t sep).map V.str)))
theorem mt_split:MtR X "str.split" rSplit:=by
 intro pins s σ H x vs v us Q I rx rv h
 obtain ⟨t,sep,rfl,rfl,hs,hz,hn,q⟩ := h
 obtain ⟨tk,rfl⟩ := rx
 obtain ⟨u,rfl,ru⟩ := rv.one
 obtain ⟨tk2,rfl⟩ := ru
 have one:Txt.split t sep=[t]->∀ k',EP X pins σ Q (.ref s.heap.objs.size) { s with heap:=s.heap.push { cls:=.type "list",data:=.seq [Value.str t tk].toArray },toks:=k' }:=fun e k'=>by
  have q':=q _ I.fresh
  rw [e] at q' hn
  exact ⟨.ref s.heap.objs.size,_,I.lnew (ys:=[V.str t]) (.cons ⟨tk,rfl⟩ .nil) hn,rfl,q'⟩
 cases h1:(decide (t.length<sep.length) || decide (PySem.Builtin.Str.strKind t<PySem.Builtin.Str.strKind sep))
 ·cases hf:(occurrences t sep 0 t.length (t.length+1)).isEmpty
  ·have e:Txt.split t sep=partsBetween t (occurrences t sep 0 t.length (t.length+1)) sep.length:=(if_neg (ne_true_of_eq_false h1)).trans (if_neg (ne_true_of_eq_false hf))
   rw [e] at hn q
   refine call_meets F.slot_str_split (typeIs_str _ _ _) F.entry_str_split (F.args_str_split_2 _ _) (meets_str_split_sep t sep tk tk2 h1 hs hf hz hn) ?_
   exact ⟨.ref s.heap.objs.size,_,I.lnew (vals_strs _ _) (by rw [List.length_map]; exact hn),rfl,q _ I.fresh⟩
  ·have e:Txt.split t sep=[t]:=(if_neg (ne_true_of_eq_false h1)).trans (if_pos hf)
   exact call_meets F.slot_str_split (typeIs_str _ _ _) F.entry_str_split (F.args_str_split_2 _ _) (meets_str_split_not_found t sep tk tk2 h1 hs hf) (one e _)
 ·have e:Txt.split t sep=[t]:=if_pos h1
  exact call_meets F.slot_str_split (typeIs_str _ _ _) F.entry_str_split (F.args_str_split_2 _ _) (meets_str_split_cannot_occur t sep tk tk2 h1) (one e _)
def rStarts:V->List V->Hp->VK->Prop:=fun x vs H Q=>∃ t y:Str,x = .str t/\vs=[.str y]/\Q (.bl (decide (0+y.length<=t.length) && subAt t y 0)) H
theorem mt_starts:MtR X "str.startswith" rStarts:=by
 intro pins s σ H x vs v us Q I rx rv h
 obtain ⟨t,y,rfl,rfl,q⟩ := h
 obtain ⟨tk,rfl⟩ := rx
 obtain ⟨u,rfl,ru⟩ := rv.one
 obtain ⟨tk2,rfl⟩ := ru
 exact call_meets F.slot_str_startswith (typeIs_str _ _ _) F.entry_str_startswith (F.args_str_startswith_2 _ _) (gives_str_startswith t y tk tk2).meets ⟨.bl _,H,I,rfl,q⟩
theorem call_int_str:CallR X (.type "int") (fun xs H Q=>∃ (x:Str) (n:Int),xs=[.str x]/\PySem.intText? x=some n/\x.length<=640/\Q (.int n) H):=by
 intro pins s σ H xs us Q I r h
 obtain ⟨x,n,rfl,hn,hl,q⟩ := h
 obtain ⟨u,rfl,t,rfl⟩ := vals1 r
 exact PySem.W.KIN.call_text hn hl ⟨.int _,H,I.tok _,⟨_,rfl⟩,q⟩
section
variable {e:Expr} {te:TE} {pos:Pos}
end
def Itstr (x:Str):It:=⟨fun i _=>i<x.cps.size,fun i H v H'=>H'=H/\∃ c,x.cps[i]? = some c/\v = .str ⟨#[c]⟩,fun i _=>x.cps.size<=i⟩
def iStr (tl:TE):TI:=fun σ H R=>tl σ H fun v H1=>∃ x:Str,v = .str x/\R (Itstr x) H1
theorem strIter_two (x:Str):strIterType x = "str_ascii_iterator" \/ strIterType x = "str_iterator" := by
 unfold strIterType
 split
 ·exact .inl rfl
 ·exact .inr rfl
theorem turn_str {P:Program} {w:World} {K:PySem.W.Frag} {tg:Expr} (it:Addr) (x:Str) (t:Tok):Turn P w K tg (Itstr x) [it] it (fun i h=>h.IsStrIter it (strIterType x) x t i) where
 mem:=by simp
 obj:=fun i h st b hb=>by
  have e:b=it:=by simpa using hb
  subst e
  obtain ⟨o,e,c,d⟩ := st
  exact ⟨o,e,fun v z=>by rw [d] at z; cases z⟩
 keep:=fun i h h' st k=>by
  obtain ⟨o,e,r⟩ := st
  exact ⟨o,k it (by simp) o e,r⟩
 item:=by
  intro X hP hw hK hc i pins s σ H E I hf st hg
  subst hP hw hK
  obtain ⟨f0,f1,f2,f3,f4,f5⟩ := hf it (by simp)
  have hx:x.cps[i]? = some (x.cps[i]'hg):=Array.getElem?_eq_getElem hg
  generalize x.cps[i]'hg=c at hx
  have I1:∀ h',Heap.SameBut it s.heap h'->Inv X pins σ H { s with heap:=h',toks:=s.toks+1 }:=fun h' sb=>I.turned (t':=s.toks+1) (fun b o hb e=>(sb.2 b hb).trans e) f0 f1 f3 f4 f5
  rcases strIter_two x with e | e
  ·rw [e] at st ⊢
   refine wpAny_pyNext_ascii_item st hx fun h' st' sb => ?_
   obtain ⟨o,e,cl,d⟩ := id st'
   exact ⟨_,rfl,go_of (s:={ s with heap:=h',toks:=s.toks+1 }) e cl d (by decide) ⟨.str ⟨#[c]⟩,H,I1 h' sb,⟨_,rfl⟩,⟨rfl,c,hx,rfl⟩,st',fun b hb=>(hf b hb).1⟩⟩
  ·rw [e] at st ⊢
   refine wpAny_pyNext_wide_item st hx fun h' st' sb => ?_
   obtain ⟨o,e,cl,d⟩ := id st'
   exact ⟨_,rfl,go_of (s:={ s with heap:=h',toks:=s.toks+1 }) e cl d (by decide) ⟨.str ⟨#[c]⟩,H,I1 h' sb,⟨_,rfl⟩,⟨rfl,c,hx,rfl⟩,st',fun b hb=>(hf b hb).1⟩⟩
 done:=by
  intro X hP hw hK hc i pins s σ H E I hf st hg
  subst hP hw hK
  obtain ⟨f0,f1,f2,f3,f4,f5⟩ := hf it (by simp)
  have hx:x.cps[i]? = none:=Array.getElem?_eq_none hg
  rcases strIter_two x with e | e
  ·rw [e] at st
   exact wpAny_pyNext_ascii_end (I.ok.hd hc) st hx fun h' eb=>⟨rfl,I.turned (t':=s.toks) (fun b o hb e=>eb b o hb e) f0 f1 f3 f4 f5⟩
  ·rw [e] at st
   exact wpAny_pyNext_wide_end (I.ok.hd hc) st hx fun h' eb=>⟨rfl,I.turned (t':=s.toks) (fun b o hb e=>eb b o hb e) f0 f1 f3 f4 f5⟩
 self:=by
  intro A i s Q E st h
  rcases strIter_two x with e | e
  ·rw [e] at st
   exact wpAny_pyIter_striter_ascii st h
  ·rw [e] at st
   exact wpAny_pyIter_striter_wide st h
theorem pi_str {tg l:Expr} {tl:TE} (hl:PE X l tl):PI X tg l (iStr tl):=by
 refine ⟨?_⟩
 intro pins s σ H R I h
 refine thn (hl pins s σ H _ I h) fun v s1 z => ?_
 obtain ⟨y,H1,I1,r1,x,rfl,q⟩ := z
 obtain ⟨t,rfl⟩ := r1
 refine wpAny_pyIter_strU ?_
 refine ⟨s1.heap.objs.size,[s1.heap.objs.size],_,_,H1,rfl,I1.kept (t':=s1.toks) fun b o e=>Heap.get?_push_of_some _ e,turn_str _ x t,⟨_,Heap.get?_push_size _ rfl,rfl,rfl⟩,fun b hb => ?_,q⟩
 have e:b=s1.heap.objs.size:=by simpa using hb
 subst e
 exact I1.fpOk (Nat.le_refl _) (I1.hok.fresh (Nat.le_refl _))
theorem for_str {x:Str} {g:TG} {tb:TS} {D:Ends} {σ:St} {H:Hp} (Pv:Nat->St->Hp->Prop) (h0:Pv 0 σ H)
  (hs:∀ i c σ H,x.cps[i]? = some c->Pv i σ H->g (.str ⟨#[c]⟩) σ H fun σ2 H2=>tb { D with nx:=Pv (i+1),ct:=Pv (i+1),bk:=D.nx } σ2 H2) (hd:∀ σ H,Pv x.cps.size σ H->D.nx σ H) :
  ∃ W:Nat->Nat->St->Hp->Prop,(∃ m,W 0 m σ H)/\∀ i m σ H,W i m σ H ->
   ((Itstr x).stop i H/\D.nx σ H)\/((Itstr x).go i H/\∃ N:St->Hp->Prop,(∀ σ' H',N σ' H'->∃ m',m'<m/\W (i+1) m' σ' H')/\∀ v H',(Itstr x).yld i H v H'->g v σ H' fun σ2 H2=>tb { D with nx:=N,ct:=N,bk:=D.nx } σ2 H2):=by
 refine ⟨fun i m σ H=>m=x.cps.size - i/\i<=x.cps.size/\Pv i σ H,⟨x.cps.size,rfl,Nat.zero_le _,h0⟩,?_⟩
 rintro i m σ H ⟨rfl,hi,p⟩
 by_cases hlt:i<x.cps.size
 ·refine .inr ⟨hlt,Pv (i+1),fun σ' H' p'=>⟨x.cps.size - (i+1),by (first|lia|omega),rfl,hlt,p'⟩,fun v H' y => ?_⟩
  obtain ⟨e,c,hx,rfl⟩ := y
  subst e
  exact hs i c σ _ hx p
 ·have e:i=x.cps.size:=by (first|lia|omega)
  subst e
  exact .inl ⟨Nat.le_refl _,hd σ H p⟩
end
end L2

namespace L2
open PySem
def inter (c:Nat):List (List Nat)->List Nat
 | []=>[]
 | [a]=>a
 | a :: b :: r=>a++c :: inter c (b :: r)
theorem inter_cons (c:Nat) (a:List Nat) (r:List (List Nat)):∃ x,inter c (a :: r)=a++x/\((r=[]/\x=[])\/(r≠[]/\x=c :: inter c r)):=by
 cases r with
 | nil=>exact ⟨[],(by rw [List.append_nil]; rfl),.inl ⟨rfl,rfl⟩⟩
 | cons b r=>exact ⟨_,rfl,.inr ⟨(fun z=>nomatch z),rfl⟩⟩
theorem jM (c:Nat):∀ ts:List Str,(Str.join ⟨#[c]⟩ ts).cps.toList=inter c (ts.map fun t=>t.cps.toList)
 | []=>rfl
 | [t]=>rfl
 | t :: u :: r=>by
  have ih:=jM c (u :: r)
  show (t++⟨#[c]⟩++Str.join ⟨#[c]⟩ (u :: r)).cps.toList=t.cps.toList++c :: inter c ((u :: r).map fun t=>t.cps.toList)
  rw [<- ih]
  show (t.cps ++ #[c]++(Str.join ⟨#[c]⟩ (u :: r)).cps).toList=_
  simp
theorem cps_inj {ts us:List Str} (h:ts.map (fun t=>t.cps.toList)=us.map (fun t=>t.cps.toList)):ts=us:=by
 induction ts generalizing us with
 | nil=>cases us with
  | nil=>rfl
  | cons u us=>cases h
 | cons t ts ih=>cases us with
  | nil=>cases h
  | cons u us =>
   rw [List.map_cons,List.map_cons] at h
   injection h with h1 h2
   rw [ih h2]
   obtain ⟨a⟩ := t
   obtain ⟨b⟩ := u
   have:a=b:=Array.toList_inj.mp h1
   rw [this]
open PySem.NumText PySem.W
abbrev numS (n:Int):Str:=Str.ofString (toString n)
abbrev digs (m:Nat):List Nat:=(Nat.toDigits 10 m).map Char.toNat
theorem digs_lt {m:Nat} (h:m<10):digs m=[48+m]:=by
 have:∀ m:Fin 10,(Nat.digitChar m.1).toNat=48+m.1:=by decide
 show (Nat.toDigits 10 m).map Char.toNat=_
 rw [Nat.toDigits_of_lt_base h]
 show [(Nat.digitChar m).toNat]=_
 rw [this ⟨m,h⟩]
theorem digs_ge {m:Nat} (h:¬ m<10):digs m=digs (m / 10)++[48+m % 10]:=by
 have hm:m % 10<10:=Nat.mod_lt m (by decide)
 have t:Nat.toDigits 10 (m / 10)++Nat.toDigits 10 (m % 10)=Nat.toDigits 10 (10 * (m / 10)+m % 10):=Nat.toDigits_append_toDigits (by decide) (by (first|lia|omega)) hm
 rw [Nat.div_add_mod] at t
 show (Nat.toDigits 10 m).map Char.toNat=_
 rw [<- t,List.map_append]
 have:=digs_lt hm
 show digs (m / 10)++digs (m % 10)=_
 rw [this]
theorem wQ (m:Nat):AllDigits (digs m):=by
 induction m using Nat.strongRecOn with
 | _ m ih =>
  intro c hc
  by_cases h:m<10
  ·rw [digs_lt h] at hc
   rw [List.mem_singleton.mp hc]
   (first|lia|omega)
  ·rw [digs_ge h] at hc
   rcases List.mem_append.mp hc with z | z
   ·exact ih (m / 10) (by (first|lia|omega)) c z
   ·rw [List.mem_singleton.mp z]
    have:m % 10<10:=Nat.mod_lt m (by decide)
    (first|lia|omega)
theorem digs_head (m:Nat):∃ c r,digs m=c :: r/\(m≠0->c≠48):=by
 induction m using Nat.strongRecOn with
 | _ m ih =>
  by_cases h:m<10
  ·exact ⟨_,_,digs_lt h,fun z=>by (first|lia|omega)⟩
  ·obtain ⟨c,r,e,n⟩ := ih (m / 10) (by (first|lia|omega))
   exact ⟨c,r++[48+m % 10],by rw [digs_ge h,e]; rfl,fun _=>n (by (first|lia|omega))⟩
theorem digs_len:∀ {k m:Nat},m<10 ^ (k+1)->(digs m).length<=k+1
 | 0,m,h=>by rw [digs_lt (by (first|lia|omega))]; exact Nat.le_refl _
 | k+1,m,h=>by
  by_cases c:m<10
  ·rw [digs_lt c]
   show 1<=_
   (first|lia|omega)
  ·have:m / 10<10 ^ (k+1):=by
    rw [Nat.pow_succ] at h
    exact Nat.div_lt_of_lt_mul (by rw [Nat.mul_comm]; exact h)
   have:=digs_len this
   rw [digs_ge c,List.length_append]
   show _+1<=_
   (first|lia|omega)
theorem digs_val (m:Nat):digitsVal (digs m)=m:=KIN.val_back m
theorem numS_cps (n:Int):(0<=n/\(numS n).cps.toList=digs n.natAbs)\/(n<0/\(numS n).cps.toList=45 :: digs n.natAbs):=by
 cases n with
 | ofNat m=>exact .inl ⟨Int.natCast_nonneg m,KIN.signs_num m⟩
 | negSucc m =>
  refine .inr ⟨Int.negSucc_lt_zero m,?_⟩
  have e:toString (Int.negSucc m) = "-" ++ Nat.repr (m+1):=rfl
  show (Str.ofString (toString (Int.negSucc m))).cps.toList=45 :: (Nat.toDigits 10 (m+1)).map Char.toNat
  rw [e,PyProof.Rows.signs_ofString]
  rw [String.toList_append,List.map_append,Nat.toList_repr]
  rfl
theorem numS_int {n:Int} (h:n.natAbs<10 ^ 600):PySem.intText? (numS n)=some n/\(numS n).length<=601:=by
 have hl:(digs n.natAbs).length<=600:=digs_len (k:=599) h
 obtain ⟨c,r,e,_⟩ := digs_head n.natAbs
 have ne:digs n.natAbs≠[]:=by rw [e]; exact fun z=>nomatch z
 have ln:(numS n).cps.toList.length=(numS n).length:=Array.length_toList
 rcases numS_cps n with ⟨h0,hc⟩ | ⟨h0,hc⟩
 ·rw [hc] at ln
  refine ⟨?_,by (first|lia|omega)⟩
  rw [intText_digits (by rw [hc]; exact wQ _) (by rw [hc]; exact ne) (by (first|lia|omega)),hc,digs_val]
  exact congrArg some (by (first|lia|omega))
 ·rw [hc,List.length_cons] at ln
  refine ⟨?_,by (first|lia|omega)⟩
  rw [intText_neg hc (wQ _) ne (by (first|lia|omega)),digs_val]
  exact congrArg some (by (first|lia|omega))
end L2

namespace L2
open PySem
theorem sign_in (c:Nat) (x:Str):(!(Builtin.Str.occurrences x ⟨#[c]⟩ 0 x.length 1).isEmpty)=decide (c∈x.cps.toList):=StrLaws.found_one x c
def inAll (w sg:Str):Bool:=w.cps.toList.all fun c=>decide (c∈sg.cps.toList)
def figS (x:Str):Str:=match x.cps.toList with
 | 45 :: r=>⟨r.toArray⟩
 | _=>x
theorem minus_one:(Str.ofString "-")=⟨#[45]⟩ := by decide
theorem starts_minus (x:Str):(decide (0+(Str.ofString "-").length<=x.length) && Builtin.Str.subAt x (Str.ofString "-") 0)=true ↔ x.cps.toList[0]? = some 45:=by
 rw [Bool.and_eq_true_iff,decide_eq_true_eq,minus_one]
 exact StrLaws.subAt_one x 45 0
theorem figS_minus {x:Str} {r:List Nat} (h:x.cps.toList=45 :: r):figS x=⟨r.toArray⟩/\Txt.slice x (some 1) none=⟨r.toArray⟩ := by
 constructor
 ·unfold figS
  rw [h] <;> rfl
 ·have hl:x.cps.toList.length=x.length:=Array.length_toList
  rw [h,List.length_cons] at hl
  have e:=eq_of_beq (PyProof.Rows.slice_closes_fromL (x:=x) (i:=1) (b:=(x.length:Int)) (by decide) (by (first|lia|omega)) rfl)
  rw [e,h]
  show (⟨((45 :: r).drop 1 |>.take ((x.length:Int) - 1).toNat).toArray⟩ : Str)=_
  rw [List.drop_one,List.tail_cons,List.take_of_length_le (by (first|lia|omega))]
theorem qX {x:Str} (h:¬ x.cps.toList[0]? = some 45):figS x=x:=by
 unfold figS
 split
 ·rename_i r e
  rw [e] at h
  exact absurd rfl h
 ·rfl
theorem figS_len (x:Str):(figS x).length<=x.length:=by
 by_cases c:x.cps.toList[0]? = some 45
 ·obtain ⟨r,er⟩ : ∃ r,x.cps.toList=45 :: r:=by
   cases e:x.cps.toList with
   | nil=>rw [e] at c; cases c
   | cons a r=>rw [e] at c; cases c; exact ⟨r,rfl⟩
  have hl:x.cps.toList.length=x.length:=Array.length_toList
  rw [er,List.length_cons] at hl
  rw [(figS_minus er).1]
  show r.toArray.size<=_
  rw [List.size_toArray]
  (first|lia|omega)
 ·rw [qX c]
  exact Nat.le_refl _
def numOk (x:Str) (most:Int):Bool:=decide (1<=(figS x).length) && decide (((figS x).length:Int)<=most) && inAll (figS x) "0123456789" && (decide (x = "0") || !decide ((figS x).cps.toList[0]? = some 48))
theorem figS_num (n:Int):(figS (numS n)).cps.toList=digs n.natAbs:=by
 rcases numS_cps n with ⟨_,e⟩ | ⟨_,e⟩
 ·rw [qX (fun z => ?_),e]
  obtain ⟨c,r,ed,_⟩ := digs_head n.natAbs
  have:=wQ n.natAbs c (by rw [ed]; exact List.mem_cons_self)
  rw [e,ed] at z
  cases z
  (first|lia|omega)
 ·rw [(figS_minus e).1]
theorem figures_are:(Str.ofString "0123456789").cps.toList=[48,49,50,51,52,53,54,55,56,57]:=by decide
theorem figure_in {c:Nat} (h : 48<=c/\c<=57):c∈(Str.ofString "0123456789").cps.toList:=by
 rw [figures_are]
 have:c=48\/c=49\/c=50\/c=51\/c=52\/c=53\/c=54\/c=55\/c=56\/c=57:=by (first|lia|omega)
 simpa using this
theorem numOk_num {n:Int} {k:Nat} {most:Int} (h:n.natAbs<10 ^ (k+1)) (hk:((k+1:Nat):Int)<=most):numOk (numS n) most=true:=by
 have ef:=figS_num n
 have hl:(figS (numS n)).cps.toList.length=(figS (numS n)).length:=Array.length_toList
 obtain ⟨c,r,ed,hn⟩ := digs_head n.natAbs
 have dl:=digs_len h
 rw [ef] at hl
 have l1 : 1<=(digs n.natAbs).length:=by rw [ed]; exact Nat.succ_le_succ (Nat.zero_le _)
 have ia:inAll (figS (numS n)) "0123456789" = true:=by
  unfold inAll
  rw [ef,List.all_eq_true]
  intro d hd
  exact decide_eq_true (figure_in (wQ _ d hd))
 unfold numOk
 rw [decide_eq_true (by (first|lia|omega)),decide_eq_true (by (first|lia|omega)),ia,ef,ed]
 by_cases z:n=0
 ·subst z
  rw [decide_eq_true (show numS 0=("0" : Str) by decide)]
  rfl
 ·have:c≠48:=hn (by (first|lia|omega))
  rw [decide_eq_false (show ¬ (c :: r)[0]? = some 48 from fun e=>this (by injection e))]
  simp
theorem num_signs {n:Int} {c:Nat} (h:c∈(numS n).cps.toList):c=45\/(48<=c/\c<=57):=by
 rcases numS_cps n with ⟨_,e⟩ | ⟨_,e⟩
 ·rw [e] at h
  exact .inr (wQ _ c h)
 ·rw [e] at h
  rcases List.mem_cons.mp h with z | z
  ·exact .inl z
  ·exact .inr (wQ _ c z)
def valW (x:Str):Int:=(PySem.intText? x).getD 0
theorem numOk_fig {x:Str} {most:Int} (h:numOk x most=true) : 1<=(figS x).length/\((figS x).length:Int)<=most/\∀ c∈(figS x).cps.toList,48<=c/\c<=57:=by
 unfold numOk at h
 rw [Bool.and_eq_true_iff,Bool.and_eq_true_iff,Bool.and_eq_true_iff] at h
 obtain ⟨⟨⟨h1,h2⟩,h3⟩,_⟩ := h
 refine ⟨of_decide_eq_true h1,of_decide_eq_true h2,fun c hc => ?_⟩
 unfold inAll at h3
 rw [List.all_eq_true] at h3
 have:=of_decide_eq_true (h3 c hc)
 rw [figures_are] at this
 simp at this
 (first|lia|omega)
theorem numOk_int {x:Str} (h:numOk x 60=true):PySem.intText? x=some (valW x)/\x.length<=640:=by
 obtain ⟨h1,h2,h3⟩ := numOk_fig h
 have hl:(figS x).cps.toList.length=(figS x).length:=Array.length_toList
 have ne:(figS x).cps.toList≠[]:=fun z=>by rw [z] at hl; have:([]:List Nat).length=0:=rfl; (first|lia|omega)
 by_cases c:x.cps.toList[0]? = some 45
 ·obtain ⟨r,er⟩ : ∃ r,x.cps.toList=45 :: r:=by
   cases e:x.cps.toList with
   | nil=>rw [e] at c; cases c
   | cons a r=>rw [e] at c; cases c; exact ⟨r,rfl⟩
  have ef:(figS x).cps.toList=r:=by rw [(figS_minus er).1]
  rw [ef] at h3 ne hl
  have hx:x.cps.toList.length=x.length:=Array.length_toList
  rw [er,List.length_cons] at hx
  refine ⟨?_,by (first|lia|omega)⟩
  unfold valW
  rw [intText_neg er h3 ne (by (first|lia|omega))]
  rfl
 ·have ef:=qX c
  rw [ef] at h2 h3 ne hl
  refine ⟨?_,by (first|lia|omega)⟩
  unfold valW
  rw [intText_digits h3 ne (by (first|lia|omega))]
  rfl
theorem valW_num {n:Int} (h:n.natAbs<10 ^ 600):valW (numS n)=n:=by
 unfold valW
 rw [(numS_int h).1]
 rfl
end L2

namespace L2
open PySem
def lettersS:Str := "abcdefghijklmnopqrstuvwxyz"
def kwH:List Str:=["fun", "with", "is"]
def kwW:List Str:=["set", "all", "pick", "loop", "call", "fail", "add", "sub", "mul", "quo", "rest", "less", "same", "push", "at", "put", "size", "new"]
def okName (w:Str):Bool:=decide (1<=w.length) && decide (w.length<=8) && inAll w lettersS && !decide (w∈kwH) && !decide (w∈kwW)
def lookN:List (Str × Int)->Str->Option Int
 | [],_=>none
 | p :: r,x=>if p.1=x then some p.2 else lookN r x
def numG:List Str->Int->List (Str × Int)->List (Str × Int)
 | [],_,acc=>acc
 | w :: r,f,acc=>if w = "fun" then numG r (f+1) (match r with | []=>acc | n :: _=>if (lookN acc n).isSome then acc else acc++[(n,f)]) else numG r f acc
def numN (W:List Str):List (Str × Int):=numG W 0 []
def cntG:List Str->Nat->Int × List Int
 | [],n=>(n,[])
 | w :: r,n =>
  let q:=cntG r (n+1)
  let e:Int:=if w = "with" then n else q.1
  (e,if w = "fun" then (e - n - 2) :: q.2 else q.2)
def cntN (W:List Str):List Int:=(cntG W 0).2
section
variable (W:List Str)
def dueR (a:Nat):Except Nat Str:=match W[a]? with | some w => .ok w | none => .error a
def newR (a:Nat) (there:List Str):Except Nat Str:=match W[a]? with
 | some w=>if okName w=true/\w ∉ there then .ok w else .error a
 | none => .error a
def boxesR (most:Nat) (last:Str):Nat->Nat->List Str->Except Nat (Nat × List Str)
 | 0,a,_ => .error a
 | n+1,a,bs=>match W[a]? with
  | none => .error a
  | some w=>if w=last then .ok (a+1,bs) else if bs.length=most then .error a else if okName w=true/\w ∉ bs then boxesR most last n (a+1) (bs++[w]) else .error a
def boxR (a:Nat) (bs:List Str):Except Nat Nat:=match W[a]? with
 | some w=>if w∈bs then .ok (bs.idxOf w) else .error a
 | none => .error a
def numR (a:Nat):Except Nat Int:=match W[a]? with
 | some w=>if numOk w 60=true then .ok (valW w) else .error a
 | none => .error a
def manyR (a:Nat) (least:Int):Except Nat Int:=match numR W a with
 | .ok n=>if n<least\/12<n then .error a else .ok n
 | .error e => .error e
def calledR (num:List (Str × Int)) (a:Nat):Except Nat Int:=match W[a]? with
 | some w=>if okName w=true then (match lookN num w with | some f => .ok f | none => .error a) else .error a
 | none => .error a
def ownR (num:List (Str × Int)) (a:Nat) (k:Int) (bs:List Str):Except Nat (List Int × Nat) :=
 if k=0 then (match numR W a with | .ok n => .ok ([n],a+1) | .error e => .error e)
 else if k=1\/k=2 then (match boxR W a bs with | .ok n => .ok ([(n:Int)],a+1) | .error e => .error e)
 else if k=3 then (match manyR W a 1 with | .ok n => .ok ([n],a+1) | .error e => .error e)
 else if k=4 then (match manyR W a 2 with | .ok n => .ok ([n],a+1) | .error e => .error e)
 else if k=6 then (match calledR W num a with | .ok n => .ok ([n],a+1) | .error e => .error e)
 else .ok ([],a)
def kindR (a:Nat) (bs:List Str):Except Nat (Int × Nat):=match W[a]? with
 | some w=>if numOk w 60=true then .ok (0,a) else if w∈bs then .ok (1,a) else if w∈kwW then .ok (2+(kwW.idxOf w:Int),a+1) else .error a
 | none => .error a
end
def partsW:List Int:=[1,2,2,2,2,2,2,2,2,2,3,1,0]
def dueP (cnt:List Int) (k:Int) (ns:List Int):Int :=
 if k=0\/k=1 then 0 else if k=2 then 1 else if k=3 then ns.headD 0 else if k=4 then 1+ns.headD 0 else if k=5 then 2
 else if k=6 then (cnt[(ns.headD 0).toNat]?).getD 0 else (partsW[(k - 7).toNat]?).getD 0
abbrev NdR:=Nat->List Int->Except Nat (Nat × List Int)
def partsR (f:NdR):Nat->NdR
 | 0,a,bd => .ok (a,bd)
 | n+1,a,bd=>match f a bd with | .ok q=>partsR f n q.1 q.2 | .error e => .error e
def nodeR (W:List Str) (num:List (Str × Int)) (cnt:List Int) (bs:List Str):Nat->NdR
 | 0,a,_ => .error a
 | d+1,a,bd=>match kindR W a bs with
  | .error e => .error e
  | .ok q=>match ownR W num q.2 q.1 bs with
   | .error e => .error e
   | .ok r=>partsR (nodeR W num cnt bs d) (dueP cnt q.1 r.1).toNat r.2 (bd++q.1 :: r.1)
structure RS where
 at_:Nat
 names:List (Str × List Str)
 heads:List Int
 bodies:List Int
def funR (W:List Str) (num:List (Str × Int)) (cnt:List Int) (s:RS):Except Nat RS:=match W[s.at_]? with
 | none => .error s.at_
 | some w=>if w ≠ "fun" \/ s.names.length=16 then .error s.at_ else match newR W (s.at_+1) (s.names.map (·.1)) with
  | .error e => .error e
  | .ok nm=>match boxesR W (if s.names=[] then 0 else 4) "with" (W.length+1) (s.at_+2) [] with
   | .error e => .error e
   | .ok q=>match boxesR W 12 "is" (W.length+1) q.1 q.2 with
    | .error e => .error e
    | .ok r=>match nodeR W num cnt r.2 10 r.1 s.bodies with
     | .error e => .error e
     | .ok z => .ok ⟨z.1,s.names++[(nm,r.2)],s.heads++[(q.2.length:Int),(r.2.length:Int)],z.2⟩
def funsR (W:List Str) (num:List (Str × Int)) (cnt:List Int):Nat->RS->Except Nat RS
 | 0,s => .ok s
 | n+1,s=>if s.at_<W.length then (match funR W num cnt s with | .error e => .error e | .ok s'=>funsR W num cnt n s') else .ok s
def readR (W:List Str):Except Nat RS:=match funR W (numN W) (cntN W) ⟨0,[],[],[]⟩ with
 | .error e => .error e
 | .ok s=>funsR W (numN W) (cntN W) W.length s
def sheetR (s:RS):List Int:=(s.names.length:Int) :: (s.heads++s.bodies)
section
variable {W:List Str} {num:List (Str × Int)} {cnt:List Int} {bs:List Str}
theorem get_lt {a:Nat} {w:Str} (h:W[a]? = some w):a<W.length:=by
 rw [List.getElem?_eq_some_iff] at h
 exact h.1
theorem numR_lt {a:Nat} {n:Int} (h:numR W a = .ok n):a<W.length:=by
 unfold numR at h
 split at h
 ·rename_i w e; exact get_lt e
 ·cases h
theorem boxR_lt {a n:Nat} (h:boxR W a bs = .ok n):a<W.length/\n<bs.length:=by
 unfold boxR at h
 split at h
 ·rename_i w e
  split at h
  ·rename_i m; cases h; exact ⟨get_lt e,List.idxOf_lt_length_iff.mpr m⟩
  ·cases h
 ·cases h
theorem manyR_lt {a:Nat} {l n:Int} (h:manyR W a l = .ok n):a<W.length/\l<=n/\n<=12:=by
 unfold manyR at h
 split at h
 ·rename_i m e
  split at h
  ·cases h
  ·cases h; exact ⟨numR_lt e,by (first|lia|omega),by (first|lia|omega)⟩
 ·cases h
theorem calledR_lt {a:Nat} {n:Int} (h:calledR W num a = .ok n):a<W.length:=by
 unfold calledR at h
 split at h
 ·rename_i w e; exact get_lt e
 ·cases h
theorem kindR_lt {a:Nat} {q:Int × Nat} (h:kindR W a bs = .ok q):a<W.length/\((q.1=0\/q.1=1)/\q.2=a\/2<=q.1/\q.1<=19/\q.2=a+1):=by
 unfold kindR at h
 split at h
 ·rename_i w e
  refine ⟨get_lt e,?_⟩
  split at h
  ·cases h; exact .inl ⟨.inl rfl,rfl⟩
  split at h
  ·cases h; exact .inl ⟨.inr rfl,rfl⟩
  split at h
  ·rename_i m
   cases h
   have:kwW.idxOf w<kwW.length:=List.idxOf_lt_length_iff.mpr m
   have l:kwW.length=18:=rfl
   refine .inr ⟨?_,?_,rfl⟩
   ·show 2<=2+(kwW.idxOf w:Int); (first|lia|omega)
   ·show 2+(kwW.idxOf w:Int)<=19; (first|lia|omega)
  ·cases h
 ·cases h
theorem ownR_lt {a:Nat} {k:Int} {r:List Int × Nat} (h:ownR W num a k bs = .ok r) (ha:a<=W.length):r.2<=W.length/\r.1.length<=1/\(k=0\/k=1->r.2=a+1)/\r.2<=a+1/\a<=r.2/\(k=3\/k=4\/k=6->r.1.length=1)/\(k=3\/k=4->1<=r.1.headD 0/\r.1.headD 0<=12):=by
 unfold ownR at h
 split at h
 ·rename_i k0
  split at h
  ·rename_i n e; cases h; have:=numR_lt e; dsimp only [List.length_cons,List.length_nil,List.headD]; (first|lia|omega)
  ·cases h
 split at h
 ·rename_i k0
  split at h
  ·rename_i n e; cases h; have:=boxR_lt e; dsimp only [List.length_cons,List.length_nil,List.headD]; (first|lia|omega)
  ·cases h
 split at h
 ·rename_i k0
  split at h
  ·rename_i n e; cases h; have:=manyR_lt e; dsimp only [List.length_cons,List.length_nil,List.headD]; (first|lia|omega)
  ·cases h
 split at h
 ·rename_i k0
  split at h
  ·rename_i n e; cases h; have:=manyR_lt e; dsimp only [List.length_cons,List.length_nil,List.headD]; (first|lia|omega)
  ·cases h
 split at h
 ·rename_i k0
  split at h
  ·rename_i n e; cases h; have:=calledR_lt e; dsimp only [List.length_cons,List.length_nil,List.headD]; (first|lia|omega)
  ·cases h
 ·cases h; dsimp only [List.length_cons,List.length_nil,List.headD]; (first|lia|omega)
def Goes (W:List Str) (f:NdR):Prop:=∀ a bd q,a<=W.length->f a bd = .ok q->a<q.1/\q.1<=W.length/\q.2.length+2 * a<=bd.length+2 * q.1
theorem parts_goes {f:NdR} (g:Goes W f):∀ (n a:Nat) (bd:List Int) (q:Nat × List Int),a<=W.length->partsR f n a bd = .ok q->a<=q.1/\q.1<=W.length/\q.2.length+2 * a<=bd.length+2 * q.1
 | 0,a,bd,q,ha,h=>by cases h; exact ⟨Nat.le_refl _,ha,Nat.le_refl _⟩
 | n+1,a,bd,q,ha,h=>by
  unfold partsR at h
  split at h
  ·rename_i r e
   obtain ⟨g1,g2,g3⟩ := g a bd r ha e
   obtain ⟨h1,h2,h3⟩ := parts_goes g n r.1 r.2 q g2 h
   (first|lia|omega)
  ·cases h
theorem node_goes:∀ d,Goes W (nodeR W num cnt bs d)
 | 0=>fun a bd q _ h=>by cases h
 | d+1=>fun a bd q ha h=>by
  unfold nodeR at h
  split at h
  ·cases h
  rename_i k e1
  split at h
  ·cases h
  rename_i r e2
  obtain ⟨l1,l2⟩ := kindR_lt e1
  obtain ⟨o1,o2,o3,o4,o5,_⟩ := ownR_lt e2 (by (first|lia|omega))
  obtain ⟨p1,p2,p3⟩ := parts_goes (node_goes d) _ _ _ _ o1 h
  rw [List.length_append,List.length_cons] at p3
  rcases l2 with ⟨lk,l2⟩ | ⟨lk,l3,l2⟩
  ·have:=o3 lk
   (first|lia|omega)
  ·(first|lia|omega)
end
end L2

namespace L2
open PySem PySem.Spec PyProof.Rows

section
variable {κ:Type} [DecidableEq κ]
def valV (kvs:List (κ × V)) (k : κ):Option V:=(kvs.find? fun kv=>decide (kv.1=k)).map (·.2)
theorem valV_pos {p : κ × V} {r:List (κ × V)} {k : κ} (e:p.1=k):valV (p :: r) k=some p.2:=by simp [valV,List.find?_cons,e]
theorem valV_neg {p : κ × V} {r:List (κ × V)} {k : κ} (e:¬ p.1=k):valV (p :: r) k=valV r k:=by simp [valV,List.find?_cons,e]
theorem RelO.isSome_eq {o:Option V} {u:Option Value} (r:RelO o u):o.isSome=u.isSome:=by
 cases o with
 | none=>cases u with
  | none=>rfl
  | some _=>exact (show False from r).elim
 | some _=>cases u with
  | none=>exact (show False from r).elim
  | some _=>rfl
theorem KV.val {kvs:List (κ × V)} {vs:List (κ × Value)} (r:KV kvs vs) (k : κ):RelO (valV kvs k) (valueAt vs k):=by
 unfold KV at r
 induction r with
 | nil=>exact True.intro
 | @cons p q ps qs h t ih =>
  obtain ⟨h1,h2⟩ := h
  by_cases e:p.1=k
  ·have e':q.1=k:=h1.symm.trans e
   have b:valueAt (q :: qs) k=some q.2:=by simp [valueAt,List.find?_cons,e']
   rw [valV_pos e,b]; exact h2
  ·have e':¬ q.1=k:=fun z=>e (h1.trans z)
   have b:valueAt (q :: qs) k=valueAt qs k:=by simp [valueAt,List.find?_cons,e']
   rw [valV_neg e,b]; exact ih
theorem KV.length {kvs:List (κ × V)} {vs:List (κ × Value)} (r:KV kvs vs):kvs.length=vs.length:=Paired.length r
end


theorem kV_is {P:Program} {w:World} {k:Key} {u:Value} (r:RelV (kV k) u):(mixKind P w).is k u=true:=by
 cases k with
 | inl i=>obtain ⟨t,e⟩ := (show ∃ t,u=Value.int i t from r); subst e; exact mixKind_int P w i t
 | inr x=>obtain ⟨t,e⟩ := (show ∃ t,u=Value.str x t from r); subst e; exact mixKind_str P w x t
theorem items_are {P:Program} {w:World}:∀ {ks:List Key} {us:List Value},Vals (ks.map kV) us->ItemsAre (mixKind P w) ks us
 | [],_,r=>by rw [List.map_nil] at r; cases r; exact .nil
 | k :: ks,_,r=>by
  rw [List.map_cons] at r
  cases r with
  | cons h t=>exact .cons (kV_is h) (items_are t)

abbrev KT (H:Hp):List (List Key × V)->List (List Key × Addr × Value)->Prop:=Paired fun p q=>p.1=q.1/\H q.2.1=some (.tup (p.1.map kV))/\RelV p.2 q.2.2
theorem KT.val {H:Hp} {kvs:List (List Key × V)} {xs:List (List Key × Addr × Value)} (r:KT H kvs xs) (k:List Key):RelO (valV kvs k) ((atKey xs k).map (·.2)):=by
 induction r with
 | nil=>exact True.intro
 | @cons p q ps qs h t ih =>
  obtain ⟨h1,_,h2⟩ := h
  by_cases e:p.1=k
  ·have e':q.1=k:=h1.symm.trans e
   have b:atKey (q :: qs) k=some q.2:=by simp [atKey,List.find?_cons,e']
   rw [valV_pos e,b]; exact h2
  ·have e':¬ q.1=k:=fun z=>e (h1.trans z)
   have b:atKey (q :: qs) k=atKey qs k:=by simp [atKey,List.find?_cons,e']
   rw [valV_neg e,b]; exact ih
section
variable {P:Program} {w:World} {H:Hp} {h:Heap} {a:Addr}
theorem rd_of {u:HO} (ok:HOk P w H h) (e:Rd H a u):ObjOk P w H h a u:=e.ok ok
theorem dk_rd {kvs:List (Key × V)} (ok:HOk P w H h) (e:Rd H a (.dK kvs)):kvs.length<=sizeLine/\(a == sysModules)=false/\∃ vs,KV kvs vs/\h.DictOf (mixKind P w) a vs :=
 show ObjOk P w H h a (.dK kvs) from rd_of ok e
theorem dk_of {kvs:List (Key × V)} (ok:HOk P w H h) (e:H a=some (.dK kvs)):kvs.length<=sizeLine/\(a == sysModules)=false/\∃ vs,KV kvs vs/\h.DictOf (mixKind P w) a vs:=dk_rd ok (.inl e)
theorem key_of {ks:List Key} (ok:HOk P w H h) (e:H a=some (.tup (ks.map kV))):(tupleKind (mixKind P w)).is h ks a:=by
 obtain ⟨_,its,r,o,h1,h2,n,h3⟩ := (show ObjOk P w H h a (.tup (ks.map kV)) from ok a _ e)
 exact ⟨o,its.toArray,n,h1,h2,h3,by simpa using items_are r⟩
theorem dt_rd {kvs:List (List Key × V)} (ok:HOk P w H h) (e:Rd H a (.dT kvs)):kvs.length<=sizeLine/\(a == sysModules)=false /\
  ∃ xs,KT H kvs xs/\h.DictOfH (tupleKind (mixKind P w)) a xs:=by
 obtain ⟨z,y,xs,r,o,es,ep,h1,h2,h3,h4,h5⟩ := (show ObjOk P w H h a (.dT kvs) from rd_of ok e)
 refine ⟨z,y,xs,r,o,es,ep,h1,h2,h3,h4,fun x hx => ?_,h5⟩
 have all:∀ {l:List (List Key × V)} {m:List (List Key × Addr × Value)},KT H l m->∀ x∈m,(tupleKind (mixKind P w)).is h x.1 x.2.1:=by
  intro l m q
  induction q with
  | nil=>intro x hx; exact nomatch hx
  | @cons p q ps qs hq t ih =>
   intro x hx
   rcases List.mem_cons.mp hx with e | hx
   ·subst e
    exact key_of ok (by rw [<- hq.1]; exact hq.2.1)
   ·exact ih x hx
 exact all r x hx
end

def DGet (H:Hp) (a:Addr) (y:V) (r:Option V):Prop :=
 (∃ kvs k,Rd H a (.dK kvs)/\y=kV k/\r=valV kvs k)\/∃ kvs k b,Rd H a (.dT kvs)/\y = .ref b/\H b=some (.tup (k.map kV))/\r=valV kvs k
theorem DGet.k {H:Hp} {a:Addr} {kvs:List (Key × V)} {k:Key} (e:H a=some (.dK kvs)):DGet H a (kV k) (valV kvs k):=.inl ⟨kvs,k,.inl e,rfl,rfl⟩
section
variable {X:Cx} {pins:List (Addr × Obj)} {σ:St} {H:Hp} {s:Shared} {a:Addr} {y v:V} {u r:Value} {o:Option V} {A:Around} {E:Value->Shared->Prop}

theorem Inv.big (I:Inv X pins σ H s):sysModules<s.heap.objs.size:=by
 have h:mainGlobals<s.heap.objs.size:=(I.mod.glob.keeps I.bk).lt
 exact Nat.lt_trans (by decide) h

theorem d_getItem {Q:Value->Shared->Prop} (hu:A.units+1<cLine) (I:Inv X pins σ H s) (g:DGet H a y (some v)) (ry:RelV y u) (h:∀ w' s',Inv X pins σ H s'->RelV v w'->Q w' s') :
  wpAny (model X.prog X.w) A (getItem (.ref a) u) Q E s:=by
 rcases g with ⟨kvs,k,e,ey,l⟩ | ⟨kvs,k,b,e,ey,eb,l⟩
 ·subst ey
  obtain ⟨z,hd,vs,rel,dd⟩ := dk_rd I.hok e
  obtain ⟨w',hw,rw'⟩ := RelO.some_of (v:=v) (o:=valueAt vs k) (by rw [l]; exact rel.val k)
  exact wpAny_getItem_of (kV_is ry) dd.mapOf hw (h w' _ (I.tok _) rw')
 ·subst ey
  cases (show u=Value.ref b from ry)
  obtain ⟨z,hd,xs,rel,dd⟩ := dt_rd I.hok e
  obtain ⟨w',hw,rw'⟩ := RelO.some_of (v:=v) (o:=(atKey xs k).map (·.2)) (by rw [l]; exact rel.val k)
  obtain ⟨p,hp,hp2⟩ := Option.map_eq_some_iff.mp hw
  refine wpAny_getItem_heap (tupleKind_room_in1 hu) (key_of I.hok eb) dd hp ?_
  rw [hp2]
  exact h w' _ (I.tok _) rw'
theorem d_notIn {Q:Value->Shared->Prop} (hu:A.units+1<cLine) (I:Inv X pins σ H s) (g:DGet H a y o) (ry:RelV y u) (h:∀ s',Inv X pins σ H s'->Q (.bool (!o.isSome)) s') :
  wpAny (model X.prog X.w) A (compareOp .NotIn u (.ref a)) Q E s:=by
 rcases g with ⟨kvs,k,e,ey,l⟩ | ⟨kvs,k,b,e,ey,eb,l⟩
 ·subst ey
  obtain ⟨z,hd,vs,rel,dd⟩ := dk_rd I.hok e
  refine wpAny_notIn_of (kV_is ry) hd dd.mapOf ?_
  rw [<- (rel.val k).isSome_eq,<- l]
  exact h _ (I.tok _)
 ·subst ey
  cases (show u=Value.ref b from ry)
  obtain ⟨z,hd,xs,rel,dd⟩ := dt_rd I.hok e
  refine wpAny_notIn_heap (tupleKind_room_in1 hu) (key_of I.hok eb) hd dd ?_
  have q:=(rel.val k).isSome_eq
  rw [Option.isSome_map] at q
  rw [<- q,<- l]
  exact h _ (I.tok _)
theorem d_write {h':Heap} {t':Nat} {ob:HO} (I:Inv X pins σ H s) (mu:Mut (H a)) (hs:Heap.SameBut a s.heap h') (he:∃ q,h'.get? a=some q) (new:ObjOk X.prog X.w (upd H a ob) h' a ob) :
  Inv X pins σ (upd H a ob) { s with heap:=h',toks:=t' } :=
 I.write (x:=a) (e:=a) mu (.inl rfl) (fun b q hb z=>(hs.2 b hb).trans z) he new
theorem dk_new {P:Program} {w:World} {H':Hp} {h':Heap} {kvs:List (Key × V)} {vs:List (Key × Value)} (z:kvs.length<=sizeLine) (hd:(a == sysModules)=false) (rel:KV kvs vs) (dd:h'.DictOf (mixKind P w) a vs) :
  ObjOk P w H' h' a (.dK kvs):=⟨z,hd,vs,rel,dd⟩
end

section
variable {X:Cx} {pins:List (Addr × Obj)} {σ:St} {H:Hp} {s:Shared} {a:Addr} {kvs:List (Key × V)} {k:Key} {u:Value} {A:Around} {E:Value->Shared->Prop}
end


def NoSl (i:Expr):Prop:=∀ ov iv,subscripted i false ov iv=operate [ov,iv] (getItem ov iv)
theorem subD_of {prog:Program} {w:World} {A:Around} {E:Value->Shared->Prop} {s:Shared} {env:Env} {value slice:Expr} {pos:Pos} {T id:String} {Q:Value->Shared->Prop}
  (hl:typeLookup (.type T) "__getitem__" = pure (some (.builtin id))) (hs:NoSl slice)
  (h:wpAny (model prog w) A (eval value env) (fun o s₁=>wpAny (model prog w) A (eval slice env) (fun i s₂=>s₂.TypeIs o T/\wpAny (model prog w) A (getItem o i) Q E s₂) E s₁) E s) :
  wpAny (model prog w) A (eval (.Subscript value slice pos) env) Q E s:=by
 refine Subscript_ (wpAny_mono h (fun o s₁ h₁=>wpAny_mono h₁ (fun i s₂ h₂ => ?_) fun _ _ x=>x) fun _ _ x=>x)
 obtain ⟨hT,h₂⟩ := h₂
 unfold subscriptTail
 refine wpAny_bind ?_
 rw [getitemInPython_of_ne hT.not_modules]
 refine wpAny_bind (wpAny_specialOf hT hl ?_)
 have fin:wpAny (model prog w) A (subscripted slice false o i) (fun r s₃=>wpAny (model prog w) A (letTemporaryGo value o r >>= fun _=>pure r) Q E s₃) E s₂:=by
  rw [hs o i]
  exact wpAny_operating (wpAny_mono h₂ (fun r s₃ h₃=>wpAny_bind (wpAny_letTemporaryGo (wpAny_pure h₃))) fun _ _ x=>x)
 first
  | exact wpAny_pure (wpAny_bind fin)
  | exact wpAny_bind (wpAny_pure (wpAny_bind fin))
  | exact wpAny_bind fin

theorem dict_typeIs {X:Cx} {pins:List (Addr × Obj)} {σ:St} {H:Hp} {s:Shared} {a:Addr} {y:V} {o:Option V} (I:Inv X pins σ H s) (g:DGet H a y o):s.TypeIs (.ref a) "dict" := by
 rcases g with ⟨kvs,k,e,_,_⟩ | ⟨kvs,k,b,e,_,_,_⟩
 ·obtain ⟨_,_,vs,_,dd⟩ := dk_rd I.hok e
  exact dd.typeIs
 ·obtain ⟨_,_,xs,_,dd⟩ := dt_rd I.hok e
  exact dd.typeIs
def tDGet (td ty:TE):TE:=fun σ H Q=>td σ H fun x H1=>ty σ H1 fun y H2=>∃ a v,x = .ref a/\DGet H2 a y (some v)/\Q v H2
def tDNotIn (ty td:TE):TE:=fun σ H Q=>ty σ H fun y H1=>td σ H1 fun x H2=>∃ a o,x = .ref a/\DGet H2 a y o/\Q (.bl (!o.isSome)) H2
section
variable {X:Cx} {o i e value:Expr} {pos pos' tpos:Pos} {td ty tv:TE}
theorem pe_dget (hu:X.A.units+1<cLine) (ho:PE X o td) (hi:PE X i ty) (hs:NoSl i):PE X (.Subscript o i pos) (tDGet td ty):=by
 refine ⟨?_⟩
 intro pins s σ H Q I h
 refine subD_of PySem.F.slot_dict_getitem.lookup hs (thn (ho pins s σ H _ I h) fun u s1 ⟨x,H1,I1,rx,q1⟩=>thn (hi pins s1 σ H1 _ I1 q1) fun iv s2 hzz => ?_)
 obtain ⟨y,H2,I2,ry,a,v,ex,g,q2⟩ := hzz
 subst ex
 obtain rfl:u=Value.ref a:=rx
 exact ⟨dict_typeIs I2 g,d_getItem hu I2 g ry fun w' s3 I3 rw'=>⟨v,H2,I3,rw',q2⟩⟩
theorem pc_dnotin (hu:X.A.units+1<cLine) (hi:PE X i ty) (ho:PE X o td):PC X .NotIn i o (tDNotIn ty td):=by
 refine ⟨?_⟩
 intro pins s σ H Q I h
 refine thn (hi pins s σ H _ I h) fun iv s1 ⟨y,H1,I1,ry,q1⟩=>thn (ho pins s1 σ H1 _ I1 q1) fun u s2 hzz => ?_
 obtain ⟨x,H2,I2,rx,a,ov,ex,g,q2⟩ := hzz
 subst ex
 obtain rfl:u=Value.ref a:=rx
 exact d_notIn hu I2 g ry fun s3 I3=>⟨.bl (!ov.isSome),H2,I3,rfl,q2⟩
end


theorem dk_empty {P:Program} {w:World} {H:Hp} (h:Heap) (hb:sysModules<h.objs.size):ObjOk P w H (h.push { cls:=.type "dict",data:=.dict #[] }) h.objs.size (.dK []) :=
 ⟨Nat.zero_le _,beq_eq_false_iff_ne.mpr (Ne.symm (Nat.ne_of_lt hb)),[],.nil,Heap.DictOf.new h⟩
def tDNewK:TE:=fun _ H Q=>∀ p,H p=none->Q (.ref p) (upd H p (.dK []))
section
variable {X:Cx} {pos:Pos}
theorem pe_dnewK:PE X (.Dict [] [] pos) tDNewK:=⟨fun pins s σ H Q I h =>
 wpAny_Dict_empty ⟨.ref s.heap.objs.size,_,I.laid (a:=s.heap.objs.size) (o:=.dK []) (t':=s.toks) (fun _ _ q=>Heap.get?_push_of_some _ q) (Nat.le_refl _) (dk_empty s.heap I.big),rfl,h _ (I.hok.fresh (Nat.le_refl _))⟩⟩
end

structure M2 (X:Cx) (o:Expr) (m:Str) (apos:Pos) (e f:Expr) (cpos:Pos):Prop where
 base:attributeBase o m X.env (eval o X.env)=eval o X.env
 few:((backTo cpos (starEach [e,f] X.env)).all (fun x => !x.1) && (backToKw cpos (keywordEach [] X.env)).all (fun x=>x.1.isSome)
  && decide (([e,f]:List Expr).length+([]:List Keyword).length+(if ([]:List Keyword).isEmpty then 0 else 1)<30))=true
 line:(apos.endLine == cpos.line)=true
 trees:backTo cpos (starEach [e,f] X.env)=[(false,eval e X.env),(false,eval f X.env)]

def IsD (H:Hp) (a:Addr):Prop:=(∃ kvs,Rd H a (.dK kvs))\/∃ kvs,Rd H a (.dT kvs)
theorem isD_at {X:Cx} {pins:List (Addr × Obj)} {σ:St} {H:Hp} {s:Shared} {a:Addr} (I:Inv X pins σ H s) (d:IsD H a) :
  s.TypeIs (.ref a) "dict" /\ (∀ b,Value.ref a = .ref b->∃ ob,s.heap.get? b=some ob/\ob.dict=none)/\(a == sysModules)=false:=by
 rcases d with ⟨kvs,e⟩ | ⟨kvs,e⟩
 ·obtain ⟨_,hd,vs,_,dd⟩ := dk_rd I.hok e
  refine ⟨dd.typeIs,fun b q => ?_,hd⟩
  cases q
  obtain ⟨ob,_,_,h1,h2,_⟩ := dd
  exact ⟨ob,h1,h2.2.1⟩
 ·obtain ⟨_,hd,xs,_,dd⟩ := dt_rd I.hok e
  refine ⟨dd.typeIs,fun b q => ?_,hd⟩
  cases q
  obtain ⟨ob,_,_,h1,h2,_⟩ := dd
  exact ⟨ob,h1,h2.2.1⟩

section
variable {X:Cx} {pins:List (Addr × Obj)} {σ:St} {H:Hp} {s:Shared} {a:Addr} {y d:V} {u r:Value} {o:Option V} {A:Around} {E:Value->Shared->Prop}
end

section
variable {X:Cx} {o e f:Expr} {apos cpos:Pos} {td ty tx:TE}
end

section
variable {X:Cx} {pins:List (Addr × Obj)} {σ:St} {H:Hp} {s:Shared} {a:Addr} {kvs:List (Key × V)} {A:Around} {E:Value->Shared->Prop}
end


section
variable {X:Cx} {pins:List (Addr × Obj)} {σ:St} {H:Hp} {s:Shared} {a:Addr} {y:V} {u:Value} {A:Around} {E:Value->Shared->Prop}
end
end L2
namespace L2
open PySem PySem.Spec PyProof.Rows
section
variable {X:Cx}
end
end L2

namespace L2
open PySem PySem.Spec PyProof.Rows
section
variable {X:Cx}
end
theorem inV_ints (k:Int):∀ ns:List Int,inV (.int k) (ns.map V.int)=decide (k∈ns)
 | []=>rfl
 | n :: r=>by
  have ih:=inV_ints k r
  unfold inV at ih ⊢
  rw [List.map_cons,List.any_cons,ih]
  by_cases h:n=k
  ·subst h; simp [eqV]
  ·have h2:¬ k=n:=fun z=>h z.symm
   simp [eqV,h,h2]
theorem vt {a b:Int} (c:decide (V.int a=V.int b)=true):a=b:=by
 have:=of_decide_eq_true c
 injection this
theorem vf {a b:Int} (c:¬ decide (V.int a=V.int b)=true):a≠b:=fun e=>c (decide_eq_true (by rw [e]))
theorem df {c:Prop} [Decidable c] (h:¬ decide c=true):¬ c:=of_decide_eq_false (Bool.eq_false_iff.mpr h)
end L2

namespace L2
open PySem PySem.Spec PyProof.Rows
def KeepL (as:List Addr) (H H':Hp):Prop:=∀ b o,b ∉ as->H b=some o->H' b=some o
theorem KeepL.same {as:List Addr} {H H':Hp} (h:Same H H'):KeepL as H H':=fun b o _ e=>h b o e
theorem KeepL.refl (as:List Addr) (H:Hp):KeepL as H H:=fun _ _ _ e=>e
theorem KeepL.trans {as:List Addr} {H H1 H2:Hp} (a:KeepL as H H1) (b:KeepL as H1 H2):KeepL as H H2:=fun c o n e=>b c o n (a c o n e)
theorem KeepL.upd {as:List Addr} {H:Hp} {a:Addr} {o:HO} (h:a∈as):KeepL as H (upd H a o):=fun c u n e=>by
 have z:c≠a:=fun z=>n (by rw [z]; exact h)
 rw [zH z]; exact e
theorem kX {α:Type} {xs:List α} {k:Int} {v : α} (h0 : 0<=k) (h:xs[k.toNat]? = some v):atI xs k=some v:=by
 have:=qB h
 rwa [show ((k.toNat:Nat):Int)=k by (first|lia|omega)] at this
end L2

namespace L2
open PySem
abbrev Hds:=List (Int × Int)
inductive Nd where
 | mk (kind:Int) (place:Nat) (own:List Int) (parts:List Nd)
def LookO (CL dx a:Addr) (p:Nat):HO:=.ins CL dx [("numbers",.ref a),("place",.int p)]
def Tups (H H':Hp):Prop:=∀ b xs,H b=some (.tup xs)->H' b=some (.tup xs)
def Fails (CN lk:Addr) (H:Hp) (E:XK) (p:Nat) (w:Str):Prop:=∀ d H',Keep lk H H'->H' d=some (XdO d [("place",.int p),("word",.str w)])->E (.ref CN) (some d) H'
def Looks (CL:Addr) (H:Hp) (lk dx a:Addr) (p:Nat) (ns:List Int):Prop:=H lk=some (LookO CL dx a p)/\H a=some (.lst (ns.map V.int))
def spInitX (C:Addr):Sp:=fun vs H Q _=>∃ x y z,vs=[.ref x,y,z]/\H x=some (ExN x C none) /\
 ∀ d H',d≠x->H d=none->(∀ b o,b≠x->H b=some o->H' b=some o)->H' x=some (ExN x C (some d))->H' d=some (XdO d [("place",y),("word",z)])->Q .non H'
theorem raised {C lk:Addr} {H H1:Hp} {E E':XK} {p:Nat} {w:Str} (f:Fails C lk H E p w) (k:Keep lk H H1):∀ x,H1 x=none ->
  spInitX C [.ref x,.int (p:Int),.str w] (upd H1 x (ExN x C none)) (fun v H2=>v = .non/\∃ d,H2 x=some (ExN x C (some d))/\E (.ref C) (some d) (upd H2 x (ExO x C (some d)))) E':=by
 intro x hx
 refine ⟨x,_,_,rfl,zC,fun d H' dx hd kp ex ed=>⟨rfl,d,ex,f d _ (fun b o nb e => ?_) ?_⟩⟩
 ·have e1:=k b o nb e
  have nx:b≠x:=zG e1 hx
  rw [zH nx]
  exact kp b o nx (by rw [zH nx]; exact e1)
 ·rw [zH dx]; exact ed
end L2

namespace L2
open PySem
def Sub (ns:List Int):Nat->List Int->Prop
 | _,[]=>True
 | p,z :: zs=>ns[p]? = some z/\Sub ns (p+1) zs
def flat:Hds->List Int
 | []=>[]
 | h :: r=>h.1 :: h.2 :: flat r
theorem divB {j:Int} (h0 : 0<j) (h1:j<2 ^ 256):CDivB i j:=by
 refine ⟨h0,?_⟩
 have:j.natAbs.log2<256:=(Nat.log2_lt (by (first|lia|omega))).mpr (by (first|lia|omega))
 (first|lia|omega)
def CW (n:Nat) (Pv:Nat->St->Hp->Prop) (i m:Nat) (σ:St) (H:Hp):Prop:=i<=n/\m=n - i/\Pv i σ H
theorem CW.next {n:Nat} {Pv:Nat->St->Hp->Prop} {i:Nat} {σ:St} {H:Hp} (hi:i<n) (h:Pv (i+1) σ H):∃ m',m'<n - i/\CW n Pv (i+1) m' σ H:=⟨n - (i+1),by (first|lia|omega),by (first|lia|omega),rfl,h⟩
theorem comp_tup {K:PySem.W.Frag} {a p:Addr} {xs:List V} {g:TG} {tt:TT} {te:TE} {R:Hp->Prop} {σ0:St} {H0:Hp} (Pv:Nat->St->Hp->Prop) (h0:Pv 0 σ0 H0) (hl:∀ i σ H,i<=xs.length->Pv i σ H->SqT K H a xs)
  (hs:∀ i x σ H,i<xs.length->xs[i]? = some x->Pv i σ H->g x σ H fun σ3 H3=>tt σ3 H3 fun b H4 =>
   if b=true then te σ3 H4 fun v H5=>∃ ys,H5 p=some (.lst ys)/\ys.length<sizeLine/\∃ m',m'<xs.length - i/\CW xs.length Pv (i+1) m' σ3 (upd H5 p (.lst (ys++[v])))
   else ∃ m',m'<xs.length - i/\CW xs.length Pv (i+1) m' σ3 H4)
  (hd:∀ σ H,Pv xs.length σ H->R H):CompGo (Itt K a) p σ0 H0 g tt te R:=by
 refine ⟨CW xs.length Pv,⟨_,Nat.zero_le _,rfl,h0⟩,fun i m σ' H' w => ?_⟩
 obtain ⟨hi,rfl,hp⟩ := w
 have q:=hl i σ' H' hi hp
 by_cases hlt:i<xs.length
 ·refine .inr ⟨⟨xs,xs[i],q,by simp [hlt]⟩,fun x H2 y => ?_⟩
  obtain ⟨e,y⟩ := y
  subst e
  exact hs i x σ' _ hlt (y xs q) hp
 ·have e:i=xs.length:=by (first|lia|omega)
  subst e
  exact .inl ⟨⟨xs,q,Nat.le_refl _⟩,hd σ' H' hp⟩
theorem comp_lst {K:PySem.W.Frag} {a p:Addr} {xs:List V} {g:TG} {tt:TT} {te:TE} {R:Hp->Prop} {σ0:St} {H0:Hp} (Pv:Nat->St->Hp->Prop) (h0:Pv 0 σ0 H0) (hl:∀ i σ H,i<=xs.length->Pv i σ H->SqL K H a xs)
  (hs:∀ i x σ H,i<xs.length->xs[i]? = some x->Pv i σ H->g x σ H fun σ3 H3=>tt σ3 H3 fun b H4 =>
   if b=true then te σ3 H4 fun v H5=>∃ ys,H5 p=some (.lst ys)/\ys.length<sizeLine/\∃ m',m'<xs.length - i/\CW xs.length Pv (i+1) m' σ3 (upd H5 p (.lst (ys++[v])))
   else ∃ m',m'<xs.length - i/\CW xs.length Pv (i+1) m' σ3 H4)
  (hd:∀ σ H,Pv xs.length σ H->R H):CompGo (Itl K a) p σ0 H0 g tt te R:=by
 refine ⟨CW xs.length Pv,⟨_,Nat.zero_le _,rfl,h0⟩,fun i m σ' H' w => ?_⟩
 obtain ⟨hi,rfl,hp⟩ := w
 have q:=hl i σ' H' hi hp
 by_cases hlt:i<xs.length
 ·refine .inr ⟨⟨xs,xs[i],q,by simp [hlt]⟩,fun x H2 y => ?_⟩
  obtain ⟨e,y⟩ := y
  subst e
  exact hs i x σ' _ hlt (y xs q) hp
 ·have e:i=xs.length:=by (first|lia|omega)
  subst e
  exact .inl ⟨⟨xs,q,Nat.le_refl _⟩,hd σ' H' hp⟩
end L2

namespace L2
open PySem PySem.Spec PyProof.Rows PySem.W
theorem ns_ok {K:Frag} {N:Addr} {c:Value} {d:Option Addr} {es:Array DictEntry} {n:Nat} {sl:Array (Option Value)} (h:K.lookup N=some ⟨c,d,.dict es n,sl⟩) (q:(es.toList.all fun e=>match e.key with | .str _ _=>true | _=>false)=true):nsOkIn K N=true:=by
 unfold nsOkIn
 rw [h]
 rw [Array.all_toList] at q
 exact q
theorem exc_tail {K:Frag} {CE nsC:Addr} {c:Value} {dd:Option Addr} {cd:ClassData} {sl:Array (Option Value)} (h:K.lookup CE=some ⟨c,dd,.cls cd,sl⟩) (hn:cd.ns=nsC) (ok:nsOkIn K nsC=true) (ni:nsIn K nsC "__init__" = some none) (h':Heap) (X:K.In h'):OwnTail h' bmValue (.ref CE :: bmValue):=by
 subst hn
 exact .own (X _ _ h) (.of_isNs (isNs_of_in X ok)) (nsMap_none_of_in X ok ni) .base
theorem exc_cd {K:Frag} {C CE N:Addr} {nm q:Str} {bs:List Value} {sn:List Str} {sub:List Value} {ab:Bool} {col:Option Bool} {dd:Option Addr} {k0 k1 k2 k3 k5:Option Value} {newId:String} (h:K.lookup C=some (excClassObj nm q C N bs (.ref CE :: bmValue) true sn sub ab col dd k0 k1 k2 k3 k5 newId)) :
  ∃ cd,clsIn K C=some cd/\cd.hasDict=true/\∀ self,refuseLoop self "__setattr__" cd.mro=pure ():=by
 refine ⟨_,by unfold clsIn; rw [h],rfl,fun self => ?_⟩
 show refuseLoop self "__setattr__" (.ref C :: .ref CE :: bmValue)=_
 rw [refuseLoop_ref,refuseLoop_ref]
 exact F.store_ValueError.passes self
theorem yG {CX:CXT} {P:Program} {w:World} {K:PySem.W.Frag} {mg:Str->Option Value} {base:Heap} {N:List Str} {qual:Str} {scope:Scope} {f:Addr} {cd:Value} {A:Around} {outer:List Env} {s:Shared} {H:Hp} {E:XK} :
  (cxOf CX P w K mg base N qual scope f cd A outer s H E).K=K:=rfl
end L2

namespace L2
open PySem PySem.Spec PyProof.Rows
def FlyS (X:Cx) (E:St->XK):Value->Shared->Prop:=fun e s1=>∃ x C d pins σ H,e = .ref x/\Inv X pins σ H s1/\H x=some (ExO x C d)/\Tb X pins H x s1.heap/\E σ (.ref C) d H
abbrev Cx.excS (X:Cx) (E:St->XK):Cx:=X.wish (FlyS X E)
def tCallS (sp:Sp) (E:St->XK) (t:TA):TE:=fun σ H Q=>t σ H fun vs H1=>sp vs H1 Q (E σ)
section
variable {X:Cx}
theorem cxe_flyS {E:St->XK} {pins:List (Addr × Obj)} {σ:St} {H:Hp} {s s':Shared} {e:Value} (I:Inv X pins σ H s) (h:CXE X.prog X.w X.stack H s (E σ) e s'):FlyS X E e s':=by
 obtain ⟨x,C,d,H',rfl,ho,hg,u,hok,hx,⟨oe,vs,T,oT,ts,ge,hd,h1,hTx,hT,lo,gT,dT,h3⟩,q⟩ := h
 have I':Inv X pins σ H' s':=I.call' (ch:=[]) ho u hok hg fun b z=>(nomatch z)
 refine ⟨x,C,d,pins,σ,H',rfl,I',hx,⟨oe,vs,ge,hd,.inr ⟨T,oT,ts,.none,h1,hTx,⟨hT,Nat.le_trans I.sz lo,Nat.ne_of_gt (Nat.lt_of_lt_of_le I.lt lo),fun p hp z => ?_⟩,gT,dT,h3,.inl rfl⟩⟩,q⟩
 have:=Heap.lt_size (I.pin p hp).1
 rw [z] at this
 exact absurd (Nat.lt_of_lt_of_le this lo) (Nat.lt_irrefl _)
theorem pe_callS {x:Str} {p pos:Pos} {e:Expr} {es:List Expr} {t:TA} {k n:Nat} {ps:List Str} {sp:Sp} {E:St->XK} (C:Cal X.prog X.w X.K X.mg X.base (CXE X.prog X.w) k x ps sp) (hr:Room n X.A) (hg:Gl (X.excS E) x) (ha:PA (X.excS E) (e :: es) t) (hk:k<=n:=by first | decide | (first|lia|omega))
  (hdb:(x == ("__debug__" : Str))=false:=by decide) (he:starEach (e :: es) X.env=(false,eval e X.env) :: starEach es X.env:=by rfl) (hpl:(backTo pos (starEach es X.env)).any (·.1)=false:=by rfl) :
  PE (X.excS E) (.Call (.Name x p) (e :: es) [] pos) (tCallS sp E t):=by
 obtain ⟨f,fd,F,hm,kp,hb⟩ := C.ex
 refine ⟨?_⟩
 intro pins s σ H Q I h
 refine wpAny_Call_Name_kw (vB I hg hm ?_ hdb)
 refine PySem.W.callWith_K (h₀:=X.base) I.ok.mod.kin kp (thn (ha pos pins s σ H _ I h) fun us s1 ⟨vs,H1,I1,r,q⟩=>⟨I1.kIn,?_⟩) he hpl
 have hl:us.length=ps.length:=by rw [<- r.length]; exact F.len _ _ _ _ q
 have hb':=hb s1 us I1.kIn (by rw [List.append_nil]; exact hl)
 rw [List.append_nil] at hb'
 refine wpAny_call (codeAny_mono (F.run X.A X.stack s1 H1 ⟨us,[]⟩ us vs Q (E σ) (hr.mono hk) I1.unwish.env0 hb' r q) fun rr s' hq => ?_)
 cases rr with
 | error e=>exact cxe_flyS I1.unwish hq
 | ok fl =>
  cases fl with
  | ret u=>exact I1.after hq
  | next=>exact False.elim hq
  | brk=>exact False.elim hq
  | cont=>exact False.elim hq
def tTryS (K:PySem.W.Frag) (N i:Nat) (CE:Addr) (tb:(St->XK)->TS) (th:TS):TS:=fun D σ H =>
 tb (fun σ1 cls dx H1=>∃ C d,cls = .ref C/\dx=some d/\Mch K C CE/\∀ (x:Addr),H1 x=some (ExO x C (some d))->th (behind D i) (σ1.set i (some (.ref x))) H1) D σ H
theorem ps_tryS {body suite:List Stmt} {b0:Stmt} {x n:Str} {i:Nat} {CE:Addr} {tb:(St->XK)->TS} {th:TS} {np hpos pos:Pos} (hN:X.N.Nodup) (hi:X.N[i]? = some n) (hl:X.env.scope.names.lookup n=some .local) (hg:Gl X x) (hm:X.mg x=some (.ref CE))
  (hb:∀ pn E',PSs ((X.pinned pn).excS E') body (tb E')) (hh:∀ v,PSs (X.mark v) (b0 :: suite) th)
  (hst:X.stack=X.env :: X.outer:=by rfl) (hfr:X.env.frame=some X.env.locals:=by rfl) (hdb:(x == ("__debug__" : Str))=false:=by decide) :
  PS X (.Try body [.ExceptHandler (some (.Name x np)) (some n) (b0 :: suite) hpos] [] [] pos) (tTryS X.K X.N.length i CE tb th):=by
 refine ⟨?_⟩
 intro pins s σ H D I h
 refine wpAny_Try_except ?_
 refine wpAny_mono (hb (X.pn++pins) _ [] s σ H D (I.topin.wish _) h) (fun f s1 h1 => ?_) fun e s1 h1 => ?_
 ·cases f with
  | next=>obtain ⟨σ1,H1,I1,q⟩ := h1; exact wpAny_execs_nil ⟨σ1,H1,I1.unwish.unpin,q⟩
  | brk=>obtain ⟨σ1,H1,I1,q⟩ := h1; exact ⟨σ1,H1,I1.unwish.unpin,q⟩
  | cont=>obtain ⟨σ1,H1,I1,q⟩ := h1; exact ⟨σ1,H1,I1.unwish.unpin,q⟩
  | ret u=>obtain ⟨v,σ1,H1,I1,r,q⟩ := h1; exact ⟨v,σ1,H1,I1.unwish.unpin,r,q⟩
 ·obtain ⟨y,C0,d0,pins1,σ1,H1,rfl,I1,hy,tb1,C,d,ec,ed,mc,q⟩ := h1
  cases ec
  cases ed
  refine fly_note (X:=X.pinned (X.pn++pins)) I1 hst hfr I1.ok.frames hy tb1 fun s2 I2 t2=>fly_set (to:=none) I2 hy t2 fun s3 I3 t3 => ?_
  obtain ⟨oe,vs,ge,hcl,hdi,hda,hz⟩ := ExO.get I3.hok hy
  have J3:Inv X pins σ1 H1 s3:=I3.unpin
  refine wpAny_handleBy_cons (codeAny_handlers_test ?_) (by intro z; cases z)
  refine vB (X:=X.mark (.ref y)) (J3.mark _) hg hm ?_ hdb
  refine exc_matches J3.kIn mc ge hcl ?_
  refine codeAny_handlers_suite_as ?_
  refine fly_set (X:=(X.pinned (X.pn++pins))) (to:=none) I3 hy t3 fun s4 I4 t4 => ?_
  have J4:Inv X pins σ1 H1 s4:=I4.unpin
  refine store_ok (X:=X.mark (.ref y)) (J4.mark _) hN hi (.inl hl) (v:=.ref y) rfl (fun s5 I5 => ?_) (.inr hl)
  refine wpAny_mono (hh (.ref y) pins s5 _ H1 (behind D i) I5 (q y hy)) (fun f s6 h6 => ?_) fun _ _ z=>z.elim
  have go:∀ {σ6:St} {H6:Hp} {P:Flow->Shared->Prop},Inv (X.mark (.ref y)) pins σ6 H6 s6->(∀ s7,Inv X pins (σ6.set i none) H6 s7->P f s7)->wpAny (model X.prog X.w) X.A (do bindName X.env n .none; unbindBehindTheSuite X.env n hpos) (fun _ s7=>P f s7) X.xe s6 :=
   fun {σ6 H6 P} I6 k=>name_gone (Inv.unmark I.ok.hd I6) hN hi hl k
  cases f with
  | next=>obtain ⟨σ6,H6,I6,q6⟩ := h6; exact go (P:=SP X pins D) I6 fun s7 I7=>⟨_,H6,I7,q6⟩
  | brk=>obtain ⟨σ6,H6,I6,q6⟩ := h6; exact go (P:=SP X pins D) I6 fun s7 I7=>⟨_,H6,I7,q6⟩
  | cont=>obtain ⟨σ6,H6,I6,q6⟩ := h6; exact go (P:=SP X pins D) I6 fun s7 I7=>⟨_,H6,I7,q6⟩
  | ret u=>obtain ⟨v,σ6,H6,I6,r,q6⟩ := h6; exact go (P:=SP X pins D) I6 fun s7 I7=>⟨v,_,H6,I7,r,q6⟩
end
end L2

namespace L2
open PySem PySem.W PySem.Spec PySem.Calls PyProof.Rows
section
variable {prog:Program} {w:World} {A:Around} {E:Value->Shared->Prop} {K:Frag} {C:Addr} {s:Shared} {x:Addr} {ox:Obj} {od:Option Obj}
theorem exc_class {Q:Option Value->Shared->Prop} (X:K.In s.heap) (I:InstAt s.heap x ox C od) (Ec:ExCls K C) (ha:findIn K (.ref C) "__class__" = some (some (.builtin "object.__class__")))
  (hn:specialIn K (.builtin "object.__class__") "__get__" = some (some (.builtin "getset_descriptor.__get__"))) (htk:takesIn K (.builtin "object.__class__")=some true)
  (hq:Q (some (.ref C)) { s with toks:=s.toks+1 }):wpAny (model prog w) A (getAttr? (.ref x) "__class__") Q E s:=by
 have hf:findObj K C od "__class__" = some (.bind (.builtin "getset_descriptor.__get__") (.builtin "object.__class__")):=by
  obtain ⟨cd,hcd,_⟩ := Ec.cd
  simp [findObj,hcd,ha,hn,htk]
 obtain ⟨h,g,d,t,os⟩ := s
 have L0:=I.type (M:=model prog w)
 have L1:=looks_findIn (M:=model prog w) X Ec.ga
 have L2':=looks_findIn (M:=model prog w) X Ec.noHook
 have L3:=looks_find (M:=model prog w) X I hf
 have Lb:PySem.W.Looks (model prog w) h (isInstance (.ref x) (.type "BaseException")) true:=L0.andThen (looks_mroIn X Ec.base)
 have f3:=F.excAttr_ValueError.ga.bind (.ref x)
 have hk:builtinKind "BaseException.__getattribute__" = some .slot:=by decide +kernel
 have hsplit:splitId "BaseException.__getattribute__" = some ("BaseException", "__getattribute__"):=by decide +kernel
 unfold getAttr? getAttrBy? getAttrBy
 refine wpAny_bind (wpAny_mkText (wpAny_bind (wpAny_attempt (wpAny_holding (wpAny_bind (L0.at (wpAny_bind (L1.at ?_))))))))
 show wpAny _ _ (getAttrByItsOwn _ _ _ _ _ _) _ _ _
 unfold getAttrByItsOwn
 refine wpAny_bind (L2'.at (wpAny_bind (wpAny_attempt (wpAny_holding ?_))))
 unfold callGetattribute
 have hx0:(false && onTheHeap (Value.builtin "BaseException.__getattribute__"))=false:=rfl
 rw [hx0]
 unfold boundAndCalled
 show wpAny _ _ (bindSpecial _ _ >>= _) _ _ _
 rw [f3]
 refine wpAny_bind (wpAny_pure (wpAny_call (codeAny_call_builtin F.excAttr_ValueError.ga.plain F.entry_bexc_ga (@check_slot (model prog w) _ _ _ "BaseException.__getattribute__" "BaseException" "__getattribute__" (.ref x) [.str "__class__" t] [] _ hk hsplit Lb (F.args_bexc_ga _ _) ?_))))
 refine wpAny_bind (wpAny_pure (wpAny_bind (wpAny_pure (wpAny_bind (L0.at (wpAny_bind (L3.at ?_)))))))
 show wpAny _ _ (Builtin.ObjectAttr.bindTo (Value.builtin "getset_descriptor.__get__") (Value.builtin "object.__class__") (Value.ref x) (Value.ref C)) _ _ _
 show wpAny _ _ (holding [Value.builtin "object.__class__"] (call (Value.builtin "getset_descriptor.__get__") [Value.builtin "object.__class__",Value.ref x,Value.ref C]) >>= ret) _ _ _
 refine wpAny_bind (wpAny_holding (wpAny_call (class_get X I Ec.obj ?_)))
 refine wpAny_pure ?_
 show wpAny _ _ (handedOut (Value.ref C)) _ _ _
 rw [handedOut_of (v:=Value.ref C) rfl]
 exact wpAny_pure (wpAny_pure hq)
theorem kitx_exc (Ec:ExCls K C) (ha:findIn K (.ref C) "__class__" = some (some (.builtin "object.__class__")))
  (hn:specialIn K (.builtin "object.__class__") "__get__" = some (some (.builtin "getset_descriptor.__get__"))) (htk:takesIn K (.builtin "object.__class__")=some true):KitX K (.ref x) (.ref C) (fun h=>InstAt h x ox C od) where
 ty:=fun _ _ _ I=>I.type
 it:=fun _ _ X _=>by
  obtain ⟨cdD,hcD,_⟩ := Ec.cd
  unfold clsIn at hcD
  split at hcD
  ·rename_i c' d' cd' sl' ho
   intro A' Q' E' s' k q
   unfold isType loadHead
   exact wpAny_bind (wpAny_loadPart (k _ _ (X _ _ ho)) (wpAny_pure q))
  ·cases hcD
 ne:=fun h tp dd its n sl X htp=>by
  obtain ⟨cdD,hcD,_⟩ := Ec.cd
  refine Bool.eq_false_iff.mpr fun q => ?_
  have e:C=tp:=Value.ref.inj (beq_iff_eq.mp q)
  subst e
  unfold clsIn at hcD
  split at hcD
  ·rename_i c' d' cd' sl' ho
   have z:=(X _ _ ho).symm.trans htp
   cases z
  ·cases hcD
 ca:=fun X I k=>exc_class X I Ec ha hn htk k
end
structure IsCls (K:Frag) (C:Addr):Prop where
 ha:findIn K (.ref C) "__class__" = some (some (.builtin "object.__class__"))
 hn:specialIn K (.builtin "object.__class__") "__get__" = some (some (.builtin "getset_descriptor.__get__"))
 htk:takesIn K (.builtin "object.__class__")=some true
def rIsX (K:Frag):List V->Hp->VK->Prop:=fun xs H Q=>∃ x C dx fs b,H x=some (ExO x C (some dx))/\H dx=some (XdO dx fs)/\ExCls K C/\IsCls K C /\
 ((∃ n,xs=[.ref x,.ty n]/\kitOne K (.ref C) (.type n)=some b)\/∃ D,xs=[.ref x,.ref D]/\kitOne K (.ref C) (.ref D)=some b)/\Q (.bl b) H
theorem call_isX {X:Cx}:CallR X (.builtin "isinstance") (rIsX X.K):=by
 intro pins s σ H xs us Q I r h
 obtain ⟨x,C,dx,fs,b,hx,hd,Ec,Ic,hxs,q⟩ := h
 obtain ⟨ox,vs,ge,hcl,hdi,hda,_⟩ := ExO.get I.hok hx
 obtain ⟨mA,n,_,_⟩ := XdO.get I.hok hd
 obtain ⟨od,hod,hl⟩ := wO n
 have J:InstAt s.heap x ox C (some od):=⟨ge,hcl,by unfold notCls; rw [hda],by rw [hdi]; exact hod⟩
 rcases hxs with ⟨n,rfl,e⟩ | ⟨D,rfl,e⟩
 ·obtain ⟨u,w',rfl,ru,rw'⟩ := vals2 r
  cases ru; cases rw'
  exact kia_one (kitx_exc Ec Ic.ha Ic.hn Ic.htk) I.kIn J e (fun z=>nomatch z) fun tk=>⟨.bl b,H,I.tok tk,rfl,q⟩
 ·obtain ⟨u,w',rfl,ru,rw'⟩ := vals2 r
  cases ru; cases rw'
  exact kia_one (kitx_exc Ec Ic.ha Ic.hn Ic.htk) I.kIn J e (fun z=>nomatch z) fun tk=>⟨.bl b,H,I.tok tk,rfl,q⟩
theorem kit_ref {K:Frag} {C D:Addr} {b:Bool} (h:subIn K (.ref C) (.ref D)=some b) (ty:typeIn K (.ref D)=some (.type "type")) (cl:(clsIn K D).isSome=true) (self:subIn K (.ref C) (.ref C)=some true):kitOne K (.ref C) (.ref D)=some b:=by
 unfold kitOne
 by_cases e:(Value.ref C == Value.ref D)=true
 ·rw [if_pos e]
  have e2:C=D:=Value.ref.inj (beq_iff_eq.mp e)
  subst e2
  rw [self] at h
  exact h
 ·rw [if_neg e]
  unfold kitCls
  simp only [cl,ty,beq_self_eq_true,Bool.and_self,if_true]
  exact h
end L2

namespace L2
open PySem PySem.Spec PyProof.Rows
namespace Rv
theorem owner:Manifest.owners.lookup (String.ofList ['d','e','s','r','e','v','e','r'].reverse)=some Manifest.sig_reversed:=by kernel_rfl
theorem slot_init:Slot "reversed" "__init__" "object.__init__" :=
 .of (owner := "object") (n := "__init__") (by rw [typeLookup_type,builtinLookup_eq_fast]; kernel_rfl) (by decide +kernel) (by decide +kernel) (by decide +kernel)
  (by first | exact .inl (by decide +kernel) | exact .inr (by decide +kernel)) (by rw [isSubtype_type]; kernel_rfl)
theorem called:TypeCalled "reversed" "reversed.__new__" "object.__init__" :=
 ⟨by decide +kernel,by decide +kernel,⟨_,_,F.mro_reversed⟩,F.made_reversed,by decide +kernel,by rw [isSubtype_type]; kernel_rfl,slot_init⟩
end Rv
end L2

namespace L2
open PySem PySem.Spec PyProof.Rows
section
variable {prog:Program} {w:World} {A:Around} {E:Value->Shared->Prop} {s:Shared}
end
end L2

namespace L2
open PySem
mutual
def pre:Nd->List Nd
 | .mk k p own ps => .mk k p own ps :: preL ps
def preL:List Nd->List Nd
 | []=>[]
 | a :: r=>pre a++preL r
end
theorem Paired.append {α β:Type} {F : α->β->Prop}:∀ {xs zs:List α} {ys ws:List β},Paired F xs ys->Paired F zs ws->Paired F (xs++zs) (ys++ws)
 | _,_,_,_,.nil,q=>q
 | _,_,_,_,.cons r t,q => .cons r (Paired.append t q)
theorem Paired.rev {α β:Type} {F : α->β->Prop}:∀ {xs:List α} {ys:List β},Paired F xs ys->Paired F xs.reverse ys.reverse
 | _,_,.nil => .nil
 | _,_,.cons r t=>by
  rw [List.reverse_cons,List.reverse_cons]
  exact Paired.append (Paired.rev t) (.cons r .nil)
theorem Paired.take {α β:Type} {F : α->β->Prop}:∀ {xs:List α} {ys:List β} (n:Nat),Paired F xs ys->Paired F (xs.take n) (ys.take n)
 | _,_,0,_=>by simp; exact .nil
 | _,_,n+1,.nil=>by simp; exact .nil
 | _,_,n+1,.cons r t=>by rw [List.take_succ_cons,List.take_succ_cons]; exact .cons r (Paired.take n t)
section
open PySem.Spec PyProof.Rows
variable {X:Cx} {e:Expr} {st:Option Expr} {te:TE} {ts:TO} {p2 pos:Pos}
end
theorem pg_tupK {X:Cx} {pos:Pos} {es:List Expr} {k:Nat} {t:TGs} {n:Nat} (K:PySem.W.Frag) (hK:X.K=K) (hc:X.calm=true) (h:PGs X es t) (hn:(assignEach es X.env).length=n:=by rfl) (hst:(assignEach es X.env).findIdx? (·.1)=none:=by rfl):PG X (.Tuple es k pos) (gTup K n t):=by
 subst hK
 exact qU hc h hn hst
end L2

namespace L2
open PySem
end L2

namespace L2
open PySem PySem.Spec PyProof.Rows
theorem rangeSize_down (a b:Int):Builtin.Range.rangeSize a b (-1)=(((a - b).toNat:Nat):Int):=by
 unfold Builtin.Range.rangeSize
 rw [if_neg (by decide)]
 by_cases c:a > b
 ·rw [if_pos c]
  have:(- (-1:Int))=1:=by decide
  rw [this,Int.ediv_one]
  (first|lia|omega)
 ·rw [if_neg c]; (first|lia|omega)
theorem small_down {a b:Int} (ha : -(2 ^ 62)<=a) (ha':a<2 ^ 62) (hb : -(2 ^ 62)<=b) (hb':b<2 ^ 62):Builtin.Range.small a b (-1)=true:=by
 unfold Builtin.Range.small
 rw [rangeSize_down]
 simp only [Builtin.Range.rangeFitsLong,Bool.and_eq_true,Bool.or_eq_true,decide_eq_true_eq,beq_iff_eq,show ¬ ((-1:Int) > 0) by decide,if_false]
 (first|lia|omega)
def Itd (lo:Int) (n:Nat):It:=⟨fun i _=>i<n,fun i H x H'=>H'=H/\x = .int (lo - i),fun i _=>n<=i⟩
theorem turn_down {P:Program} {w:World} {K:PySem.W.Frag} {tg:Expr} (it:Addr) (lo:Int) (n:Nat):Turn P w K tg (Itd lo n) [it] it (fun i h=>IsRangeIter h it (lo+(i:Nat) * (-1)) ((n:Int) - (i:Nat)) (-1)) where
 mem:=by simp
 obj:=fun i h st b hb=>by
  have e:b=it:=by simpa using hb
  subst e
  exact ⟨_,st,fun v z=>by
   have z':Data.fields _=Data.cell v:=z
   cases z'⟩
 keep:=fun i h h' st k=>k it (by simp) _ st
 item:=by
  intro X hP hw hK hc i pins s σ H E I hf st hg
  subst hP hw hK
  obtain ⟨f0,f1,f2,f3,f4,f5⟩ := hf it (by simp)
  have W:=Walks.range (prog:=X.prog) (w:=X.w) (I.ok.hd hc) it lo (-1) n
  refine W.item i s _ _ hg st fun v h' tk hv st' kk => ?_
  obtain ⟨t,rfl⟩ := hv
  have I1:Inv X pins σ H { s with heap:=h',toks:=tk }:=I.turned (fun b o hb e=>kk b o (by simpa using hb) e) f0 f1 f3 f4 f5
  refine ⟨_,rfl,go_of (s:={ s with heap:=h',toks:=tk }) (n := "range_iterator") st' rfl rfl (by decide) ⟨.int (lo - i),H,I1,⟨t,?_⟩,⟨rfl,rfl⟩,st',fun b hb=>(hf b hb).1⟩⟩
  rw [show lo+(i:Int) * (-1)=lo - (i:Int) by (first|lia|omega)]
 done:=by
  intro X hP hw hK hc i pins s σ H E I hf st hg
  subst hP hw hK
  obtain ⟨f0,f1,f2,f3,f4,f5⟩ := hf it (by simp)
  exact wpAny_pyNext_range_end (I.ok.hd hc) st (by have:n<=i:=hg; (first|lia|omega)) fun h' eb=>⟨rfl,I.turned (t':=s.toks) (fun b o hb e=>eb b o hb e) f0 f1 f3 f4 f5⟩
 self:=fun _ _ _ _ _ st h=>wpAny_pyIter_rangeiter st h
def iDown (ta:TA):TI:=fun σ H R=>ta σ H fun vs H1=>∃ i j:Int,vs=[.int i,.int j,.int (-1)]/\(-(2 ^ 62)<=i/\i<2 ^ 62 /\ -(2 ^ 62)<=j/\j<2 ^ 62)/\R (Itd i (i - j).toNat) H1
theorem pi_down {X:Cx} {tg a b c:Expr} {ta:TA} {p pos:Pos} (hg:Gl X "range") (hm:X.mg "range" = none) (ha:PA X [a,b,c] ta) (hs:starEach [a,b,c] X.env=(false,eval a X.env) :: starEach [b,c] X.env:=by rfl) (hpl:(backTo pos (starEach [b,c] X.env)).any (·.1)=false:=by rfl) :
  PI X tg (.Call (.Name "range" p) [a,b,c] [] pos) (iDown ta):=by
 refine ⟨?_⟩
 intro pins s σ H R I h
 refine Call_ (ld_blt I hg hm boot_range (PyProof.Rows.callWith_type1 (thn (ha pos pins s σ H _ I h) fun us s1 ⟨vs,H1,I1,r1,q1⟩ => ?_) hs hpl))
 obtain ⟨i,j,e,⟨q1,q2,q3,q4⟩,q⟩ := q1
 subst e
 cases r1 with
 | cons r rr =>
  cases rr with
  | cons r' rr =>
   cases rr with
   | cons r'' rr =>
    cases rr
    obtain ⟨t,rfl⟩ := r
    obtain ⟨t',rfl⟩ := r'
    obtain ⟨t'',rfl⟩ := r''
    refine call_range_3 (by decide) ?_ (.inl (PyProof.noPylong_small (by decide)))
    refine wpAny_pyIter_range (IsRange.new ..) (small_down q1 q2 q3 q4) ?_
    have I2:Inv X pins σ H1 { s1 with heap:=s1.heap.push { cls:=.type "range",data:=.fields #[.int i t,.int j t',.int (-1) t''] },toks:=s1.toks }:=I1.kept fun b o e=>Heap.get?_push_of_some _ e
    refine ⟨_,[_],_,_,H1,rfl,I2.kept (t':=s1.toks) fun b o e=>Heap.get?_push_of_some _ e,turn_down _ i (i - j).toNat,?_,fun b hb => ?_,q⟩
    ·have e1:i+((0:Nat):Int) * (-1)=i:=by simp
     have e2:(((i - j).toNat:Nat):Int) - ((0:Nat):Int)=Builtin.Range.rangeSize i j (-1):=by rw [rangeSize_down]; simp
     show IsRangeIter _ _ (i+((0:Nat):Int) * (-1)) ((((i - j).toNat:Nat):Int) - ((0:Nat):Int)) (-1)
     rw [e1,e2]
     exact Heap.get?_push_size _ rfl
    ·have e:=List.mem_singleton.mp hb
     subst e
     exact I2.fpOk (Nat.le_refl _) (I2.hok.fresh (Nat.le_refl _))
end L2

namespace L2
open PySem PySem.Spec PyProof.Rows
end L2

namespace L2
open PySem PySem.Spec PyProof.Rows
section
variable {X:Cx}
end
end L2

namespace L2
open PySem PySem.Spec PyProof.Rows
section
variable {X:Cx} {pins:List (Addr × Obj)} {σ:St} {H:Hp} {s:Shared} {h':Heap}
end
section
variable {X:Cx} {E:XK} {C:Addr} {x:Str} {np cpos pos:Pos}
end
section
variable {X:Cx}
end
section
open PySem.W
end
def spInit1 (C:Addr):Sp:=fun vs H Q _=>∃ x y,vs=[.ref x,y]/\H x=some (ExN x C none) /\
 ∀ d H',d≠x->H d=none->(∀ b o,b≠x->H b=some o->H' b=some o)->H' x=some (ExN x C (some d))->H' d=some (XdO d [("at",y)])->Q .non H'
def Fails1 (C:Addr) (H:Hp) (E:XK) (n:Int):Prop:=∀ d H',Same H H'->H' d=some (XdO d [("at",.int n)])->E (.ref C) (some d) H'
theorem raised1 {C:Addr} {H:Hp} {E E':XK} {n:Int} (f:Fails1 C H E n):∀ x,H x=none ->
  spInit1 C [.ref x,.int n] (upd H x (ExN x C none)) (fun v H2=>v = .non/\∃ d,H2 x=some (ExN x C (some d))/\E (.ref C) (some d) (upd H2 x (ExO x C (some d)))) E':=by
 intro x hx
 refine ⟨x,_,rfl,zC,fun d H' dx hd kp ex ed=>⟨rfl,d,ex,f d _ (fun b o e => ?_) ?_⟩⟩
 ·have nx:b≠x:=zG e hx
  rw [zH nx]
  exact kp b o nx (by rw [zH nx]; exact e)
 ·rw [zH dx]; exact ed
theorem op_mulS {X:Cx}:OpR X (binaryOp .Mult) (fun x y H Q=>∃ (t:Str) (n:Int),x = .str t/\y = .int n/\MulOk t n/\Q (.str (Txt.mul t n)) H):=by
 intro pins s σ H x y v u Q I rx ry h
 obtain ⟨i,j,rfl,rfl,hz,q⟩ := h
 obtain ⟨t,rfl⟩ := rx
 obtain ⟨t',rfl⟩ := ry
 exact SB.mul hz fun t' k=>⟨.str (Txt.mul i j),H,I.tok _,⟨_,rfl⟩,q⟩
end L2

namespace L2
open PySem PySem.Spec
section
variable {K:Type} [DecidableEq K] {prog:Program} {w:World} {knd:KeyKind prog w K} {A:Around} {E:Value->Shared->Prop} {s:Shared}
theorem dictSetDefault_pairs {d:Addr} {kvs:List (K × Value)} {k:K} {key dflt:Value} {Q:Value->Shared->Prop} (hkey:knd.is k key=true) (hm:s.heap.DictOf knd d kvs)
  (hthere:∀ v,valueAt kvs k=some v->Q v { s with toks:=s.toks+1 })
  (hnew:valueAt kvs k=none->∀ h',h'.DictOf knd d (kvs++[(k,dflt)])->Heap.SameBut d s.heap h'->Q dflt { s with heap:=h',toks:=s.toks+1 })
  (hsz:kvs.length<=sizeLine) :
  wpAny (model prog w) A (dictSetDefault d key dflt) Q E s:=by
 have hmo:=hm.mapOf
 obtain ⟨o,es,ep,ho,hc,hd,hk,hp,hn⟩ := hm
 have hes:es.size<=sizeLine:=by
  have e1:=hp.length
  have e2:es.toList.length=es.size:=by simp
  (first|lia|omega)
 obtain ⟨o',es',ep',ho',hc',hd',hk',hf⟩ := hmo
 rw [ho] at ho'
 cases ho'
 rw [hd] at hd'
 injection hd' with q1 q2
 subst q1
 unfold dictSetDefault
 try with_reducible refine wpAny_holding ?_
 refine wpAny_bind (knd.pyHash hkey ?_)
 refine wpAny_bind (wpAny_dictFind_of (s:={ s with toks:=s.toks+1 }) hkey ho hd hk ?_)
 have hidx:(es.findIdx? fun e=>knd.is k e.key)=kvs.findIdx? fun kv=>decide (kv.1=k):=by
  rw [<- hp.findIdx k]; obtain ⟨l⟩ := es; simp
 cases hi:es.findIdx? fun e=>knd.is k e.key with
 | some i =>
  have hfk:valueAt kvs k=(es[i]?).map (·.val):=by rw [<- hf k,findBy_of_findIdx?,hi]
  refine wpAny_bind (wpAny_dictEntries (s:={ s with toks:=s.toks+1 }) ho hd ?_)
  cases he:es[i]? with
  | none =>
   exfalso
   have:=Array.findIdx?_eq_some_iff_findIdx_eq.mp hi
   have hlt:i<es.size:=this.1
   rw [Array.getElem?_eq_getElem hlt] at he
   exact nomatch he
  | some e =>
   rw [he] at hfk
   exact wpAny_bind (wpAny_rule (wpAny_pure (hthere e.val hfk)))
 | none =>
  have hnot:k ∉ kvs.map (·.1):=not_mem_of_findIdx_none (hidx ▸ hi)
  have hfk:valueAt kvs k=none:=by rw [<- hf k,findBy_of_findIdx?,hi]
  refine wpAny_bind (wpAny_rule (wpAny_bind (wpAny_updateDictKeys (hz:=hes) (s:={ s with toks:=s.toks+1 }) ho hd (wpAny_pure (hnew hfk _ ⟨_,_,ep+1,Heap.get?_update_self _ ho (Obj.isFreed_of_dict (Obj.data_mapDictKeys hd _)),
   hc.mapDictKeys _,Obj.data_mapDictKeys hd _,hk.push hkey _,?_,?_⟩ (Heap.SameBut.update ..))))))
  ·rw [Array.toList_push]
   exact hp.append hkey _ _
  ·rw [List.map_append]
   refine List.nodup_append.mpr ⟨hn,by simp,fun a ha b hb e => ?_⟩
   have:b=k:=by simpa using hb
   exact hnot (this ▸ e ▸ ha)
theorem wZ {k:K} {key:Value} (d:Addr) (hkey:knd.is k key=true) (hd:(d == sysModules)=false) (dflt:Value) :
  MeetsIn prog w (Builtin.«dict.setdefault» ⟨[.ref d,key,dflt],[]⟩) (fun _ R s=>∃ kvs,s.heap.DictOf knd d kvs/\kvs.length<=sizeLine /\
   (∀ v,valueAt kvs k=some v->R (.ok (.ret v)) { s with toks:=s.toks+1 }) /\
   (valueAt kvs k=none->∀ h',h'.DictOf knd d (kvs++[(k,dflt)])->Heap.SameBut d s.heap h'->R (.ok (.ret dflt)) { s with heap:=h',toks:=s.toks+1 })) :=
 .of_wp fun A R s ⟨kvs,hm,hz,h1,h2⟩=>by
  unfold Builtin.«dict.setdefault»
  refine wpAny_bind ?_
  unfold Builtin.Dict.keyAndDefault
  refine wpAny_bind (wpAny_notOrdered_dict hm.typeIs ?_)
  show wpAny _ _ (pure (d,key,some dflt)) _ _ s
  refine wpAny_pure ?_
  show wpAny _ _ (if (d == sysModules)=true then _ else (dictSetDefault d key dflt >>= _)) _ _ s
  rw [if_neg (by rw [hd]; exact Bool.false_ne_true)]
  exact wpAny_bind (dictSetDefault_pairs hkey hm (fun v hv=>wpAny_pure ⟨v,rfl,h1 v hv⟩) (fun hn h' hm' hs'=>wpAny_pure ⟨dflt,rfl,h2 hn h' hm' hs'⟩) hz)
end
section
variable {X:Cx} {pins:List (Addr × Obj)} {σ:St} {H:Hp} {s:Shared} {a:Addr} {kvs:List (Key × V)} {k:Key} {u r:Value} {d:V} {A:Around} {E:Value->Shared->Prop}
theorem d_setdef {Q:Value->Shared->Prop} (I:Inv X pins σ H s) (e:H a=some (.dK kvs)) (ry:RelV (kV k) u) (rd:RelV d r) (hl:kvs.length<sizeLine)
  (h1:∀ v w' s',valV kvs k=some v->Inv X pins σ H s'->RelV v w'->Q w' s') (h2:∀ s',valV kvs k=none->Inv X pins σ (upd H a (.dK (kvs++[(k,d)]))) s'->Q r s') :
  wpAny (model X.prog X.w) A (call (.builtin "dict.setdefault") [.ref a,u,r]) Q E s:=by
 obtain ⟨z,hd,vs,rel,dd⟩ := dk_of I.hok e
 have hz:vs.length<=sizeLine:=by rw [<- rel.length]; exact z
 refine call_meetsIn PySem.F.slot_dict_setdefault dd.typeIs PySem.F.entry_dict_setdefault (PySem.F.args_dict_setdefault_3 _ _ _) (wZ (knd:=mixKind X.prog X.w) a (kV_is ry) hd r) ⟨vs,dd,hz,fun v hv => ?_,fun hv h' dd' hs => ?_⟩
 ·have rl:=rel.val k
  rw [hv] at rl
  cases q:valV kvs k with
  | none=>rw [q] at rl; exact rl.elim
  | some y=>rw [q] at rl; exact h1 y _ _ q (I.tok _) rl
 ·have rl:=rel.val k
  rw [hv] at rl
  have q:valV kvs k=none:=by
   cases q:valV kvs k with
   | none=>rfl
   | some y=>rw [q] at rl; exact rl.elim
  have he:∃ q,h'.get? a=some q:=let ⟨q,_,_,hq,_⟩ := dd'; ⟨q,hq⟩
  refine h2 _ q (d_write I (by rw [e]; exact True.intro) hs he (dk_new (by rw [List.length_append]; exact hl) hd (Paired.snoc rel ⟨rfl,rd⟩) dd'))
end
section
variable {X:Cx} {o e f:Expr} {td ty tx:TE} {apos cpos:Pos}
def tDSetD (td ty tx:TE):TE:=fun σ H Q=>td σ H fun x H1=>∃ a,x = .ref a/\IsD H1 a/\ty σ H1 fun y H2=>tx σ H2 fun z H3=>∃ kvs k,H3 a=some (.dK kvs)/\y=kV k/\kvs.length<sizeLine /\
 (∀ v,valV kvs k=some v->Q v H3)/\(valV kvs k=none->Q z (upd H3 a (.dK (kvs++[(k,z)]))))
theorem pe_dsetd (ho:PE X o td) (he:PE X e ty) (hf:PE X f tx) (m:M2 X o "setdefault" apos e f cpos):PE X (.Call (.Attribute o "setdefault" apos) [e,f] [] cpos) (tDSetD td ty tx):=by
 refine ⟨?_⟩
 intro pins s σ H Q I h
 refine wpAny_Call_method m.base m.few m.line PySem.F.plainAttrs_dict PySem.F.slot_dict_setdefault PySem.F.type_dict_setdefault (thn (ho pins s σ H _ I h) fun u s1 hzz => ?_)
 obtain ⟨x,H1,I1,rx,a,ex,d,q1⟩ := hzz
 subst ex
 obtain rfl:u=Value.ref a:=rx
 obtain ⟨t1,t2,_⟩ := isD_at I1 d
 refine ⟨t1,t2,?_⟩
 rw [m.trees]
 refine Calls.callWith_builtin rfl (Calls.evalArgs_plain (Calls.spliced_cons (thn (he pins s1 σ H1 _ I1 q1) fun iv s2 ⟨y,H2,I2,ry,q2⟩ =>
  Calls.spliced_cons (thn (hf pins s2 σ H2 _ I2 q2) fun fv s3 ⟨z,H3,I3,rz,kvs,k,ea,ey,hl,qa,qb⟩=>Calls.spliced_nil ?_))))
 subst ey
 exact d_setdef I3 ea ry rz hl (fun v w' s' hv I4 rv=>⟨_,H3,I4,rv,qa v hv⟩) fun s' hv I4=>⟨_,_,I4,rz,qb hv⟩
end
end L2

namespace L2
open PySem
theorem runs_toks {M:Model} {Γ:Ctx} {p:Pos} {t:Sem Fin} {fs:List Frame} {s:Shared} {e:End} {s':Shared} (h:Runs M Γ p t fs s e s'):s.toks<=s'.toks:=by
 induction h with
 | done=>exact Nat.le_refl _
 | raise=>exact Nat.le_refl _
 | again _ _ ih=>exact ih
 | rule _ ih=>exact ih
 | «at» _ ih=>exact ih
 | load _ _ ih=>exact ih
 | update _ _ ih=>exact ih
 | loadIfAlive _ ih=>exact ih
 | point _ ih=>exact ih
 | alloc _ ih=>exact ih
 | fresh _ ih=>exact Nat.le_of_succ_le ih
 | ask _ ih=>exact ih
 | choose _ _ ih=>exact ih
 | os _ ih=>exact ih
 | handled _ ih=>exact ih
 | genState _ _ ih=>exact ih
 | stack _ ih=>exact ih
 | thread _ ih=>exact ih
 | newGen _ ih=>exact ih
 | call _ _ i1 i2=>exact Nat.le_trans i1 i2
 | callSusp _ ih=>exact ih
 | yield=>exact Nat.le_refl _
 | resumeFresh _ _ _ _ i1 i2=>exact Nat.le_trans i1 i2
 | resumeSuspended _ _ _ _ i1 i2=>exact Nat.le_trans i1 i2
 | resumeJustStarted _ _ _ ih=>exact ih
 | resumeThrowFresh _ _ ih=>exact ih
 | resumeRunning _ _ ih=>exact ih
 | resumeFinished _ _ ih=>exact ih
 | segRet _ _ i1 i2=>exact Nat.le_trans i1 i2
 | segGen _ _ i1 i2=>exact Nat.le_trans i1 i2
 | segSuspOut _ _ ih=>exact ih
 | segSuspGen _ _ _ _ i1 i2=>exact Nat.le_trans i1 i2
theorem wakes_toks {M:Model} {Γ:Ctx} {p:Pos} {g:Nat} {r:Resume} {s:Shared} {res:GenResult} {s':Shared} (h:Wakes M Γ p g r s res s'):s.toks<=s'.toks:=by
 unfold Wakes at h
 split at h
 ·exact h.elim
 ·split at h
  ·obtain ⟨e1,s1,h1,_,_,rfl⟩ := h
   have:=runs_toks h1
   exact this
  ·rw [h.2]; exact Nat.le_refl _
  ·rw [h.2]; exact Nat.le_refl _
 ·obtain ⟨e1,s1,h1,_,_,rfl⟩ := h
  have:=runs_toks h1
  exact this
 ·rw [h.2]; exact Nat.le_refl _
 ·rw [h.2]; exact Nat.le_refl _
theorem wp_toks {α:Type} {M:Model} {Γ:Ctx} {Q : α->Pos->Shared->Prop} {E:Value->Pos->Shared->Prop} {n:Nat}:∀ (t:Sem α) (p:Pos) (s:Shared),n<=s.toks->Sem.wp M Γ t (fun a p' s'=>n<=s'.toks->Q a p' s') (fun e p' s'=>n<=s'.toks->E e p' s') p s->Sem.wp M Γ t Q E p s:=by
 intro t
 induction t with
 | pure a=>intro p s hn h; exact h hn
 | raise e=>intro p s hn h; exact h hn
 | unsupported _=>intro p s hn h; exact h
 | finish _=>intro p s hn h; exact h
 | rule _ k ih=>intro p s hn h; rw [Sem.wp_rule] at h ⊢; exact ih () p s hn h
 | «at» p' k ih=>intro p s hn h; rw [Sem.wp_at] at h ⊢; exact ih () p' s hn h
 | load a part k ih =>
  intro p s hn h
  rw [Sem.wp_load] at h ⊢
  obtain ⟨o,e,h⟩ := h
  exact ⟨o,e,ih o p s hn h⟩
 | update a part f k ih =>
  intro p s hn h
  rw [Sem.wp_update] at h ⊢
  exact ⟨h.1,ih () p _ hn h.2⟩
 | alloc o k ih=>intro p s hn h; rw [Sem.wp_alloc] at h ⊢; exact ih _ p _ hn h
 | loadIfAlive a k ih=>intro p s hn h; rw [Sem.wp_loadIfAlive] at h ⊢; exact ih _ p s hn h
 | point l k ih=>intro p s hn h; rw [Sem.wp_point] at h ⊢; exact ih () p s hn h
 | register a k ih=>intro p s hn h; rw [Sem.wp_register] at h; exact h.elim
 | fresh k ih=>intro p s hn h; rw [Sem.wp_fresh] at h ⊢; exact ih _ p _ (Nat.le_succ_of_le hn) h
 | ask k ih=>intro p s hn h; rw [Sem.wp_ask] at h ⊢; exact ih _ p s hn h
 | choose src m k ih=>intro p s hn h; unfold Sem.wp at h ⊢; exact ⟨h.1,ih _ p _ hn h.2⟩
 | os q l k ih=>intro p s hn h; unfold Sem.wp at h ⊢; exact ih _ p _ hn h
 | call c hd g l k ih =>
  intro p s hn h
  unfold Sem.wp at h ⊢
  obtain ⟨r,s1,hr,h⟩ := h
  exact ⟨r,s1,hr,ih r p s1 (Nat.le_trans hn (runs_toks hr)) h⟩
 | handled own k ih=>intro p s hn h; unfold Sem.wp at h ⊢; exact ih _ p s hn h
 | newGen c k ih=>intro p s hn h; unfold Sem.wp at h ⊢; exact ih _ p _ hn h
 | genState g k ih =>
  intro p s hn h
  unfold Sem.wp at h ⊢
  obtain ⟨st,e,h⟩ := h
  exact ⟨st,e,ih _ p s hn h⟩
 | resume g r l k ih =>
  intro p s hn h
  unfold Sem.wp at h ⊢
  obtain ⟨res,s1,hr,h⟩ := h
  exact ⟨res,s1,hr,ih _ p s1 (Nat.le_trans hn (wakes_toks hr)) h⟩
 | yield v g l k ih=>intro p s hn h; unfold Sem.wp at h; exact h.elim
 | stack k ih=>intro p s hn h; unfold Sem.wp at h ⊢; exact ih _ p s hn h
 | fork c k ih=>intro p s hn h; unfold Sem.wp at h; exact h.elim
 | thread k ih=>intro p s hn h; unfold Sem.wp at h ⊢; exact ih _ p s hn h
 | await a tk td l k ih=>intro p s hn h; unfold Sem.wp at h; exact h.elim
theorem wpAny_toks {α:Type} {M:Model} {A:Around} {t:Sem α} {Q : α->Shared->Prop} {E:Value->Shared->Prop} {s:Shared} (h:wpAny M A t (fun v s'=>s.toks<=s'.toks->Q v s') (fun e s'=>s.toks<=s'.toks->E e s') s):wpAny M A t Q E s :=
 fun Γ p hΓ=>wp_toks t p s (Nat.le_refl _) (h Γ p hΓ)
end L2

namespace L2
open PySem PySem.Spec PySem.Builtin.Str PyProof.Rows
def Frs {α:Type} (t:Sem α):Prop:=∀ (M:Model) (Γ:PySem.Ctx) (Q : α->Pos->Shared->Prop) (E:Value->Pos->Shared->Prop) (p:Pos) (s:Shared),
 Sem.wp M Γ t (fun a p' s'=>s.toks<s'.toks->Q a p' s') E p s->Sem.wp M Γ t Q E p s
theorem Frs.fst {α β:Type} {m:Sem α} {f : α->Sem β} (h:Frs m):Frs (m >>= f):=fun M Γ Q E p s q=>by
 rw [Sem.wp_bind'] at q ⊢
 refine h M Γ _ E p s (Sem.wp_mono M Γ m (fun a p' s' h' => ?_) (fun _ _ _ h'=>h') p s q)
 intro lt
 refine wp_toks (n:=s'.toks) (f a) p' s' (Nat.le_refl _) (Sem.wp_mono M Γ (f a) (fun b p2 s2 h2 => ?_) (exc':=fun e p' s2=>s'.toks<=s2.toks->E e p' s2) (fun _ _ _ h2 _=>h2) p' s' h')
 exact fun le=>h2 (Nat.lt_of_lt_of_le lt le)
theorem Frs.snd {α β:Type} {m:Sem α} {f : α->Sem β} (h:∀ a,Frs (f a)):Frs (m >>= f):=fun M Γ Q E p s q=>by
 rw [Sem.wp_bind'] at q ⊢
 refine wp_toks (n:=s.toks) m p s (Nat.le_refl _) (Sem.wp_mono M Γ m (fun a p' s' h' => ?_) (exc':=fun e p' s2=>s.toks<=s2.toks->E e p' s2) (fun _ _ _ h2 _=>h2) p s q)
 intro le
 refine h a M Γ _ E p' s' (Sem.wp_mono M Γ (f a) (fun b p2 s2 h2 => ?_) (fun _ _ _ h2=>h2) p' s' h')
 exact fun lt=>h2 (Nat.lt_of_le_of_lt le lt)
theorem frs_fresh:Frs fresh:=fun M Γ Q E p s q=>by
 unfold fresh at q ⊢
 rw [Sem.wp_fresh] at q ⊢
 exact q (Nat.lt_succ_self _)
theorem frs_nsSet {ns:Addr} {x:Str} {v:Value}:Frs (nsSet ns x v):=by
 unfold nsSet
 exact Frs.snd fun _=>Frs.fst (Frs.fst frs_fresh)
theorem Frs.go {α:Type} {t:Sem α} {M:Model} {A:Around} {Q : α->Shared->Prop} {E:Value->Shared->Prop} {s:Shared} (h:Frs t) (q:wpAny M A t (fun a s'=>s.toks<s'.toks->Q a s') E s):wpAny M A t Q E s :=
 fun Γ p hΓ=>h M Γ _ _ p s (q Γ p hΓ)
theorem storeName_local {env:Env} {x:Str} {v:Value} (hk:env.scope.kind = .function) (hl:env.kindOf x=some .local):storeName env x v=nsSet env.locals x v:=by
 unfold storeName
 rw [hl,hk]
 rfl
theorem frs_env {scope:Scope} {globals:Addr} {n:Str} {v:Value} {binds:List (Str × Value)} {qual:Str} {func:Option Addr} {code:Value} {builtins:Addr} (hk:scope.kind = .function) (hl:scope.names.lookup n=some .local) :
  Frs (newFunctionEnv scope globals [] ((n,v) :: binds) qual func code none builtins):=by
 simp only [newFunctionEnv,Option.isSome_none,Bool.false_eq_true,if_false]
 refine Frs.snd fun L=>Frs.snd fun cells=>Frs.fst ?_
 rw [List.forIn_cons]
 refine Frs.fst (Frs.fst ?_)
 rw [storeName_local (by exact hk) (by exact hl)]
 exact frs_nsSet
structure PSsT (X:Cx) (st:List Stmt) (t:TS):Prop where
 go:∀ (pins:List (Addr × Obj)) (s:Shared) (σ:St) (H:Hp) (D:Ends),Inv X pins σ H s->0<s.toks->t D σ H->wpAny (model X.prog X.w) X.A (execs st X.env) (SP X pins D) X.xe s
structure PET (X:Cx) (e:Expr) (t:TE):Prop where
 go:∀ (pins:List (Addr × Obj)) (s:Shared) (σ:St) (H:Hp) (Q:VK),Inv X pins σ H s->0<s.toks->t σ H Q->wpAny (model X.prog X.w) X.A (eval e X.env) (EP X pins σ Q) X.xe s
structure PIT (X:Cx) (tg iter:Expr) (wi:TI):Prop where
 go:∀ (pins:List (Addr × Obj)) (s:Shared) (σ:St) (H:Hp) (R:It->Hp->Prop),Inv X pins σ H s->0<s.toks->wi σ H R ->
  wpAny (model X.prog X.w) X.A (eval iter X.env) (fun v s1=>wpAny (model X.prog X.w) X.A (pyIter v) (PIE X pins σ tg R) X.xe s1) X.xe s
theorem fn_ofT {CX:CXT} {P:Program} {w:World} {K:PySem.W.Frag} {mg:Str->Option Value} {base:Heap} {k:Nat} {f:Addr} {name qual:Str} {params:Arguments} {body:List Stmt} {scope:Scope} {dV kV doc pm cdv ct oc:Value} {an od:Option Addr}
  {osl:Array (Option Value)} {N ps:List Str} {p0:Str} {sp:Sp} (lk:K.lookup f=some ⟨oc,od,.func (PySem.W.fnOf name qual params body scope dV kV doc pm an cdv ct),osl⟩) (hcd:PySem.W.codeIn K cdv qual=true) (S:FnScope N (p0 :: ps) scope)
  (h0:scope.names.lookup p0=some .local)
  (len:∀ vs H Q E,sp vs H Q E->vs.length=(p0 :: ps).length)
  (hbody:∀ (A:Around) (outer:List Env) (s:Shared) (H:Hp) (vs:List V) (Q:VK) (E:XK),Room k (A.deeper (envOfC qual scope s.heap.objs.size f cdv))->sp vs H Q E ->
   ∃ t,PSsT (cxOf CX P w K mg base N qual scope f cdv A outer s H E) body t/\t { nx:=fun _ H'=>Q .non H',rt:=Q } (start N vs) H) :
  FnOk P w K mg base CX (k+1) f (PySem.W.fnOf name qual params body scope dV kV doc pm an cdv ct) (p0 :: ps) sp:=by
 refine ⟨len,fun A outer s H args us vs Q E hr e0 hb r hsp => ?_⟩
 have hl:=len _ _ _ _ hsp
 have KX:K.In s.heap:=e0.mod.kin.keeps fun b o e=>(e0.bs b o e).1
 have lim:s.heap.NoLimit:=e0.mod.nolimit.keeps fun b o e=>(e0.bs b o e).1
 have hkind:∀ y∈(p0 :: ps).zip us,scope.names.lookup y.1=some .local\/(scope.names.lookup y.1=some .cell/\((cellsFrom (s.heap.objs.size+1) scope.names []).lookup y.1).isSome=true):=fun ⟨n,v⟩ hy=>by
  rcases S.par n (List.of_mem_zip hy).1 with q | q
  ·exact .inl q
  ·exact .inr ⟨q,PySem.W.cellsFrom_some _ _ _ (.inl q)⟩
 have hul:us.length=vs.length:=r.length.symm
 obtain ⟨u0,us',rfl⟩ : ∃ u0 us',us=u0 :: us':=by
  cases us with
  | nil=>rw [hl] at hul; cases hul
  | cons a b=>exact ⟨a,b,rfl⟩
 refine codeAny_call_function hr.depth (KX _ _ lk) rfl S.co S.gen rfl (PySem.W.codeRec_of KX hcd) (hb _ _ _ _ ?_)
 refine Frs.go (by rw [List.zip_cons_cons]; exact frs_env S.kind h0) ?_
 refine wpAny_newFunctionEnv_cells S.kind hkind fun env he s1 x lt => ?_
 subst he
 refine ⟨lim.keeps x.toInCall.keep,codeAny_func ?_⟩
 obtain ⟨t,ht,hq⟩ := hbody A outer s H vs Q E (hr.deeper _) hsp
 have I:Inv (cxOf CX P w K mg base N qual scope f cdv A outer s H E) [] (start N vs) H s1:=inv_start S hr.hd e0 hl r x
 refine wpAny_mono (ht.go [] s1 (start N vs) H _ I (Nat.lt_of_le_of_lt (Nat.zero_le _) lt) hq) (fun fl s' hs => ?_) fun e s' hs=>hs
 have fin:∀ {σ':St} {H':Hp} {v:V} {u:Value},Inv (cxOf CX P w K mg base N qual scope f cdv A outer s H E) [] σ' H' s'->RelV v u->Q v H'->CE outer P w H s Q u s' :=
  fun {σ' H' v u} J rv q=>⟨v,H',J.os,J.bare,J.base,J.hok,rv,q⟩
 cases fl with
 | ret u =>
  obtain ⟨v,σ',H',J,rv,q⟩ := hs
  exact fin J rv q
 | next =>
  obtain ⟨σ',H',J,q⟩ := hs
  exact fin (v:=V.non) (u:=Value.none) J rfl q
 | brk =>
  obtain ⟨_,_,_,q⟩ := hs
  exact False.elim q
 | cont =>
  obtain ⟨_,_,_,q⟩ := hs
  exact False.elim q
section
variable {X:Cx} {e:Expr} {te:TE} {pos:Pos}
theorem pss_retT (he:PET X e te):PSsT X [.Return (some e) pos] (tRet te):=by
 refine ⟨?_⟩
 intro pins s σ H D I h0 h
 refine wpAny_execs_cons (wpAny_Return_some (thn (he.go pins s σ H _ I h0 h) fun v s1 hzz => ?_))
 obtain ⟨x,H1,I1,r1,q1⟩ := hzz
 exact ⟨x,σ,H1,I1,r1,q1⟩
theorem pi_listT {tg l:Expr} {tl:TE} (hl:PET X l tl):PIT X tg l (iList X.K tl):=by
 refine ⟨?_⟩
 intro pins s σ H R I h0 h
 refine thn (hl.go pins s σ H _ I h0 h) fun v s1 hzz => ?_
 obtain ⟨x,H1,I1,r1,q1⟩ := hzz
 obtain ⟨a,e,⟨xs,hq⟩,q⟩ := q1
 subst e
 cases r1
 obtain ⟨its,rv,p,hz⟩ := I1.list hq
 refine wpAny_pyIter_list p.isList ?_
 refine ⟨s1.heap.objs.size,[s1.heap.objs.size],_,_,H1,rfl,I1.kept (t':=s1.toks) fun b o e=>Heap.get?_push_of_some _ e,turn_list a _,⟨_,Heap.get?_push_size _ rfl,rfl,rfl⟩,fun b hb => ?_,q⟩
 have e:b=s1.heap.objs.size:=by simpa using hb
 subst e
 exact I1.fpOk (Nat.le_refl _) (I1.hok.fresh (Nat.le_refl _))
theorem pe_compT {target iter elt:Expr} {ifs:List Expr} {scope:Scope} {wi:TI} {own ys:List Str} {js:List Nat} {g:TG} {tt:TT} (hc:X.calm=true) (hi:PIT X target iter wi) (S:CompSc X scope ys) (fr:Frees X.N ys js)
  (hg:∀ cl C fp s H,PG (X.comp (own++ys) scope cl C fp s H) target g) (ht:∀ cl C fp s H,PTs (X.comp (own++ys) scope cl C fp s H) ifs tt) (he:∀ cl C fp s H,PE (X.comp (own++ys) scope cl C fp s H) elt te)
  (hs:∀ x,foldedSetIterable iter X.env x=pure x:=by intro _; rfl):PET X (.ListComp elt [⟨target,iter,ifs,0⟩] scope pos) (tComp wi own.length js g tt te):=by
 refine ⟨?_⟩
 intro pins s σ H Q I h0 h
 rw [eval_ListComp]
 obtain ⟨cl,e,c1,c2⟩ := closure_at (env:=X.env) (scope:=scope) fun y hy hf=>I.ok.has y.1 (.inl (S.free y hy hf))
 refine wpAny_comprehension_free (use:=none) rfl hs e S.kind S.loc (thn (hi.go pins s σ H _ I h0 h) fun v s1 h1=>thn h1 fun itv s2 h2 => ?_)
 obtain ⟨it,fp,tn,J,H2,e,I2,T,st2,f2,q2⟩ := h2
 subst e
 refine comp_block (Q:=Q) (RR:=fun acc C=>compPost (model X.prog X.w) X.A X.xe none (EP X pins σ Q) acc C) hc I2 T st2 f2 S.kind S.cell fr S.cap c1 c2 S.vis hg ht he q2 ?_
 intro D C H' s' I' q hm n1 n2 n3 n4 n5
 obtain ⟨m,hn⟩ := hm
 exact ⟨m,hn,fun h' hs'=>⟨.ref D,H',I'.turned (fun b o hb e=>(hs'.2 b hb).trans e) n1 n2 (.inr n3) n4 n5,rfl,q⟩⟩
theorem pe_bmT {o:Expr} {es:List Expr} {to:TE} {t:TA} {T id:String} {name:Str} {r:V->List V->Hp->VK->Prop} {apos cpos:Pos} (pa:PlainAttrs T) (slot:Slot T name id) (hty:typeOf (.builtin id)=pure (.type "method_descriptor")) (hm:MtR X id r) (ho:PET X o to) (ha:PA X (e :: es) t)
  (hbase:attributeBase o name X.env (eval o X.env)=eval o X.env:=by rfl)
  (hfew:((backTo cpos (starEach (e :: es) X.env)).all (fun x => !x.1) && (backToKw cpos (keywordEach [] X.env)).all (fun x=>x.1.isSome)
   && decide ((e :: es).length+([]:List Keyword).length+(if ([]:List Keyword).isEmpty then 0 else 1)<30))=true:=by rfl)
  (hline:(apos.endLine == cpos.line)=true:=by rfl) (hs:starEach (e :: es) X.env=(false,eval e X.env) :: starEach es X.env:=by rfl) (hplain:(backTo cpos (starEach es X.env)).any (·.1)=false:=by rfl) :
  PET X (.Call (.Attribute o name apos) (e :: es) [] cpos) (tBM X.K T r to t):=by
 refine ⟨?_⟩
 intro pins s σ H Q I h0 h
 refine wpAny_Call_method_late hbase hfew hline rfl (thn (ho.go pins s σ H _ I h0 h) fun v s1 hzz => ?_)
 obtain ⟨x,H1,I1,r1,ty,q1⟩ := hzz
 obtain ⟨h1,h2⟩ := tyV_is I1 r1 ty
 refine ⟨T,id,pa,slot,hty,h1,h2,?_⟩
 have hA:=ha cpos pins s1 σ H1 _ I1 q1
 rw [hs] at hA ⊢
 refine Calls.callWith_builtin (by show (false || (backTo cpos (starEach es X.env)).any (·.1))=false; rw [hplain] <;> rfl) (Calls.evalArgs_plain ?_)
 exact thn hA fun us s2 ⟨vs,H2,I2,r2,q2⟩=>hm pins s2 σ H2 x vs v us Q I2 r1 r2 q2
def tRepl (to:TE) (y z:Str):TE:=fun σ H Q=>to σ H fun v H1=>∃ x:Str,v = .str x/\x.length<=1048576/\Q (.str (Txt.replace x y z)) H1
theorem pe_replaceT {o:Expr} {to:TE} {y z:Str} {apos cpos p1 p2:Pos} {k1 k2:Nat} (hyz:(y == z)=false) (hz:z.length<=14) (ho:PE X o to)
  (hbase:attributeBase o "replace" X.env (eval o X.env)=eval o X.env:=by rfl)
  (hline:(apos.endLine == cpos.line)=true:=by rfl)  :
  PET X (.Call (.Attribute o "replace" apos) [.Constant (.str y) k1 p1,.Constant (.str z) k2 p2] [] cpos) (tRepl to y z):=by
 refine ⟨?_⟩
 intro pins s σ H Q I h0 h
 refine wpAny_Call_method_late hbase rfl hline rfl (wpAny_toks (wpAny_mono (ho pins s σ H _ I h) (fun v s1 ⟨x,H1,I1,r1,q1⟩ le => ?_) fun _ _ q _=>q))
 obtain ⟨x,rfl,hx,q⟩ := q1
 obtain ⟨tk,rfl⟩ := r1
 refine ⟨"str", "str.replace",F.plainAttrs_str,F.slot_str_replace,F.type_str_replace,typeIs_str _ _ _,(fun _ e=>nomatch e),?_⟩
 refine Calls.callWith_builtin rfl (Calls.evalArgs_plain ?_)
 refine Calls.spliced_cons (Calls.Constant_str (k:=k1) (pos:=p1) (Calls.spliced_cons (Calls.Constant_str (k:=k2) (pos:=p2) (Calls.spliced_nil ?_))))
 have hp : 0<s1.toks:=Nat.lt_of_lt_of_le h0 le
 refine SC.replaceW (Nat.ne_of_gt hp) (Nat.succ_ne_zero _) (Nat.ne_of_lt (Nat.lt_succ_self _)) hyz hx hz fun t' k => ?_
 exact ⟨.str _,H1,I1.tok _,⟨_,rfl⟩,q⟩
theorem pe_ifV {c a b:Expr} {tA:TT} {x y:V} (hc:PT X c tA) (ha:PE X a (tC x)) (hb:PE X b (tC y)):PE X (.IfExp c a b pos) (fun σ H Q=>tA σ H fun c H1=>Q (if c=true then x else y) H1):=by
 refine ⟨?_⟩
 intro pins s σ H Q I h
 refine wpAny_IfExp (thn (hc pins s σ H _ I h) fun d s1 hzz => ?_)
 obtain ⟨H1,I1,q1⟩ := hzz
 cases d with
 | true=>exact ha pins s1 σ H1 Q I1 q1
 | false=>exact hb pins s1 σ H1 Q I1 q1
end
end L2

namespace L2
open PySem
structure RA where
 rd:Addr
 dr:Addr
 wd:Addr
 nm:Addr
 hd:Addr
 bd:Addr
 nu:Addr
 cn:Addr
def RdO (C:Addr) (A:RA) (a:Nat):HO:=.ins C A.dr [("words",.ref A.wd),("at",.int (a:Int)),("names",.ref A.nm),("heads",.ref A.hd),("bodies",.ref A.bd),("numbered",.ref A.nu),("counted",.ref A.cn)]
structure WOk (W:List Str):Prop where
 few:W.length<=1000000
 short:∀ w∈W,w.length<=1000000
theorem million {n:Nat} (h:n<=8000000):n<=sizeLine:=Nat.le_trans h (by decide)
theorem millionL {n:Nat} (h:n<=8000000):n<sizeLine:=Nat.lt_of_le_of_lt h (by decide)
theorem WOk.at {W:List Str} (h:WOk W) {a:Nat} {w:Str} (e:W[a]? = some w):w.length<=sizeLine:=million (Nat.le_trans (h.short w (List.mem_of_getElem? e)) (by decide))
structure RdW (C:Addr) (A:RA) (W:List Str) (H:Hp) (a:Nat):Prop where
 rd:H A.rd=some (RdO C A a)
 wd:H A.wd=some (.lst (W.map V.str))
 ok:WOk W
section
variable {C CT:Addr} {A:RA} {W:List Str} {H H1:Hp} {a b:Nat} {E:XK}
theorem RdW.ne (h:RdW C A W H a) {x:Addr} {xs:List V} (e:H x=some (.lst xs)):x≠A.rd:=fun z=>by
 rw [z,h.rd] at e; cases e
theorem RdW.put (h:RdW C A W H a) (b:Nat):RdW C A W (upd H A.rd (RdO C A b)) b:=⟨zC,by rw [zH (h.ne h.wd)]; exact h.wd,h.ok⟩
theorem RdW.at (h:RdW C A W H a) {w:Str} (e:W[a]? = some w):atI (W.map V.str) (a:Int)=some (.str w):=qB (by rw [List.getElem?_map,e]; rfl)
theorem upd_self {H:Hp} {a:Addr} {o:HO} (h:H a=some o):upd H a o=H:=by
 funext b
 by_cases z:b=a
 ·rw [z,zC,h]
 ·rw [zH z]
def EndR {α:Type} (ok : α->Prop) (no:Nat->Prop):Except Nat α->Prop
 | .ok x=>ok x
 | .error n=>no n
def FailR (CT:Addr) (S:List Addr) (H:Hp) (E:XK) (n:Nat):Prop:=∀ d H',KeepL S H H'->H' d=some (XdO d [("at",.int (n:Int))])->E (.ref CT) (some d) H'
theorem FailR.mono {S:List Addr} {n:Nat} (f:FailR CT S H E n) (k:KeepL S H H1):FailR CT S H1 E n:=fun d H' g e=>f d H' (k.trans g) e
theorem FailR.one {S:List Addr} {n:Nat} (f:FailR CT S H E n):Fails1 CT H E (n:Int):=fun d H' g e=>f d H' (KeepL.same g) e
theorem FailR.sub {S S':List Addr} {n:Nat} (f:FailR CT S H E n) (h:∀ x∈S',x∈S):FailR CT S' H E n:=fun d H' g e=>f d H' (fun b o nb q=>g b o (fun z=>nb (h b z)) q) e
end
theorem KeepL.fst {x:Addr} {S:List Addr} {H H1:Hp} {o:HO} (k:KeepL (x :: S) H H1):KeepL (x :: S) H (L2.upd H1 x o):=k.trans (KeepL.upd (List.mem_cons_self ..))
theorem yY {H H1:Hp} {x:Addr} {o u:HO} (h:∀ b,H1 b=none->H b=none) (e:H1 x=some u):∀ b,upd H1 x o b=none->H b=none:=fun b z=>by
 by_cases q:b=x
 ·rw [q,zC] at z; cases z
 ·rw [zH q] at z; exact h b z
theorem kW {W:List Str} {most:Nat} {last:Str}:∀ (n a:Nat) (bs:List Str) (q:Nat × List Str),boxesR W most last n a bs = .ok q->bs.length<=most->q.2.length<=most/\bs.length<=q.2.length/\a<q.1/\q.1<=W.length
 | 0,a,bs,q,h,_=>by cases h
 | n+1,a,bs,q,h,l=>by
  unfold boxesR at h
  split at h
  ·cases h
  rename_i w e
  have hl:=get_lt e
  split at h
  ·cases h; exact ⟨l,Nat.le_refl _,Nat.lt_succ_self _,hl⟩
  split at h
  ·cases h
  split at h
  ·rename_i c1 c2 c3
   have r:=kW n (a+1) (bs++[w]) q h (by rw [List.length_append]; show bs.length+1<=most; (first|lia|omega))
   rw [List.length_append] at r
   have:[w].length=1:=rfl
   (first|lia|omega)
  ·cases h
theorem kI (k:Str):∀ ss:List Str,inV (.str k) (ss.map V.str)=decide (k∈ss)
 | []=>rfl
 | x :: r=>by
  have ih:=kI k r
  unfold inV at ih ⊢
  rw [List.map_cons,List.any_cons,ih]
  by_cases z:x=k
  ·subst z
   have:eqV (V.str x) (.str x)=true:=by unfold eqV; simp
   rw [this,decide_eq_true (List.mem_cons_self ..)]
   rfl
  ·have:eqV (V.str x) (.str k)=false:=by unfold eqV; simp [z]
   rw [this,Bool.false_or]
   by_cases m:k∈r
   ·rw [decide_eq_true m,decide_eq_true (List.mem_cons_of_mem _ m)]
   ·rw [decide_eq_false m,decide_eq_false (fun q=>m ((List.mem_cons.mp q).resolve_left (Ne.symm z)))]
theorem xJ:∀ ys:List Str,(ys.map V.str).all flatV=true
 | []=>rfl
 | _ :: r=>by rw [List.map_cons,List.all_cons,xJ r]; rfl
theorem eqV_strs (x y:Str):eqV (V.str x) (.str y)=decide (x=y):=by
 unfold eqV
 by_cases z:x=y
 ·subst z; simp
 ·simp [z]
theorem first_strs {k:Str} {ss:List Str} (h:k∈ss):FirstAt (ss.map V.str) (.str k) (ss.idxOf k):=by
 have hl:=List.idxOf_lt_length_iff.mpr h
 refine ⟨⟨.str k,?_,by rw [eqV_strs,decide_eq_true rfl]⟩,fun m z hm hz => ?_⟩
 ·rw [List.getElem?_map,List.getElem?_eq_getElem hl,List.getElem_idxOf hl]
  rfl
 ·rw [List.getElem?_map] at hz
  have hml:m<ss.length:=Nat.lt_trans hm hl
  rw [List.getElem?_eq_getElem hml] at hz
  cases hz
  rw [eqV_strs]
  refine decide_eq_false fun e => ?_
  have:=List.not_of_lt_findIdx (p:=(· == k)) (xs:=ss) (i:=m) hm
  simp [e] at this
def numD (num:List (Str × Int)):List (Key × V):=num.map fun p=>(Sum.inr p.1,V.int p.2)
theorem valV_num (x:Str):∀ num:List (Str × Int),valV (numD num) (Sum.inr x)=(lookN num x).map V.int
 | []=>rfl
 | p :: r=>by
  unfold lookN
  by_cases z:p.1=x
  ·rw [if_pos z]
   exact valV_pos (p:=(Sum.inr p.1,V.int p.2)) (by rw [z])
  ·rw [if_neg z,<- valV_num x r]
   exact valV_neg (p:=(Sum.inr p.1,V.int p.2)) (fun e=>z (by injection e))
section
variable (C CT:Addr)
def spDueR:Sp:=fun vs H Q E=>∃ (A:RA) (W:List Str) (a:Nat),vs=[.ref A.rd]/\RdW C A W H a/\EndR (fun w=>Q (.str w) H) (fun n=>Fails1 CT H E (n:Int)) (dueR W a)
def spIsName:Sp:=fun vs H Q _=>∃ x:Str,vs=[.str x]/\x.length<=sizeLine/\Q (.bl (okName x)) H
def spNewR:Sp:=fun vs H Q E=>∃ (A:RA) (W:List Str) (a:Nat) (th:Addr) (ts:List Str),vs=[.ref A.rd,.ref th]/\RdW C A W H a/\H th=some (.lst (ts.map V.str)) /\
 EndR (fun w=>Q (.str w) (upd H A.rd (RdO C A (a+1)))) (fun n=>Fails1 CT H E (n:Int)) (newR W a ts)
def spBoxesR:Sp:=fun vs H Q E=>∃ (A:RA) (W:List Str) (a:Nat) (bx:Addr) (bs:List Str) (most:Nat) (last:Str),vs=[.ref A.rd,.ref bx,.int (most:Int),.str last]/\RdW C A W H a/\H bx=some (.lst (bs.map V.str))/\bx≠A.wd/\bs.length<=most/\most<=50 /\
 EndR (fun q=>∀ H',KeepL [A.rd,bx] H H'->(∀ b,H' b=none->H b=none)->H' A.rd=some (RdO C A q.1)->H' bx=some (.lst (q.2.map V.str))->Q .non H') (FailR CT [A.rd,bx] H E) (boxesR W most last (W.length+1) a bs)
def spBoxR:Sp:=fun vs H Q E=>∃ (A:RA) (W:List Str) (a:Nat) (bx:Addr) (bs:List Str),vs=[.ref A.rd,.ref bx]/\RdW C A W H a/\H bx=some (.lst (bs.map V.str)) /\
 EndR (fun n=>Q (.int (n:Int)) (upd H A.rd (RdO C A (a+1)))) (fun n=>Fails1 CT H E (n:Int)) (boxR W a bs)
def spNumR:Sp:=fun vs H Q E=>∃ (A:RA) (W:List Str) (a:Nat),vs=[.ref A.rd]/\RdW C A W H a /\
 EndR (fun n=>Q (.int n) (upd H A.rd (RdO C A (a+1)))) (fun n=>Fails1 CT H E (n:Int)) (numR W a)
def spManyR:Sp:=fun vs H Q E=>∃ (A:RA) (W:List Str) (a:Nat) (least:Int),vs=[.ref A.rd,.int least]/\RdW C A W H a /\
 EndR (fun n=>Q (.int n) (upd H A.rd (RdO C A (a+1)))) (FailR CT [A.rd] H E) (manyR W a least)
def spCalledR:Sp:=fun vs H Q E=>∃ (A:RA) (W:List Str) (a:Nat) (num:List (Str × Int)),vs=[.ref A.rd]/\RdW C A W H a/\H A.nu=some (.dK (numD num)) /\
 EndR (fun n=>Q (.int n) (upd H A.rd (RdO C A (a+1)))) (fun n=>Fails1 CT H E (n:Int)) (calledR W num a)
def spOwnR:Sp:=fun vs H Q E=>∃ (A:RA) (W:List Str) (a:Nat) (k:Int) (bx:Addr) (bs:List Str) (num:List (Str × Int)),vs=[.ref A.rd,.int k,.ref bx]/\RdW C A W H a/\H bx=some (.lst (bs.map V.str))/\H A.nu=some (.dK (numD num)) /\
 EndR (fun r=>∀ t H',KeepL [A.rd] H H'->(∀ b,H' b=none->H b=none)->H' A.rd=some (RdO C A r.2)->H' t=some (.tup (r.1.map V.int))->Q (.ref t) H') (FailR CT [A.rd] H E) (ownR W num a k bs)
def spKindOf:Sp:=fun vs H Q _=>∃ x:Str,vs=[.str x]/\(x∈kwW->Q (.int (2+(kwW.idxOf x:Int))) H)/\(x ∉ kwW->Q .non H)
def spKindR:Sp:=fun vs H Q E=>∃ (A:RA) (W:List Str) (a:Nat) (bx:Addr) (bs:List Str),vs=[.ref A.rd,.ref bx]/\RdW C A W H a/\H bx=some (.lst (bs.map V.str)) /\
 EndR (fun q=>Q (.int q.1) (upd H A.rd (RdO C A q.2))) (fun n=>Fails1 CT H E (n:Int)) (kindR W a bs)
def OneAt (H:Hp) (v:V) (n:Int):Prop:=∃ t,v = .ref t/\H t=some (.tup [.int n])
def CntAt (H:Hp) (c:Addr) (cnt:List Int):Prop:=∃ vs,H c=some (.lst vs)/\Paired (OneAt H) vs cnt
def spPartsW:Sp:=fun vs H Q _=>∃ k:Int,vs=[.int k]/\7<=k/\k<=19/\Q (.int ((partsW[(k - 7).toNat]?).getD 0)) H
def spDueW:Sp:=fun vs H Q _=>∃ (k:Int) (t c:Addr) (ns cnt:List Int),vs=[.int k,.ref t,.ref c]/\H t=some (.tup (ns.map V.int))/\CntAt H c cnt/\0<=k/\k<=19/\(k=3\/k=4\/k=6->ns.length=1)/\(k=6->0<=ns.headD 0/\(ns.headD 0).toNat<cnt.length) /\
 Q (.int (dueP cnt k ns)) H
structure NdAt (A:RA) (H:Hp) (bx:Addr) (W bs:List Str) (num:List (Str × Int)) (cnt:List Int) (a:Nat) (bs':List Int):Prop where
 w:RdW C A W H a
 box:H bx=some (.lst (bs.map V.str))
 nu:H A.nu=some (.dK (numD num))
 cn:CntAt H A.cn cnt
 bd:H A.bd=some (.lst (bs'.map V.int))
 n1:A.bd≠A.wd
 n2:A.bd≠bx
 n3:A.bd≠A.cn
 le:a<=W.length
 few:bs'.length<=2 * a
structure NumOk (num:List (Str × Int)) (cnt:List Int):Prop where
 there:∀ x f,lookN num x=some f->0<=f/\f.toNat<cnt.length
 near:∀ c∈cnt,-1000000000<=c/\c<=1000000000
def spNodeR (d:Nat):Sp:=fun vs H Q E=>∃ (A:RA) (bx:Addr) (W bs:List Str) (num:List (Str × Int)) (cnt:List Int) (a:Nat) (bd:List Int),vs=[.ref A.rd,.ref bx,.int (11 - (d:Int))]/\d<=10/\NdAt C A H bx W bs num cnt a bd/\NumOk num cnt /\
 EndR (fun q=>∀ H',KeepL [A.rd,A.bd] H H'->(∀ b,H' b=none->H b=none)->NdAt C A H' bx W bs num cnt q.1 q.2->Q .non H') (FailR CT [A.rd,A.bd] H E) (nodeR W num cnt bs d a bd)
def spNodeP:Nat->Sp
 | 0=>fun _ _ _ _=>False
 | d+1=>spNodeR C CT d
end
section
variable {C:Addr} {A:RA} {H H1:Hp} {bx:Addr} {W bs:List Str} {num:List (Str × Int)} {cnt:List Int} {a b:Nat} {bd bd':List Int}
theorem CntAt.tups {c:Addr} (h:CntAt H c cnt) (e:∀ xs,H c=some (.lst xs)->H1 c=some (.lst xs)) (t:Tups H H1):CntAt H1 c cnt:=by
 obtain ⟨vs,ev,p⟩ := h
 refine ⟨vs,e _ ev,Paired.imp (fun _ _ z => ?_) p⟩
 obtain ⟨q,rfl,hq⟩ := z
 exact ⟨q,rfl,t _ _ hq⟩
theorem called_num {n:Int} (h:calledR W num a = .ok n):∃ x,lookN num x=some n:=by
 unfold calledR at h
 split at h
 ·split at h
  ·split at h
   ·rename_i f e; cases h; exact ⟨_,e⟩
   ·cases h
  ·cases h
 ·cases h
theorem own_num {r:List Int × Nat} (h:ownR W num a 6 bs = .ok r):∃ x,lookN num x=some (r.1.headD 0):=by
 unfold ownR at h
 rw [if_neg (by decide),if_neg (by decide),if_neg (by decide),if_neg (by decide),if_pos rfl] at h
 split at h
 ·rename_i n e; cases h; exact called_num e
 ·cases h
theorem due_near (hn:∀ c∈cnt,-1000000000<=c/\c<=1000000000) {k:Int} {ns:List Int} (h:k=3\/k=4->1<=ns.headD 0/\ns.headD 0<=12) : -1000000000<=dueP cnt k ns/\dueP cnt k ns<=1000000000:=by
 have get:∀ (l:List Int) (i:Nat),(∀ c∈l,-1000000000<=c/\c<=1000000000) -> -1000000000<=(l[i]?).getD 0/\(l[i]?).getD 0<=1000000000:=fun l i hl=>by
  cases e:l[i]? with
  | none=>exact ⟨by decide,by decide⟩
  | some c=>exact hl c (List.mem_of_getElem? e)
 unfold dueP
 split
 ·(first|lia|omega)
 split
 ·(first|lia|omega)
 split
 ·have:=h (by (first|lia|omega)); (first|lia|omega)
 split
 ·have:=h (by (first|lia|omega)); (first|lia|omega)
 split
 ·(first|lia|omega)
 split
 ·exact get _ _ hn
 ·exact get _ _ (by decide)
end
end L2

namespace L2
open PySem PySem.Spec PySem.Builtin.Str PyProof.Rows
def blank (c:Nat):Prop:=c=32\/c=10
instance (c:Nat):Decidable (blank c):=inferInstanceAs (Decidable (_\/_))
def wl (acc:List Nat):List Nat->List (List Nat)
 | []=>if acc=[] then [] else [acc]
 | c :: r=>if blank c then (if acc=[] then wl [] r else acc :: wl [] r) else wl (acc++[c]) r
def sub10 (c:Nat):Nat:=if c=10 then 32 else c
theorem wl_sub:∀ (l acc:List Nat),wl acc (l.map sub10)=wl acc l
 | [],acc=>rfl
 | c :: r,acc=>by
  rw [List.map_cons]
  unfold wl
  by_cases z:c=10
  ·subst z
   rw [if_pos (show blank (sub10 10) from .inl rfl),if_pos (show blank 10 from .inr rfl),wl_sub r]
  ·have:sub10 c=c:=if_neg z
   rw [this,wl_sub r,wl_sub r]
theorem wl_free:∀ (q acc r:List Nat),(∀ c∈q,¬ blank c)->wl acc (q++r)=wl (acc++q) r
 | [],acc,r,_=>by rw [List.nil_append,List.append_nil]
 | c :: q,acc,r,h=>by
  rw [List.cons_append]
  conv=>lhs; unfold wl
  rw [if_neg (h c (List.mem_cons_self ..)),wl_free q _ r (fun d hd=>h d (List.mem_cons_of_mem _ hd)),List.append_assoc]
  rfl
theorem wl_inter:∀ (qs:List (List Nat)) (acc:List Nat),(∀ q∈qs,∀ c∈q,¬ blank c)->qs≠[]->wl acc (inter 32 qs)=((match qs with | []=>[] | q :: r=>(acc++q) :: r).filter fun l => !decide (l=[]))
 | [],_,_,h=>absurd rfl h
 | [q],acc,h,_=>by
  show wl acc q=_
  have:=wl_free q acc [] (h q (List.mem_cons_self ..))
  rw [List.append_nil] at this
  rw [this]
  unfold wl
  by_cases z:acc++q=[]
  ·rw [if_pos z]; simp [z]
  ·rw [if_neg z]; simp [z]
 | q :: q2 :: r,acc,h,_=>by
  show wl acc (q++32 :: inter 32 (q2 :: r))=_
  rw [wl_free q acc _ (h q (List.mem_cons_self ..))]
  unfold wl
  rw [if_pos (show blank 32 from .inl rfl),wl_inter (q2 :: r) [] (fun q hq=>h q (List.mem_cons_of_mem _ hq)) (fun z=>nomatch z)]
  by_cases z:acc++q=[]
  ·rw [if_pos z]; simp [z]
  ·rw [if_neg z]; simp [z]
theorem vA:∀ l:List Nat,10 ∉ l->l.map sub10=l
 | [],_=>rfl
 | c :: l,h=>by
  rw [List.map_cons,vA l (fun z=>h (List.mem_cons_of_mem _ z))]
  have:c≠10:=fun z=>h (z ▸ List.mem_cons_self ..)
  rw [show sub10 c=c from if_neg this]
theorem inter_sub:∀ ps:List (List Nat),(∀ p∈ps,10 ∉ p)->inter 32 ps=(inter 10 ps).map sub10
 | [],_=>rfl
 | [p],h=>(vA p (h p (List.mem_cons_self ..))).symm
 | p :: p2 :: r,h=>by
  show p++32 :: inter 32 (p2 :: r)=(p++10 :: inter 10 (p2 :: r)).map sub10
  rw [List.map_append,List.map_cons,inter_sub (p2 :: r) (fun q hq=>h q (List.mem_cons_of_mem _ hq)),vA p (h p (List.mem_cons_self ..))]
  rfl
theorem inter_len (c:Nat):∀ qs:List (List Nat),qs.length<=(inter c qs).length+1
 | []=>Nat.zero_le _
 | [q]=>by show 1<=q.length+1; (first|lia|omega)
 | q :: q2 :: r=>by
  have:=inter_len c (q2 :: r)
  have h2:(q++c :: inter c (q2 :: r)).length=q.length+((inter c (q2 :: r)).length+1):=by rw [List.length_append,List.length_cons]
  show (q2 :: r).length+1<=(q++c :: inter c (q2 :: r)).length+1
  (first|lia|omega)
theorem nl_one:(Str.ofString "\n")=⟨#[10]⟩ := by decide
theorem qZ:(Str.ofString " ")=⟨#[32]⟩ := by decide
theorem rep_cps (t:Str):(Txt.replace t "\n" " ").cps.toList=t.cps.toList.map sub10:=by
 rw [nl_one,qZ,StrLaws.replace_one,jM,inter_sub]
 ·rw [<- jM,StrLaws.join_split]
 ·intro p hp
  obtain ⟨q,hq,rfl⟩ := List.mem_map.mp hp
  exact StrLaws.split_free _ 10 q hq
theorem rep_len (t:Str):(Txt.replace t "\n" " ").length=t.length:=by
 have:(Txt.replace t "\n" " ").cps.toList.length=(Txt.replace t "\n" " ").length:=Array.length_toList
 rw [<- this,rep_cps,List.length_map]
 exact Array.length_toList
theorem split_len (y:Str) (c:Nat):(Txt.split y ⟨#[c]⟩).length<=y.length+1:=by
 have e:=jM c (Txt.split y ⟨#[c]⟩)
 rw [StrLaws.join_split] at e
 have:=inter_len c ((Txt.split y ⟨#[c]⟩).map fun t=>t.cps.toList)
 rw [<- e,List.length_map] at this
 have hl:y.cps.toList.length=y.length:=Array.length_toList
 (first|lia|omega)
def notE (x:Str):Bool:=!decide (x = "")
def wordsT (t:Str):List Str:=(Txt.split (Txt.replace t "\n" " ") " ").filter notE
theorem words_wl (t:Str):(wordsT t).map (fun x=>x.cps.toList)=wl [] t.cps.toList:=by
 have e:=jM 32 (Txt.split (Txt.replace t "\n" " ") " ")
 rw [qZ,StrLaws.join_split,<- qZ,rep_cps] at e
 rw [<- wl_sub,e]
 have hp:=PyProof.Rows.split_pos (Txt.replace t "\n" " ") ⟨#[32]⟩
 rw [<- qZ] at hp
 have hf:=StrLaws.split_free (Txt.replace t "\n" " ") 32
 rw [<- qZ] at hf
 have h10:∀ c∈inter 32 ((Txt.split (Txt.replace t "\n" " ") " ").map fun t=>t.cps.toList),c≠10:=by
  rw [<- e]
  intro c hc z
  obtain ⟨d,hd,ed⟩ := List.mem_map.mp hc
  unfold sub10 at ed
  split at ed <;> (first|lia|omega)
 unfold wordsT
 generalize Txt.split (Txt.replace t "\n" " ") " " = qs at *
 have mem:∀ (ps:List (List Nat)) (q:List Nat) (c:Nat),q∈ps->c∈q->c∈inter 32 ps:=by
  intro ps
  induction ps with
  | nil=>intro q c h; cases h
  | cons p r ih =>
   intro q c hq hc
   obtain ⟨x,ex,cx⟩ := inter_cons 32 p r
   rw [ex]
   rcases List.mem_cons.mp hq with z | z
   ·rw [z] at hc; exact List.mem_append_left _ hc
   ·refine List.mem_append_right _ ?_
    rcases cx with ⟨e1,_⟩ | ⟨_,e2⟩
    ·rw [e1] at z; cases z
    ·rw [e2]; exact List.mem_cons_of_mem _ (ih q c z hc)
 rw [wl_inter]
 ·cases qs with
  | nil=>rfl
  | cons q r =>
   rw [List.map_cons]
   dsimp only
   rw [List.nil_append]
   have key:∀ l:List Str,(l.filter notE).map (fun x=>x.cps.toList)=(l.map fun t=>t.cps.toList).filter fun l => !decide (l=[]):=by
    intro l
    induction l with
    | nil=>rfl
    | cons a l ih =>
     have ea:notE a = !decide (a.cps.toList=[]):=by
      unfold notE
      congr 1
      by_cases z:a = ""
      ·subst z; rfl
      ·have:¬ a.cps.toList=[]:=fun y=>z (by
        obtain ⟨⟨l⟩⟩ := a
        have y':l=[]:=y
        subst y'
        rfl)
       rw [decide_eq_false z,decide_eq_false this]
     rw [List.map_cons,List.filter_cons,List.filter_cons,<- ea]
     split
     ·rw [List.map_cons,ih]
     ·exact ih
   have:=key (q :: r)
   rw [List.map_cons] at this
   exact this
 ·intro q hq c hc b
  obtain ⟨x,hx,rfl⟩ := List.mem_map.mp hq
  rcases b with b | b
  ·exact hf x hx (b ▸ hc)
  ·exact h10 c (mem _ _ _ hq hc) b
 ·intro z
  rw [List.map_eq_nil_iff.mp z] at hp
  exact absurd hp (by decide)
def rIndexS:V->List V->Hp->VK->Prop:=fun x vs H Q=>∃ (t y:Str) (i:Nat) (rest:List Nat),x = .str t/\vs=[.str y]/\occurrences t y 0 t.length 1=i :: rest/\Q (.int (i:Int)) H
theorem mt_indexs {X:Cx}:MtR X "str.index" rIndexS:=by
 intro pins s σ H x vs v us Q I rx rv h
 obtain ⟨t,y,i,rest,rfl,rfl,ho,q⟩ := h
 obtain ⟨tk,rfl⟩ := rx
 obtain ⟨u,rfl,ru⟩ := rv.one
 obtain ⟨tk2,rfl⟩ := ru
 exact call_gives F.slot_str_index (typeIs_str _ _ _) F.entry_str_index (F.args_str_index_2 _ _) (gives_str_index t y tk tk2 i rest ho) ⟨.int _,H,I.tok _,⟨_,rfl⟩,q⟩
end L2

namespace HT
open PySem PySem.Spec PyProof.Rows
section
variable {prog:Program} {w:World} {A:Around} {E:Value->Shared->Prop} {s:Shared}
theorem getItem_tuple_all {t sl:Addr} {items:Array Value} {vl vu:Value} {lo hi:Option Int} {Q:Value->Shared->Prop} (ht:IsTup s.heap t items) (hs:s.heap.IsSliceOf sl vl vu .none) (pl:IsPart vl lo) (pu:IsPart vu hi)
  (hw:sIx items.size 0 lo=0/\sIx items.size items.size hi=items.size) (h:Q (.ref t) s):wpAny (model prog w) A (getItem (.ref t) (.ref sl)) Q E s:=by
 obtain ⟨os,hos,hcs,hds⟩ := id hs
 have hTs:s.TypeIs (.ref sl) "slice" := ⟨os,hos,hcs⟩
 unfold getItem
 try with_reducible refine wpAny_holding ?_
 first | refine wpAny_bind (wpAny_pure ?_) | skip
 refine wpAny_bind (wpAny_sequenceKey ht.typeIs (by decide) ?_)
 refine wpAny_bind (wpAny_callSpecial?_slot (name:=Str.ofString "__getitem__") ht.typeIs PyProof.Rows.slot_tuple_getitem
  (wpAny_call_entry PyProof.Rows.slot_tuple_getitem ht.typeIs entry_tuple_getitem ?_ (args_tuple_getitem _ _)))
 show wpAny _ _ (Builtin.Tuple.tupleItemsOf (.ref t) >>= _) _ _ s
 refine wpAny_bind (tupleItemsOf_ ht ?_)
 refine wpAny_bind (wpAny_typeOf hTs ?_)
 rw [if_pos (by decide)]
 refine wpAny_bind (wK hs pl pu ?_)
 have yes:(((sIx items.size 0 lo:Nat):Int) == 0 && (1:Int) == 1 && (sIx items.size items.size hi - sIx items.size 0 lo) == items.size)=true:=by
  rw [hw.1,hw.2]; simp
 show wpAny _ _ (if (((sIx items.size 0 lo:Nat):Int) == 0 && (1:Int) == 1 && (sIx items.size items.size hi - sIx items.size 0 lo) == items.size)=true then _ else _) _ _ s
 rw [if_pos yes]
 obtain ⟨ot,hot,hct,_⟩ := ht
 have Ty:s.TypeIs (.ref t) "tuple" := ⟨ot,hot,hct⟩
 unfold Builtin.Tuple.tupleIsExact
 refine wpAny_bind (wpAny_bind (wpAny_typeOf Ty (wpAny_pure ?_)))
 rw [if_pos (by decide)]
 first
  | exact wpAny_bind (wpAny_rule (wpAny_pure ⟨_,rfl,wpAny_pure h⟩))
  | exact wpAny_bind (wpAny_rule (wpAny_bind (wpAny_pure (wpAny_pure ⟨_,rfl,wpAny_pure h⟩))))
end
end HT
namespace L2
open PySem PySem.Spec PyProof.Rows
section
variable {X:Cx}
def rSlU:V->Option Int->Option Int->Hp->VK->Prop:=fun x lo hi H Q=>∃ a xs,x = .ref a/\H a=some (.tup xs)/\∀ r H',Same H H'->H' r=some (.tup (cutV xs lo hi))->Q (.ref r) H'
theorem cutV_all {xs:List V} {lo hi:Option Int} (h:HT.sIx xs.length 0 lo=0/\HT.sIx xs.length xs.length hi=xs.length):cutV xs lo hi=xs:=by
 unfold cutV
 rw [h.1,h.2]; simp
theorem sl_tupU:SlR X rSlU:=by
 intro pins s σ H x v vl vu lo hi sl Q I rx hs pl pu h
 obtain ⟨a,xs,rfl,hx,q⟩ := h
 by_cases hw:HT.sIx xs.length 0 lo=0/\HT.sIx xs.length xs.length hi=xs.length
 ·cases rx
  obtain ⟨its,r,ht,hz⟩ := I.tuple (SqT.of hx)
  have hlen:its.toArray.size=xs.length:=by rw [List.size_toArray]; exact r.length.symm
  refine ⟨"tuple",_,PyProof.Rows.slot_tuple_getitem.lookup,ht.typeIs,?_⟩
  exact HT.getItem_tuple_all ht hs pl pu (by rw [hlen]; exact hw) ⟨.ref a,H,I,rfl,q a H (Same.refl _) (by rw [cutV_all hw]; exact hx)⟩
 ·exact sl_tup pins s σ H (.ref a) v vl vu lo hi sl Q I rx hs pl pu ⟨a,xs,rfl,SqT.of hx,hw,fun p hp=>q p _ (zF hp _) zC⟩
end
theorem qR {xs:List V} (n:Nat):cutV xs none (some (n:Int))=xs.take n:=by
 unfold cutV
 rw [HT.sIx_none,HT.sIx_nat,List.drop_zero,Nat.sub_zero]
 by_cases h:n<=xs.length
 ·rw [Nat.min_eq_left h]
 ·rw [Nat.min_eq_right (by (first|lia|omega)),List.take_length,List.take_of_length_le (by (first|lia|omega))]
theorem cutV_drop {xs:List V} (n:Nat):cutV xs (some (n:Int)) none=xs.drop n:=by
 unfold cutV
 rw [HT.sIx_none,HT.sIx_nat]
 by_cases h:n<=xs.length
 ·rw [Nat.min_eq_left h,List.take_of_length_le (by rw [List.length_drop]; (first|lia|omega))]
 ·rw [Nat.min_eq_right (by (first|lia|omega)),Nat.sub_self,List.take_zero,List.drop_eq_nil_of_le (by (first|lia|omega))]
end L2

namespace L2
open PySem PySem.Spec PyProof.Rows
section
variable {X:Cx}
end
end L2

namespace L2
open PySem PySem.Spec
section
variable {X:Cx}
def rEqNilT (K:PySem.W.Frag):R2:=fun x y H Q=>∃ a b xs,x = .ref a/\y = .ref b/\SqT K H a xs/\SqT K H b []/\Q (.bl xs.isEmpty) H
theorem op_eqNilT {k:Nat} (hr:Room k X.A):OpR X (compareOp .Eq) (rEqNilT X.K):=by
 intro pins s σ H x y v u Q I rx ry h
 obtain ⟨a,b,xs,rfl,rfl,ha,hb,q⟩ := h
 cases xs with
 | nil=>exact op_eqD hr pins s σ H _ _ _ _ Q I rx ry ⟨a,b,[],[],0,rfl,rfl,.inr ⟨ha,hb⟩,.nil,by decide,q⟩
 | cons z zs =>
  cases rx; cases ry
  have hu:=hr.un
  obtain ⟨us,r,pa,_⟩ := I.tuple ha
  obtain ⟨vs,q',pb,_⟩ := I.tuple hb
  cases q'
  cases r with
  | cons r1 r2 =>
   have:=SeqAt.RcAt.tuples (A:=X.A) (s:=s) (e:=fun _=>true) pa pb (by (first|lia|omega)) (fun j h1 h2=>absurd h2 (by simp))
   simp at this
   exact this _ _ _ _ ⟨.bl false,H,I,rfl,q⟩
end
end L2

namespace L2
open PySem PySem.Spec PyProof.Rows
end L2

namespace L2
open PySem
end L2

namespace L2
open PySem PySem.Spec PyProof.Rows
inductive Tr where
 | mk (kind:Int) (own:List Int) (parts:List Tr)
mutual
def preT:Tr->List Tr
 | .mk k own ps => .mk k own ps :: preTs ps
def preTs:List Tr->List Tr
 | []=>[]
 | a :: r=>preT a++preTs r
end
mutual
def nums:Tr->List Int
 | .mk k own ps=>k :: (own++numsL ps)
def numsL:List Tr->List Int
 | []=>[]
 | a :: r=>nums a++numsL r
end
def headN:Tr->List Int
 | .mk k own _=>k :: own
mutual
theorem nums_pre:∀ t:Tr,(preT t).flatMap headN=nums t
 | .mk k own ps=>by
  rw [preT,List.flatMap_cons,nums_preL ps,nums]; rfl
theorem nums_preL:∀ ts:List Tr,(preTs ts).flatMap headN=numsL ts
 | []=>by simp [preTs,numsL]
 | a :: r=>by rw [preTs,List.flatMap_append,nums_pre a,nums_preL r,numsL]
end
mutual
theorem pre_nums:∀ t:Tr,(preT t).length<=(nums t).length
 | .mk k own ps=>by
  have:=pre_numsL ps
  simp [preT,nums]; (first|lia|omega)
theorem pre_numsL:∀ ts:List Tr,(preTs ts).length<=(numsL ts).length
 | []=>by simp [preTs,numsL]
 | a :: r=>by
  have:=pre_nums a
  have:=pre_numsL r
  simp [preTs,numsL]; (first|lia|omega)
end
mutual
def bare:Nd->Tr
 | .mk k _ own ps => .mk k own (bareL ps)
def bareL:List Nd->List Tr
 | []=>[]
 | a :: r=>bare a :: bareL r
end
section

theorem list_extend_tup (l:Addr) (items:Array Value) (n:Nat) (b:Addr) (items2:Array Value) (n2:Nat) (dd:Option Addr) (sl:Array (Option Value)) (hs0:¬(!items.isEmpty && Builtin.List.listTooLong (items.size+items2.size))=true) (hs1:items.size<=sizeLine) (hs2:items.size+items2.size<=sizeLine+1) :
  Meets (Builtin.«list.extend» ⟨[.ref l,.ref b],[]⟩) (fun _ R s=>s.heap.get? l=some { cls:=.type "list",dict:=none,data:=.seq items n,slots:=#[] }/\s.heap.get? b=some ⟨.type "tuple",dd,.seq items2 n2,sl⟩/\R (.ok (.ret Value.none)) { s with heap:=s.heap.update l (Obj.mapSeq fun x=>x++items2),toks:=s.toks }) :=
 .of_wp fun _ _ _ _ σs hyp=>by
  obtain ⟨σh,σg,σd,σt,σo⟩ := σs
  obtain ⟨atL,atB,fin⟩ := hyp
  have r1:=AutoSeq1.idx_int
  have r2:=AutoSeq1.sub_tuple_tuple
  have r3:=AutoSeq1.sub_list_list
  have r4:=AutoSeq1.sub_tuple_list
  have r5:=AutoSeq1.sub_list_tuple
  have fits:(items++items2).size<=sizeLine+1:=by simpa using hs2
  wp_walk using (wpAny_updateSeq atL rfl (hz:=hs1) (_hz':=fits)),AutoSeq1.wpAny_loadPart' atL,AutoSeq1.wpAny_loadPart' atB
  exact ⟨_,rfl,fin⟩
end
section
variable {X:Cx}
def rExtendT:V->List V->Hp->VK->Prop:=fun x vs H Q=>∃ l b xs zs,x = .ref l/\vs=[.ref b]/\H l=some (.lst xs)/\H b=some (.tup zs)/\xs.length+zs.length<=sizeLine/\Q .non (upd H l (.lst (xs++zs)))
theorem mt_extendT:MtM X "list.extend" rExtendT:=by
 intro pins s σ H x vs v us Q I rx rv h
 obtain ⟨l,b,xs,zs,rfl,rfl,hH,hB,hz,q⟩ := h
 cases rx
 obtain ⟨u,rfl,ru⟩ := rv.one
 cases ru
 obtain ⟨z,its,n,r,hl,e⟩ := I.lstM hH
 obtain ⟨_,its2,r2,p⟩ := (show ObjOk X.prog X.w H s.heap b (.tup zs) from I.hok b _ hB)
 obtain ⟨⟨oc,od,oda,osl⟩,h1,h2,n2,h3⟩ := p
 dsimp only at h2 h3
 subst h2 h3
 have hl2:=r2.length
 have hsz:its.toArray.size+its2.toArray.size<=sizeLine:=by rw [List.size_toArray,List.size_toArray]; (first|lia|omega)
 have hlong:¬ (!its.toArray.isEmpty && Builtin.List.listTooLong (its.toArray.size+its2.toArray.size))=true:=by
  rw [notLongL hsz,Bool.and_false]
  exact Bool.false_ne_true
 refine call_meets F.slot_list_extend ⟨_,e,rfl⟩ F.entry_list_extend (F.args_list_extend_2 _ _)
  (list_extend_tup l its.toArray n b its2.toArray n2 od osl hlong (by rw [List.size_toArray]; (first|lia|omega)) (by (first|lia|omega))) ⟨e,h1,?_⟩
 refine ⟨.non,_,I.lset (its':=its++its2) hH e (by simp) (r.append r2) ?_,rfl,q⟩
 rw [List.length_append]
 (first|lia|omega)
end
mutual
def okT:Tr->Prop
 | .mk k own ps=>(k=3\/k=4->own≠[])/\okTs ps
def okTs:List Tr->Prop
 | []=>True
 | a :: r=>okT a/\okTs r
end
end L2

namespace L2
open PySem PySem.Spec PyProof.Rows
section
variable {X:Cx} {tg:Expr}
end
end L2

namespace L2
open PySem
end L2
namespace L2
open PySem
end L2
namespace L2
open PySem
end L2
namespace L2
open PySem
section
variable {X:Cx}
end
end L2

namespace L2
open PySem
end L2

namespace L2
open PySem
end L2

namespace L2
open PySem
def Pen3 (H:Hp) (st:Addr) (m:Int):Prop:=∃ c s t:Int,H st=some (.lst [.int c,.int s,.int t])/\0<=c/\0<=t/\t<=m
structure Penned3 (st:Addr) (m:Int) (H H':Hp):Prop where
 pen:Pen3 H' st m
 keep:Keep st H H'
theorem Penned3.trans {st:Addr} {m n:Int} {H H1 H2:Hp} (a:Penned3 st m H H1) (b:Penned3 st n H1 H2):Penned3 st n H H2:=⟨b.pen,a.keep.trans b.keep⟩
theorem Pen3.refl {st:Addr} {m:Int} {H:Hp} (d:Pen3 H st m):Penned3 st m H H:=⟨d,Keep.refl st H⟩
theorem Pen3.is {H:Hp} {st:Addr} {m:Int} (d:Pen3 H st m):∃ xs,H st=some (.lst xs):=by
 obtain ⟨c,s,t,e,_⟩ := d
 exact ⟨_,e⟩
theorem Pen3.ne {st b:Addr} {m:Int} {H:Hp} (d:Pen3 H st m) (h:H b=none):st≠b:=by
 obtain ⟨xs,e⟩ := d.is
 exact zG e h
theorem Pen3.mono {st:Addr} {m n:Int} {H:Hp} (d:Pen3 H st m) (h:m<=n):Pen3 H st n:=by
 obtain ⟨c,s,t,e,a,b,k⟩ := d
 exact ⟨c,s,t,e,a,b,by (first|lia|omega)⟩
theorem Penned3.mono {st:Addr} {m n:Int} {H H':Hp} (d:Penned3 st m H H') (h:m<=n):Penned3 st n H H':=⟨d.pen.mono h,d.keep⟩
theorem Pen3.same {st:Addr} {m:Int} {H H':Hp} (d:Pen3 H st m) (h:Same H H'):Pen3 H' st m:=by
 obtain ⟨c,s,t,e,r⟩ := d
 exact ⟨c,s,t,h _ _ e,r⟩
theorem Pen3.more {st:Addr} {m:Int} {H H':Hp} (d:Pen3 H st m) (g:Same H H'):Penned3 st m H H':=⟨d.same g,Keep.same g⟩
theorem Pen3.new {st p:Addr} {m:Int} {H:Hp} (d:Pen3 H st m) (h:H p=none) (o:HO):Penned3 st m H (upd H p o):=d.more (zF h o)
theorem Pen3.put {st p:Addr} {m:Int} {H:Hp} {o:HO} (d:Pen3 H st m) (n:p≠st):Pen3 (upd H p o) st m:=by
 obtain ⟨c,s,t,e,r⟩ := d
 exact ⟨c,s,t,(by rw [zH (Ne.symm n)]; exact e),r⟩
theorem Penned3.free {st b:Addr} {m:Int} {H H':Hp} (h:Penned3 st m H H') (e:H' b=none):H b=none:=by
 cases z:H b with
 | none=>rfl
 | some o=>rw [h.keep b o (Ne.symm (h.pen.ne e)) z] at e; cases e
def spDraw3:Sp:=fun vs H Q _=>∃ (st:Addr) (many m:Int),vs=[.ref st,.int many]/\0<many/\many<1073741824/\m<=1000000/\Pen3 H st m/\∀ (r:Int) (H':Hp),0<=r->r<many->Penned3 st (m+1) H H'->Q (.int r) H'
end L2

namespace L2
open PySem
def letW (cs:List Nat):Str:=⟨cs.toArray⟩
def oneW (c:Nat):Str:=⟨#[c]⟩
def kwA:List Str:=kwH++kwW
theorem letW_cps (cs:List Nat):(letW cs).cps.toList=cs:=rfl
theorem letW_inj {a b:List Nat} (h:letW a=letW b):a=b:=by
 have:=congrArg (fun t:Str=>t.cps.toList) h
 exact this
theorem join_ones:∀ cs:List Nat,Str.join "" (cs.map oneW)=letW cs
 | []=>rfl
 | [c]=>rfl
 | c :: d :: r=>by
  have ih:=join_ones (d :: r)
  show (oneW c ++ "" ++ Str.join "" ((d :: r).map oneW))=_
  rw [ih]
  refine congrArg Str.mk ?_
  show (#[c]++(Str.ofString "").cps++(d :: r).toArray)=(c :: d :: r).toArray
  simp [show (Str.ofString "").cps = #[] from by decide]
theorem txt_ones (cs:List Nat):Txt.join "" (cs.map oneW)=letW cs:=(StrLaws.glued_eq_join _ _).trans (join_ones cs)
theorem wG:lettersS.cps.toList=(List.range 26).map (97 + ·):=by decide +kernel
theorem okName_of {cs:List Nat} (hc:∀ c∈cs,97<=c/\c<=122) (h1 : 1<=cs.length) (h8:cs.length<=8) (hk:letW cs ∉ kwA):okName (letW cs)=true:=by
 have hl:(letW cs).length=cs.length:=List.size_toArray ..
 have ia:inAll (letW cs) lettersS=true:=by
  unfold inAll
  rw [List.all_eq_true]
  intro c h
  refine decide_eq_true ?_
  rw [wG,List.mem_map]
  have:=hc c h
  exact ⟨c - 97,List.mem_range.mpr (by (first|lia|omega)),by (first|lia|omega)⟩
 have kh:letW cs ∉ kwH:=fun z=>hk (List.mem_append_left _ z)
 have kw:letW cs ∉ kwW:=fun z=>hk (List.mem_append_right _ z)
 unfold okName
 rw [decide_eq_true (by (first|lia|omega)),decide_eq_true (by (first|lia|omega)),ia,decide_eq_false kh,decide_eq_false kw]
 rfl
theorem kw_last:(kwA.map fun w=>w.cps.toList.dropLast).Nodup:=by decide +kernel
theorem filter_one {α β:Type} [DecidableEq β] (f : α->β) (b : β):∀ l:List α,(l.map f).Nodup->(l.filter fun x=>decide (f x=b)).length<=1
 | [],_=>Nat.zero_le _
 | x :: r,h=>by
  rw [List.map_cons,List.nodup_cons] at h
  rw [List.filter_cons]
  split
  ·rename_i c
   have c':=of_decide_eq_true c
   have:r.filter (fun x=>decide (f x=b))=[]:=by
    rw [List.filter_eq_nil_iff]
    intro y hy z
    exact h.1 (List.mem_map.mpr ⟨y,hy,(of_decide_eq_true z).trans c'.symm⟩)
   rw [this]
   exact Nat.le_refl _
  ·exact filter_one f b r h.2
theorem nodup_le {α:Type} [DecidableEq α]:∀ {l m:List α},l.Nodup->(∀ x∈l,x∈m)->l.length<=m.length
 | [],m,_,_=>Nat.zero_le _
 | x :: l,m,h,s=>by
  rw [List.nodup_cons] at h
  have hx:=s x (List.mem_cons_self ..)
  have:=nodup_le (l:=l) (m:=m.erase x) h.2 fun y hy=>by
   have ny:y≠x:=fun z=>h.1 (z ▸ hy)
   exact (List.mem_erase_of_ne ny).mpr (s y (List.mem_cons_of_mem _ hy))
  rw [List.length_erase_of_mem hx] at this
  have : 0<m.length:=List.length_pos_of_mem hx
  rw [List.length_cons]
  (first|lia|omega)
theorem free_name (pre:List Nat) (j0:Nat) (ts:List Str) (h:ts.length<=24):∃ k,k<26/\letW (pre++[97+(j0+k) % 26]) ∉ ts++kwA:=by
 refine Classical.byContradiction fun no => ?_
 have all:∀ j,j<26->letW (pre++[97+j])∈ts++kwA:=fun j hj=>by
  refine Classical.byContradiction fun z=>no ⟨(j+26 - j0 % 26) % 26,Nat.mod_lt _ (by decide),?_⟩
  have:(j0+(j+26 - j0 % 26) % 26) % 26=j:=by (first|lia|omega)
  rw [this]
  exact z
 have sub:∀ x∈(List.range 26).map (fun j=>letW (pre++[97+j])),x∈ts++kwA.filter (fun w=>decide (w.cps.toList.dropLast=pre)):=fun x hx=>by
  obtain ⟨j,hj,rfl⟩ := List.mem_map.mp hx
  rcases List.mem_append.mp (all j (List.mem_range.mp hj)) with z | z
  ·exact List.mem_append_left _ z
  ·refine List.mem_append_right _ (List.mem_filter.mpr ⟨z,decide_eq_true ?_⟩)
   rw [letW_cps,List.dropLast_concat]
 have nd:((List.range 26).map (fun j=>letW (pre++[97+j]))).Nodup:=by
  refine List.Pairwise.map _ ?_ List.nodup_range
  intro a b hab e
  have:=letW_inj e
  have:=List.append_cancel_left this
  injection this with e1 _
  (first|lia|omega)
 have l1:=nodup_le nd sub
 rw [List.length_map,List.length_range,List.length_append] at l1
 have l2:=filter_one (fun w:Str=>w.cps.toList.dropLast) pre kwA kw_last
 (first|lia|omega)
theorem idx_letter:∀ j:Fin 26,Builtin.Str.occurrences lettersS (oneW (97+j.1)) 0 lettersS.length 1=[j.1]:=by decide +kernel
theorem words_split:Txt.split "fun with is set all pick loop call fail add sub mul quo rest less same push at put size new" " " = kwA:=by decide +kernel
end L2

namespace L2
open PySem
def Has (W:List Str) (a:Nat) (ws:List Str):Prop:=∃ post,W.drop a=ws++post
theorem Has.cons {W:List Str} {a:Nat} {x:Str} {r:List Str} (h:Has W a (x :: r)):W[a]? = some x/\Has W (a+1) r:=by
 obtain ⟨post,e⟩ := h
 have e1:(W.drop a)[0]? = some x:=by rw [e]; rfl
 rw [List.getElem?_drop] at e1
 refine ⟨by simpa using e1,post,?_⟩
 have:=congrArg (List.drop 1) e
 rw [List.drop_drop] at this
 simpa using this
theorem Has.app {W:List Str} {a:Nat} {u v:List Str} (h:Has W a (u++v)):Has W a u/\Has W (a+u.length) v:=by
 obtain ⟨post,e⟩ := h
 refine ⟨⟨v++post,by rw [e,List.append_assoc]⟩,post,?_⟩
 have:=congrArg (List.drop u.length) e
 rw [List.drop_drop,List.append_assoc,List.drop_left] at this
 exact this
abbrev Hd3:=Str × List Str × Nat
structure BxOk (bs:List Str):Prop where
 nd:bs.Nodup
 ok:∀ b∈bs,okName b=true
 few:bs.length<=12
structure HdOk (h:Hd3):Prop where
 nm:okName h.1=true
 bx:BxOk h.2.1
 p4:h.2.2<=4
 pb:h.2.2<=h.2.1.length
structure Agr (hs:List Hd3) (num:List (Str × Int)) (cnt:List Int):Prop where
 num:∀ (i:Nat) (h:Hd3),hs[i]? = some h->lookN num h.1=some (i:Int)
 cnt:∀ (i:Nat) (h:Hd3),hs[i]? = some h->cnt[i]? = some (h.2.2:Int)
 ok:∀ h∈hs,HdOk h
def Reads (hs:List Hd3) (bs:List Str) (d:Nat) (ws:List Str) (zs:List Int):Prop:=∀ W num cnt a bd,Has W a ws->Agr hs num cnt->nodeR W num cnt bs d a bd = .ok (a+ws.length,bd++zs)
theorem jZ {w:Str} (h:okName w=true):inAll w lettersS=true/\1<=w.length/\w.length<=8/\w ∉ kwH/\w ∉ kwW:=by
 unfold okName at h
 rw [Bool.and_eq_true_iff,Bool.and_eq_true_iff,Bool.and_eq_true_iff,Bool.and_eq_true_iff] at h
 obtain ⟨⟨⟨⟨h1,h2⟩,h3⟩,h4⟩,h5⟩ := h
 refine ⟨h3,of_decide_eq_true h1,of_decide_eq_true h2,fun z => ?_,fun z => ?_⟩
 ·rw [decide_eq_true z] at h4; cases h4
 ·rw [decide_eq_true z] at h5; cases h5
theorem okName_sign {w:Str} (h:okName w=true):∀ c∈w.cps.toList,97<=c/\c<=122:=fun c hc=>by
 have h1:=(jZ h).1
 unfold inAll at h1
 rw [List.all_eq_true] at h1
 have:=of_decide_eq_true (h1 c hc)
 rw [wG,List.mem_map] at this
 obtain ⟨j,hj,e⟩ := this
 have:=List.mem_range.mp hj
 (first|lia|omega)
theorem letters_nonum {w:Str} (h:∀ c∈w.cps.toList,97<=c/\c<=122) (h0 : 1<=w.length):numOk w 60=false:=by
 refine Bool.eq_false_iff.mpr fun z => ?_
 obtain ⟨h1,h2,h3⟩ := numOk_fig z
 have hw:w.cps.toList.length=w.length:=Array.length_toList
 have hp:figS w=w:=qX (fun e=>by
  have:=h 45 (List.mem_of_getElem? e)
  (first|lia|omega))
 rw [hp] at h3
 cases e:w.cps.toList with
 | nil=>rw [e] at hw; have:([]:List Nat).length=0:=rfl; (first|lia|omega)
 | cons c r =>
  have a:=h c (by rw [e]; exact List.mem_cons_self ..)
  have b:=h3 c (by rw [e]; exact List.mem_cons_self ..)
  (first|lia|omega)
theorem okName_nonum {w:Str} (h:okName w=true):numOk w 60=false:=letters_nonum (okName_sign h) (jZ h).2.1
theorem kw_letters:∀ w∈kwA,(∀ c∈w.cps.toList,97<=c/\c<=122)/\1<=w.length:=by decide +kernel
theorem kw_nonum {w:Str} (h:w∈kwA):numOk w 60=false:=letters_nonum (kw_letters w h).1 (kw_letters w h).2
section
variable {hs:List Hd3} {bs:List Str} {W:List Str} {num:List (Str × Int)} {cnt:List Int} {a d:Nat} {bd:List Int}
theorem parts_zero {f:NdR}:partsR f 0 a bd = .ok (a,bd):=rfl
theorem reads_num {n:Int} (hn:n.natAbs<10 ^ 60):Reads hs bs (d+1) [numS n] [0,n]:=fun W num cnt a bd hw ag=>by
 obtain ⟨e,_⟩ := hw.cons
 have ok:numOk (numS n) 60=true:=numOk_num (k:=59) hn (by decide)
 have ek:kindR W a bs = .ok (0,a):=by unfold kindR; rw [e]; dsimp only; rw [if_pos ok]
 have eo:ownR W num a 0 bs = .ok ([n],a+1):=by
  unfold ownR numR
  rw [if_pos rfl,e]
  dsimp only
  rw [if_pos ok,valW_num (Nat.lt_trans hn (by decide +kernel))]
 unfold nodeR
 rw [ek]
 dsimp only
 rw [eo]
 dsimp only
 rw [show (dueP cnt 0 [n]).toNat=0 from rfl,parts_zero]
 rfl
theorem idx_nd {b:Str}:∀ {bs:List Str} {i:Nat},bs.Nodup->bs[i]? = some b->bs.idxOf b=i
 | [],i,_,h=>by simp at h
 | x :: r,0,_,h=>by
  have:x=b:=by simpa using h
  rw [this,List.idxOf_cons_self]
 | x :: r,i+1,nd,h=>by
  rw [List.nodup_cons] at nd
  have h':r[i]? = some b:=by simpa using h
  have:x≠b:=fun z=>nd.1 (z ▸ List.mem_of_getElem? h')
  rw [List.idxOf_cons,idx_nd nd.2 h']
  have:(x == b)=false:=by simpa using this
  rw [this]
  rfl
theorem reads_get (hb:BxOk bs) {i:Nat} {b:Str} (hi:bs[i]? = some b):Reads hs bs (d+1) [b] [1,(i:Int)]:=fun W num cnt a bd hw ag=>by
 obtain ⟨e,_⟩ := hw.cons
 have m:=List.mem_of_getElem? hi
 have ek:kindR W a bs = .ok (1,a):=by
  unfold kindR; rw [e]; dsimp only; rw [if_neg (by rw [okName_nonum (hb.ok b m)]; decide),if_pos m]
 have eo:ownR W num a 1 bs = .ok ([(i:Int)],a+1):=by
  unfold ownR boxR
  rw [if_neg (by decide),if_pos (.inl rfl),e]
  dsimp only
  rw [if_pos m,idx_nd (i:=i) hb.nd hi]
 unfold nodeR
 rw [ek]
 dsimp only
 rw [eo]
 dsimp only
 rw [show (dueP cnt 1 [(i:Int)]).toNat=0 from rfl,parts_zero]
 rfl
inductive RParts (hs:List Hd3) (bs:List Str) (d:Nat):Nat->List Str->List Int->Prop
 | nil:RParts hs bs d 0 [] []
 | snoc {n:Nat} {ws ws':List Str} {zs zs':List Int}:RParts hs bs d n ws zs->Reads hs bs d ws' zs'->RParts hs bs d (n+1) (ws++ws') (zs++zs')
theorem parts_add {f:NdR}:∀ (n m a:Nat) (bd:List Int),partsR f (n+m) a bd=(match partsR f n a bd with | .ok q=>partsR f m q.1 q.2 | .error e => .error e)
 | 0,m,a,bd=>by rw [Nat.zero_add]; rfl
 | n+1,m,a,bd=>by
  rw [show n+1+m=(n+m)+1 by (first|lia|omega)]
  rw [partsR,partsR]
  cases f a bd with
  | error e=>rfl
  | ok q=>exact parts_add n m q.1 q.2
theorem RParts.read {n:Nat} {ws:List Str} {zs:List Int} (h:RParts hs bs d n ws zs):∀ W num cnt a bd,Has W a ws->Agr hs num cnt->partsR (nodeR W num cnt bs d) n a bd = .ok (a+ws.length,bd++zs):=by
 induction h with
 | nil=>intro W num cnt a bd _ _; rw [List.append_nil]; rfl
 | @snoc n ws ws' zs zs' h r ih =>
  intro W num cnt a bd hw ag
  obtain ⟨h1,h2⟩ := hw.app
  rw [parts_add,ih W num cnt a bd h1 ag]
  dsimp only
  rw [partsR,r W num cnt (a+ws.length) (bd++zs) h2 ag]
  dsimp only
  rw [parts_zero,List.length_append,Nat.add_assoc,List.append_assoc]
def OwnIs (hs:List Hd3) (bs:List Str) (k:Int) (ow:List Str) (on:List Int) (n:Nat):Prop:=∀ W num cnt a,Has W a ow->Agr hs num cnt->ownR W num a k bs = .ok (on,a+ow.length)/\dueP cnt k on=(n:Int)
theorem reads_kind (hb:BxOk bs) {j:Nat} {w:Str} (hj:kwW[j]? = some w) {ow:List Str} {on:List Int} {n:Nat} (ho:OwnIs hs bs (2+(j:Int)) ow on n) {ws:List Str} {zs:List Int} (hp:RParts hs bs d n ws zs) :
  Reads hs bs (d+1) (w :: (ow++ws)) ((2+(j:Int)) :: (on++zs)):=fun W num cnt a bd hw ag=>by
 obtain ⟨e,h1⟩ := hw.cons
 obtain ⟨h2,h3⟩ := h1.app
 have m:=List.mem_of_getElem? hj
 have nb:w ∉ bs:=fun z=>(jZ (hb.ok w z)).2.2.2.2 m
 have ei:kwW.idxOf w=j:=idx_nd (i:=j) (by decide +kernel) hj
 have ek:kindR W a bs = .ok (2+(j:Int),a+1):=by
  unfold kindR; rw [e]; dsimp only
  rw [if_neg (by rw [kw_nonum (List.mem_append_right _ m)]; decide),if_neg nb,if_pos m,ei]
 obtain ⟨eo,ed⟩ := ho W num cnt (a+1) h2 ag
 unfold nodeR
 rw [ek]
 dsimp only
 rw [eo]
 dsimp only
 rw [ed,Int.toNat_natCast,hp.read W num cnt _ _ h3 ag,List.length_cons,List.length_append]
 refine congrArg Except.ok (Prod.ext ?_ ?_)
 ·show a+1+ow.length+ws.length=a+(ow.length+ws.length+1)
  (first|lia|omega)
 ·show bd++(2+(j:Int)) :: on++zs=bd++(2+(j:Int)) :: (on++zs)
  simp
theorem is_own_none {k:Int} {n:Nat} (h5:k≠0/\k≠1/\k≠2/\k≠3/\k≠4/\k≠6) (hn:(if k=5 then 2 else (partsW[(k - 7).toNat]?).getD 0)=(n:Int)):OwnIs hs bs k [] [] n:=fun W num cnt a _ _=>by
 obtain ⟨h0,h1,h2,h3,h4,h6⟩ := h5
 refine ⟨?_,?_⟩
 ·unfold ownR
  rw [if_neg h0,if_neg (by (first|lia|omega)),if_neg h3,if_neg h4,if_neg h6]
  rfl
 ·unfold dueP
  rw [if_neg (by (first|lia|omega)),if_neg h2,if_neg h3,if_neg h4]
  rw [<- hn]
  by_cases c:k=5
  ·rw [if_pos c,if_pos c]
  ·rw [if_neg c,if_neg c,if_neg h6]
theorem is_own_set (hb:BxOk bs) {i:Nat} {b:Str} (hi:bs[i]? = some b):OwnIs hs bs 2 [b] [(i:Int)] 1:=fun W num cnt a hw ag=>by
 obtain ⟨e,_⟩ := hw.cons
 refine ⟨?_,rfl⟩
 unfold ownR boxR
 rw [if_neg (by decide),if_pos (.inr rfl),e]
 dsimp only
 rw [if_pos (List.mem_of_getElem? hi),idx_nd (i:=i) hb.nd hi]
 rfl
theorem is_own_many {k:Int} {c:Int} (hk:k=3\/k=4) (h1:k - 2<=c) (h2:c<=12):OwnIs hs bs k [numS c] [c] (c+k - 3).toNat:=fun W num cnt a hw ag=>by
 obtain ⟨e,_⟩ := hw.cons
 have hn:c.natAbs<10 ^ 60:=Nat.lt_trans (show c.natAbs<100 by (first|lia|omega)) (by decide +kernel)
 have ok:numOk (numS c) 60=true:=numOk_num (k:=59) hn (by decide)
 have en:numR W a = .ok c:=by
  unfold numR
  rw [e]
  dsimp only
  rw [if_pos ok,valW_num (Nat.lt_trans hn (by decide +kernel))]
 rcases hk with rfl | rfl
 ·refine ⟨?_,?_⟩
  ·unfold ownR manyR
   rw [if_neg (by decide),if_neg (by decide),if_pos rfl,en]
   dsimp only
   rw [if_neg (by (first|lia|omega))]
   rfl
  ·show c=_
   (first|lia|omega)
 ·refine ⟨?_,?_⟩
  ·unfold ownR manyR
   rw [if_neg (by decide),if_neg (by decide),if_neg (by decide),if_pos rfl,en]
   dsimp only
   rw [if_neg (by (first|lia|omega))]
   rfl
  ·show 1+c=_
   (first|lia|omega)
theorem is_own_call {i:Nat} {h:Hd3} (hi:hs[i]? = some h):OwnIs hs bs 6 [h.1] [(i:Int)] h.2.2:=fun W num cnt a hw ag=>by
 obtain ⟨e,_⟩ := hw.cons
 have ok:=ag.ok h (List.mem_of_getElem? hi)
 refine ⟨?_,?_⟩
 ·unfold ownR calledR
  rw [if_neg (by decide),if_neg (by decide),if_neg (by decide),if_neg (by decide),if_pos rfl,e]
  dsimp only
  rw [if_pos ok.nm,ag.num i h hi]
  rfl
 ·show (cnt[((i:Int)).toNat]?).getD 0=_
  rw [Int.toNat_natCast,ag.cnt i h hi]
  rfl
end
structure WdOk (w:Str):Prop where
 nf:w ≠ "fun"
 nw:w ≠ "with"
 ne:w.cps.toList≠[]
 nb:∀ c∈w.cps.toList,¬ blank c
 sh:w.length<=61
theorem letters_wd {w:Str} (h:∀ c∈w.cps.toList,97<=c/\c<=122) (h0 : 1<=w.length):w.cps.toList≠[]/\∀ c∈w.cps.toList,¬ blank c:=by
 have hw:w.cps.toList.length=w.length:=Array.length_toList
 refine ⟨fun z => ?_,fun c hc b => ?_⟩
 ·rw [z] at hw; have:([]:List Nat).length=0:=rfl; (first|lia|omega)
 ·have:=h c hc
  rcases b with b | b <;> (first|lia|omega)
theorem xO {w:Str} (h:okName w=true):WdOk w:=by
 obtain ⟨h1,h2,h3,h4,h5⟩ := jZ h
 obtain ⟨a,b⟩ := letters_wd (okName_sign h) h2
 refine ⟨fun z=>h4 (z ▸ List.mem_cons_self ..),fun z=>h4 (z ▸ List.mem_cons_of_mem _ (List.mem_cons_self ..)),a,b,by (first|lia|omega)⟩
theorem kw_wd:∀ w∈kwW,w ≠ "fun" /\ w ≠ "with" /\ w.length<=61:=by decide +kernel
theorem kw_wdok {w:Str} (h:w∈kwW):WdOk w:=by
 obtain ⟨a,b⟩ := kw_letters w (List.mem_append_right _ h)
 obtain ⟨c,d⟩ := letters_wd a b
 obtain ⟨e1,e2,e3⟩ := kw_wd w h
 exact ⟨e1,e2,c,d,e3⟩
theorem num_wd {n:Int} (hn:n.natAbs<10 ^ 60):WdOk (numS n):=by
 have sg:=fun c (h:c∈(numS n).cps.toList)=>num_signs h
 have dl:=digs_len (k:=59) hn
 have hw:(numS n).cps.toList.length=(numS n).length:=Array.length_toList
 have l : 1<=(numS n).cps.toList.length/\(numS n).cps.toList.length<=61:=by
  obtain ⟨c,r,ed,_⟩ := digs_head n.natAbs
  rcases numS_cps n with ⟨_,e⟩ | ⟨_,e⟩
  ·rw [e,ed,List.length_cons]
   rw [ed,List.length_cons] at dl
   (first|lia|omega)
  ·rw [e,List.length_cons]
   (first|lia|omega)
 have nl:∀ {w:Str} {c:Nat},c∈w.cps.toList->97<=c->numS n≠w:=fun hc h z=>by
  have:=sg _ (z ▸ hc)
  (first|lia|omega)
 refine ⟨nl (w := "fun") (c:=102) (by decide) (by decide),nl (w := "with") (c:=119) (by decide) (by decide),fun z=>by rw [z] at l; have:([]:List Nat).length=0:=rfl; (first|lia|omega),fun c hc b => ?_,by (first|lia|omega)⟩
 have:=sg c hc
 rcases b with b | b <;> (first|lia|omega)
end L2

namespace L2
open PySem
abbrev Pg:=Hd3 × List Str × List Int
def lineW (x:Pg):List Str:=("fun" : Str) :: x.1.1 :: (x.1.2.1.take x.1.2.2++("with" : Str) :: (x.1.2.1.drop x.1.2.2++("is" : Str) :: x.2.1))
def wordsP (pr:List Pg):List Str:=(pr.map lineW).flatten
def namesP (pr:List Pg):List (Str × List Str):=pr.map fun x=>(x.1.1,x.1.2.1)
def headsP (pr:List Pg):List Int:=(pr.map fun x=>[(x.1.2.2:Int),(x.1.2.1.length:Int)]).flatten
def bodiesP (pr:List Pg):List Int:=(pr.map fun x=>x.2.2).flatten
structure PgOk (hs:List Hd3) (x:Pg):Prop where
 hd:HdOk x.1
 rd:Reads hs x.1.2.1 10 x.2.1 x.2.2
 wd:∀ w∈x.2.1,WdOk w
structure ProgR (pr:List Pg):Prop where
 all:∀ x∈pr,PgOk (pr.map (·.1)) x
 nd:(pr.map fun x=>x.1.1).Nodup
 ne:pr≠[]
 few:pr.length<=16
 first:∀ x,pr[0]? = some x->x.1.2.2=0
def nxtN (r:List Str) (f:Int) (acc:List (Str × Int)):List (Str × Int):=match r with | []=>acc | n :: _=>if (lookN acc n).isSome then acc else acc++[(n,f)]
theorem numG_cons (w:Str) (r:List Str) (f:Int) (acc:List (Str × Int)):numG (w :: r) f acc=if w = "fun" then numG r (f+1) (nxtN r f acc) else numG r f acc:=by
 cases r <;> rfl
def NoFun (u:List Str):Prop:=∀ w∈u,w ≠ "fun"
theorem numG_free:∀ (u R:List Str) (f:Int) (acc:List (Str × Int)),NoFun u->numG (u++R) f acc=numG R f acc
 | [],R,f,acc,_=>rfl
 | w :: u,R,f,acc,h=>by
  rw [List.cons_append,numG_cons,if_neg (h w (List.mem_cons_self ..))]
  exact numG_free u R f acc (fun x hx=>h x (List.mem_cons_of_mem _ hx))
theorem line_tail {hs:List Hd3} {x:Pg} (ok:PgOk hs x):NoFun (x.1.1 :: (x.1.2.1.take x.1.2.2++("with" : Str) :: (x.1.2.1.drop x.1.2.2++("is" : Str) :: x.2.1))):=fun w hw=>by
 have bx:∀ b∈x.1.2.1,b ≠ "fun" := fun b hb=>(xO (ok.hd.bx.ok b hb)).nf
 rcases List.mem_cons.mp hw with z | hw
 ·rw [z]; exact (xO ok.hd.nm).nf
 rcases List.mem_append.mp hw with z | hw
 ·exact bx w (List.mem_of_mem_take z)
 rcases List.mem_cons.mp hw with z | hw
 ·rw [z]; decide
 rcases List.mem_append.mp hw with z | hw
 ·exact bx w (List.mem_of_mem_drop z)
 rcases List.mem_cons.mp hw with z | hw
 ·rw [z]; decide
 ·exact (ok.wd w hw).nf
def numL:List Pg->Int->List (Str × Int)
 | [],_=>[]
 | x :: r,f=>(x.1.1,f) :: numL r (f+1)
theorem lookN_none_app {acc m:List (Str × Int)} {x:Str} (h:lookN acc x=none):lookN (acc++m) x=lookN m x:=by
 induction acc with
 | nil=>rfl
 | cons p r ih =>
  unfold lookN at h
  split at h
  ·cases h
  ·rename_i c
   rw [List.cons_append,lookN,if_neg c]
   exact ih h
theorem numG_prog {hs:List Hd3}:∀ (pr:List Pg) (f:Int) (acc:List (Str × Int)),(∀ x∈pr,PgOk hs x)->(pr.map fun x=>x.1.1).Nodup->(∀ x∈pr,lookN acc x.1.1=none)->numG (wordsP pr) f acc=acc++numL pr f
 | [],f,acc,_,_,_=>by rw [show wordsP []=[] from rfl,show numL [] f=[] from rfl,List.append_nil]; rfl
 | x :: r,f,acc,ok,nd,fr=>by
  have okx:=ok x (List.mem_cons_self ..)
  rw [List.map_cons,List.nodup_cons] at nd
  show numG (lineW x++wordsP r) f acc=_
  unfold lineW
  rw [List.cons_append,numG_cons,if_pos rfl]
  rw [List.cons_append]
  unfold nxtN
  dsimp only
  rw [fr x (List.mem_cons_self ..)]
  show numG (x.1.1 :: ((x.1.2.1.take x.1.2.2++("with" : Str) :: (x.1.2.1.drop x.1.2.2++("is" : Str) :: x.2.1))++wordsP r)) (f+1) (acc++[(x.1.1,f)])=_
  rw [<- List.cons_append,numG_free _ _ _ _ (line_tail okx),numG_prog r (f+1) _ (fun y hy=>ok y (List.mem_cons_of_mem _ hy)) nd.2 ?_,List.append_assoc]
  ·rfl
  ·intro y hy
   rw [lookN_none_app (fr y (List.mem_cons_of_mem _ hy)),lookN,if_neg]
   ·rfl
   ·intro z
    have z':x.1.1=y.1.1:=z
    exact nd.1 (z' ▸ List.mem_map.mpr ⟨y,hy,rfl⟩)
theorem numL_at:∀ (pr:List Pg) (f:Int) (i:Nat) (x:Pg),(pr.map fun x=>x.1.1).Nodup->pr[i]? = some x->lookN (numL pr f) x.1.1=some (f+(i:Int))
 | [],f,i,x,_,h=>by simp at h
 | y :: r,f,0,x,nd,h=>by
  have:y=x:=by simpa using h
  rw [this,numL,lookN,if_pos rfl]
  show some f=some (f+((0:Nat):Int))
  rw [show f+((0:Nat):Int)=f by (first|lia|omega)]
 | y :: r,f,i+1,x,nd,h=>by
  rw [List.map_cons,List.nodup_cons] at nd
  have h':r[i]? = some x:=by simpa using h
  rw [numL,lookN,if_neg,numL_at r (f+1) i x nd.2 h']
  ·rw [show f+1+(i:Int)=f+((i+1:Nat):Int) by (first|lia|omega)]
  ·intro z
   have z':y.1.1=x.1.1:=z
   exact nd.1 (z' ▸ List.mem_map.mpr ⟨x,List.mem_of_getElem? h',rfl⟩)
theorem cntG_cons (w:Str) (r:List Str) (n:Nat):cntG (w :: r) n=((if w = "with" then (n:Int) else (cntG r (n+1)).1),if w = "fun" then ((if w = "with" then (n:Int) else (cntG r (n+1)).1) - n - 2) :: (cntG r (n+1)).2 else (cntG r (n+1)).2):=rfl
def NoKw (u:List Str):Prop:=∀ w∈u,w ≠ "fun" /\ w ≠ "with"
theorem cntG_free:∀ (u R:List Str) (n:Nat),NoKw u->cntG (u++R) n=cntG R (n+u.length)
 | [],R,n,_=>rfl
 | w :: u,R,n,h=>by
  obtain ⟨h1,h2⟩ := h w (List.mem_cons_self ..)
  rw [List.cons_append,cntG_cons,if_neg h2,if_neg h1,cntG_free u R (n+1) (fun x hx=>h x (List.mem_cons_of_mem _ hx)),List.length_cons,show n+1+u.length=n+(u.length+1) by (first|lia|omega)]
theorem cntG_line {hs:List Hd3} {x:Pg} (ok:PgOk hs x) (R:List Str) (n:Nat):(cntG (lineW x++R) n).2=(x.1.2.2:Int) :: (cntG R (n+(lineW x).length)).2:=by
 have nb:∀ b∈x.1.2.1,b ≠ "fun" /\ b ≠ "with" := fun b hb=>⟨(xO (ok.hd.bx.ok b hb)).nf,(xO (ok.hd.bx.ok b hb)).nw⟩
 have nn:NoKw (x.1.1 :: x.1.2.1.take x.1.2.2):=fun w hw=>by
  rcases List.mem_cons.mp hw with z | z
  ·rw [z]; exact ⟨(xO ok.hd.nm).nf,(xO ok.hd.nm).nw⟩
  ·exact nb w (List.mem_of_mem_take z)
 have nt:NoKw (x.1.2.1.drop x.1.2.2++("is" : Str) :: x.2.1):=fun w hw=>by
  rcases List.mem_append.mp hw with z | hw
  ·exact nb w (List.mem_of_mem_drop z)
  rcases List.mem_cons.mp hw with z | hw
  ·rw [z]; exact ⟨by decide,by decide⟩
  ·exact ⟨(ok.wd w hw).nf,(ok.wd w hw).nw⟩
 have el:lineW x++R=("fun" : Str) :: ((x.1.1 :: x.1.2.1.take x.1.2.2)++("with" : Str) :: ((x.1.2.1.drop x.1.2.2++("is" : Str) :: x.2.1)++R)):=by
  unfold lineW
  simp
 have lt:(x.1.1 :: x.1.2.1.take x.1.2.2).length=x.1.2.2+1:=by
  rw [List.length_cons,List.length_take,Nat.min_eq_left ok.hd.pb]
 have ll:(lineW x).length=1+(x.1.2.2+1)+1+(x.1.2.1.drop x.1.2.2++("is" : Str) :: x.2.1).length:=by
  have:=congrArg List.length (show lineW x=("fun" : Str) :: ((x.1.1 :: x.1.2.1.take x.1.2.2)++("with" : Str) :: (x.1.2.1.drop x.1.2.2++("is" : Str) :: x.2.1)) by unfold lineW; simp)
  rw [this,List.length_cons,List.length_append,lt,List.length_cons]
  (first|lia|omega)
 rw [el,cntG_cons,if_pos rfl,if_neg (show ¬ (("fun" : Str) = "with") by decide),cntG_free _ _ _ nn,cntG_cons,if_pos rfl,if_neg (show ¬ (("with" : Str) = "fun") by decide),cntG_free _ _ _ nt,lt,ll]
 rw [show ((n+1+(x.1.2.2+1):Nat):Int) - (n:Int) - 2=(x.1.2.2:Int) by (first|lia|omega)]
 ·rw [show n+1+(x.1.2.2+1)+1+(x.1.2.1.drop x.1.2.2++("is" : Str) :: x.2.1).length=n+(1+(x.1.2.2+1)+1+(x.1.2.1.drop x.1.2.2++("is" : Str) :: x.2.1).length) by (first|lia|omega)]
theorem cntG_prog {hs:List Hd3}:∀ (pr:List Pg) (n:Nat),(∀ x∈pr,PgOk hs x)->(cntG (wordsP pr) n).2=pr.map fun x=>(x.1.2.2:Int)
 | [],n,_=>rfl
 | x :: r,n,ok=>by
  show (cntG (lineW x++wordsP r) n).2=_
  rw [cntG_line (ok x (List.mem_cons_self ..)),cntG_prog r _ (fun y hy=>ok y (List.mem_cons_of_mem _ hy)),List.map_cons]
theorem prog_agr {pr:List Pg} (p:ProgR pr):Agr (pr.map (·.1)) (numN (wordsP pr)) (cntN (wordsP pr)):=by
 refine ⟨fun i h hi => ?_,fun i h hi => ?_,fun h hh => ?_⟩
 ·rw [List.getElem?_map] at hi
  cases e:pr[i]? with
  | none=>rw [e] at hi; cases hi
  | some x =>
   rw [e] at hi
   cases hi
   unfold numN
   rw [numG_prog pr 0 [] p.all p.nd (fun _ _=>rfl),List.nil_append,numL_at pr 0 i x p.nd e,Int.zero_add]
 ·rw [List.getElem?_map] at hi
  cases e:pr[i]? with
  | none=>rw [e] at hi; cases hi
  | some x =>
   rw [e] at hi
   cases hi
   unfold cntN
   rw [cntG_prog pr 0 p.all,List.getElem?_map,e]
   rfl
 ·obtain ⟨x,hx,rfl⟩ := List.mem_map.mp hh
  exact (p.all x hx).hd
theorem qY {W:List Str} {most:Nat} {last:Str}:∀ (us:List Str) (n a:Nat) (bs:List Str),Has W a (us++[last])->(∀ u∈us,okName u=true/\u≠last)->(bs++us).Nodup->(bs++us).length<=most->us.length<n ->
  boxesR W most last n a bs = .ok (a+us.length+1,bs++us)
 | _,0,_,_,_,_,_,_,h=>absurd h (Nat.not_lt_zero _)
 | [],n+1,a,bs,hw,_,_,_,_=>by
  obtain ⟨e,_⟩ := hw.cons
  rw [boxesR,e]
  dsimp only
  rw [if_pos rfl,List.append_nil]
  rfl
 | u :: us,n+1,a,bs,hw,ok,nd,hl,hn=>by
  obtain ⟨e,h1⟩ := hw.cons
  obtain ⟨o1,o2⟩ := ok u (List.mem_cons_self ..)
  rw [List.length_append,List.length_cons] at hl
  rw [List.length_cons] at hn
  have nu:u ∉ bs:=fun z=>by
   rw [List.nodup_append] at nd
   exact nd.2.2 u z u (List.mem_cons_self ..) rfl
  rw [boxesR,e]
  dsimp only
  rw [if_neg o2,if_neg (by (first|lia|omega)),if_pos ⟨o1,nu⟩,qY us n (a+1) (bs++[u]) h1 (fun v hv=>ok v (List.mem_cons_of_mem _ hv)) (by rw [List.append_assoc]; exact nd) (by rw [List.length_append,List.length_append]; show bs.length+1+us.length<=most; (first|lia|omega)) (by (first|lia|omega)),List.append_assoc,List.length_cons]
  refine congrArg Except.ok (Prod.ext ?_ rfl)
  show a+1+us.length+1=a+(us.length+1)+1
  (first|lia|omega)
theorem has_le {W:List Str} {a:Nat} {ws:List Str} (h:Has W a ws) (h0:ws≠[]):a+ws.length<=W.length:=by
 obtain ⟨post,e⟩ := h
 have:=congrArg List.length e
 rw [List.length_drop,List.length_append] at this
 have : 0<ws.length:=List.length_pos_iff.mpr h0
 (first|lia|omega)
theorem fun_read {W:List Str} {num:List (Str × Int)} {cnt:List Int} {hs:List Hd3} (ag:Agr hs num cnt) {x:Pg} (ok:PgOk hs x) {s:RS} (hw:Has W s.at_ (lineW x)) (nm:x.1.1 ∉ s.names.map (·.1)) (few:s.names.length<16) (p0:s.names=[]->x.1.2.2=0) :
  funR W num cnt s = .ok ⟨s.at_+(lineW x).length,s.names++[(x.1.1,x.1.2.1)],s.heads++[(x.1.2.2:Int),(x.1.2.1.length:Int)],s.bodies++x.2.2⟩ := by
 have lw:=has_le hw (by unfold lineW; exact fun z=>nomatch z)
 have e0:lineW x=("fun" : Str) :: x.1.1 :: ((x.1.2.1.take x.1.2.2++[("with" : Str)])++((x.1.2.1.drop x.1.2.2++[("is" : Str)])++x.2.1)):=by unfold lineW; simp
 have ll:(lineW x).length=x.1.2.1.length+4+x.2.1.length:=by
  unfold lineW
  simp only [List.length_cons,List.length_append,List.length_take,List.length_drop]
  have:=ok.hd.pb
  (first|lia|omega)
 rw [e0] at hw
 obtain ⟨e1,h1⟩ := hw.cons
 obtain ⟨e2,h2⟩ := h1.cons
 obtain ⟨h3,h4⟩ := h2.app
 obtain ⟨h5,h6⟩ := h4.app
 have pb:=ok.hd.pb
 have p4:=ok.hd.p4
 have b12:=ok.hd.bx.few
 have lt:(x.1.2.1.take x.1.2.2).length=x.1.2.2:=by rw [List.length_take,Nat.min_eq_left pb]
 have ld:(x.1.2.1.drop x.1.2.2).length=x.1.2.1.length - x.1.2.2:=List.length_drop ..
 have kw:∀ b∈x.1.2.1,okName b=true/\b ≠ "with" /\ b ≠ "is" := fun b hb=>by
  have o:=ok.hd.bx.ok b hb
  have:=(jZ o).2.2.2.1
  exact ⟨o,fun z=>this (z ▸ by decide),fun z=>this (z ▸ by decide)⟩
 have en:newR W (s.at_+1) (s.names.map (·.1)) = .ok x.1.1:=by
  unfold newR
  rw [e2]
  dsimp only
  rw [if_pos ⟨ok.hd.nm,nm⟩]
 have eb1:=qY (W:=W) (most:=if s.names=[] then 0 else 4) (last := "with") (x.1.2.1.take x.1.2.2) (W.length+1) (s.at_+1+1) [] h3 (fun u hu=>⟨(kw u (List.mem_of_mem_take hu)).1,(kw u (List.mem_of_mem_take hu)).2.1⟩)
  (by rw [List.nil_append]; exact ok.hd.bx.nd.sublist (List.take_sublist _ _)) (by rw [List.nil_append,lt]; split; (· rename_i z; rw [p0 z]; exact Nat.le_refl _); (· exact p4)) (by (first|lia|omega))
 rw [List.nil_append,lt] at eb1
 have ta:x.1.2.1.take x.1.2.2++x.1.2.1.drop x.1.2.2=x.1.2.1:=List.take_append_drop _ _
 rw [List.length_append,lt] at h5 h6
 have eb2:=qY (W:=W) (most:=12) (last := "is") (x.1.2.1.drop x.1.2.2) (W.length+1) (s.at_+1+1+(x.1.2.2+[("with" : Str)].length)) (x.1.2.1.take x.1.2.2) h5 (fun u hu=>⟨(kw u (List.mem_of_mem_drop hu)).1,(kw u (List.mem_of_mem_drop hu)).2.2⟩)
  (by rw [ta]; exact ok.hd.bx.nd) (by rw [ta]; exact b12) (by (first|lia|omega))
 rw [ta,ld] at eb2
 rw [List.length_append,ld] at h6
 have eb2':boxesR W 12 "is" (W.length+1) (s.at_+1+1+x.1.2.2+1) (x.1.2.1.take x.1.2.2) = .ok (s.at_+1+1+(x.1.2.2+[("with" : Str)].length)+(x.1.2.1.length - x.1.2.2)+1,x.1.2.1):=eb2
 have er:=ok.rd W num cnt _ s.bodies h6 ag
 have er':nodeR W num cnt x.1.2.1 10 (s.at_+1+1+(x.1.2.2+[("with" : Str)].length)+(x.1.2.1.length - x.1.2.2)+1) s.bodies = .ok (s.at_+(lineW x).length,s.bodies++x.2.2):=by
  refine er.trans (congrArg Except.ok (Prod.ext ?_ rfl))
  show s.at_+1+1+(x.1.2.2+1)+(x.1.2.1.length - x.1.2.2+1)+x.2.1.length=s.at_+(lineW x).length
  (first|lia|omega)
 have eb1':boxesR W (if s.names=[] then 0 else 4) "with" (W.length+1) (s.at_+2) [] = .ok (s.at_+1+1+x.1.2.2+1,x.1.2.1.take x.1.2.2):=eb1
 unfold funR
 rw [e1]
 dsimp only
 rw [if_neg (fun z=>z.elim (fun z=>z rfl) (fun z=>by (first|lia|omega))),en]
 dsimp only
 rw [eb1']
 dsimp only
 rw [eb2']
 dsimp only
 rw [er']
 dsimp only
 rw [lt]
theorem funs_read {W:List Str} {num:List (Str × Int)} {cnt:List Int} {hs:List Hd3} (ag:Agr hs num cnt):∀ (pr:List Pg) (n:Nat) (s:RS),(∀ x∈pr,PgOk hs x)->Has W s.at_ (wordsP pr)->s.at_+(wordsP pr).length=W.length->pr.length<=n->s.names.length+pr.length<=16 ->
  (s.names.map (·.1)++pr.map fun x=>x.1.1).Nodup->s.names≠[]->funsR W num cnt n s = .ok ⟨W.length,s.names++namesP pr,s.heads++headsP pr,s.bodies++bodiesP pr⟩
 | [],n,s,_,_,hl,_,_,_,_=>by
  have hl':s.at_=W.length:=hl
  have:funsR W num cnt n s = .ok s:=by
   cases n with
   | zero=>rfl
   | succ n=>rw [funsR,if_neg (by (first|lia|omega))]
  rw [this,<- hl']
  show Except.ok s = .ok ⟨s.at_,s.names++[],s.heads++[],s.bodies++[]⟩
  rw [List.append_nil,List.append_nil,List.append_nil]
 | x :: r,0,s,_,_,_,h,_,_,_=>by simp at h
 | x :: r,n+1,s,ok,hw,hl,hn,few,nd,ne=>by
  obtain ⟨h1,h2⟩ := (show Has W s.at_ (lineW x++wordsP r) from hw).app
  have le:=has_le h1 (by unfold lineW; exact fun z=>nomatch z)
  have l0 : 0<(lineW x).length:=by unfold lineW; exact Nat.succ_pos _
  rw [List.length_cons] at few hn
  have nm:x.1.1 ∉ s.names.map (·.1):=fun z=>by
   rw [List.nodup_append] at nd
   exact nd.2.2 _ z _ (List.mem_cons_self ..) rfl
  rw [funsR,if_pos (by (first|lia|omega)),fun_read ag (ok x (List.mem_cons_self ..)) h1 nm (by (first|lia|omega)) (fun z=>absurd z ne)]
  dsimp only
  have hl':s.at_+(lineW x++wordsP r).length=W.length:=hl
  rw [List.length_append] at hl'
  rw [funs_read ag r n _ (fun y hy=>ok y (List.mem_cons_of_mem _ hy)) h2 (by show s.at_+(lineW x).length+_=_; (first|lia|omega)) (by (first|lia|omega)) (by show (s.names++_).length+_<=_; rw [List.length_append]; show s.names.length+1+r.length<=16; (first|lia|omega)) ?_ ?_]
  ·show Except.ok (RS.mk _ _ _ _)=_
   unfold namesP headsP bodiesP
   simp [List.append_assoc]
  ·show ((s.names++[(x.1.1,x.1.2.1)]).map (·.1)++_).Nodup
   rw [List.map_append,List.append_assoc]
   exact nd
  ·show s.names++_≠[]
   exact fun z=>by simp at z
theorem prog_read {pr:List Pg} (p:ProgR pr):readR (wordsP pr) = .ok ⟨(wordsP pr).length,namesP pr,headsP pr,bodiesP pr⟩ := by
 have ag:=prog_agr p
 cases e:pr with
 | nil=>exact absurd e p.ne
 | cons x r =>
  have ok:=p.all
  have nd:=p.nd
  have few:=p.few
  have fs:=p.first
  rw [e] at ag ok nd few fs
  have hw:Has (wordsP (x :: r)) 0 (lineW x++wordsP r):=⟨[],by rw [List.append_nil]; rfl⟩
  obtain ⟨h1,h2⟩ := hw.app
  rw [List.length_cons] at few
  have e1:=fun_read (s:=⟨0,[],[],[]⟩) ag (ok x (List.mem_cons_self ..)) h1 (fun z=>nomatch z) (by show 0<16; decide) (fun _=>fs x rfl)
  unfold readR
  rw [e1]
  dsimp only
  have lr:r.length<=(wordsP r).length:=by
   have:∀ l:List Pg,l.length<=(wordsP l).length:=fun l=>by
    induction l with
    | nil=>exact Nat.le_refl _
    | cons y l ih =>
     show l.length+1<=(lineW y++wordsP l).length
     rw [List.length_append]
     have : 0<(lineW y).length:=by unfold lineW; exact Nat.succ_pos _
     (first|lia|omega)
   exact this r
  rw [funs_read ag r _ _ (fun y hy=>ok y (List.mem_cons_of_mem _ hy)) h2 ?_ ?_ ?_ ?_ (fun z=>by simp at z)]
  ·show Except.ok (RS.mk _ _ _ _)=_
   unfold namesP headsP bodiesP
   simp
  ·show 0+(lineW x).length+(wordsP r).length=(lineW x++wordsP r).length
   rw [List.length_append]; (first|lia|omega)
  ·show r.length<=(lineW x++wordsP r).length
   rw [List.length_append]; (first|lia|omega)
  ·show 1+r.length<=16
   (first|lia|omega)
  ·exact nd
end L2

namespace L2
open PySem
def blanksT (t:Str):Prop:=∀ c∈t.cps.toList,blank c
instance (t:Str):Decidable (blanksT t):=inferInstanceAs (Decidable (∀ c∈_,_))
structure WdT (w:Str):Prop where
 ne:w.cps.toList≠[]
 nb:∀ c∈w.cps.toList,¬ blank c
 sh:w.length<=61
theorem WdOk.t {w:Str} (h:WdOk w):WdT w:=⟨h.ne,h.nb,h.sh⟩
theorem words_short {t:Str} (h:t.length<=1000000):(∀ w∈wordsT t,WdT w)->(wordsT t).length<=1000000->(Txt.replace t "\n" " ").length<=1000000/\(Txt.split (Txt.replace t "\n" " ") " ").length<=2000000:=fun _ _=>by
 have e1:=rep_len t
 have e2:=split_len (Txt.replace t "\n" " ") 32
 rw [<- qZ] at e2
 (first|lia|omega)
theorem lineW_wd {hs:List Hd3} {x:Pg} (h:PgOk hs x):∀ w∈lineW x,WdT w:=fun w hw=>by
 have bx:∀ b∈x.1.2.1,WdT b:=fun b hb=>(xO (h.hd.bx.ok b hb)).t
 rcases List.mem_cons.mp hw with z | hw
 ·rw [z]; exact ⟨by decide,by decide,by decide⟩
 rcases List.mem_cons.mp hw with z | hw
 ·rw [z]; exact (xO h.hd.nm).t
 rcases List.mem_append.mp hw with z | hw
 ·exact bx w (List.mem_of_mem_take z)
 rcases List.mem_cons.mp hw with z | hw
 ·rw [z]; exact ⟨by decide,by decide,by decide⟩
 rcases List.mem_append.mp hw with z | hw
 ·exact bx w (List.mem_of_mem_drop z)
 rcases List.mem_cons.mp hw with z | hw
 ·rw [z]; exact ⟨by decide,by decide,by decide⟩
 ·exact (h.wd w hw).t
theorem lines_flat (pr:List Pg):(pr.map lineW).flatten=wordsP pr:=rfl
end L2

namespace L2
open PySem
theorem wl_cut (c:Nat) (hc:blank c):∀ (p acc r:List Nat),wl acc (p++c :: r)=wl acc p++wl [] r
 | [],acc,r=>by
  rw [List.nil_append]
  conv=>lhs; unfold wl
  rw [if_pos hc]
  unfold wl
  by_cases z:acc=[]
  ·rw [if_pos z,if_pos z]; rfl
  ·rw [if_neg z,if_neg z]; rfl
 | d :: p,acc,r=>by
  rw [List.cons_append]
  have e:∀ l,wl acc (d :: l)=if blank d then (if acc=[] then wl [] l else acc :: wl [] l) else wl (acc++[d]) l:=fun l=>by rw [wl]
  rw [e,e,wl_cut c hc p,wl_cut c hc p]
  by_cases b:blank d
  ·rw [if_pos b,if_pos b]
   by_cases z:acc=[]
   ·rw [if_pos z,if_pos z]
   ·rw [if_neg z,if_neg z]; rfl
  ·rw [if_neg b,if_neg b]
theorem wl_inter10 (c:Nat) (hc:blank c):∀ ps:List (List Nat),wl [] (inter c ps)=(ps.map (wl [])).flatten
 | []=>rfl
 | [p]=>by
  show wl [] p=[wl [] p].flatten
  simp
 | p :: p2 :: r=>by
  show wl [] (p++c :: inter c (p2 :: r))=_
  rw [wl_cut c hc,wl_inter10 c hc (p2 :: r)]
  rfl
theorem wl_one {w:List Nat} (h0:w≠[]) (hb:∀ c∈w,¬ blank c):wl [] w=[w]:=by
 have:=wl_free w [] [] hb
 rw [List.append_nil,List.nil_append] at this
 rw [this]
 unfold wl
 rw [if_neg h0]
theorem wl_words {ws:List Str} (h:∀ w∈ws,WdT w) (c:Nat) (hc:blank c):wl [] (inter c (ws.map fun x=>x.cps.toList))=ws.map fun x=>x.cps.toList:=by
 rw [wl_inter10 c hc,List.map_map]
 have:∀ l:List Str,(∀ w∈l,WdT w)->(l.map (wl [] ∘ fun x=>x.cps.toList)).flatten=l.map fun x=>x.cps.toList:=fun l=>by
  induction l with
  | nil=>exact fun _=>rfl
  | cons x l ih =>
   intro hl
   have hx:=hl x (List.mem_cons_self ..)
   rw [List.map_cons,List.flatten_cons,ih (fun w hw=>hl w (List.mem_cons_of_mem _ hw)),List.map_cons]
   show wl [] x.cps.toList++_=_
   rw [wl_one hx.ne hx.nb]
   rfl
 exact this ws h
theorem join_words {ws:List Str} (h:∀ w∈ws,WdT w):wordsT (Txt.join " " ws)=ws:=by
 refine cps_inj ?_
 have e:(Txt.join " " ws).cps.toList=inter 32 (ws.map fun x=>x.cps.toList):=by
  rw [qZ]
  have:=jM 32 ws
  rw [<- this]
  exact congrArg (fun t:Str=>t.cps.toList) (StrLaws.glued_eq_join _ _)
 rw [words_wl,e,wl_words h 32 (.inl rfl)]
theorem join_lines {lss:List (List Str)} (h:∀ ls∈lss,∀ w∈ls,WdT w):wordsT (Txt.join "\n" (lss.map (Txt.join " ")))=lss.flatten:=by
 refine cps_inj ?_
 have e:(Txt.join "\n" (lss.map (Txt.join " "))).cps.toList=inter 10 ((lss.map (Txt.join " ")).map fun x=>x.cps.toList):=by
  rw [nl_one]
  have:=jM 10 (lss.map (Txt.join " "))
  rw [<- this]
  exact congrArg (fun t:Str=>t.cps.toList) (StrLaws.glued_eq_join _ _)
 rw [words_wl,e,wl_inter10 10 (.inr rfl),List.map_map,List.map_map]
 induction lss with
 | nil=>rfl
 | cons ls lss ih =>
  rw [List.map_cons,List.flatten_cons,List.flatten_cons,List.map_append]
  congr 1
  ·show wl [] (Txt.join " " ls).cps.toList=_
   have e:(Txt.join " " ls).cps.toList=inter 32 (ls.map fun x=>x.cps.toList):=by
    rw [qZ]
    have:=jM 32 ls
    rw [<- this]
    exact congrArg (fun t:Str=>t.cps.toList) (StrLaws.glued_eq_join _ _)
   rw [e,wl_words (h ls (List.mem_cons_self ..)) 32 (.inl rfl)]
  ·refine ih (fun l hl=>h l (List.mem_cons_of_mem _ hl)) ?_
   have e:(Txt.join "\n" (lss.map (Txt.join " "))).cps.toList=inter 10 ((lss.map (Txt.join " ")).map fun x=>x.cps.toList):=by
    rw [nl_one]
    have:=jM 10 (lss.map (Txt.join " "))
    rw [<- this]
    exact congrArg (fun t:Str=>t.cps.toList) (StrLaws.glued_eq_join _ _)
   exact e
theorem agr_nil {num:List (Str × Int)} {cnt:List Int}:Agr [] num cnt:=⟨fun i h e=>by simp at e,fun i h e=>by simp at e,fun h z=>nomatch z⟩
theorem funs_skip {W:List Str} {num:List (Str × Int)} {cnt:List Int} {hs:List Hd3} (ag:Agr hs num cnt):∀ (pr:List Pg) (n:Nat) (s:RS),(∀ x∈pr,PgOk hs x)->Has W s.at_ (wordsP pr)->s.names.length+pr.length<=16 ->
  (s.names.map (·.1)++pr.map fun x=>x.1.1).Nodup->(s.names=[]->∀ x,pr[0]? = some x->x.1.2.2=0)->funsR W num cnt (pr.length+n) s=funsR W num cnt n ⟨s.at_+(wordsP pr).length,s.names++namesP pr,s.heads++headsP pr,s.bodies++bodiesP pr⟩
 | [],n,s,_,_,_,_,_=>by
  rw [List.length_nil,Nat.zero_add]
  show _=funsR W num cnt n ⟨s.at_+0,s.names++[],s.heads++[],s.bodies++[]⟩
  rw [List.append_nil,List.append_nil,List.append_nil,Nat.add_zero]
 | x :: r,n,s,ok,hw,few,nd,p0=>by
  obtain ⟨h1,h2⟩ := (show Has W s.at_ (lineW x++wordsP r) from hw).app
  have le:=has_le h1 (by unfold lineW; exact fun z=>nomatch z)
  have l0 : 0<(lineW x).length:=by unfold lineW; exact Nat.succ_pos _
  rw [List.length_cons] at few
  have nm:x.1.1 ∉ s.names.map (·.1):=fun z=>by
   rw [List.nodup_append] at nd
   exact nd.2.2 _ z _ (List.mem_cons_self ..) rfl
  rw [List.length_cons,show r.length+1+n=(r.length+n)+1 by (first|lia|omega),funsR,if_pos (by (first|lia|omega)),fun_read ag (ok x (List.mem_cons_self ..)) h1 nm (by (first|lia|omega)) (fun z=>p0 z x rfl)]
  dsimp only
  rw [funs_skip ag r n _ (fun y hy=>ok y (List.mem_cons_of_mem _ hy)) h2 (by show (s.names++_).length+_<=_; rw [List.length_append]; show s.names.length+1+r.length<=16; (first|lia|omega)) ?_ (fun z=>by simp at z)]
  ·show funsR W num cnt n (RS.mk _ _ _ _)=_
   congr 1
   unfold namesP headsP bodiesP wordsP
   simp [List.append_assoc,Nat.add_assoc]
  ·show ((s.names++[(x.1.1,x.1.2.1)]).map (·.1)++_).Nodup
   rw [List.map_append,List.append_assoc]
   exact nd
def RSp (pr:List Pg):RS:=⟨(wordsP pr).length,namesP pr,headsP pr,bodiesP pr⟩
structure PreOk (pr:List Pg):Prop where
 all:∀ x∈pr,PgOk [] x
 nd:(pr.map fun x=>x.1.1).Nodup
 few:pr.length<=16
 first:∀ x,pr[0]? = some x->x.1.2.2=0
theorem words_many:∀ l:List Pg,l.length<=(wordsP l).length:=fun l=>by
 induction l with
 | nil=>exact Nat.le_refl _
 | cons y l ih =>
  show l.length+1<=(lineW y++wordsP l).length
  rw [List.length_append]
  have : 0<(lineW y).length:=by unfold lineW; exact Nat.succ_pos _
  (first|lia|omega)
theorem read_pre {pre:List Pg} (p:PreOk pre) {D:List Str} (h0:D≠[]):∃ n,readR (wordsP pre++D)=funsR (wordsP pre++D) (numN (wordsP pre++D)) (cntN (wordsP pre++D)) (n+2) (RSp pre)\/D.length=1/\readR (wordsP pre++D)=funsR (wordsP pre++D) (numN (wordsP pre++D)) (cntN (wordsP pre++D)) 2 (RSp pre):=by
 generalize eW:wordsP pre++D=W
 have hw:Has W 0 (wordsP pre):=⟨D,by rw [<- eW]; rfl⟩
 have hD : 0<D.length:=List.length_pos_iff.mpr h0
 have lW:W.length=(wordsP pre).length+D.length:=by rw [<- eW,List.length_append]
 have e1:readR W=funsR W (numN W) (cntN W) (W.length+1) ⟨0,[],[],[]⟩ := by
  rw [funsR,if_pos (by show 0<W.length; (first|lia|omega))]
  rfl
 have wm:=words_many pre
 refine ⟨W.length - pre.length - 1,.inl ?_⟩
 rw [e1,show W.length+1=pre.length+(W.length - pre.length - 1+2) by (first|lia|omega),funs_skip agr_nil pre _ _ p.all hw (by show 0+_<=_; have:=p.few; (first|lia|omega)) (by show ([]++_).Nodup; exact p.nd) (fun _=>p.first)]
 show funsR W (numN W) (cntN W) _ ⟨0+(wordsP pre).length,[]++namesP pre,[]++headsP pre,[]++bodiesP pre⟩=_
 rw [Nat.zero_add,List.nil_append,List.nil_append,List.nil_append]
 rfl
section
variable {pre:List Pg} {D:List Str}
theorem rsp_lt (h0:D≠[]):(RSp pre).at_<(wordsP pre++D).length:=by
 rw [List.length_append]
 have : 0<D.length:=List.length_pos_iff.mpr h0
 show (wordsP pre).length<_
 (first|lia|omega)
theorem read_bad (p:PreOk pre) (h0:D≠[]) {n:Nat} (h:funR (wordsP pre++D) (numN (wordsP pre++D)) (cntN (wordsP pre++D)) (RSp pre) = .error n):readR (wordsP pre++D) = .error n:=by
 obtain ⟨m,e | ⟨_,e⟩⟩ := read_pre p h0 <;> rw [e,funsR,if_pos (rsp_lt h0),h]
theorem read_bad2 (p:PreOk pre) (h0:D≠[]) {s:RS} (h:funR (wordsP pre++D) (numN (wordsP pre++D)) (cntN (wordsP pre++D)) (RSp pre) = .ok s) {w:Str} (hw:(wordsP pre++D)[s.at_]? = some w) (nw:w ≠ "fun"):readR (wordsP pre++D) = .error s.at_:=by
 have e2:funR (wordsP pre++D) (numN (wordsP pre++D)) (cntN (wordsP pre++D)) s = .error s.at_:=by
  unfold funR
  rw [hw]
  dsimp only
  rw [if_pos (.inl nw)]
 have lt:=get_lt hw
 obtain ⟨m,e | ⟨_,e⟩⟩ := read_pre p h0 <;> (rw [e,funsR,if_pos (rsp_lt h0),h]; dsimp only; rw [funsR,if_pos lt,e2])
end
def shE {α:Type} (f : α->α) (a:Nat):Except Nat α->Except Nat α
 | .ok q => .ok (f q)
 | .error e => .error (a+e)
section
variable {W R:List Str} {a:Nat} {num:List (Str × Int)} {cnt:List Int} {bs:List Str}
theorem box_shift (hW:∀ j,W[a+j]? = R[j]?) (most:Nat) (last:Str):∀ (n j:Nat) (bs:List Str),boxesR W most last n (a+j) bs=shE (fun q=>(a+q.1,q.2)) a (boxesR R most last n j bs)
 | 0,j,bs=>rfl
 | n+1,j,bs=>by
  unfold boxesR
  rw [hW j]
  cases e:R[j]? with
  | none=>rfl
  | some w =>
   dsimp only
   split
   ·rfl
   split
   ·rfl
   split
   ·rw [show a+j+1=a+(j+1) by (first|lia|omega)]
    exact box_shift hW most last n (j+1) _
   ·rfl
theorem box_fuel (most:Nat) (last:Str):∀ (n m j:Nat) (bs:List Str),R.length<n+j->R.length<m+j->boxesR R most last n j bs=boxesR R most last m j bs
 | 0,0,j,bs,_,_=>rfl
 | 0,m+1,j,bs,h,_=>by
  unfold boxesR
  rw [List.getElem?_eq_none (by (first|lia|omega))]
 | n+1,0,j,bs,_,h=>by
  unfold boxesR
  rw [List.getElem?_eq_none (by (first|lia|omega))]
 | n+1,m+1,j,bs,h1,h2=>by
  unfold boxesR
  cases R[j]? with
  | none=>rfl
  | some w =>
   dsimp only
   rw [box_fuel most last n m (j+1) (bs++[w]) (by (first|lia|omega)) (by (first|lia|omega))]
theorem kind_shift (hW:∀ j,W[a+j]? = R[j]?) (j:Nat):kindR W (a+j) bs=shE (fun q=>(q.1,a+q.2)) a (kindR R j bs):=by
 unfold kindR
 rw [hW j]
 cases R[j]? with
 | none=>rfl
 | some w =>
  dsimp only
  split
  ·rfl
  split
  ·rfl
  split
  ·rfl
  ·rfl
theorem num_shift (hW:∀ j,W[a+j]? = R[j]?) (j:Nat):numR W (a+j)=shE id a (numR R j):=by
 unfold numR
 rw [hW j]
 cases R[j]? with
 | none=>rfl
 | some w =>
  dsimp only
  split <;> rfl
theorem many_shift (hW:∀ j,W[a+j]? = R[j]?) (j:Nat) (l:Int):manyR W (a+j) l=shE id a (manyR R j l):=by
 unfold manyR
 rw [num_shift hW]
 cases numR R j with
 | error e=>rfl
 | ok n =>
  dsimp only [shE,id]
  by_cases c:n<l\/12<n
  ·rw [if_pos c,if_pos c]
  ·rw [if_neg c,if_neg c]
theorem own_shift (hW:∀ j,W[a+j]? = R[j]?) (j:Nat) {k:Int} (h6:k≠6):ownR W num (a+j) k bs=shE (fun q=>(q.1,a+q.2)) a (ownR R [] j k bs):=by
 unfold ownR boxR
 rw [num_shift hW,many_shift hW,many_shift hW,hW j]
 split
 ·cases numR R j <;> rfl
 split
 ·cases R[j]? with
  | none=>rfl
  | some w =>
   dsimp only
   by_cases c:w∈bs
   ·rw [if_pos c,if_pos c]; rfl
   ·rw [if_neg c,if_neg c]; rfl
 split
 ·cases manyR R j 1 <;> rfl
 split
 ·cases manyR R j 2 <;> rfl
 ·rfl
theorem kind_call {j:Nat} {q:Int × Nat} (h:kindR R j bs = .ok q) (nc:("call" : Str) ∉ R):q.1≠6:=by
 unfold kindR at h
 split at h
 ·rename_i w e
  split at h
  ·cases h; show (0:Int)≠6; decide
  split at h
  ·cases h; show (1:Int)≠6; decide
  split at h
  ·rename_i m
   cases h
   intro z
   have z' : 2+(kwW.idxOf w:Int)=6:=z
   have i4:kwW.idxOf w=4:=by (first|lia|omega)
   have hl:=List.idxOf_lt_length_iff.mpr m
   have e3:kwW[kwW.idxOf w]? = some w:=by rw [List.getElem?_eq_getElem hl,List.getElem_idxOf hl]
   rw [i4] at e3
   have e2:w = "call" := (Option.some.inj e3).symm
   exact nc (e2 ▸ List.mem_of_getElem? e)
  ·cases h
 ·cases h
theorem due_nocall (h6:k≠6) (ns:List Int):dueP cnt k ns=dueP [] k ns:=by
 unfold dueP
 rw [if_neg h6,if_neg h6]
theorem node_shift (hW:∀ j,W[a+j]? = R[j]?) (nc:("call" : Str) ∉ R) (bd:List Int):∀ (d j:Nat) (b0:List Int),nodeR W num cnt bs d (a+j) (bd++b0)=shE (fun q=>(a+q.1,bd++q.2)) a (nodeR R [] [] bs d j b0)
 | 0,j,b0=>rfl
 | d+1,j,b0=>by
  have parts:∀ (n j:Nat) (b0:List Int),partsR (nodeR W num cnt bs d) n (a+j) (bd++b0)=shE (fun q=>(a+q.1,bd++q.2)) a (partsR (nodeR R [] [] bs d) n j b0):=fun n=>by
   induction n with
   | zero=>exact fun j b0=>rfl
   | succ n ih =>
    intro j b0
    unfold partsR
    rw [node_shift hW nc bd d j b0]
    cases nodeR R [] [] bs d j b0 with
    | error e=>rfl
    | ok q=>exact ih q.1 q.2
  unfold nodeR
  rw [kind_shift hW]
  cases ek:kindR R j bs with
  | error e=>rfl
  | ok q =>
   have h6:=kind_call ek nc
   show (match ownR W num (a+q.2) q.1 bs with | .error e=>Except.error e | .ok r=>partsR (nodeR W num cnt bs d) (dueP cnt q.1 r.1).toNat r.2 ((bd++b0)++q.1 :: r.1))=_
   rw [own_shift hW q.2 h6]
   dsimp only
   cases ownR R [] q.2 q.1 bs with
   | error e=>rfl
   | ok r =>
    show partsR (nodeR W num cnt bs d) (dueP cnt q.1 r.1).toNat (a+r.2) ((bd++b0)++q.1 :: r.1)=_
    rw [due_nocall h6,List.append_assoc,parts]
end
def BadB (sg:Str) (ws:List Str) (n:Nat):Prop:=∀ (W:List Str) (num:List (Str × Int)) (cnt:List Int) (a:Nat) (bd:List Int),W.drop a=ws->lookN num sg=none ->
 nodeR W num cnt ["k"] 10 a bd = .error (a+n)\/∃ (z:List Int) (w:Str),nodeR W num cnt ["k"] 10 a bd = .ok (a+n,z)/\ws[n]? = some w/\w ≠ "fun"
def checkB (ws:List Str) (n:Nat):Bool:=match nodeR ws [] [] ["k"] 10 0 [] with
 | .error e=>decide (e=n)
 | .ok q=>decide (q.1=n) && (match ws[n]? with | some w => !decide (w = "fun") | none=>false)
theorem xK {W ws:List Str} {a:Nat} (h:W.drop a=ws) (j:Nat):W[a+j]? = ws[j]?:=by rw [<- h,List.getElem?_drop]
theorem bad_of {sg:Str} {ws:List Str} {n:Nat} (nc:("call" : Str) ∉ ws) (h:checkB ws n=true):BadB sg ws n:=fun W num cnt a bd hd hl=>by
 have e:=node_shift (W:=W) (R:=ws) (a:=a) (num:=num) (cnt:=cnt) (bs:=["k"]) (xK hd) nc bd 10 0 []
 rw [Nat.add_zero,List.append_nil] at e
 rw [e]
 unfold checkB at h
 cases er:nodeR ws [] [] ["k"] 10 0 [] with
 | error m =>
  rw [er] at h
  have:=of_decide_eq_true h
  exact .inl (by show Except.error (a+m)=_; rw [this])
 | ok q =>
  rw [er] at h
  dsimp only at h
  rw [Bool.and_eq_true_iff] at h
  obtain ⟨h1,h2⟩ := h
  have q1:=of_decide_eq_true h1
  cases ew:ws[n]? with
  | none=>rw [ew] at h2; cases h2
  | some w =>
   rw [ew] at h2
   refine .inr ⟨bd++q.2,w,?_,rfl,fun z => ?_⟩
   ·show Except.ok (a+q.1,bd++q.2)=_; rw [q1]
   ·rw [z] at h2; exact absurd h2 (by decide)
theorem bad_call {sg x:Str} (h:okName x=true->x=sg):BadB sg ["call",x] 1:=fun W num cnt a bd hd hl=>by
 have e0:W[a]? = some ("call" : Str):=xK hd 0
 have e1:W[a+1]? = some x:=xK hd 1
 have ek:kindR W a ["k"] = .ok (6,a+1):=by
  unfold kindR
  rw [e0]
  dsimp only
  rw [if_neg (show ¬ numOk ("call" : Str) 60=true by decide +kernel),if_neg (show ¬ ("call" : Str)∈[("k" : Str)] by decide +kernel),if_pos (show ("call" : Str)∈kwW by decide +kernel)]
  have:(2:Int)+(kwW.idxOf ("call" : Str):Int)=6:=by decide +kernel
  rw [this]
 refine .inl ?_
 unfold nodeR
 rw [ek]
 dsimp only
 have eo:ownR W num (a+1) 6 ["k"] = .error (a+1):=by
  unfold ownR calledR
  rw [if_neg (by decide),if_neg (by decide),if_neg (by decide),if_neg (by decide),if_pos rfl,e1]
  dsimp only
  by_cases z:okName x=true
  ·rw [if_pos z,h z,hl]
  ·rw [if_neg z]
 rw [eo]
def LinesN (L:List (Str × List Str)):List Str:=(L.map fun x=>("fun" : Str) :: x.1 :: x.2).flatten
theorem num_lines:∀ (L:List (Str × List Str)) (f:Int) (acc:List (Str × Int)) (x:Str),(∀ l∈L,NoFun (l.1 :: l.2))->lookN acc x=none->x ∉ L.map (·.1)->lookN (numG (LinesN L) f acc) x=none
 | [],f,acc,x,_,h,_=>h
 | l :: L,f,acc,x,nf,h,nx=>by
  have hl:=nf l (List.mem_cons_self ..)
  show lookN (numG ((("fun" : Str) :: l.1 :: l.2)++LinesN L) f acc) x=none
  rw [List.cons_append,numG_cons,if_pos rfl,numG_free _ _ _ _ hl]
  have nx1:l.1≠x:=fun z=>nx (z ▸ List.mem_cons_self ..)
  refine num_lines L _ _ x (fun l hl=>nf l (List.mem_cons_of_mem _ hl)) ?_ (fun z=>nx (List.mem_cons_of_mem _ z))
  show lookN (nxtN (l.1 :: (l.2++LinesN L)) f acc) x=none
  unfold nxtN
  dsimp only
  split
  ·exact h
  ·rw [lookN_none_app h,lookN,if_neg nx1]; rfl
end L2

namespace L2
open PySem
def errR {α:Type}:Except Nat α->Option Nat
 | .error e=>some e
 | .ok _=>none
section
variable {W R:List Str} {num:List (Str × Int)} {cnt:List Int} {s:RS} {nm:Str} {e:Nat}
theorem fun_first {w:Str} (h:W[s.at_]? = some w) (nw:w ≠ "fun"):funR W num cnt s = .error s.at_:=by
 unfold funR
 rw [h]
 dsimp only
 rw [if_pos (.inl nw)]
theorem fun_name (h0:W[s.at_]? = some ("fun" : Str)) (few:s.names.length≠16) (h1:newR W (s.at_+1) (s.names.map (·.1)) = .error e):funR W num cnt s = .error e:=by
 unfold funR
 rw [h0]
 dsimp only
 rw [if_neg (fun z=>z.elim (fun z=>z rfl) few),h1]
theorem fun_name_at {w:Str} (h0:W[s.at_]? = some ("fun" : Str)) (few:s.names.length≠16) (h1:W[s.at_+1]? = some w) (nw:okName w=true->w∈s.names.map (·.1)):funR W num cnt s = .error (s.at_+1):=by
 refine fun_name h0 few ?_
 unfold newR
 rw [h1]
 dsimp only
 rw [if_neg (fun z=>z.2 (nw z.1))]
theorem new_ok (h1:W[s.at_+1]? = some nm) (ok:okName nm=true) (nn:nm ∉ s.names.map (·.1)):newR W (s.at_+1) (s.names.map (·.1)) = .ok nm:=by
 unfold newR
 rw [h1]
 dsimp only
 rw [if_pos ⟨ok,nn⟩]
theorem fun_box1 (h0:W[s.at_]? = some ("fun" : Str)) (few:s.names.length≠16) (h1:newR W (s.at_+1) (s.names.map (·.1)) = .ok nm) (h2:boxesR W (if s.names=[] then 0 else 4) "with" (W.length+1) (s.at_+2) [] = .error e):funR W num cnt s = .error e:=by
 unfold funR
 rw [h0]
 dsimp only
 rw [if_neg (fun z=>z.elim (fun z=>z rfl) few),h1]
 dsimp only
 rw [h2]
theorem fun_box2 {q:Nat × List Str} (h0:W[s.at_]? = some ("fun" : Str)) (few:s.names.length≠16) (h1:newR W (s.at_+1) (s.names.map (·.1)) = .ok nm) (h2:boxesR W (if s.names=[] then 0 else 4) "with" (W.length+1) (s.at_+2) [] = .ok q)
  (h3:boxesR W 12 "is" (W.length+1) q.1 q.2 = .error e):funR W num cnt s = .error e:=by
 unfold funR
 rw [h0]
 dsimp only
 rw [if_neg (fun z=>z.elim (fun z=>z rfl) few),h1]
 dsimp only
 rw [h2]
 dsimp only
 rw [h3]
theorem fun_body {q r:Nat × List Str} (h0:W[s.at_]? = some ("fun" : Str)) (few:s.names.length≠16) (h1:newR W (s.at_+1) (s.names.map (·.1)) = .ok nm) (h2:boxesR W (if s.names=[] then 0 else 4) "with" (W.length+1) (s.at_+2) [] = .ok q)
  (h3:boxesR W 12 "is" (W.length+1) q.1 q.2 = .ok r):funR W num cnt s=(match nodeR W num cnt r.2 10 r.1 s.bodies with | .error e => .error e | .ok z => .ok ⟨z.1,s.names++[(nm,r.2)],s.heads++[(q.2.length:Int),(r.2.length:Int)],z.2⟩):=by
 unfold funR
 rw [h0]
 dsimp only
 rw [if_neg (fun z=>z.elim (fun z=>z rfl) few),h1]
 dsimp only
 rw [h2]
 dsimp only
 rw [h3] <;> rfl
def headR (R:List Str) (most:Nat):Option Nat:=match boxesR R most "with" 30 0 [] with
 | .error e=>some e
 | .ok q=>errR (boxesR R 12 "is" 30 q.1 q.2)
theorem fun_head {nms:List (Str × List Str)} (h0:W[s.at_]? = some ("fun" : Str)) (few:s.names.length≠16) (h1:W[s.at_+1]? = some nm) (ok:okName nm=true) (nn:nm ∉ s.names.map (·.1)) (hW:∀ j,W[s.at_+2+j]? = R[j]?) (lR:R.length<30) (lW:R.length<=W.length)
  (h:headR R (if s.names=[] then 0 else 4)=some e):funR W num cnt s = .error (s.at_+2+e):=by
 have hn:=new_ok h1 ok nn
 have e1:=box_shift hW (if s.names=[] then 0 else 4) "with" (W.length+1) 0 []
 rw [Nat.add_zero,box_fuel _ _ (W.length+1) 30 0 [] (by (first|lia|omega)) (by (first|lia|omega))] at e1
 unfold headR at h
 cases eq:boxesR R (if s.names=[] then 0 else 4) "with" 30 0 [] with
 | error e' =>
  rw [eq] at h e1
  cases h
  exact fun_box1 h0 few hn e1
 | ok q =>
  rw [eq] at h e1
  have e2:=box_shift hW 12 "is" (W.length+1) q.1 q.2
  rw [box_fuel _ _ (W.length+1) 30 q.1 q.2 (by (first|lia|omega)) (by (first|lia|omega))] at e2
  dsimp only at h
  cases er:boxesR R 12 "is" 30 q.1 q.2 with
  | ok r=>rw [er] at h; cases h
  | error e' =>
   rw [er] at h e2
   cases h
   exact fun_box2 h0 few hn e1 e2
end
structure BadHd (nms:List (Str × List Str)) (nm:Str) (ws:List Str) (n:Nat):Prop where
 bad:∀ (W:List Str) (num:List (Str × Int)) (cnt:List Int) (s:RS),s.names=nms->W.drop s.at_=ws++[("0" : Str)]->funR W num cnt s = .error (s.at_+n)
 wd:∀ w∈ws,WdT w
def wdB (w:Str):Bool:=!decide (w.cps.toList=[]) && w.cps.toList.all (fun c => !decide (blank c)) && decide (w.length<=61)
theorem qF {w:Str} (h:wdB w=true):WdT w:=by
 unfold wdB at h
 rw [Bool.and_eq_true_iff,Bool.and_eq_true_iff] at h
 obtain ⟨⟨h1,h2⟩,h3⟩ := h
 refine ⟨fun z => ?_,fun c hc b => ?_,of_decide_eq_true h3⟩
 ·rw [decide_eq_true z] at h1; cases h1
 ·have:=List.all_eq_true.mp h2 c hc
  rw [decide_eq_true b] at this; cases this
theorem wdT_all {ws:List Str} (h:ws.all wdB=true):∀ w∈ws,WdT w:=fun w hw=>qF (List.all_eq_true.mp h w hw)
theorem bad_first {nms:List (Str × List Str)} {nm w:Str} {r:List Str} (nw:w ≠ "fun") (hw:∀ x∈w :: r,WdT x):BadHd nms nm (w :: r) 0 :=
 ⟨fun W num cnt s _ hd=>fun_first (w:=w) (xK hd 0) nw,hw⟩
theorem bad_name {nms:List (Str × List Str)} {nm w:Str} {r:List Str} (few:nms.length≠16) (nw:okName w=true->w∈nms.map (·.1)) (hw:∀ x∈w :: r,WdT x):BadHd nms nm (("fun" : Str) :: w :: r) 1 :=
 ⟨fun W num cnt s e hd=>fun_name_at (w:=w) (xK hd 0) (by rw [e]; exact few) (xK hd 1) (by rw [e]; exact nw),fun x hx=>by
  rcases List.mem_cons.mp hx with z | z
  ·rw [z]; exact qF (by decide +kernel)
  ·exact hw x z⟩
theorem bad_head {nms:List (Str × List Str)} {nm:Str} {r:List Str} {e:Nat} (few:nms.length≠16) (ok:okName nm=true) (nn:nm ∉ nms.map (·.1)) (hr:r.all wdB=true) (lr:r.length<29) (h:headR (r++[("0" : Str)]) (if nms=[] then 0 else 4)=some e):BadHd nms nm (("fun" : Str) :: nm :: r) (2+e) :=
 ⟨fun W num cnt s en hd=>by
  have e1:∀ j,W[s.at_+2+j]? = (r++[("0" : Str)])[j]?:=fun j=>by
   rw [Nat.add_assoc,xK hd (2+j),show 2+j=j+2 by (first|lia|omega)]
   rfl
  have lW:(r++[("0" : Str)]).length<=W.length:=by
   have:=congrArg List.length hd
   rw [List.length_drop] at this
   have h2:((("fun" : Str) :: nm :: r)++[("0" : Str)]).length=(r++[("0" : Str)]).length+2:=rfl
   (first|lia|omega)
  rw [<- Nat.add_assoc]
  exact fun_head (nms:=nms) (xK hd 0) (by rw [en]; exact few) (xK hd 1) ok (by rw [en]; exact nn) e1 (by rw [List.length_append]; show r.length+1<30; (first|lia|omega)) lW (by rw [en]; exact h),fun x hx=>by
  rcases List.mem_cons.mp hx with z | hx
  ·rw [z]; exact qF (by decide +kernel)
  rcases List.mem_cons.mp hx with z | z
  ·rw [z]; exact (xO ok).t
  ·exact wdT_all hr x z⟩
theorem drop_pre {pre:List Pg} {D:List Str}:(wordsP pre++D).drop (RSp pre).at_=D:=List.drop_left
theorem read_badhd {pre:List Pg} (p:PreOk pre) {nm:Str} {ws:List Str} {n:Nat} (h:BadHd (namesP pre) nm ws n):readR (wordsP pre++(ws++[("0" : Str)])) = .error ((wordsP pre).length+n) :=
 read_bad p (fun z=>by simp at z) (h.bad _ _ _ (RSp pre) rfl drop_pre)
structure BadK (sg:Str) (ws:List Str) (n:Nat):Prop where
 bad:BadB sg ws n
 nf:NoFun ws
 wd:∀ w∈ws,WdT w
def okB (ws:List Str) (n:Nat):Bool:=!decide (("call" : Str)∈ws) && checkB ws n && ws.all (fun w => !decide (w = "fun")) && ws.all wdB
theorem yE {sg:Str} {ws:List Str} {n:Nat} (h:okB ws n=true):BadK sg ws n:=by
 unfold okB at h
 rw [Bool.and_eq_true_iff,Bool.and_eq_true_iff,Bool.and_eq_true_iff] at h
 obtain ⟨⟨⟨h1,h2⟩,h3⟩,h4⟩ := h
 refine ⟨bad_of (fun z=>by rw [decide_eq_true z] at h1; cases h1) h2,fun w hw z => ?_,wdT_all h4⟩
 have:=List.all_eq_true.mp h3 w hw
 rw [decide_eq_true z] at this; cases this
theorem badK_call {sg x:Str} (h:okName x=true->x=sg) (nf:x ≠ "fun") (wd:WdT x):BadK sg ["call",x] 1 :=
 ⟨bad_call h,fun w hw=>by
  rcases List.mem_cons.mp hw with z | z
  ·rw [z]; decide +kernel
  ·rw [List.mem_singleton.mp z]; exact nf,fun w hw=>by
  rcases List.mem_cons.mp hw with z | z
  ·rw [z]; exact qF (by decide +kernel)
  ·rw [List.mem_singleton.mp z]; exact wd⟩
def headK (nm:Str):List Str:=["fun",nm, "with", "k", "is"]
theorem read_badK {pre:List Pg} (p:PreOk pre) (few:pre.length<16) {nm sg:Str} (ok:okName nm=true) (nn:nm ∉ (namesP pre).map (·.1)) (sn:sg≠nm) (sp:sg ∉ (namesP pre).map (·.1)) {ws:List Str} {n:Nat} (h:BadK sg ws n) :
  readR (wordsP pre++(headK nm++ws)) = .error ((wordsP pre).length+5+n):=by
 generalize eW:wordsP pre++(headK nm++ws)=W
 have hd:W.drop (RSp pre).at_=headK nm++ws:=by rw [<- eW]; exact drop_pre
 have at0:(RSp pre).at_=(wordsP pre).length:=rfl
 have nl:(RSp pre).names.length=pre.length:=by show (namesP pre).length=_; unfold namesP; exact List.length_map ..
 have f16:(RSp pre).names.length≠16:=by rw [nl]; (first|lia|omega)
 have hn:=new_ok (W:=W) (s:=RSp pre) (nm:=nm) (xK hd 1) ok nn
 have hb1:boxesR W (if (RSp pre).names=[] then 0 else 4) "with" (W.length+1) ((RSp pre).at_+2) [] = .ok ((RSp pre).at_+2+1,[]):=by
  unfold boxesR
  rw [xK hd 2]
  rfl
 have kk:okName "k" = true:=by decide +kernel
 have hl:=congrArg List.length hd
 rw [List.length_drop,List.length_append] at hl
 have hb2:boxesR W 12 "is" (W.length+1) ((RSp pre).at_+2+1) [] = .ok ((RSp pre).at_+5,["k"]):=by
  have hh:Has W ((RSp pre).at_+2+1) ([("k" : Str)]++[("is" : Str)]):=⟨ws,by
   rw [Nat.add_assoc,<- List.drop_drop,hd]
   rfl⟩
  have l5:(headK nm).length=5:=rfl
  exact qY [("k" : Str)] (W.length+1) _ [] hh (fun u hu=>by rw [List.mem_singleton.mp hu]; exact ⟨kk,by decide +kernel⟩) (by decide +kernel) (by show 1<=12; decide) (by show 1<W.length+1; (first|lia|omega))
 have ed:W.drop ((RSp pre).at_+5)=ws:=by
  rw [<- List.drop_drop,hd]
  rfl
 have hnum:lookN (numN W) sg=none:=by
  have el:W=LinesN (pre.map (fun x=>(x.1.1,x.1.2.1.take x.1.2.2++("with" : Str) :: (x.1.2.1.drop x.1.2.2++("is" : Str) :: x.2.1)))++[(nm,(["with", "k", "is"]:List Str)++ws)]):=by
   rw [<- eW]
   unfold LinesN
   rw [List.map_append,List.flatten_append,List.map_map]
   have:wordsP pre=(pre.map ((fun x:Str × List Str=>("fun" : Str) :: x.1 :: x.2) ∘ fun x=>(x.1.1,x.1.2.1.take x.1.2.2++("with" : Str) :: (x.1.2.1.drop x.1.2.2++("is" : Str) :: x.2.1)))).flatten:=rfl
   rw [<- this]
   simp [headK]
  unfold numN
  rw [el]
  refine num_lines _ _ _ _ (fun l hl => ?_) rfl (fun z => ?_)
  ·rcases List.mem_append.mp hl with z | z
   ·obtain ⟨x,hx,rfl⟩ := List.mem_map.mp z
    exact line_tail (p.all x hx)
   ·rw [List.mem_singleton.mp z]
    intro w hw
    rcases List.mem_cons.mp hw with y | hw
    ·rw [y]; exact (xO ok).nf
    rcases List.mem_append.mp hw with y | y
    ·have:∀ w∈([("with" : Str), "k", "is"]:List Str),w ≠ "fun" := by decide +kernel
     exact this w y
    ·exact h.nf w y
  ·rw [List.map_append,List.map_map] at z
   rcases List.mem_append.mp z with z | z
   ·refine sp ?_
    unfold namesP
    rw [List.map_map]
    exact z
   ·exact sn (List.mem_singleton.mp z)
 have D0:headK nm++ws≠[]:=fun z=>by cases z
 have eb:=fun_body (W:=W) (num:=numN W) (cnt:=cntN W) (s:=RSp pre) (xK hd 0) f16 hn hb1 hb2
 rcases h.bad W (numN W) (cntN W) ((RSp pre).at_+5) (RSp pre).bodies ed hnum with z | ⟨zs,w,z,hw,nw⟩
 ·dsimp only at eb
  rw [z] at eb
  rw [<- eW] at eb ⊢
  exact read_bad p D0 eb
 ·dsimp only at eb
  rw [z] at eb
  have e5:W[(RSp pre).at_+5+n]? = some w:=by rw [xK ed n,hw]
  rw [<- eW] at eb e5 ⊢
  have:=read_bad2 p D0 eb e5 nw
  exact this
theorem boxes_end {W:List Str} {most:Nat} {last:Str}:∀ (us:List Str) (n a:Nat) (bs:List Str),W.drop a=us->a<=W.length->(∀ u∈us,okName u=true/\u≠last)->(bs++us).Nodup->(bs++us).length<=most->boxesR W most last n a bs = .error W.length\/n<=us.length
 | us,0,a,bs,_,_,_,_,_ => .inr (Nat.zero_le _)
 | [],n+1,a,bs,hd,ha,_,_,_=>by
  refine .inl ?_
  have:W.length=a:=by
   have:=congrArg List.length hd
   rw [List.length_drop,List.length_nil] at this
   (first|lia|omega)
  rw [boxesR,List.getElem?_eq_none (by (first|lia|omega)),this]
 | u :: us,n+1,a,bs,hd,ha,ok,nd,hl=>by
  have e:W[a]? = some u:=by have:=xK hd 0; simpa using this
  obtain ⟨o1,o2⟩ := ok u (List.mem_cons_self ..)
  have hl':=hl
  rw [List.length_append,List.length_cons] at hl'
  have nu:u ∉ bs:=fun z=>by
   rw [List.nodup_append] at nd
   exact nd.2.2 u z u (List.mem_cons_self ..) rfl
  rw [boxesR,e]
  dsimp only
  rw [if_neg o2,if_neg (by (first|lia|omega)),if_pos ⟨o1,nu⟩]
  have hd2:W.drop (a+1)=us:=by
   rw [<- List.drop_drop,hd]
   rfl
  rcases boxes_end us n (a+1) (bs++[u]) hd2 (by have:=get_lt e; (first|lia|omega)) (fun v hv=>ok v (List.mem_cons_of_mem _ hv)) (by rw [List.append_assoc]; exact nd) (by rw [List.append_assoc]; exact hl) with z | z
  ·exact .inl z
  ·exact .inr (by rw [List.length_cons]; (first|lia|omega))
theorem read_cut {hs:List Hd3} {x:Pg} (ok:PgOk hs x) (p0:x.1.2.2=0) {c:Nat} (c1 : 1<=c) (c2:c<=4+x.1.2.1.length):readR ((lineW x).take c) = .error c:=by
 have b12:=ok.hd.bx.few
 have el:lineW x=("fun" : Str) :: x.1.1 :: ("with" : Str) :: (x.1.2.1++("is" : Str) :: x.2.1):=by unfold lineW; rw [p0]; rfl
 have ll:(lineW x).length=4+x.1.2.1.length+x.2.1.length:=by rw [el]; simp only [List.length_cons,List.length_append]; (first|lia|omega)
 generalize eW:(lineW x).take c=W
 have lW:W.length=c:=by rw [<- eW,List.length_take]; (first|lia|omega)
 have ea:∀ j,j<c->W[j]? = (lineW x)[j]?:=fun j hj=>by rw [<- eW,List.getElem?_take,if_pos hj]
 have h0:W[(RS.mk 0 [] [] []).at_]? = some ("fun" : Str):=by rw [ea 0 (by (first|lia|omega)),el]; rfl
 have fin:∀ {e:Nat},funR W (numN W) (cntN W) ⟨0,[],[],[]⟩ = .error e->readR W = .error e:=fun h=>by unfold readR; rw [h]
 by_cases k1:c=1
 ·refine fin (fun_name h0 (by show 0≠16; decide) ?_)
  unfold newR
  show (match W[0+1]? with | some w=>_ | none=>_)=_
  rw [List.getElem?_eq_none (by (first|lia|omega)),k1]
 have h1:W[(RS.mk 0 [] [] []).at_+1]? = some x.1.1:=by show W[0+1]? = _; rw [ea _ (by (first|lia|omega)),el]; rfl
 have hn:=new_ok (s:=⟨0,[],[],[]⟩) h1 ok.hd.nm (fun z=>nomatch z)
 by_cases k2:c=2
 ·refine fin (fun_box1 h0 (by show 0≠16; decide) hn ?_)
  show boxesR W _ "with" (W.length+1) (0+2) []=_
  unfold boxesR
  rw [List.getElem?_eq_none (by (first|lia|omega)),k2]
 have hb1:boxesR W (if (RS.mk 0 [] [] []).names=[] then 0 else 4) "with" (W.length+1) ((RS.mk 0 [] [] []).at_+2) [] = .ok (3,[]):=by
  show boxesR W _ "with" (W.length+1) (0+2) []=_
  unfold boxesR
  rw [ea _ (by (first|lia|omega)),el]
  rfl
 have kw:∀ b∈x.1.2.1,okName b=true/\b ≠ "is" := fun b hb=>by
  have o:=ok.hd.bx.ok b hb
  have:=(jZ o).2.2.2.1
  exact ⟨o,fun z=>this (z ▸ by decide)⟩
 have ed:W.drop 3=(x.1.2.1++("is" : Str) :: x.2.1).take (c - 3):=by
  rw [<- eW,List.drop_take,el]
  rfl
 by_cases k3:c<=3+x.1.2.1.length
 ·have ed2:W.drop 3=x.1.2.1.take (c - 3):=by rw [ed,List.take_append_of_le_length (by (first|lia|omega))]
  refine fin (fun_box2 h0 (by show 0≠16; decide) hn hb1 ?_)
  rcases boxes_end (most:=12) (last := "is") (x.1.2.1.take (c - 3)) (W.length+1) 3 [] ed2 (by (first|lia|omega)) (fun u hu=>kw u (List.mem_of_mem_take hu)) (by rw [List.nil_append]; exact ok.hd.bx.nd.sublist (List.take_sublist _ _)) (by rw [List.nil_append,List.length_take]; (first|lia|omega)) with z | z
  ·rw [z,lW]
  ·rw [List.length_take] at z; (first|lia|omega)
 ·have ed2:Has W 3 (x.1.2.1++[("is" : Str)]):=⟨[],by
   rw [ed,List.append_nil,show c - 3=(x.1.2.1++[("is" : Str)]).length by rw [List.length_append]; show _=_+1; (first|lia|omega),show x.1.2.1++("is" : Str) :: x.2.1=(x.1.2.1++[("is" : Str)])++x.2.1 by simp,List.take_left]⟩
  have hb2:=qY (W:=W) (most:=12) (last := "is") x.1.2.1 (W.length+1) 3 [] ed2 kw (by rw [List.nil_append]; exact ok.hd.bx.nd) (by rw [List.nil_append]; exact b12) (by (first|lia|omega))
  refine fin ((fun_body h0 (by show 0≠16; decide) hn hb1 hb2).trans ?_)
  have:nodeR W (numN W) (cntN W) ([]++x.1.2.1) 10 (3+x.1.2.1.length+1) [] = .error c:=by
   unfold nodeR kindR
   rw [List.getElem?_eq_none (by (first|lia|omega))]
   show Except.error _=_
   rw [show 3+x.1.2.1.length+1=c by (first|lia|omega)]
  dsimp only
  rw [this]
def pgN (h:Hd3):Pg:=(h,[("0" : Str)],[0,0])
theorem num0:numS 0=("0" : Str):=by decide +kernel
theorem pgN_ok {hs:List Hd3} {h:Hd3} (ok:HdOk h):PgOk hs (pgN h):=by
 refine ⟨ok,?_,fun w hw => ?_⟩
 ·have:=reads_num (hs:=hs) (bs:=h.2.1) (d:=9) (n:=0) (by decide)
  rw [num0] at this
  exact this
 ·rw [List.mem_singleton.mp hw,<- num0]; exact num_wd (by decide)
end L2

namespace L2
open PySem PySem.Spec PyProof.Rows
section
variable {pg:Program} {wd:World} {B:Around} {xs:Value->Shared->Prop}
end
section
variable {X:Cx} {pos:Pos}
end
end L2

namespace L2
open PySem PySem.Spec PyProof.Rows
theorem args_sum2 (a b:Value):argsOk "sum" ⟨[a,b],[]⟩ := by unfold argsOk; kernel_rfl
section
variable {prog:Program} {w:World} {A:Around} {R:Result->Shared->Prop}
theorem sum_lists (hh:A.in1.handled=none) {it S l:Addr} {as:List Addr} {Ls:List (List Value)} (nS:it≠S) (nl:l≠it) (nlS:l≠S) (hlen:as.length=Ls.length) (na:∀ a∈as,a≠it/\a≠S) :
  ∀ (k i:Nat) (s:Shared) (t:Addr) (acc:List Value) (c nt:Nat),as.length - i=k->i<=as.length->s.heap.IsListIter it l i->s.heap.IsList l (as.map Value.ref).toArray ->
  (∀ (j:Nat) (a:Addr) (vs:List Value),as[j]? = some a->Ls[j]? = some vs->∃ n,s.heap.get? a=some { cls:=.type "list",data:=.seq vs.toArray n }) ->
  s.heap.get? S=some { cls:=.type "list",dict:=none,data:=.seq #[.ref t] c,slots:=#[] }->s.heap.get? t=some { cls:=.type "list",data:=.seq acc.toArray nt }->t≠it->t≠S ->
  acc.length+(Ls.drop i).flatten.length<=sizeLine ->
  (∀ (h':Heap) (t':Nat) (p:Addr) (np:Nat),(∀ b o,b≠it->b≠S->s.heap.get? b=some o->h'.get? b=some o)->h'.get? p=some { cls:=.type "list",data:=.seq (acc++(Ls.drop i).flatten).toArray np }->(p=t/\i=as.length\/s.heap.objs.size<=p)->R (.ok (.ret (.ref p))) { s with heap:=h',toks:=t' }) ->
  codeAny (model prog w) A (.builtin "sum.loop" ⟨[.ref it,.ref S,rawInt 2,rawInt 0],[]⟩) R s:=by
 intro k
 induction k with
 | zero =>
  intro i s t acc c nt hk hi hit hl hL hS ht n1 n2 hz hR
  have hin:i=as.length:=by (first|lia|omega)
  refine codeAny_builtin F.entry_sum_loop ?_
  rw [Around.under_plainId F.plain_sum_loop _]
  show wpAny _ A.in1 (seqItems? (.ref S) >>= _) _ _ s
  refine wpAny_bind (wpAny_seqItems hS rfl ?_)
  show wpAny _ A.in1 (tryCatch (pyNext (.ref it)) _ >>= _) _ _ s
  refine wpAny_bind (wpAny_tryCatch (wpAny_pyNext_list_end hh hit hl (by simp [hin]) fun h' hx => ?_))
  refine wpAny_pure (hR h' s.toks t nt (fun b o nb _ e=>hx b o nb e) ?_ (.inl ⟨rfl,hin⟩))
  rw [List.drop_of_length_le (by (first|lia|omega)),List.flatten_nil,List.append_nil]
  exact hx _ _ n1 ht
 | succ k ih =>
  intro i s t acc c nt hk hi hit hl hL hS ht n1 n2 hz hR
  have hlt:i<as.length:=by (first|lia|omega)
  have hlt2:i<Ls.length:=by (first|lia|omega)
  obtain ⟨n,hv⟩ := hL i as[i] Ls[i] (List.getElem?_eq_getElem hlt) (List.getElem?_eq_getElem hlt2)
  obtain ⟨m1,m2⟩ := na as[i] (List.getElem_mem hlt)
  have ed:Ls.drop i=Ls[i] :: Ls.drop (i+1):=List.drop_eq_getElem_cons hlt2
  rw [ed,List.flatten_cons,List.length_append] at hz
  rw [ed,List.flatten_cons,<- List.append_assoc] at hR
  have ei:(as.map Value.ref).toArray[i]? = some (.ref as[i]):=by simp [hlt]
  generalize as[i]=a at hv m1 m2 ei
  generalize Ls[i]=vs at hv hz hR
  refine codeAny_builtin F.entry_sum_loop ?_
  rw [Around.under_plainId F.plain_sum_loop _]
  show wpAny _ A.in1 (seqItems? (.ref S) >>= _) _ _ s
  refine wpAny_bind (wpAny_seqItems hS rfl ?_)
  show wpAny _ A.in1 (tryCatch (pyNext (.ref it)) _ >>= _) _ _ s
  refine wpAny_bind (wpAny_tryCatch (wpAny_pyNext_list_item hit hl ei fun h1 it1 sb => ?_))
  have e1:∀ b o,b≠it->s.heap.get? b=some o->h1.get? b=some o:=fun b o nb e=>sb.extBut b o nb e
  have sz:s.heap.objs.size<=h1.objs.size:=Nat.le_of_eq sb.1.symm
  show wpAny _ A.in1 ((holding [Value.ref a] (binaryOp .Add (.ref t) (.ref a))).attempt >>= _) _ _ _
  refine wpAny_bind (wpAny_attempt (wpAny_holding (PySem.P.add_list (e1 _ _ n1 ht) (e1 _ _ m1 hv) ?_ (by rw [List.size_toArray,List.size_toArray]; (first|lia|omega)))))
  have ea:acc.toArray++vs.toArray=(acc++vs).toArray:=by simp
  rw [ea]
  generalize eh:h1.push { cls:=.type "list",data:=.seq (acc++vs).toArray }=h2
  have e2:∀ b o,h1.get? b=some o->h2.get? b=some o:=fun b o e=>by rw [<- eh]; exact Heap.get?_push_of_some _ e
  have g2:h2.get? h1.objs.size=some { cls:=.type "list",data:=.seq (acc++vs).toArray }:=by rw [<- eh]; exact Heap.get?_push_size _ rfl
  have hS2:=e2 _ _ (e1 _ _ (Ne.symm nS) hS)
  have lS:=Heap.lt_size (e1 _ _ (Ne.symm nS) hS)
  obtain ⟨oi,hoi,ri⟩ := id it1
  have lI:=Heap.lt_size hoi
  show wpAny _ A.in1 (updateSeq S (fun _ => #[.ref h1.objs.size]) >>= _) _ _ _
  refine wpAny_bind (wpAny_updateSeq hS2 rfl ?_)
  have hS3:=Heap.get?_update_self (Obj.mapSeq fun _ => #[Value.ref h1.objs.size]) hS2 rfl
  refine wpAny_bind (wpAny_letGo ?_)
  refine wpAny_bind (wpAny_updateSeq hS3 rfl (wpAny_pure ⟨plainId_quiet F.plain_sum_loop _,?_⟩))
  have e3:∀ b o,b≠S->h2.get? b=some o->((h2.update S (Obj.mapSeq fun _ => #[Value.ref h1.objs.size])).update S (Obj.mapSeq fun _ => #[Value.ref h1.objs.size])).get? b=some o:=fun b o nb e=>by
   rw [Heap.get?_update_other _ _ (Ne.symm nb),Heap.get?_update_other _ _ (Ne.symm nb)]; exact e
  have kk:∀ b o,b≠it->b≠S->s.heap.get? b=some o->((h2.update S (Obj.mapSeq fun _ => #[Value.ref h1.objs.size])).update S (Obj.mapSeq fun _ => #[Value.ref h1.objs.size])).get? b=some o:=fun b o n1 n2 e=>e3 _ _ n2 (e2 _ _ (e1 _ _ n1 e))
  have z1:s.heap.objs.size<=((h2.update S (Obj.mapSeq fun _ => #[Value.ref h1.objs.size])).update S (Obj.mapSeq fun _ => #[Value.ref h1.objs.size])).objs.size:=by
   exact Nat.le_trans sz (Nat.le_of_lt (Heap.lt_size (e3 _ _ (Nat.ne_of_gt lS) g2)))
  refine ih (i+1) _ h1.objs.size (acc++vs) _ _ (by (first|lia|omega)) hlt ⟨oi,e3 _ _ nS (e2 _ _ hoi),ri⟩ ?_ (fun j a' vs' h1' h2' => ?_) (Heap.get?_update_self _ hS3 rfl) (e3 _ _ (Nat.ne_of_gt lS) g2) (Nat.ne_of_gt lI) (Nat.ne_of_gt lS) (by rw [List.length_append]; (first|lia|omega)) (fun h' t' p np kp gp cp => ?_)
  ·obtain ⟨o,ho,r⟩ := hl
   exact ⟨o,kk _ _ nl nlS ho,r⟩
  ·obtain ⟨n',g'⟩ := hL j a' vs' h1' h2'
   obtain ⟨q1,q2⟩ := na a' (List.mem_of_getElem? h1')
   exact ⟨n',kk _ _ q1 q2 g'⟩
  ·refine hR h' t' p np (fun b o n1 n2 e=>kp b o n1 n2 (kk b o n1 n2 e)) gp (.inr ?_)
   rcases cp with ⟨rfl,_⟩ | z
   ·exact sz
   ·exact Nat.le_trans z1 z
end
theorem sub_list_bytes':isSubtype (.type "list") (.type "bytes")=pure false:=by rw [isSubtype_type]; kernel_rfl
theorem sub_list_bytearray':isSubtype (.type "list") (.type "bytearray")=pure false:=by rw [isSubtype_type]; kernel_rfl
section
variable {X:Cx}
theorem refs_vals:∀ {as:List Addr} {us:List Value},Vals (as.map V.ref) us->us=as.map Value.ref
 | [],_,.nil=>rfl
 | n :: ns,_,.cons h t=>by
  rw [refs_vals t,List.map_cons]
  congr 1
def rSumL:List V->Hp->VK->Prop:=fun xs H Q=>∃ (l z:Addr) (as:List Addr) (yss:List (List V)),xs=[.ref l,.ref z]/\H l=some (.lst (as.map V.ref))/\Paired (fun a ys=>H a=some (.lst ys)) as yss/\H z=some (.lst [])/\yss.flatten.length<=sizeLine /\
 (yss=[]->Q (.ref z) H)/\∀ p,H p=none->Q (.ref p) (upd H p (.lst yss.flatten))
theorem its_of {pins:List (Addr × Obj)} {σ:St} {H:Hp} {s:Shared} (I:Inv X pins σ H s):∀ {as:List Addr} {yss:List (List V)},Paired (fun a ys=>H a=some (.lst ys)) as yss->∃ Ls:List (List Value),Vals yss.flatten Ls.flatten/\as.length=Ls.length /\
  ∀ (j:Nat) (a:Addr) (vs:List Value),as[j]? = some a->Ls[j]? = some vs->∃ n,s.heap.get? a=some { cls:=.type "list",data:=.seq vs.toArray n }
 | [],_,.nil=>⟨[],.nil,rfl,fun j a vs h=>by simp at h⟩
 | a :: as,ys :: yss,.cons h t=>by
  obtain ⟨Ls,r,e,g⟩ := its_of I t
  obtain ⟨z,its,n,rv,hl,he⟩ := I.lstM h
  refine ⟨its :: Ls,?_,by rw [List.length_cons,List.length_cons,e],fun j b vs h1 h2 => ?_⟩
  ·rw [List.flatten_cons,List.flatten_cons]; exact rv.append r
  ·cases j with
   | zero =>
    have e1:a=b:=by simpa using h1
    have e2:its=vs:=by simpa using h2
    subst e1 e2
    exact ⟨n,he⟩
   | succ j=>exact g j b vs (by simpa using h1) (by simpa using h2)
theorem call_sumL (hc:X.calm=true):CallR X (.builtin "sum") rSumL:=by
 intro pins s σ H xs us Q I r h
 obtain ⟨l,z,as,yss,rfl,hl,ha,hz,hn,q0,q1⟩ := h
 obtain ⟨u,u2,rfl,ru,ru2⟩ := vals2 r
 cases ru
 cases ru2
 obtain ⟨Ls,rL,eL,gL⟩ := its_of I ha
 obtain ⟨zl,its,n,rv,hli,he⟩ := I.lstM hl
 obtain ⟨zz,itz,nz,rz,hlz,ez⟩ := I.lstM hz
 have e0:=refs_vals rv
 subst e0
 have e1:itz=[]:=by cases rz; rfl
 subst e1
 refine call_function_tree F.kind_sum F.plain_sum F.entry_sum (args_sum2 _ _) ?_
 unfold Builtin.«sum»
 simp only [List.length_cons,List.length_nil]
 rw [if_neg (by decide)]
 refine wpAny_bind (wpAny_of_eq (show Builtin.Builtins.bindParams "sum" ["start"] 0 ⟨[.ref z],[]⟩=pure [some (.ref z)] from rfl) ?_)
 have il:s.heap.IsList l (as.map Value.ref).toArray:=⟨_,he,rfl,_,rfl⟩
 refine wpAny_bind (wpAny_pyIter_list il ?_)
 refine wpAny_bind (wpAny_pure ?_)
 generalize eh:s.heap.push { cls:=.type "list_iterator",data:=.fields #[.ref l,.int 0 0] }=h1
 have k1:∀ b o,s.heap.get? b=some o->h1.get? b=some o:=fun b o e=>by rw [<- eh]; exact Heap.get?_push_of_some _ e
 have iz:=k1 _ _ ez
 have tz:({ s with heap:=h1 }:Shared).TypeIs (.ref z) "list" := Heap.IsList.typeIs (s:={ s with heap:=h1 }) ⟨_,iz,rfl,_,rfl⟩
 have gi:h1.get? s.heap.objs.size=some { cls:=.type "list_iterator",data:=.fields #[.ref l,.int 0 0] }:=by rw [<- eh]; exact Heap.get?_push_size _ rfl
 simp only [List.forIn_cons,List.forIn_nil]
 refine wpAny_bind (wpAny_bind (wpAny_bind (wpAny_isInstance (T := "list") (b:=false) tz F.sub_list_str ?_)))
 simp only [Bool.false_eq_true,if_false]
 refine wpAny_pure (wpAny_bind (wpAny_bind (wpAny_isInstance (T := "list") (b:=false) tz sub_list_bytes' ?_)))
 simp only [Bool.false_eq_true,if_false]
 refine wpAny_pure (wpAny_bind (wpAny_bind (wpAny_isInstance (T := "list") (b:=false) tz sub_list_bytearray' ?_)))
 simp only [Bool.false_eq_true,if_false]
 refine wpAny_pure (wpAny_pure ?_)
 refine wpAny_bind (wpAny_newObj_type ?_)
 have lz:=Heap.lt_size ez
 have ll:=Heap.lt_size he
 have l1:=Heap.lt_size gi
 have k2:∀ b o,h1.get? b=some o->(h1.push { cls:=.type "list",data:=.seq #[.ref z] }).get? b=some o:=fun b o e=>Heap.get?_push_of_some _ e
 refine wpAny_pure ⟨plainId_quiet F.plain_sum_loop _,sum_lists (it:=s.heap.objs.size) (S:=h1.objs.size) (l:=l) (as:=as) (Ls:=Ls) (I.ok.hd hc) (Nat.ne_of_lt l1) (Nat.ne_of_lt ll) (Nat.ne_of_lt (Nat.lt_trans ll l1)) eL (fun a ha' => ?_) as.length 0 _ z [] _ _ (Nat.sub_zero _) (Nat.zero_le _)
  ⟨_,k2 _ _ gi,rfl,rfl⟩ ⟨_,k2 _ _ (k1 _ _ he),rfl,_,rfl⟩ (fun j a vs h1' h2' => ?_) (Heap.get?_push_size _ rfl) (k2 _ _ iz) (Nat.ne_of_lt lz) (Nat.ne_of_lt (Nat.lt_trans lz l1)) ?_ (fun h' t' p np kp gp cp => ?_)⟩
 ·obtain ⟨j,hj⟩ := List.getElem?_of_mem ha'
  have hjl:=(List.getElem?_eq_some_iff.mp hj).1
  obtain ⟨n',g'⟩ := gL j a _ hj (List.getElem?_eq_getElem (by (first|lia|omega)))
  have:=Heap.lt_size g'
  exact ⟨Nat.ne_of_lt this,Nat.ne_of_lt (Nat.lt_trans this l1)⟩
 ·obtain ⟨n',g'⟩ := gL j a vs h1' h2'
  exact ⟨n',k2 _ _ (k1 _ _ g')⟩
 ·rw [List.drop_zero,<- rL.length]; show 0+_<=_; (first|lia|omega)
 ·rw [List.drop_zero,List.nil_append] at gp
  have kk:∀ b o,s.heap.get? b=some o->h'.get? b=some o:=fun b o e=>kp b o (Nat.ne_of_lt (Heap.lt_size e)) (Nat.ne_of_lt (Nat.lt_trans (Heap.lt_size e) l1)) (k2 _ _ (k1 _ _ e))
  rcases cp with ⟨rfl,e⟩ | hp
  ·have:yss=[]:=by
    have:=Paired.len ha
    cases yss with
    | nil=>rfl
    | cons y r=>rw [List.length_cons] at this; (first|lia|omega)
   exact ⟨.ref p,H,I.kept kk,rfl,q0 this⟩
  ·have hp':s.heap.objs.size<=p:=Nat.le_trans (Nat.le_of_lt l1) (Nat.le_trans (Nat.le_of_lt (Heap.lt_size (Heap.get?_push_size _ rfl))) hp)
   exact ⟨.ref p,_,I.laid (o:=.lst yss.flatten) kk hp' ⟨hn,_,np,rL,gp⟩,rfl,q1 _ (I.hok.fresh hp')⟩
end
end L2

namespace L2
open PySem PySem.Spec PyProof.Rows
section
variable {X:Cx} {e o:Expr} {es:List Expr} {to:TE} {t:TA} {name:Str} {apos cpos:Pos} {T id:String} {r:V->List V->Hp->VK->Prop}
theorem mt_joinK (K:PySem.W.Frag) (hK:X.K=K):MtR X "str.join" (rJoin K):=hK ▸ wF
theorem pe_bmK (K:PySem.W.Frag) (hK:X.K=K) (pa:PlainAttrs T) (slot:Slot T name id) (hty:typeOf (.builtin id)=pure (.type "method_descriptor")) (hm:MtR X id r) (ho:PE X o to) (ha:PA X (e :: es) t)
  (hbase:attributeBase o name X.env (eval o X.env)=eval o X.env:=by rfl)
  (hfew:((backTo cpos (starEach (e :: es) X.env)).all (fun x => !x.1) && (backToKw cpos (keywordEach [] X.env)).all (fun x=>x.1.isSome)
   && decide ((e :: es).length+([]:List Keyword).length+(if ([]:List Keyword).isEmpty then 0 else 1)<30))=true:=by rfl)
  (hline:(apos.endLine == cpos.line)=true:=by rfl) (hs:starEach (e :: es) X.env=(false,eval e X.env) :: starEach es X.env:=by rfl) (hplain:(backTo cpos (starEach es X.env)).any (·.1)=false:=by rfl) :
  PE X (.Call (.Attribute o name apos) (e :: es) [] cpos) (tBM K T r to t):=hK ▸ yP pa slot hty hm ho ha hbase hfew hline hs hplain
end
theorem comp_str {p:Addr} {x:Str} {g:TG} {tt:TT} {te:TE} {R:Hp->Prop} {σ0:St} {H0:Hp} (Pv:Nat->St->Hp->Prop) (h0:Pv 0 σ0 H0)
  (hs:∀ i c σ H,i<x.cps.size->x.cps[i]? = some c->Pv i σ H->g (.str ⟨#[c]⟩) σ H fun σ3 H3=>tt σ3 H3 fun b H4 =>
   if b=true then te σ3 H4 fun v H5=>∃ ys,H5 p=some (.lst ys)/\ys.length<sizeLine/\∃ m',m'<x.cps.size - i/\CW x.cps.size Pv (i+1) m' σ3 (upd H5 p (.lst (ys++[v])))
   else ∃ m',m'<x.cps.size - i/\CW x.cps.size Pv (i+1) m' σ3 H4)
  (hd:∀ σ H,Pv x.cps.size σ H->R H):CompGo (Itstr x) p σ0 H0 g tt te R:=by
 refine ⟨CW x.cps.size Pv,⟨_,Nat.zero_le _,rfl,h0⟩,fun i m σ' H' w => ?_⟩
 obtain ⟨hi,rfl,hp⟩ := w
 by_cases hlt:i<x.cps.size
 ·refine .inr ⟨hlt,fun v H2 y => ?_⟩
  obtain ⟨e,c,hc,rfl⟩ := y
  subst e
  exact hs i c σ' _ hlt hc hp
 ·have e:i=x.cps.size:=by (first|lia|omega)
  subst e
  exact .inl ⟨Nat.le_refl _,hd σ' H' hp⟩
def LwE (σ:St) (ws:List Str) (t:TE):Prop:=∀ (H:Hp) (Q:VK),(∀ a H',H a=none->Same H H'->H' a=some (.lst (ws.map V.str))->Q (.ref a) H')->t σ H Q
theorem LwE.rep {σ:St} {ws:List Str} {t:TE} {k:Int} (hk : 0<=k) (hk2:k<=1000) (hw:ws.length<=1000) (h:LwE σ ws t):LwE σ (List.replicate k.toNat ws).flatten (tOp rRep t (tC (.int k))):=fun H Q q=>by
 refine h H _ fun a H1 f1 s1 e1=>⟨a,k,_,rfl,rfl,e1,by (first|lia|omega),by (first|lia|omega),?_,fun p hp => ?_⟩
 ·rw [List.length_map]
  have:ws.length * k.toNat<=1000 * 1000:=Nat.mul_le_mul hw (by (first|lia|omega))
  exact Nat.le_trans this (by decide)
 ·refine q p _ (s1.free hp) (s1.trans (zF hp _)) ?_
  rw [zC]
  congr 2
  rw [List.map_flatten,List.map_replicate]
theorem LwE.cat {σ:St} {ws us:List Str} {t u:TE} (hw:ws.length+us.length<=1000) (h:LwE σ ws t) (h':LwE σ us u):LwE σ (ws++us) (tOp rCat t u):=fun H Q q=>by
 refine h H _ fun a H1 f1 s1 e1=>h' H1 _ fun b H2 f2 s2 e2=>⟨a,b,_,_,rfl,rfl,s2 _ _ e1,e2,?_,fun p hp => ?_⟩
 ·rw [List.length_map,List.length_map]; exact small hw
 ·refine q p _ (s1.free (s2.free hp)) (s1.trans (s2.trans (zF hp _))) ?_
  rw [zC,List.map_append]
theorem LwE.map {σ:St} {x:Str} {te:TE} {f:Nat->Str} (hx:x.cps.size<=1000) (h:∀ (c:Nat) (H:Hp) (Q:VK),Q (.str (f c)) H->te [some (.str ⟨#[c]⟩)] H Q):LwE σ (x.cps.toList.map f) (tComp (iStr (tC (.str x))) 1 [] (gName 0) tYes te):=fun H Q q=>by
 refine ⟨x,rfl,fun p hp => ?_⟩
 refine comp_str (fun i σ' H'=>H'=upd H p (.lst (((x.cps.toList.take i).map f).map V.str))/\∃ y,σ'=[y]) ⟨rfl,_,rfl⟩ ?_ ?_
 ·rintro i c σ' H' hi hc ⟨rfl,y,rfl⟩
  refine h c _ _ ⟨_,zC,?_,CW.next hi ⟨?_,_,rfl⟩⟩
  ·rw [List.length_map,List.length_map,List.length_take]
   exact Nat.lt_of_le_of_lt (Nat.min_le_left ..) (Nat.lt_of_lt_of_le hi (small hx))
  ·have e:x.cps.toList[i]? = some c:=by rw [Array.getElem?_toList]; exact hc
   rw [qH,List.take_succ,e,List.map_append,List.map_append]
   rfl
 ·rintro σ' H' ⟨rfl,_⟩
  rw [List.take_of_length_le (by rw [Array.length_toList]; exact Nat.le_refl _)]
  exact q p _ hp (zF hp _) zC
end L2

namespace L2
open PySem
theorem LwE.lst {σ:St} {ws:List Str} {t:TA} (h:∀ (H:Hp) (Q:List V->Hp->Prop),Q (ws.map V.str) H->t σ H Q) (hl:ws.length<=1000):LwE σ ws (tLst t):=fun H Q q =>
 h H _ ⟨small (by rw [List.length_map]; exact hl),fun p hp=>q p _ hp (zF hp _) zC⟩
def PrB (P:List Str->Nat->Prop) (H:Hp) (v:V):Prop:=∃ (t a:Addr) (ws:List Str) (n:Nat),v = .ref t/\H t=some (.tup [.ref a,.int (n:Int)])/\H a=some (.lst (ws.map V.str))/\P ws n
theorem PrB.same {P:List Str->Nat->Prop} {H H':Hp} {v:V} (h:PrB P H v) (g:Same H H'):PrB P H' v:=by
 obtain ⟨t,a,ws,n,rfl,e1,e2,p⟩ := h
 exact ⟨t,a,ws,n,rfl,g _ _ e1,g _ _ e2,p⟩
def BdE (σ:St) (P:List Str->Nat->Prop) (t:TE):Prop:=∀ (H:Hp) (Q:VK),(∀ p H',H p=none->Same H H'->PrB P H' (.ref p)->Q (.ref p) H')->t σ H Q
theorem BdE.mk {σ:St} {P:List Str->Nat->Prop} {ws:List Str} {n:Nat} {t:TE} {u:TA} (hp:P ws n) (h:LwE σ ws t) (hu:∀ (H:Hp) (Q:List V->Hp->Prop),Q [.int (n:Int)] H->u σ H Q):BdE σ P (tTup (tCons t u)):=fun H Q q=>by
 refine h H _ fun a H1 f1 s1 e1=>hu H1 _ ⟨small (show 2<=1000 by decide),fun p hp' => ?_⟩
 have s2:=zF hp' (.tup [.ref a,.int (n:Int)])
 exact q p _ (s1.free hp') (s1.trans s2) ⟨p,a,ws,n,rfl,zC,s2 _ _ e1,hp⟩
def BsE (σ:St) (P:List Str->Nat->Prop) (m:Nat) (t:TA):Prop:=∀ (H:Hp) (Q:List V->Hp->Prop),(∀ vs H',Same H H'->vs.length=m->(∀ v∈vs,PrB P H' v)->Q vs H')->t σ H Q
theorem BsE.nil {σ:St} {P:List Str->Nat->Prop}:BsE σ P 0 tNil:=fun H Q q=>q [] H (Same.refl H) rfl (fun v hv=>nomatch hv)
theorem BsE.cons {σ:St} {P:List Str->Nat->Prop} {m:Nat} {t:TE} {u:TA} (h:BdE σ P t) (hu:BsE σ P m u):BsE σ P (m+1) (tCons t u):=fun H Q q=>by
 refine h H _ fun p H1 f1 s1 b1=>hu H1 _ fun vs H2 s2 l2 b2 => ?_
 refine q (.ref p :: vs) H2 (s1.trans s2) (by rw [List.length_cons,l2]) fun v hv => ?_
 rcases List.mem_cons.mp hv with z | z
 ·rw [z]; exact b1.same s2
 ·exact b2 v z
def LsB (P:List Str->Nat->Prop) (m:Nat) (H:Hp) (a:Addr):Prop:=∃ vs,H a=some (.lst vs)/\vs.length=m/\∀ v∈vs,PrB P H v
theorem LsB.same {P:List Str->Nat->Prop} {m:Nat} {H H':Hp} {a:Addr} (h:LsB P m H a) (g:Same H H'):LsB P m H' a:=by
 obtain ⟨vs,e,l,b⟩ := h
 exact ⟨vs,g _ _ e,l,fun v hv=>(b v hv).same g⟩
theorem BsE.go {σ:St} {P:List Str->Nat->Prop} {m:Nat} {t:TA} {H:Hp} {Q:VK} (h:BsE σ P m t) (hm:m<=1000) (q:∀ a H',H a=none->Same H H'->LsB P m H' a->Q (.ref a) H'):tLst t σ H Q:=by
 refine h H _ fun vs H1 s1 l1 b1=>⟨small (by (first|lia|omega)),fun p hp => ?_⟩
 have s2:=zF hp (.lst vs)
 exact q p _ (s1.free hp) (s1.trans s2) ⟨vs,zC,l1,fun v hv=>(b1 v hv).same s2⟩
theorem BsE.more {σ:St} {P:List Str->Nat->Prop} {m k:Nat} {t:TA} {H:Hp} {a:Addr} {Q:VK} (L:LsB P m H a) (h:BsE σ P k t) (hm:m+k<=1000) (q:∀ b H',H b=none->Same H H'->LsB P (m+k) H' b->Q (.ref b) H'):tLst t σ H fun y H2=>rCat (.ref a) y H2 Q:=by
 refine h.go (by (first|lia|omega)) fun b H1 f1 s1 l1 => ?_
 obtain ⟨vs,e,l,b0⟩ := L.same s1
 obtain ⟨us,e',l',b'⟩ := l1
 refine ⟨a,b,_,_,rfl,rfl,e,e',small (by (first|lia|omega)),fun p hp => ?_⟩
 have s2:=zF hp (.lst (vs++us))
 refine q p _ (s1.free hp) (s1.trans s2) ⟨vs++us,zC,by rw [List.length_append,l,l'],fun v hv => ?_⟩
 rcases List.mem_append.mp hv with z | z
 ·exact (b0 v z).same s2
 ·exact (b' v z).same s2
def wordsC (x:Str):List Str:=(wl [] x.cps.toList).map fun l=>⟨l.toArray⟩
theorem jR (x:Str):wordsT x=wordsC x:=by
 refine cps_inj ?_
 rw [words_wl]
 unfold wordsC
 rw [List.map_map]
 exact (List.map_id _).symm
def TxR (x:Str) (o:V):Prop:=TextOkC x/\((o = .non/\errR (readR (wordsT x))=none)\/∃ n:Nat,o = .int (n:Int)/\errR (readR (wordsT x))=some n)
where TextOkC (x:Str):Prop:=x.length<=1000000/\(wordsT x).length<=1000000/\∀ w∈wordsT x,w.length<=1000000
theorem txR_none {x:Str} (h:(decide (x.length<=1000000) && decide ((wordsC x).length<=1000000) && (wordsC x).all (fun w=>decide (w.length<=1000000)) && decide (errR (readR (wordsC x))=none))=true):TxR x .non:=by
 rw [Bool.and_eq_true_iff,Bool.and_eq_true_iff,Bool.and_eq_true_iff] at h
 obtain ⟨⟨⟨h1,h2⟩,h3⟩,h4⟩ := h
 refine ⟨⟨of_decide_eq_true h1,by rw [jR]; exact of_decide_eq_true h2,fun w hw => ?_⟩,.inl ⟨rfl,by rw [jR]; exact of_decide_eq_true h4⟩⟩
 rw [jR] at hw
 exact of_decide_eq_true (List.all_eq_true.mp h3 w hw)
theorem kA {x:Str} {n:Nat} (h:(decide (x.length<=1000000) && decide ((wordsC x).length<=1000000) && (wordsC x).all (fun w=>decide (w.length<=1000000)) && decide (errR (readR (wordsC x))=some n))=true):TxR x (.int (n:Int)):=by
 rw [Bool.and_eq_true_iff,Bool.and_eq_true_iff,Bool.and_eq_true_iff] at h
 obtain ⟨⟨⟨h1,h2⟩,h3⟩,h4⟩ := h
 refine ⟨⟨of_decide_eq_true h1,by rw [jR]; exact of_decide_eq_true h2,fun w hw => ?_⟩,.inr ⟨n,rfl,by rw [jR]; exact of_decide_eq_true h4⟩⟩
 rw [jR] at hw
 exact of_decide_eq_true (List.all_eq_true.mp h3 w hw)
def PrX (H:Hp) (v:V):Prop:=∃ (t:Addr) (x:Str) (o:V),v = .ref t/\H t=some (.tup [.str x,o])/\TxR x o
theorem PrX.same {H H':Hp} {v:V} (h:PrX H v) (g:Same H H'):PrX H' v:=by
 obtain ⟨t,x,o,rfl,e,r⟩ := h
 exact ⟨t,x,o,rfl,g _ _ e,r⟩
end L2

namespace L2
open PySem PySem.W PySem.Spec PySem.Calls PyProof.Rows
def rIsXT (K:Frag):List V->Hp->VK->Prop:=fun xs H Q=>∃ (x C dx:Addr) (fs:List (Str × V)) (tp:Addr) (Ds:List Addr) (b:Bool),H x=some (ExO x C (some dx))/\H dx=some (XdO dx fs)/\ExCls K C/\IsCls K C/\xs=[.ref x,.ref tp]/\H tp=some (.tup (Ds.map V.ref))/\kitAny K (.ref C) (Ds.map Value.ref)=some b/\Q (.bl b) H
theorem vals_refX:∀ {ns:List Addr} {us:List Value},Vals (ns.map V.ref) us->us=ns.map Value.ref
 | [],_,.nil=>rfl
 | n :: ns,_,.cons h t=>by
  rw [vals_refX t,List.map_cons]
  congr 1
theorem call_isXT {X:Cx}:CallR X (.builtin "isinstance") (rIsXT X.K):=by
 intro pins s σ H xs us Q I r h
 obtain ⟨x,C,dx,fs,tp,Ds,b,hx,hd,Ec,Ic,rfl,ht,e,q⟩ := h
 obtain ⟨ox,vs,ge,hcl,hdi,hda,_⟩ := ExO.get I.hok hx
 obtain ⟨mA,n,_,_⟩ := XdO.get I.hok hd
 obtain ⟨od,hod,hl⟩ := wO n
 have J:InstAt s.heap x ox C (some od):=⟨ge,hcl,by unfold notCls; rw [hda],by rw [hdi]; exact hod⟩
 obtain ⟨_,its2,r2,p⟩ := (show ObjOk X.prog X.w H s.heap tp (.tup (Ds.map V.ref)) from I.hok tp _ ht)
 obtain ⟨⟨oc,od',oda,osl⟩,h1,h2,n2,h3⟩ := p
 dsimp only at h2 h3
 subst h2 h3
 have hv:=vals_refX r2
 subst hv
 obtain ⟨u,w',rfl,ru,rw'⟩ := vals2 r
 cases ru; cases rw'
 exact kia_tup (kitx_exc Ec Ic.ha Ic.hn Ic.htk) I.kIn J h1 e (fun z=>nomatch z) fun tk=>⟨.bl b,H,I.tok tk,rfl,q⟩
theorem kit_no4 {K:Frag} {t a b c d:Value} (ha:kitOne K t a=some false) (hb:kitOne K t b=some false) (hc:kitOne K t c=some false) (hd:kitOne K t d=some false):kitAny K t [a,b,c,d]=some false:=by
 unfold kitAny
 rw [ha]
 show kitAny K t [b,c,d]=_
 unfold kitAny
 rw [hb]
 show kitAny K t [c,d]=_
 unfold kitAny
 rw [hc]
 show kitAny K t [d]=_
 unfold kitAny
 rw [hd] <;> rfl
end L2

namespace L2
open PySem PySem.W PySem.W.X
theorem walkX_of {q:Program} {loose:List Str} {XP:(Str->Option Value)->Heap->Prop} {as:List Addr} {K:Params->Frag} {n t:Nat} {r:RowW} {d:DefRec} {kwd:List (Str × Expr)} {run:Value->List Value->Sem Value} (e:∀ P,as=(K P).map (·.1))
  (h:WalkO q loose XP (fun w h=>(K w.params).In h) r d kwd run):WalkX q loose XP (obsZ as) (valZ K n t) r d kwd run:=by
 intro w s₀ s₁ mg mb G y a o pm cd doc dV kV h1 h2 h3 h4 h5 h6 args vals as' L h7 h8 h9 h10 h11
 have Y:(K w.params).In s₁.heap:=InK.keeps (K:=K) w s₀.heap s₁.heap (z_facts e y).2.1 L.keeps
 exact h w s₀ s₁ mg mb G Y a o pm cd doc dV kV h1 h2 h3 h4 h5 h6 args vals as' h7 h8 h9 h10 h11
end L2









namespace OcL
open PySem L2
def top (i:Nat):Stmt:=PySem.Challenge.pw_ownchain_k11_words_that_cannot_stand.main.body.getD i (.Pass ⟨0,0,0,0⟩)
abbrev yU:Stmt:=inClass (top 3) 0
theorem sc_NoText___init__:FnScope ["self", "at"] ["self", "at"] (defScope yU):=⟨rfl,rfl,rfl,by decide +kernel,rfl,by decide +kernel,by decide +kernel⟩
abbrev kO:Stmt:=top 18
theorem sc_parts_of:FnScope ["kind"] ["kind"] (defScope kO):=⟨rfl,rfl,rfl,by decide +kernel,rfl,by decide +kernel,by decide +kernel⟩
abbrev qO:Stmt:=top 19
theorem sc_kind_of:FnScope ["word"] ["word"] (defScope qO):=⟨rfl,rfl,rfl,by decide +kernel,rfl,by decide +kernel,by decide +kernel⟩
abbrev jU:Stmt:=top 28
theorem sc_parts_due:FnScope ["kind", "numbers", "heads"] ["kind", "numbers", "heads"] (defScope jU):=⟨rfl,rfl,rfl,by decide +kernel,rfl,by decide +kernel,by decide +kernel⟩
abbrev jQ:Stmt:=top 35
theorem sc_words_of:FnScope ["text"] ["text"] (defScope jQ):=⟨rfl,rfl,rfl,by decide +kernel,rfl,by decide +kernel,by decide +kernel⟩
abbrev xH:Stmt:=top 36
theorem wM:FnScope ["word", "signs", "sign"] ["word", "signs"] (defScope xH):=⟨rfl,rfl,rfl,by decide +kernel,rfl,by decide +kernel,by decide +kernel⟩
abbrev qP:Stmt:=top 37
theorem sc_is_name:FnScope ["word"] ["word"] (defScope qP):=⟨rfl,rfl,rfl,by decide +kernel,rfl,by decide +kernel,by decide +kernel⟩
abbrev xQ:Stmt:=top 38
theorem sc_is_number_of:FnScope ["word", "most_figures", "figures"] ["word", "most_figures"] (defScope xQ):=⟨rfl,rfl,rfl,by decide +kernel,rfl,by decide +kernel,by decide +kernel⟩
abbrev jV:Stmt:=top 39
theorem sc_is_number:FnScope ["word"] ["word"] (defScope jV):=⟨rfl,rfl,rfl,by decide +kernel,rfl,by decide +kernel,by decide +kernel⟩
abbrev yR:Stmt:=inClass (top 40) 0
theorem sc_Reading___init__:FnScope ["self", "words"] ["self", "words"] (defScope yR):=⟨rfl,rfl,rfl,by decide +kernel,rfl,by decide +kernel,by decide +kernel⟩
abbrev xP:Stmt:=top 41
theorem xU:FnScope ["words", "numbered", "function", "at"] ["words"] (defScope xP):=⟨rfl,rfl,rfl,by decide +kernel,rfl,by decide +kernel,by decide +kernel⟩
abbrev xR:Stmt:=top 42
theorem xV:FnScope ["words", "counted", "ended", "at"] ["words"] (defScope xR):=⟨rfl,rfl,rfl,by decide +kernel,rfl,by decide +kernel,by decide +kernel⟩
abbrev s_due:Stmt:=top 43
theorem sc_due:FnScope ["reading"] ["reading"] (defScope s_due):=⟨rfl,rfl,rfl,by decide +kernel,rfl,by decide +kernel,by decide +kernel⟩
abbrev xG:Stmt:=top 44
theorem wL:FnScope ["reading", "there", "name"] ["reading", "there"] (defScope xG):=⟨rfl,rfl,rfl,by decide +kernel,rfl,by decide +kernel,by decide +kernel⟩
abbrev jH:Stmt:=top 45
theorem sc_take_boxes:FnScope ["reading", "boxes", "most", "last"] ["reading", "boxes", "most", "last"] (defScope jH):=⟨rfl,rfl,rfl,by decide +kernel,rfl,by decide +kernel,by decide +kernel⟩
abbrev kL:Stmt:=top 46
theorem sc_take_box:FnScope ["reading", "boxes", "name"] ["reading", "boxes"] (defScope kL):=⟨rfl,rfl,rfl,by decide +kernel,rfl,by decide +kernel,by decide +kernel⟩
abbrev xW:Stmt:=top 47
theorem sc_take_number:FnScope ["reading", "word"] ["reading"] (defScope xW):=⟨rfl,rfl,rfl,by decide +kernel,rfl,by decide +kernel,by decide +kernel⟩
abbrev jS:Stmt:=top 48
theorem wR:FnScope ["reading", "least", "at", "many"] ["reading", "least"] (defScope jS):=⟨rfl,rfl,rfl,by decide +kernel,rfl,by decide +kernel,by decide +kernel⟩
abbrev xX:Stmt:=top 49
theorem sc_take_called:FnScope ["reading", "name"] ["reading"] (defScope xX):=⟨rfl,rfl,rfl,by decide +kernel,rfl,by decide +kernel,by decide +kernel⟩
abbrev kK:Stmt:=top 50
theorem sc_take_own:FnScope ["reading", "kind", "boxes"] ["reading", "kind", "boxes"] (defScope kK):=⟨rfl,rfl,rfl,by decide +kernel,rfl,by decide +kernel,by decide +kernel⟩
abbrev jT:Stmt:=top 51
theorem wS:FnScope ["reading", "boxes", "word", "kind"] ["reading", "boxes"] (defScope jT):=⟨rfl,rfl,rfl,by decide +kernel,rfl,by decide +kernel,by decide +kernel⟩
abbrev jD:Stmt:=top 52
theorem qJ:FnScope ["reading", "boxes", "deep", "kind", "numbers", "part"] ["reading", "boxes", "deep"] (defScope jD):=⟨rfl,rfl,rfl,by decide +kernel,rfl,by decide +kernel,by decide +kernel⟩
abbrev yW:Stmt:=top 53
theorem kJ:FnScope ["reading", "name", "boxes"] ["reading"] (defScope yW):=⟨rfl,rfl,rfl,by decide +kernel,rfl,by decide +kernel,by decide +kernel⟩
abbrev jC:Stmt:=top 54
theorem qI:FnScope ["text", "reading"] ["text"] (defScope jC):=⟨rfl,rfl,rfl,by decide +kernel,rfl,by decide +kernel,by decide +kernel⟩
abbrev kP:Stmt:=top 56
theorem wA:FnScope ["_law_script", "_law_k", "_law_cell"] ["_law_script", "_law_k"] (defScope kP):=⟨rfl,rfl,rfl,by decide +kernel,rfl,by decide +kernel,by decide +kernel⟩
abbrev jX:Stmt:=top 57
theorem kB:FnScope ["_law_pen_here", "_law_many", "_law_drawn", "_law_number_here"] ["_law_pen_here", "_law_many"] (defScope jX):=⟨rfl,rfl,rfl,by decide +kernel,rfl,by decide +kernel,by decide +kernel⟩
abbrev jI:Stmt:=top 58
theorem sc__law_words:FnScope ["_law_words_here"] [] (defScope jI):=⟨rfl,rfl,rfl,by decide +kernel,rfl,by decide +kernel,by decide +kernel⟩
abbrev jE:Stmt:=top 59
theorem qK:FnScope ["_law_pen_here", "_law_taken", "_law_letters", "_law_size", "_law_signs"] ["_law_pen_here", "_law_taken"] (defScope jE):=⟨rfl,rfl,rfl,by decide +kernel,rfl,by decide +kernel,by decide +kernel⟩
abbrev jK:Stmt:=top 60
theorem yZ:FnScope ["_law_pen_here", "_law_most", "_law_found", "_law_taken", "_law_k", "_law_name_here", "_law_params", "_law_boxes", "_law_j"] ["_law_pen_here", "_law_most"] (defScope jK):=⟨rfl,rfl,rfl,by decide +kernel,rfl,by decide +kernel,by decide +kernel⟩
abbrev xZ:Stmt:=top 61
theorem sc__law_number:FnScope ["_law_pen_here", "_law_is_far", "_law_way"] ["_law_pen_here", "_law_is_far"] (defScope xZ):=⟨rfl,rfl,rfl,by decide +kernel,rfl,by decide +kernel,by decide +kernel⟩
abbrev xT:Stmt:=top 62
theorem zX:FnScope ["_law_pen_here", "_law_heads_here", "_law_boxes", "_law_left", "_law_deep", "_law_kind", "_law_number_here", "_law_at", "_law_word", "_law_many", "_law_words_here", "_law_numbers", "_law_count", "_law_k", "_law_more", "_law_further"] ["_law_pen_here", "_law_heads_here", "_law_boxes", "_law_left", "_law_deep"] (defScope xT):=⟨rfl,rfl,rfl,by decide +kernel,rfl,by decide +kernel,by decide +kernel⟩
abbrev xB:Stmt:=top 63
theorem zY:FnScope ["_law_pen_here", "_law_most", "_law_room", "_law_heads_here", "_law_names", "_law_sheet", "_law_name_here", "_law_boxes", "_law_params", "_law_lines", "_law_words_here", "_law_numbers", "_law_line"] ["_law_pen_here", "_law_most", "_law_room"] (defScope xB):=⟨rfl,rfl,rfl,by decide +kernel,rfl,by decide +kernel,by decide +kernel⟩
abbrev jJ:Stmt:=top 64
theorem sc__law_right:FnScope ["_law_e", "_law_at"] ["_law_e", "_law_at"] (defScope jJ):=⟨rfl,rfl,rfl,by decide +kernel,rfl,by decide +kernel,by decide +kernel⟩
abbrev jA:Stmt:=top 65
theorem kD:FnScope ["_law_text", "_law_caught_here", "_law_e"] ["_law_text"] (defScope jA):=⟨rfl,rfl,rfl,by decide +kernel,rfl,by decide +kernel,by decide +kernel⟩
abbrev xA:Stmt:=top 66
theorem sc__law_bad_names:FnScope [] [] (defScope xA):=⟨rfl,rfl,rfl,by decide +kernel,rfl,by decide +kernel,by decide +kernel⟩
abbrev yO:Stmt:=top 67
theorem yT:FnScope ["_law_pen_here", "_law_names", "_law_number_here", "_law_bad", "_law_name_here", "_law_boxes", "_law_way", "_law_start"] ["_law_pen_here", "_law_names", "_law_number_here"] (defScope yO):=⟨rfl,rfl,rfl,by decide +kernel,rfl,by decide +kernel,by decide +kernel⟩
abbrev yL:Stmt:=top 68
theorem zW:FnScope ["_law_pen_here", "_law_names", "_law_there", "_law_strange", "_law_some"] ["_law_pen_here", "_law_names"] (defScope yL):=⟨rfl,rfl,rfl,by decide +kernel,rfl,by decide +kernel,by decide +kernel⟩
abbrev xS:Stmt:=top 69
theorem kY:FnScope ["_law_short", "_law_some"] [] (defScope xS):=⟨rfl,rfl,rfl,by decide +kernel,rfl,by decide +kernel,by decide +kernel⟩
abbrev xY:Stmt:=top 70
theorem yS:FnScope ["_law_pen_here", "_law_names", "_law_lines", "_law_number_here", "_law_words_here", "_law_bad", "_law_at", "_law_head"] ["_law_pen_here", "_law_names", "_law_lines"] (defScope xY):=⟨rfl,rfl,rfl,by decide +kernel,rfl,by decide +kernel,by decide +kernel⟩
abbrev jW:Stmt:=top 71
theorem wT:FnScope ["_law_names", "_law_lines", "_law_found", "_law_line"] ["_law_names", "_law_lines"] (defScope jW):=⟨rfl,rfl,rfl,by decide +kernel,rfl,by decide +kernel,by decide +kernel⟩
abbrev s_law:Stmt:=top 72
theorem jP:FnScope ["_law_script", "_law_k", "_law_pen_here", "_law_names", "_law_sheet", "_law_lines", "_law_plain", "_law_turn", "_law_words_here", "_law_at", "_law_text", "_law_caught_here", "_law_thing"] ["_law_script"] (defScope s_law):=⟨rfl,rfl,rfl,by decide +kernel,rfl,by decide +kernel,by decide +kernel⟩
structure TxtS (K:PySem.W.Frag) (mg:Str->Option Value):Prop where
 n_len:mg "len" = none
 m_FIGURES:GStr mg "FIGURES" "0123456789"
 m_MOST_FIGURES:GInt mg "MOST_FIGURES" 60
structure Txt (K:PySem.W.Frag) (mg:Str->Option Value) (aP aW aH CT CR:Addr):Prop where
 n_len:mg "len" = none
 n_range:mg "range" = none
 n_int:mg "int" = none
 n_tuple:mg "tuple" = none
 n_str:mg "str" = none
 n_isinstance:mg "isinstance" = none
 m_NUMBER:GInt mg "NUMBER" 0
 m_GET:GInt mg "GET" 1
 m_SET:GInt mg "SET" 2
 m_ALL:GInt mg "ALL" 3
 m_PICK:GInt mg "PICK" 4
 m_LOOP:GInt mg "LOOP" 5
 m_CALL:GInt mg "CALL" 6
 m_FAIL:GInt mg "FAIL" 7
 m_MOST_FUNCTIONS:GInt mg "MOST_FUNCTIONS" 16
 m_MOST_PARAMS:GInt mg "MOST_PARAMS" 4
 m_MOST_BOXES:GInt mg "MOST_BOXES" 12
 m_MOST_DEEP:GInt mg "MOST_DEEP" 10
 m_MOST_MANY:GInt mg "MOST_MANY" 12
 m_LEAST_ALL:GInt mg "LEAST_ALL" 1
 m_LEAST_PICK:GInt mg "LEAST_PICK" 2
 m_MOST_LETTERS:GInt mg "MOST_LETTERS" 8
 m_MOST_FIGURES:GInt mg "MOST_FIGURES" 60
 m_LETTERS:GStr mg "LETTERS" lettersS
 m_FIGURES:GStr mg "FIGURES" "0123456789"
 m_WORDS:mg "WORDS" = some (.ref aW)
 m_HEAD_WORDS:mg "HEAD_WORDS" = some (.ref aH)
 m_PARTS:mg "PARTS" = some (.ref aP)
 words:∀ H,SqT K H aW (kwW.map V.str)
 wordsT:∃ o,K.lookup aW=some o/\o.cls = .type "tuple" /\ o.dict=none
 hwords:∀ H,SqT K H aH (kwH.map V.str)
 parts:∀ H,SqT K H aP (partsW.map V.int)
 kstr:PySem.W.kitOne K (.type "str") (.type "str")=some true
 exc:ExCls K CT
 xat:NoAttr K CT "at"
 cls:Cls K CR
 f_words:NoAttr K CR "words"
 f_at:NoAttr K CR "at"
 f_names:NoAttr K CR "names"
 f_heads:NoAttr K CR "heads"
 f_bodies:NoAttr K CR "bodies"
 f_numbered:NoAttr K CR "numbered"
 f_counted:NoAttr K CR "counted"

section
variable {P:Program} {w:World} {K:PySem.W.Frag} {mg:Str->Option Value} {base:Heap} {f:Addr} {fd:FuncData} {aP aW aH CT CR:Addr}
set_option maxHeartbeats 4000000

def spWrittenIn:Sp:=fun vs H Q _=>∃ w sg:Str,vs=[.str w,.str sg]/\Q (.bl (inAll w sg)) H
theorem ok_written_in (F:Fun K "is_written_in" "is_written_in" xH f fd):FnOk P w K mg base (CXE P w) 1 f fd ["word", "signs"] spWrittenIn:=by
 refine F.okN wM (fun vs H Q E h => ?_) (fun cdv A outer s H vs Q E hr h => ?_)
 ·obtain ⟨x,sg,rfl,_⟩ := h
  rfl
 obtain ⟨x,sg,rfl,q⟩ := h
 refine ⟨_,(zD (kH PassesOwn.never rfl (pi_str (pv 0)) (zV (i:=2) wM.nd rfl (Or.inl rfl)) (zI (zZ (zM op_notin_str (pv 2) (pv 1) rfl) (zI (zS pe_bl)) zR)))
   (zI (zS pe_bl))),?_⟩
 try dsimp only [Cx.nox,Cx.exc,Cx.wish,yG]
 refine ⟨_,rfl,x,rfl,for_str (fun i σ' H'=>(∃ v2,σ'=[some (.str x),some (.str sg),v2])/\H'=H/\∀ j c,j<i->x.cps[j]? = some c->c∈sg.cps.toList) ⟨⟨_,rfl⟩,rfl,fun j c hj=>absurd hj (Nat.not_lt_zero _)⟩ ?_ ?_⟩
 ·rintro i c σ' H' hc ⟨⟨v2,rfl⟩,rfl,hi⟩
  refine ⟨_,rfl,_,rfl,_,_,rfl,rfl,_,rfl,?_⟩
  rw [sign_in]
  by_cases m:c∈sg.cps.toList
  ·rw [decide_eq_true m]
   refine iteF ⟨⟨_,rfl⟩,rfl,fun j d hj hd => ?_⟩
   by_cases z:j=i
   ·subst z
    rw [hc] at hd
    cases hd
    exact m
   ·exact hi j d (by (first|lia|omega)) hd
  ·rw [decide_eq_false m]
   refine iteT ?_
   have:inAll x sg=false:=by
    unfold inAll
    rw [List.all_eq_false]
    refine ⟨c,?_,by rw [decide_eq_false m]; exact Bool.false_ne_true⟩
    rw [<- Array.getElem?_toList] at hc
    exact List.mem_of_getElem? hc
   rw [this] at q
   exact q
 ·rintro σ' H' ⟨⟨v2,rfl⟩,rfl,hi⟩
  have:inAll x sg=true:=by
   unfold inAll
   rw [List.all_eq_true]
   intro c hc
   obtain ⟨j,hj⟩ := List.getElem?_of_mem hc
   rw [Array.getElem?_toList] at hj
   have hl:j<x.cps.size:=by
    rw [Array.getElem?_eq_some_iff] at hj
    exact hj.1
   exact decide_eq_true (hi j c hl hj)
  rw [this] at q
  exact q
def spNumOf:Sp:=fun vs H Q _=>∃ (x:Str) (most:Int),vs=[.str x,.int most]/\x.length<=sizeLine/\Q (.bl (numOk x most)) H
theorem ok_number_of (T:TxtS K mg) (F:Fun K "is_number_of" "is_number_of" xQ f fd) (Cis_written_in:Cal P w K mg base (CXE P w) 1 "is_written_in" ["word", "signs"] spWrittenIn):FnOk P w K mg base (CXE P w) 2 f fd ["word", "most_figures"] spNumOf:=by
 refine F.okN sc_is_number_of (fun vs H Q E h => ?_) (fun cdv A outer s H vs Q E hr h => ?_)
 ·obtain ⟨x,m,rfl,_⟩ := h
  rfl
 obtain ⟨x,most,rfl,hz,q⟩ := h
 refine ⟨_,(zD (wU (zN (i:=2) sc_is_number_of.nd rfl (Or.inl rfl) (pe_ifExp (jF (yP PySem.F.plainAttrs_str PySem.F.slot_str_startswith PySem.F.type_str_startswith mt_starts (pv 0) (zA zP zB))) (qE sl_str (pv 0) (wC zE) wD) (pv 0))))
   (zD (zZ (PW.pt (qS (zM op_lt (zU qM rfl T.n_len yN (zA (pv 2) zB)) zE (nomark _)) (qS (zM op_gt (zU qM rfl T.n_len yN (zA (pv 2) zB)) (pv 1) (nomark _)) (qG (kG (jF (zJ Cis_written_in hr rfl (zA (pv 2) (zA (pe_gstr rfl T.m_FIGURES) zB)) passN))))))) (zI (zS pe_bl)) zR)
   (zI (zS (pe_or (qA yQ (pv 0) zP (nomark _)) (pe_one (qA op_ne (yH ix_str (pv 2) zE (fun _ _=>rfl)) zP (nomark _)))))))),?_⟩
 try dsimp only [Cx.nox,Cx.exc,Cx.wish,yG]
 refine ⟨fun σ' H'=>σ'=[some (.str x),some (.int most),some (.str (figS x))]/\H'=H,?_,?_⟩
 ·refine ⟨_,rfl,rfl,x,_,rfl,rfl,_,rfl,ite2 (fun c => ?_) (fun c => ?_)⟩
  ·have c':=(starts_minus x).mp c
   obtain ⟨r,er⟩ : ∃ r,x.cps.toList=45 :: r:=by
    cases e:x.cps.toList with
    | nil=>rw [e] at c'; cases c'
    | cons a r=>rw [e] at c'; cases c'; exact ⟨r,rfl⟩
   obtain ⟨e1,e2⟩ := figS_minus er
   refine ⟨_,rfl,_,rfl,x,rfl,hz,?_⟩
   rw [e2,e1]
   exact ⟨rfl,rfl⟩
  ·rw [qX (fun z=>c ((starts_minus x).mpr z))]
   exact ⟨_,rfl,rfl,rfl⟩
 rintro _ _ ⟨rfl,rfl⟩
 rename_i H
 have no:∀ {b:Bool},numOk x most=b->Q (.bl b) H:=fun e=>by rw [<- e]; exact q
 have hzf:(figS x).length<=sizeLine:=Nat.le_trans (figS_len x) hz
 refine ⟨_,rfl,_,rfl,hzf,_,_,rfl,rfl,_,rfl,ite2 (fun c1 => ?_) (fun c1 => ?_)⟩
 ·exact iteT (no (by
   have:=of_decide_eq_true c1
   unfold numOk
   rw [decide_eq_false (by (first|lia|omega))]
   rfl))
 have l1 : 1<=(figS x).length:=by
  have n1:¬ ((figS x).length:Int)<1:=fun z=>c1 (decide_eq_true z)
  (first|lia|omega)
 refine ⟨_,rfl,_,rfl,hzf,_,rfl,_,_,rfl,rfl,_,rfl,ite2 (fun c2 => ?_) (fun c2 => ?_)⟩
 ·exact iteT (no (by
   have:=of_decide_eq_true c2
   unfold numOk
   rw [decide_eq_false (show ¬ ((figS x).length:Int)<=most by (first|lia|omega)),Bool.and_false]
   rfl))
 have l2:((figS x).length:Int)<=most:=by
  have n2:¬ most<((figS x).length:Int):=fun z=>c2 (decide_eq_true z)
  (first|lia|omega)
 have e0:numOk x most=(inAll (figS x) "0123456789" && (decide (x = "0") || !decide ((figS x).cps.toList[0]? = some 48))):=by
  unfold numOk
  rw [decide_eq_true l1,decide_eq_true l2]
  rfl
 refine ⟨_,rfl,figS x,_,rfl,_,rfl,?_⟩
 cases ci:inAll (figS x) "0123456789" with
 | false=>exact iteT (no (by rw [e0,ci]; rfl))
 | true =>
  have hl:(figS x).cps.toList.length=(figS x).length:=Array.length_toList
  obtain ⟨c0,r,ec⟩ : ∃ c0 r,(figS x).cps.toList=c0 :: r:=by
   cases e:(figS x).cps.toList with
   | nil=>rw [e] at hl; have:([]:List Nat).length=0:=rfl; (first|lia|omega)
   | cons a r=>exact ⟨a,r,rfl⟩
  rw [ci,ec] at e0
  refine iteF ⟨_,rfl,rfl,_,rfl,ite2 (fun c => ?_) (fun c => ?_)⟩
  ·have ex:x = "0" := by
    have:=of_decide_eq_true c
    injection this
   exact no (by rw [e0,decide_eq_true ex]; rfl)
  ·have nx:¬ x = "0" := fun z=>c (decide_eq_true (congrArg V.str z))
   have ez:(Str.ofString "0")=⟨#[48]⟩ := by decide
   refine ⟨_,rfl,figS x,0,c0,rfl,rfl,hzf,(by rw [ec]; exact qB (xs:=c0 :: r) (j:=0) rfl),rfl,?_⟩
   refine no ?_
   rw [e0,decide_eq_false nx]
   show (true && (false || !decide (some c0=some 48))) = !decide (V.str ⟨#[c0]⟩=V.str (Str.ofString "0"))
   rw [ez]
   by_cases z:c0=48
   ·subst z; decide
   ·rw [decide_eq_false (fun h=>z (by injection h)),decide_eq_false (fun h=>z (by injection h with h; injection h with h; injection h with h; injection h with h))]
    rfl
def spNum:Sp:=fun vs H Q _=>∃ x:Str,vs=[.str x]/\x.length<=sizeLine/\Q (.bl (numOk x 60)) H
theorem ok_number (T:TxtS K mg) (F:Fun K "is_number" "is_number" jV f fd) (Cis_number_of:Cal P w K mg base (CXE P w) 2 "is_number_of" ["word", "most_figures"] spNumOf):FnOk P w K mg base (CXE P w) 3 f fd ["word"] spNum:=by
 refine F.okN sc_is_number (fun vs H Q E h => ?_) (fun cdv A outer s H vs Q E hr h => ?_)
 ·obtain ⟨x,rfl,_⟩ := h
  rfl
 obtain ⟨x,rfl,hz,q⟩ := h
 refine ⟨_,(zI (zS (zJ Cis_number_of hr rfl (zA (pv 0) (zA (yM rfl T.m_MOST_FIGURES) zB)) passN))),?_⟩
 try dsimp only [Cx.nox,Cx.exc,Cx.wish,yG]
 exact ⟨_,rfl,x,60,rfl,hz,q⟩

theorem iteN {c:Bool} {A B:Prop} (e:c=false) (h:B):if c=true then A else B:=by
 rw [e]; exact iteF h
theorem ok_init1 (T:Txt K mg aP aW aH CT CR) (F:Fun K "__init__" "NoText.__init__" yU f fd):FnOk P w K mg base (CXE P w) 1 f fd ["self", "at"] (spInit1 CT):=by
 refine F.okN sc_NoText___init__ (fun vs H Q E h => ?_) (fun cdv A outer s H vs Q E hr h => ?_)
 ·obtain ⟨x,y,rfl,_⟩ := h
  rfl
 obtain ⟨x,y,rfl,hx,q⟩ := h
 refine ⟨_,(zI (ps_fldX (pv 0) (pv 1))),?_⟩
 try dsimp only [Cx.nox,Cx.exc,Cx.wish,yG]
 refine ⟨_,rfl,_,rfl,x,CT,none,rfl,hx,T.exc,T.xat,.inl ⟨rfl,fun d hd => ?_⟩⟩
 have nd:d≠x:=fun e=>by rw [e,hx] at hd; cases hd
 refine q d _ nd hd (fun b o nb e => ?_) zC (by rw [zH nd]; exact zC)
 rw [zH nb,zH (zG e hd)]; exact e
def spWordsOf:Sp:=fun vs H Q _=>∃ t:Str,vs=[.str t]/\t.length<=1000000/\(Txt.replace t "\n" " ").length<=1000000/\(Txt.split (Txt.replace t "\n" " ") " ").length<=2000000 /\
 ∀ p H',H p=none->Same H H'->H' p=some (.lst ((wordsT t).map V.str))->Q (.ref p) H'
theorem ok_words_of (F:Fun K "words_of" "words_of" jQ f fd):FnOk P w K mg base (CXE P w) 1 f fd ["text"] spWordsOf:=by
 obtain ⟨oc,od,kV,doc,pm,an,cdv,ct,osl,rfl,lk,hcd⟩ := F.ex
 refine fn_ofT lk hcd sc_words_of rfl (fun vs H Q E h => ?_) (fun A outer s H vs Q E hr h => ?_)
 ·obtain ⟨t,rfl,_⟩ := h
  rfl
 obtain ⟨t,rfl,tl,rl,sl,q⟩ := h
 refine ⟨_,pss_retT (pe_compT (own:=["word"]) (ys:=[]) rfl (pi_listT (pe_bmT PySem.F.plainAttrs_str PySem.F.slot_str_split PySem.F.type_str_split mt_split (pe_replaceT (by decide) (by decide) (pv 0)) (zA zP zB)))
  (jB (sc:=defScope jQ) rfl (by decide +kernel)) .nil (fun _ _ _ _ _=>(zV (i:=0) (show List.Nodup [("word" : Str)] from (by decide +kernel)) rfl (Or.inl rfl))) (fun _ _ _ _ _=>pts_one (zM op_ne (pv 0) zP (nomark _))) (fun _ _ _ _ _=>(pv 0))),?_⟩
 refine ⟨_,rfl,t,rfl,by (first|lia|omega),rfl,_, " ",rfl,rfl,rfl,million (by (first|lia|omega)),million (by (first|lia|omega)),fun a ha=>⟨a,rfl,⟨_,.of zC⟩,fun p hp => ?_⟩⟩
 have np:p≠a:=fun z=>by rw [z,zC] at hp; cases hp
 have hpH:H p=none:=(zF ha _).free hp
 refine comp_lst (xs:=(Txt.split (Txt.replace t "\n" " ") " ").map V.str) (fun i σ' H'=>H'=upd (upd H a (.lst ((Txt.split (Txt.replace t "\n" " ") " ").map V.str))) p (.lst ((((Txt.split (Txt.replace t "\n" " ") " ").take i).filter notE).map V.str))/\∃ x,σ'=[x]) ⟨rfl,_,rfl⟩ ?_ ?_ ?_
 ·rintro i σ' H' hi ⟨rfl,_⟩
  exact .of (by rw [zH (Ne.symm np)]; exact zC)
 ·rintro i x σ' H' hi hx ⟨rfl,x0,rfl⟩
  rw [List.length_map] at hi
  rw [List.getElem?_map,List.getElem?_eq_getElem hi] at hx
  cases hx
  generalize ey:(Txt.split (Txt.replace t "\n" " ") " ")[i]=y
  have et:(Txt.split (Txt.replace t "\n" " ") " ").take (i+1)=(Txt.split (Txt.replace t "\n" " ") " ").take i++[y]:=by
   rw [<- ey]
   rw [List.take_succ,List.getElem?_eq_getElem hi]; rfl
  refine ⟨_,rfl,rfl,_,rfl,ite2 (fun c => ?_) (fun c => ?_)⟩
  ·have c':¬ y = "" := fun z=>by rw [z] at c; exact absurd c (by decide)
   refine ⟨_,rfl,_,zC,millionL ?_,CW.next (by rw [List.length_map]; exact hi) ⟨?_,_,rfl⟩⟩
   ·rw [List.length_map]
    exact Nat.le_trans (List.length_filter_le _ _) (Nat.le_trans (List.length_take_le ..) (by (first|lia|omega)))
   ·rw [qH,et,List.filter_append,List.map_append]
    simp [notE,c']
  ·have c':y = "" := by
    by_cases z:y = ""
    ·exact z
    ·exact absurd (by show (!decide (V.str y=V.str ""))=true; rw [decide_eq_false (fun e=>z (by injection e))]; rfl) c
   refine CW.next (by rw [List.length_map]; exact hi) ⟨?_,_,rfl⟩
   rw [et,List.filter_append]
   simp [notE,c']
 ·rintro σ' H' ⟨rfl,_⟩
  rw [List.length_map,List.take_length]
  refine q p _ hpH (fun b o e => ?_) zC
  rw [zH (zG e hpH),zH (zG e ha)]
  exact e

end
section
variable {P:Program} {w:World} {K:PySem.W.Frag} {mg:Str->Option Value} {base:Heap} {f:Addr} {fd:FuncData} {aP aW aH CT CR:Addr}
set_option maxHeartbeats 4000000

theorem ok_is_name (T:Txt K mg aP aW aH CT CR) (F:Fun K "is_name" "is_name" qP f fd) (Cis_written_in:Cal P w K mg base (CXE P w) 1 "is_written_in" ["word", "signs"] spWrittenIn):FnOk P w K mg base (CXE P w) 2 f fd ["word"] spIsName:=by
 refine F.okN sc_is_name (fun vs H Q E h => ?_) (fun cdv A outer s H vs Q E hr h => ?_)
 ·obtain ⟨x,rfl,_⟩ := h
  rfl
 obtain ⟨x,rfl,hz,q⟩ := h
 refine ⟨_,(zD (zZ (PW.pt (qS (zM op_lt (zU qM rfl T.n_len yN (zA (pv 0) zB)) zE (nomark _)) (qS (zM op_gt (zU qM rfl T.n_len yN (zA (pv 0) zB)) (yM rfl T.m_MOST_LETTERS) (nomark _)) (qG (kG (jF (zJ Cis_written_in hr rfl (zA (pv 0) (zA (pe_gstr rfl T.m_LETTERS) zB)) passN))))))) (zI (zS pe_bl)) zR)
   (zI (zS (pe_and (qA qL (pv 0) (kZ rfl T.m_HEAD_WORDS) rfl) (pe_one (qA qL (pv 0) (kZ rfl T.m_WORDS) rfl)))))),?_⟩
 try dsimp only [Cx.nox,Cx.exc,Cx.wish,yG]
 have no:∀ {b:Bool},okName x=b->Q (.bl b) H:=fun e=>by rw [<- e]; exact q
 refine ⟨_,rfl,_,rfl,hz,_,_,rfl,rfl,_,rfl,ite2 (fun c1 => ?_) (fun c1 => ?_)⟩
 ·exact iteT (no (by
   have:=of_decide_eq_true c1
   unfold okName
   rw [decide_eq_false (by (first|lia|omega))]
   rfl))
 have l1 : 1<=x.length:=by
  have n1:¬ (x.length:Int)<1:=fun z=>c1 (decide_eq_true z)
  (first|lia|omega)
 refine ⟨_,rfl,_,rfl,hz,_,_,rfl,rfl,_,rfl,ite2 (fun c2 => ?_) (fun c2 => ?_)⟩
 ·exact iteT (no (by
   have:=of_decide_eq_true c2
   unfold okName
   rw [decide_eq_false (show ¬ x.length<=8 by (first|lia|omega)),Bool.and_false]
   rfl))
 have l2:x.length<=8:=by
  have n2:¬ (8:Int)<(x.length:Int):=fun z=>c2 (decide_eq_true z)
  (first|lia|omega)
 have e0:okName x=(inAll x lettersS && !decide (x∈kwH) && !decide (x∈kwW)):=by
  unfold okName
  rw [decide_eq_true l1,decide_eq_true l2]
  rfl
 refine ⟨_,rfl,x,_,rfl,_,rfl,?_⟩
 cases ci:inAll x lettersS with
 | false=>exact iteT (no (by rw [e0,ci]; rfl))
 | true =>
  refine iteF ⟨_,rfl,aH,_,rfl,.inr (T.hwords H),rfl,xJ _,_,rfl,?_⟩
  rw [kI]
  rw [ci] at e0
  cases c3:decide (x∈kwH) with
  | true=>exact iteF (no (by rw [e0,c3]; rfl))
  | false =>
   refine iteT ⟨_,rfl,aW,_,rfl,.inr (T.words H),rfl,xJ _,?_⟩
   rw [kI]
   exact no (by rw [e0,c3]; rfl)
theorem ok_kind_of (T:Txt K mg aP aW aH CT CR) (F:Fun K "kind_of" "kind_of" qO f fd):FnOk P w K mg base (CXE P w) 1 f fd ["word"] spKindOf:=by
 refine F.okN sc_kind_of (fun vs H Q E h => ?_) (fun cdv A outer s H vs Q E hr h => ?_)
 ·obtain ⟨x,rfl,_⟩ := h
  rfl
 obtain ⟨x,rfl,q1,q2⟩ := h
 refine ⟨_,(zD (zZ (zM qQ (pv 0) (kZ rfl T.m_WORDS) rfl) (zI (zS (zL yX (yM rfl T.m_SET) (yP PySem.F.plainAttrs_tuple PySem.F.slot_tuple_index PySem.F.type_tuple_index mt_indexT (kZ rfl T.m_WORDS) (zA (pv 0) zB))))) zR)
   (zI (zS wV))),?_⟩
 try dsimp only [Cx.nox,Cx.exc,Cx.wish,yG]
 refine ⟨_,rfl,aW,_,rfl,.inr (T.words H),rfl,xJ _,_,rfl,?_⟩
 rw [kI]
 refine ite2 (fun c => ?_) (fun c => ?_)
 ·have c':=of_decide_eq_true c
  exact ⟨.inr (.inl ⟨rfl,T.wordsT⟩),_,rfl,aW,_,_,_,rfl,rfl,T.words H,rfl,xJ _,first_strs c',_,_,rfl,rfl,q1 c'⟩
 ·exact q2 (of_decide_eq_false (Bool.eq_false_iff.mpr c))
theorem ok_dueR (T:Txt K mg aP aW aH CT CR) (F:Fun K "due" "due" s_due f fd) (CNoText:CalX P w K mg base 1 "NoText" CT ["self", "at"] (spInit1 CT)):FnOk P w K mg base (CXE P w) 3 f fd ["reading"] (spDueR CR CT):=by
 refine F.okX sc_due (fun vs H Q E h => ?_) (fun cdv A outer s H vs Q E hr h => ?_)
 ·obtain ⟨A,W,a,rfl,_⟩ := h
  rfl
 obtain ⟨A,W,a,rfl,R,q⟩ := h
 refine ⟨_,(zD (zZ (zM op_ge (yI (pv 0) rfl) (zU zT rfl T.n_len yN (zA (yI (pv 0) rfl) zB)) (nomark _)) (zI (xI CNoText hr rfl (zA (yI (pv 0) rfl) zB))) zR)
   (zI (zS (yH yD (yI (pv 0) rfl) (yI (pv 0) rfl) (fun _ _=>rfl))))),?_⟩
 try dsimp only [Cx.nox,Cx.exc,Cx.wish,yG]
 have hz:(W.map V.str).length=W.length:=List.length_map ..
 refine ⟨_,rfl,A.rd,CR,A.dr,_,_,rfl,R.rd,T.cls,T.f_at,rfl,_,rfl,A.rd,CR,A.dr,_,_,rfl,R.rd,T.cls,T.f_words,rfl,A.wd,_,rfl,.inl (.of R.wd),_,_,rfl,rfl,_,rfl,ite2 (fun c => ?_) (fun c => ?_)⟩
 ·have c':=of_decide_eq_true c
  have e:dueR W a = .error a:=by unfold dueR; rw [List.getElem?_eq_none (by (first|lia|omega))]
  rw [e] at q
  exact ⟨_,rfl,A.rd,CR,A.dr,_,_,rfl,R.rd,T.cls,T.f_at,rfl,small (show 1<=1000 by decide),raised1 q⟩
 ·have c':=df c
  have hl:a<W.length:=by (first|lia|omega)
  have e1:W[a]? = some W[a]:=List.getElem?_eq_getElem hl
  generalize W[a]=x at e1
  have e:dueR W a = .ok x:=by unfold dueR; rw [e1]
  rw [e] at q
  exact ⟨_,rfl,A.rd,CR,A.dr,_,_,rfl,R.rd,T.cls,T.f_words,rfl,_,rfl,A.rd,CR,A.dr,_,_,rfl,R.rd,T.cls,T.f_at,rfl,A.wd,_,_,_,rfl,rfl,.of R.wd,R.at e1,q⟩
theorem ok_newR (T:Txt K mg aP aW aH CT CR) (F:Fun K "take_new_name" "take_new_name" xG f fd) (CNoText:CalX P w K mg base 1 "NoText" CT ["self", "at"] (spInit1 CT)) (Cdue:Cal P w K mg base (CXE P w) 3 "due" ["reading"] (spDueR CR CT))
  (Cis_name:Cal P w K mg base (CXE P w) 2 "is_name" ["word"] spIsName):FnOk P w K mg base (CXE P w) 4 f fd ["reading", "there"] (spNewR CR CT):=by
 refine F.okX wL (fun vs H Q E h => ?_) (fun cdv A outer s H vs Q E hr h => ?_)
 ·obtain ⟨A,W,a,th,ts,rfl,_⟩ := h
  rfl
 obtain ⟨A,W,a,th,ts,rfl,R,hth,q⟩ := h
 refine ⟨_,(zD (zN (i:=2) wL.nd rfl (Or.inl rfl) (zJ Cdue hr rfl (zA (pv 0) zB) passX))
   (zD (zZ (PW.pt (qS (kG (jF (zJ Cis_name hr rfl (zA (pv 2) zB) passX))) (qG (zM qQ (pv 2) (pv 1) rfl)))) (zI (xI CNoText hr rfl (zA (yI (pv 0) rfl) zB))) zR)
   (zD (kQ (pv 0) zE in_add)
   (zI (zS (pv 2)))))),?_⟩
 try dsimp only [Cx.nox,Cx.exc,Cx.wish,yG]
 refine ⟨_,rfl,A,W,a,rfl,R,?_⟩
 cases e1:W[a]? with
 | none =>
  have e:newR W a ts = .error a:=by unfold newR; rw [e1]
  rw [e] at q
  rw [show dueR W a = .error a by unfold dueR; rw [e1]]
  exact q
 | some x =>
  rw [show dueR W a = .ok x by unfold dueR; rw [e1]]
  have no:okName x=true/\x ∉ ts\/newR W a ts = .error a:=by
   unfold newR
   rw [e1]
   by_cases z:okName x=true/\x ∉ ts
   ·exact .inl z
   ·exact .inr (if_neg z)
  have fail:newR W a ts = .error a->Fails1 CT H E (a:Int):=fun e=>by rw [e] at q; exact q
  refine ⟨_,rfl,x,rfl,R.ok.at e1,_,rfl,?_⟩
  cases c1:okName x with
  | false =>
   refine iteT ?_
   exact ⟨_,rfl,A.rd,CR,A.dr,_,_,rfl,R.rd,T.cls,T.f_at,rfl,small (show 1<=1000 by decide),raised1 (fail (no.resolve_left (fun z=>by rw [c1] at z; exact absurd z.1 (by decide))))⟩
  | true =>
   refine iteF ⟨_,rfl,_,rfl,th,_,rfl,.inl (.of hth),rfl,xJ _,_,rfl,?_⟩
   rw [kI]
   refine ite2 (fun c => ?_) (fun c => ?_)
   ·have m:=of_decide_eq_true c
    exact ⟨_,rfl,A.rd,CR,A.dr,_,_,rfl,R.rd,T.cls,T.f_at,rfl,small (show 1<=1000 by decide),raised1 (fail (no.resolve_left (fun z=>z.2 m)))⟩
   ·have m:x ∉ ts:=of_decide_eq_false (Bool.eq_false_iff.mpr c)
    have e:newR W a ts = .ok x:=by unfold newR; rw [e1]; exact if_pos ⟨c1,m⟩
    rw [e] at q
    exact ⟨_,rfl,A.rd,CR,A.dr,_,_,rfl,R.rd,T.cls,T.f_at,rfl,_,_,rfl,rfl,A.dr,_,R.rd,(show 7<1000 by decide),_,rfl,q⟩

end
section
variable {P:Program} {w:World} {K:PySem.W.Frag} {mg:Str->Option Value} {base:Heap} {f:Addr} {fd:FuncData} {aP aW aH CT CR:Addr}
set_option maxHeartbeats 4000000

theorem ok_boxesR (T:Txt K mg aP aW aH CT CR) (F:Fun K "take_boxes" "take_boxes" jH f fd) (CNoText:CalX P w K mg base 1 "NoText" CT ["self", "at"] (spInit1 CT)) (Cdue:Cal P w K mg base (CXE P w) 3 "due" ["reading"] (spDueR CR CT))
  (Ctake_new_name:Cal P w K mg base (CXE P w) 4 "take_new_name" ["reading", "there"] (spNewR CR CT)):FnOk P w K mg base (CXE P w) 5 f fd ["reading", "boxes", "most", "last"] (spBoxesR CR CT):=by
 refine F.okX sc_take_boxes (fun vs H Q E h => ?_) (fun cdv A outer s H vs Q E hr h => ?_)
 ·obtain ⟨A,W,a,bx,bs,most,last,rfl,_⟩ := h
  rfl
 obtain ⟨A,W,a,bx,bs,most,last,rfl,R,hbx,nbw,hbm,hm,q⟩ := h
 refine ⟨_,(zD (ps_while (own_fly rfl rfl) (zM op_ne (zJ Cdue hr rfl (zA (pv 0) zB) passX) (pv 3) (nomark _)) (zD (zZ (zM yQ (zU zT rfl T.n_len yN (zA (pv 1) zB)) (pv 2) (nomark _)) (zI (xI CNoText hr rfl (zA (yI (pv 0) rfl) zB))) zR)
   (zI (yB (yP PySem.F.plainAttrs_list PySem.F.slot_list_append PySem.F.type_list_append yJ (pv 1) (zA (zJ Ctake_new_name hr rfl (zA (pv 0) (zA (pv 1) zB)) passX) zB))))))
   (zI (kQ (pv 0) zE in_add))),?_⟩
 try dsimp only [Cx.nox,Cx.exc,Cx.wish,yG]
 refine ⟨fun m σ' H'=>∃ a' bs',σ'=[some (.ref A.rd),some (.ref bx),some (.int (most:Int)),some (.str last)]/\KeepL [A.rd,bx] H H'/\(∀ b,H' b=none->H b=none)/\RdW CR A W H' a'/\H' bx=some (.lst (bs'.map V.str))/\bs'.length<=most /\
  boxesR W most last m a' bs'=boxesR W most last (W.length+1) a bs/\W.length<a'+m,⟨W.length+1,a,bs,rfl,KeepL.refl _ _,fun _ z=>z,R,hbx,hbm,rfl,by (first|lia|omega)⟩,?_⟩
 rintro m σ' H' ⟨a',bs',rfl,kp,lv,R',hbx',hbm',eb,hlt⟩
 refine ⟨_,rfl,A,W,a',rfl,R',?_⟩
 rw [<- eb] at q
 cases e1:W[a']? with
 | none =>
  rw [show dueR W a' = .error a' by unfold dueR; rw [e1]]
  have e:boxesR W most last m a' bs' = .error a':=by
   cases m with
   | zero=>rfl
   | succ m=>unfold boxesR; rw [e1]
  rw [e] at q
  exact (FailR.mono q kp).one
 | some x =>
  rw [show dueR W a' = .ok x by unfold dueR; rw [e1]]
  have hl:=get_lt e1
  obtain ⟨m,rfl⟩ : ∃ m',m=m'+1:=⟨m - 1,by (first|lia|omega)⟩
  unfold boxesR at q
  rw [e1] at q
  dsimp only at q
  refine ⟨_,rfl,rfl,_,rfl,ite2 (fun c => ?_) (fun c => ?_)⟩
  ·have c':¬ x=last:=fun z=>by rw [z] at c; exact absurd c (by simp)
   rw [if_neg c'] at q
   refine ⟨_,fun σ2 H2 z=>z,?_⟩
   refine ⟨_,rfl,bx,_,rfl,.inl (.of hbx'),_,rfl,rfl,_,rfl,?_⟩
   have hz:(bs'.map V.str).length=bs'.length:=List.length_map ..
   refine ite2 (fun c2 => ?_) (fun c2 => ?_)
   ·have c2':=vt c2
    rw [if_pos (by (first|lia|omega))] at q
    exact ⟨_,rfl,A.rd,CR,A.dr,_,_,rfl,R'.rd,T.cls,T.f_at,rfl,small (show 1<=1000 by decide),raised1 (FailR.mono q kp).one⟩
   ·have c2':=vf c2
    have ne:¬ bs'.length=most:=by (first|lia|omega)
    rw [if_neg ne] at q
    refine ⟨_,rfl,.inl ⟨rfl,_,.of hbx'⟩,_,rfl,_,rfl,A,W,a',bx,bs',rfl,R',hbx',?_⟩
    by_cases c3:okName x=true/\x ∉ bs'
    ·rw [show newR W a' bs' = .ok x by unfold newR; rw [e1]; exact if_pos c3]
     rw [if_pos c3] at q
     have hb2:upd H' A.rd (RdO CR A (a'+1)) bx=some (.lst (bs'.map V.str)):=by rw [zH (R'.ne hbx')]; exact hbx'
     have R2:=R'.put (a'+1)
     have st:boxesR W most last (m+1) a' bs'=boxesR W most last m (a'+1) (bs'++[x]):=by
      rw [boxesR,e1]
      dsimp only
      rw [if_neg c',if_neg ne,if_pos c3]
     refine ⟨bx,_,_,rfl,rfl,hb2,millionL (by (first|lia|omega)),m,Nat.lt_succ_self m,a'+1,bs'++[x],rfl,?_,?_,⟨?_,?_,R.ok⟩,?_,?_,st.symm.trans eb,by (first|lia|omega)⟩
     ·exact kp.fst.trans (KeepL.upd (List.mem_cons_of_mem _ (List.mem_cons_self ..)))
     ·exact yY (yY lv R'.rd) hb2
     ·rw [zH (Ne.symm (R'.ne hbx'))]; exact R2.rd
     ·rw [zH (Ne.symm nbw)]; exact R2.wd
     ·rw [zC,List.map_append]; rfl
     ·rw [List.length_append]; show bs'.length+1<=most; (first|lia|omega)
    ·rw [show newR W a' bs' = .error a' by unfold newR; rw [e1]; exact if_neg c3]
     rw [if_neg c3] at q
     exact (FailR.mono q kp).one
  ·have c':x=last:=by
    by_cases z:x=last
    ·exact z
    ·exact absurd (by show (!decide (V.str x=V.str last))=true; rw [decide_eq_false (fun e=>z (by injection e))]; rfl) c
   rw [if_pos c'] at q
   refine ⟨_,rfl,A.rd,CR,A.dr,_,_,rfl,R'.rd,T.cls,T.f_at,rfl,_,_,rfl,rfl,A.dr,_,R'.rd,(show 7<1000 by decide),?_⟩
   refine q _ kp.fst (yY lv R'.rd) zC ?_
   rw [zH (R'.ne hbx')]
   exact hbx'

theorem ok_boxR (T:Txt K mg aP aW aH CT CR) (F:Fun K "take_box" "take_box" kL f fd) (CNoText:CalX P w K mg base 1 "NoText" CT ["self", "at"] (spInit1 CT)) (Cdue:Cal P w K mg base (CXE P w) 3 "due" ["reading"] (spDueR CR CT)):FnOk P w K mg base (CXE P w) 4 f fd ["reading", "boxes"] (spBoxR CR CT):=by
 refine F.okX sc_take_box (fun vs H Q E h => ?_) (fun cdv A outer s H vs Q E hr h => ?_)
 ·obtain ⟨A,W,a,bx,bs,rfl,_⟩ := h
  rfl
 obtain ⟨A,W,a,bx,bs,rfl,R,hbx,q⟩ := h
 refine ⟨_,(zD (zN (i:=2) sc_take_box.nd rfl (Or.inl rfl) (zJ Cdue hr rfl (zA (pv 0) zB) passX))
   (zD (zZ (zM qL (pv 2) (pv 1) rfl) (zI (xI CNoText hr rfl (zA (yI (pv 0) rfl) zB))) zR)
   (zD (kQ (pv 0) zE in_add)
   (zI (zS (yP PySem.F.plainAttrs_list PySem.F.slot_list_index PySem.F.type_list_index mt_indexL (pv 1) (zA (pv 2) zB))))))),?_⟩
 try dsimp only [Cx.nox,Cx.exc,Cx.wish,yG]
 refine ⟨_,rfl,A,W,a,rfl,R,?_⟩
 unfold boxR at q
 cases e1:W[a]? with
 | none =>
  rw [e1] at q
  rw [show dueR W a = .error a by unfold dueR; rw [e1]]
  exact q
 | some x =>
  rw [e1] at q
  dsimp only at q
  rw [show dueR W a = .ok x by unfold dueR; rw [e1]]
  refine ⟨_,rfl,_,rfl,bx,_,rfl,.inl (.of hbx),rfl,xJ _,_,rfl,?_⟩
  rw [kI]
  by_cases m:x∈bs
  ·rw [decide_eq_true m]
   rw [if_pos m] at q
   refine iteF ⟨_,rfl,A.rd,CR,A.dr,_,_,rfl,R.rd,T.cls,T.f_at,rfl,_,_,rfl,rfl,A.dr,_,R.rd,(show 7<1000 by decide),?_⟩
   have hb2:upd H A.rd (RdO CR A (a+1)) bx=some (.lst (bs.map V.str)):=by rw [zH (R.ne hbx)]; exact hbx
   exact ⟨_,rfl,.inl ⟨rfl,_,.of hb2⟩,_,rfl,bx,_,_,_,rfl,rfl,.of hb2,rfl,xJ _,first_strs m,q⟩
  ·rw [decide_eq_false m]
   rw [if_neg m] at q
   exact iteT ⟨_,rfl,A.rd,CR,A.dr,_,_,rfl,R.rd,T.cls,T.f_at,rfl,small (show 1<=1000 by decide),raised1 q⟩
theorem ok_numR (T:Txt K mg aP aW aH CT CR) (F:Fun K "take_number" "take_number" xW f fd) (CNoText:CalX P w K mg base 1 "NoText" CT ["self", "at"] (spInit1 CT)) (Cdue:Cal P w K mg base (CXE P w) 3 "due" ["reading"] (spDueR CR CT))
  (Cis_number:Cal P w K mg base (CXE P w) 3 "is_number" ["word"] spNum):FnOk P w K mg base (CXE P w) 4 f fd ["reading"] (spNumR CR CT):=by
 refine F.okX sc_take_number (fun vs H Q E h => ?_) (fun cdv A outer s H vs Q E hr h => ?_)
 ·obtain ⟨A,W,a,rfl,_⟩ := h
  rfl
 obtain ⟨A,W,a,rfl,R,q⟩ := h
 refine ⟨_,(zD (zN (i:=1) sc_take_number.nd rfl (Or.inl rfl) (zJ Cdue hr rfl (zA (pv 0) zB) passX))
   (zD (zZ (kG (jF (zJ Cis_number hr rfl (zA (pv 1) zB) passX))) (zI (xI CNoText hr rfl (zA (yI (pv 0) rfl) zB))) zR)
   (zD (kQ (pv 0) zE in_add)
   (zI (zS (yV call_int_str rfl T.n_int bt_int (zA (pv 1) zB))))))),?_⟩
 try dsimp only [Cx.nox,Cx.exc,Cx.wish,yG]
 refine ⟨_,rfl,A,W,a,rfl,R,?_⟩
 unfold numR at q
 cases e1:W[a]? with
 | none =>
  rw [e1] at q
  rw [show dueR W a = .error a by unfold dueR; rw [e1]]
  exact q
 | some x =>
  rw [e1] at q
  dsimp only at q
  rw [show dueR W a = .ok x by unfold dueR; rw [e1]]
  refine ⟨_,rfl,x,rfl,R.ok.at e1,_,rfl,?_⟩
  cases m:numOk x 60 with
  | true =>
   rw [m,if_pos rfl] at q
   obtain ⟨i1,i2⟩ := numOk_int m
   refine iteF ⟨_,rfl,A.rd,CR,A.dr,_,_,rfl,R.rd,T.cls,T.f_at,rfl,_,_,rfl,rfl,A.dr,_,R.rd,(show 7<1000 by decide),?_⟩
   exact ⟨_,rfl,x,_,rfl,i1,i2,q⟩
  | false =>
   rw [m,if_neg (by decide)] at q
   exact iteT ⟨_,rfl,A.rd,CR,A.dr,_,_,rfl,R.rd,T.cls,T.f_at,rfl,small (show 1<=1000 by decide),raised1 q⟩
theorem ok_manyR (T:Txt K mg aP aW aH CT CR) (F:Fun K "take_many" "take_many" jS f fd) (CNoText:CalX P w K mg base 1 "NoText" CT ["self", "at"] (spInit1 CT)) (Ctake_number:Cal P w K mg base (CXE P w) 4 "take_number" ["reading"] (spNumR CR CT)):FnOk P w K mg base (CXE P w) 5 f fd ["reading", "least"] (spManyR CR CT):=by
 refine F.okX wR (fun vs H Q E h => ?_) (fun cdv A outer s H vs Q E hr h => ?_)
 ·obtain ⟨A,W,a,least,rfl,_⟩ := h
  rfl
 obtain ⟨A,W,a,least,rfl,R,q⟩ := h
 refine ⟨_,(zD (zN (i:=2) wR.nd rfl (Or.inl rfl) (yI (pv 0) rfl))
   (zD (zN (i:=3) wR.nd rfl (Or.inl rfl) (zJ Ctake_number hr rfl (zA (pv 0) zB) passX))
   (zD (zZ (PW.pt (qS (zM op_lt (pv 3) (pv 1) (nomark _)) (qG (zM op_gt (pv 3) (yM rfl T.m_MOST_MANY) (nomark _))))) (zI (xI CNoText hr rfl (zA (pv 2) zB))) zR)
   (zI (zS (pv 3)))))),?_⟩
 try dsimp only [Cx.nox,Cx.exc,Cx.wish,yG]
 refine ⟨_,rfl,A.rd,CR,A.dr,_,_,rfl,R.rd,T.cls,T.f_at,rfl,?_⟩
 refine ⟨_,rfl,A,W,a,rfl,R,?_⟩
 unfold manyR at q
 cases e1:numR W a with
 | error e =>
  rw [e1] at q
  exact FailR.one q
 | ok n =>
  rw [e1] at q
  dsimp only at q
  have R2:=R.put (a+1)
  have kp:KeepL [A.rd] H (upd H A.rd (RdO CR A (a+1))):=KeepL.upd (List.mem_cons_self ..)
  refine ⟨_,rfl,_,rfl,_,_,rfl,rfl,_,rfl,ite2 (fun c => ?_) (fun c => ?_)⟩
  ·have c':=of_decide_eq_true c
   rw [if_pos (.inl c')] at q
   exact iteT ⟨_,rfl,small (show 1<=1000 by decide),raised1 (FailR.mono q kp).one⟩
  ·have c':=df c
   refine ⟨_,rfl,_,_,rfl,rfl,_,rfl,ite2 (fun c2 => ?_) (fun c2 => ?_)⟩
   ·have c2':=of_decide_eq_true c2
    rw [if_pos (.inr c2')] at q
    exact ⟨_,rfl,small (show 1<=1000 by decide),raised1 (FailR.mono q kp).one⟩
   ·have c2':=df c2
    rw [if_neg (by (first|lia|omega))] at q
    exact ⟨_,rfl,q⟩
theorem ok_calledR (T:Txt K mg aP aW aH CT CR) (F:Fun K "take_called" "take_called" xX f fd) (CNoText:CalX P w K mg base 1 "NoText" CT ["self", "at"] (spInit1 CT)) (Cdue:Cal P w K mg base (CXE P w) 3 "due" ["reading"] (spDueR CR CT))
  (Cis_name:Cal P w K mg base (CXE P w) 2 "is_name" ["word"] spIsName):FnOk P w K mg base (CXE P w) 4 f fd ["reading"] (spCalledR CR CT):=by
 refine F.okX sc_take_called (fun vs H Q E h => ?_) (fun cdv A outer s H vs Q E hr h => ?_)
 ·obtain ⟨A,W,a,num,rfl,_⟩ := h
  rfl
 obtain ⟨A,W,a,num,rfl,R,hnu,q⟩ := h
 refine ⟨_,(zD (zN (i:=1) sc_take_called.nd rfl (Or.inl rfl) (zJ Cdue hr rfl (zA (pv 0) zB) passX))
   (zD (zZ (PW.pt (qS (kG (jF (zJ Cis_name hr rfl (zA (pv 1) zB) passX))) (qG (pt_cmp (pc_dnotin (hu_of hr) (pv 1) (yI (pv 0) rfl)))))) (zI (xI CNoText hr rfl (zA (yI (pv 0) rfl) zB))) zR)
   (zD (kQ (pv 0) zE in_add)
   (zI (zS (pe_dget (hu_of hr) (yI (pv 0) rfl) (pv 1) (fun _ _=>rfl))))))),?_⟩
 try dsimp only [Cx.nox,Cx.exc,Cx.wish,yG]
 refine ⟨_,rfl,A,W,a,rfl,R,?_⟩
 unfold calledR at q
 cases e1:W[a]? with
 | none =>
  rw [e1] at q
  rw [show dueR W a = .error a by unfold dueR; rw [e1]]
  exact q
 | some x =>
  rw [e1] at q
  dsimp only at q
  rw [show dueR W a = .ok x by unfold dueR; rw [e1]]
  refine ⟨_,rfl,x,rfl,R.ok.at e1,_,rfl,?_⟩
  cases m:okName x with
  | false =>
   rw [m,if_neg (by decide)] at q
   exact iteT ⟨_,rfl,A.rd,CR,A.dr,_,_,rfl,R.rd,T.cls,T.f_at,rfl,small (show 1<=1000 by decide),raised1 q⟩
  | true =>
   rw [m,if_pos rfl] at q
   have dg:DGet H A.nu (.str x) ((lookN num x).map V.int):=by
    have:=DGet.k (k:=Sum.inr x) hnu
    rw [valV_num] at this
    exact this
   refine iteF ⟨_,rfl,_,rfl,A.rd,CR,A.dr,_,_,rfl,R.rd,T.cls,T.f_numbered,rfl,A.nu,_,rfl,dg,_,rfl,?_⟩
   cases e2:lookN num x with
   | none =>
    rw [e2] at q
    exact iteT ⟨_,rfl,A.rd,CR,A.dr,_,_,rfl,R.rd,T.cls,T.f_at,rfl,small (show 1<=1000 by decide),raised1 q⟩
   | some n =>
    rw [e2] at q
    have nn:A.nu≠A.rd:=fun z=>by rw [z,R.rd] at hnu; cases hnu
    have dg2:DGet (upd H A.rd (RdO CR A (a+1))) A.nu (.str x) (some (.int n)):=by
     have:=DGet.k (k:=Sum.inr x) (show upd H A.rd (RdO CR A (a+1)) A.nu=some (.dK (numD num)) by rw [zH nn]; exact hnu)
     rw [valV_num,e2] at this
     exact this
    refine iteF ⟨_,rfl,A.rd,CR,A.dr,_,_,rfl,R.rd,T.cls,T.f_at,rfl,_,_,rfl,rfl,A.dr,_,R.rd,(show 7<1000 by decide),?_⟩
    exact ⟨_,rfl,A.rd,CR,A.dr,_,_,rfl,zC,T.cls,T.f_numbered,rfl,_,rfl,A.nu,_,rfl,dg2,q⟩
theorem ok_kindR (T:Txt K mg aP aW aH CT CR) (F:Fun K "take_kind" "take_kind" jT f fd) (CNoText:CalX P w K mg base 1 "NoText" CT ["self", "at"] (spInit1 CT)) (Cdue:Cal P w K mg base (CXE P w) 3 "due" ["reading"] (spDueR CR CT))
  (Cis_number:Cal P w K mg base (CXE P w) 3 "is_number" ["word"] spNum) (Ckind_of:Cal P w K mg base (CXE P w) 1 "kind_of" ["word"] spKindOf):FnOk P w K mg base (CXE P w) 4 f fd ["reading", "boxes"] (spKindR CR CT):=by
 refine F.okX wS (fun vs H Q E h => ?_) (fun cdv A outer s H vs Q E hr h => ?_)
 ·obtain ⟨A,W,a,bx,bs,rfl,_⟩ := h
  rfl
 obtain ⟨A,W,a,bx,bs,rfl,R,hbx,q⟩ := h
 refine ⟨_,(zD (zN (i:=2) wS.nd rfl (Or.inl rfl) (zJ Cdue hr rfl (zA (pv 0) zB) passX))
   (zD (zZ (jF (zJ Cis_number hr rfl (zA (pv 2) zB) passX)) (zI (zS (yM rfl T.m_NUMBER))) zR)
   (zD (zZ (zM qQ (pv 2) (pv 1) rfl) (zI (zS (yM rfl T.m_GET))) zR)
   (zD (zN (i:=3) wS.nd rfl (Or.inl rfl) (zJ Ckind_of hr rfl (zA (pv 2) zB) passX))
   (zD (zZ (zM op_isN (pv 3) wV (nomark _)) (zI (xI CNoText hr rfl (zA (yI (pv 0) rfl) zB))) zR)
   (zD (kQ (pv 0) zE in_add)
   (zI (zS (pv 3))))))))),?_⟩
 try dsimp only [Cx.nox,Cx.exc,Cx.wish,yG]
 refine ⟨_,rfl,A,W,a,rfl,R,?_⟩
 unfold kindR at q
 cases e1:W[a]? with
 | none =>
  rw [e1] at q
  rw [show dueR W a = .error a by unfold dueR; rw [e1]]
  exact q
 | some x =>
  rw [e1] at q
  dsimp only at q
  rw [show dueR W a = .ok x by unfold dueR; rw [e1]]
  refine ⟨_,rfl,x,rfl,R.ok.at e1,_,rfl,?_⟩
  cases m:numOk x 60 with
  | true =>
   rw [m,if_pos rfl] at q
   have q':Q (.int 0) (upd H A.rd (RdO CR A a)):=q
   rw [upd_self R.rd] at q'
   exact iteT q'
  | false =>
   rw [m,if_neg (by decide)] at q
   refine iteF ⟨_,rfl,_,rfl,bx,_,rfl,.inl (.of hbx),rfl,xJ _,_,rfl,?_⟩
   rw [kI]
   by_cases mb:x∈bs
   ·rw [decide_eq_true mb]
    rw [if_pos mb] at q
    have q':Q (.int 1) (upd H A.rd (RdO CR A a)):=q
    rw [upd_self R.rd] at q'
    exact iteT q'
   ·rw [decide_eq_false mb]
    rw [if_neg mb] at q
    refine iteF ⟨_,rfl,x,rfl,fun mk => ?_,fun mk => ?_⟩
    ·rw [if_pos mk] at q
     refine ⟨_,rfl,rfl,_,rfl,iteF ?_⟩
     exact ⟨_,rfl,A.rd,CR,A.dr,_,_,rfl,R.rd,T.cls,T.f_at,rfl,_,_,rfl,rfl,A.dr,_,R.rd,(show 7<1000 by decide),_,rfl,q⟩
    ·rw [if_neg mk] at q
     refine ⟨_,rfl,rfl,_,rfl,iteT ?_⟩
     exact ⟨_,rfl,A.rd,CR,A.dr,_,_,rfl,R.rd,T.cls,T.f_at,rfl,small (show 1<=1000 by decide),raised1 q⟩

end
section
variable {P:Program} {w:World} {K:PySem.W.Frag} {mg:Str->Option Value} {base:Heap} {f:Addr} {fd:FuncData} {aP aW aH CT CR:Addr}
set_option maxHeartbeats 4000000

theorem ok_ownR (T:Txt K mg aP aW aH CT CR) (F:Fun K "take_own" "take_own" kK f fd) (Ctake_box:Cal P w K mg base (CXE P w) 4 "take_box" ["reading", "boxes"] (spBoxR CR CT)) (Ctake_number:Cal P w K mg base (CXE P w) 4 "take_number" ["reading"] (spNumR CR CT))
  (Ctake_many:Cal P w K mg base (CXE P w) 5 "take_many" ["reading", "least"] (spManyR CR CT)) (Ctake_called:Cal P w K mg base (CXE P w) 4 "take_called" ["reading"] (spCalledR CR CT)):FnOk P w K mg base (CXE P w) 6 f fd ["reading", "kind", "boxes"] (spOwnR CR CT):=by
 refine F.okX sc_take_own (fun vs H Q E h => ?_) (fun cdv A outer s H vs Q E hr h => ?_)
 ·obtain ⟨A,W,a,k,bx,bs,num,rfl,_⟩ := h
  rfl
 obtain ⟨A,W,a,k,bx,bs,num,rfl,R,hbx,hnu,q⟩ := h
 refine ⟨_,(zD (zZ (zM yQ (pv 1) (yM rfl T.m_NUMBER) (nomark _)) (zI (zS (zQ (zA (zJ Ctake_number hr rfl (zA (pv 0) zB) passX) zB)))) zR)
   (zD (zZ (PW.pt (qS (zM yQ (pv 1) (yM rfl T.m_GET) (nomark _)) (qG (zM yQ (pv 1) (yM rfl T.m_SET) (nomark _))))) (zI (zS (zQ (zA (zJ Ctake_box hr rfl (zA (pv 0) (zA (pv 2) zB)) passX) zB)))) zR)
   (zD (zZ (zM yQ (pv 1) (yM rfl T.m_ALL) (nomark _)) (zI (zS (zQ (zA (zJ Ctake_many hr rfl (zA (pv 0) (zA (yM rfl T.m_LEAST_ALL) zB)) passX) zB)))) zR)
   (zD (zZ (zM yQ (pv 1) (yM rfl T.m_PICK) (nomark _)) (zI (zS (zQ (zA (zJ Ctake_many hr rfl (zA (pv 0) (zA (yM rfl T.m_LEAST_PICK) zB)) passX) zB)))) zR)
   (zD (zZ (zM yQ (pv 1) (yM rfl T.m_CALL) (nomark _)) (zI (zS (zQ (zA (zJ Ctake_called hr rfl (zA (pv 0) zB) passX) zB)))) zR)
   (zI (zS (zQ zB)))))))),?_⟩
 try dsimp only [Cx.nox,Cx.exc,Cx.wish,yG]
 have kp:KeepL [A.rd] H (upd H A.rd (RdO CR A (a+1))):=KeepL.upd (List.mem_cons_self ..)
 have lv:∀ b,upd H A.rd (RdO CR A (a+1)) b=none->H b=none:=yY (fun _ z=>z) R.rd
 have one:∀ (n:Int),EndR (fun r:List Int × Nat=>∀ t H',KeepL [A.rd] H H'->(∀ b,H' b=none->H b=none)->H' A.rd=some (RdO CR A r.2)->H' t=some (.tup (r.1.map V.int))->Q (.ref t) H') (FailR CT [A.rd] H E) (.ok ([n],a+1)) ->
   ∀ p,upd H A.rd (RdO CR A (a+1)) p=none->Q (.ref p) (upd (upd H A.rd (RdO CR A (a+1))) p (.tup [.int n])):=fun n q p hp=>by
  refine q p _ (kp.trans (KeepL.same (zF hp _))) (fun b z=>lv b ((zF hp _).free z)) ?_ zC
  rw [zH (fun z=>by rw [<- z,zC] at hp; cases hp)]
  exact zC
 unfold ownR at q
 refine ⟨_,rfl,rfl,_,rfl,ite2 (fun c => ?_) (fun c0 => ?_)⟩
 ·rw [if_pos (vt c)] at q
  refine ⟨_,rfl,A,W,a,rfl,R,?_⟩
  cases e:numR W a with
  | error n=>rw [e] at q; exact FailR.one q
  | ok n=>rw [e] at q; exact ⟨small (show 1<=1000 by decide),one n q⟩
 rw [if_neg (vf c0)] at q
 refine ⟨_,rfl,rfl,_,rfl,ite2 (fun c=>iteT ?_) (fun c1 => ?_)⟩
 ·rw [if_pos (.inl (vt c))] at q
  refine ⟨_,rfl,_,rfl,A,W,a,bx,bs,rfl,R,hbx,?_⟩
  cases e:boxR W a bs with
  | error n=>rw [e] at q; exact FailR.one q
  | ok n=>rw [e] at q; exact ⟨small (show 1<=1000 by decide),one n q⟩
 refine ⟨_,rfl,rfl,_,rfl,ite2 (fun c => ?_) (fun c2 => ?_)⟩
 ·rw [if_pos (.inr (vt c))] at q
  refine ⟨_,rfl,_,rfl,A,W,a,bx,bs,rfl,R,hbx,?_⟩
  cases e:boxR W a bs with
  | error n=>rw [e] at q; exact FailR.one q
  | ok n=>rw [e] at q; exact ⟨small (show 1<=1000 by decide),one n q⟩
 rw [if_neg (fun z=>z.elim (vf c1) (vf c2))] at q
 refine ⟨_,rfl,rfl,_,rfl,ite2 (fun c => ?_) (fun c3 => ?_)⟩
 ·rw [if_pos (vt c)] at q
  refine ⟨_,rfl,A,W,a,1,rfl,R,?_⟩
  cases e:manyR W a 1 with
  | error n=>rw [e] at q; exact q
  | ok n=>rw [e] at q; exact ⟨small (show 1<=1000 by decide),one n q⟩
 rw [if_neg (vf c3)] at q
 refine ⟨_,rfl,rfl,_,rfl,ite2 (fun c => ?_) (fun c4 => ?_)⟩
 ·rw [if_pos (vt c)] at q
  refine ⟨_,rfl,A,W,a,2,rfl,R,?_⟩
  cases e:manyR W a 2 with
  | error n=>rw [e] at q; exact q
  | ok n=>rw [e] at q; exact ⟨small (show 1<=1000 by decide),one n q⟩
 rw [if_neg (vf c4)] at q
 refine ⟨_,rfl,rfl,_,rfl,ite2 (fun c => ?_) (fun c6 => ?_)⟩
 ·rw [if_pos (vt c)] at q
  refine ⟨_,rfl,A,W,a,num,rfl,R,hnu,?_⟩
  cases e:calledR W num a with
  | error n=>rw [e] at q; exact FailR.one q
  | ok n=>rw [e] at q; exact ⟨small (show 1<=1000 by decide),one n q⟩
 rw [if_neg (vf c6)] at q
 exact ⟨small (show 0<=1000 by decide),fun p hp=>q p _ (KeepL.same (zF hp _)) (fun b z=>(zF hp _).free z) (by rw [zH (zG R.rd hp)]; exact R.rd) zC⟩
theorem ok_partsW (T:Txt K mg aP aW aH CT CR) (F:Fun K "parts_of" "parts_of" kO f fd):FnOk P w K mg base (CXE P w) 1 f fd ["kind"] spPartsW:=by
 refine F.okN sc_parts_of (fun vs H Q E h => ?_) (fun cdv A outer s H vs Q E hr h => ?_)
 ·obtain ⟨k,rfl,_⟩ := h
  rfl
 obtain ⟨k,rfl,k0,k1,q⟩ := h
 refine ⟨_,(zI (zS (yH jG (kZ rfl T.m_PARTS) (zL jL (pv 0) (yM rfl T.m_FAIL)) (fun _ _=>rfl)))),?_⟩
 try dsimp only [Cx.nox,Cx.exc,Cx.wish,yG]
 refine ⟨_,rfl,_,_,rfl,rfl,aP,_,_,_,rfl,rfl,T.parts _,?_,q⟩
 refine kX (by (first|lia|omega)) ?_
 have hl:(k - 7).toNat<partsW.length:=by show (k - 7).toNat<13; (first|lia|omega)
 rw [List.getElem?_map,List.getElem?_eq_getElem hl]
 rfl
theorem ok_dueW (T:Txt K mg aP aW aH CT CR) (F:Fun K "parts_due" "parts_due" jU f fd) (Cparts_of:Cal P w K mg base (CXE P w) 1 "parts_of" ["kind"] spPartsW) :
  FnOk P w K mg base (CXE P w) 2 f fd ["kind", "numbers", "heads"] spDueW:=by
 refine F.okN sc_parts_due (fun vs H Q E h => ?_) (fun cdv A outer s H vs Q E hr h => ?_)
 ·obtain ⟨k,t,c,ns,cnt,rfl,_⟩ := h
  rfl
 obtain ⟨k,t,c,ns,cnt,rfl,ht,⟨rs,eh,pr⟩,h0,h1,hk,hk6,q⟩ := h
 refine ⟨_,(zD (zZ (PW.pt (qS (zM yQ (pv 0) (yM rfl T.m_NUMBER) (nomark _)) (qG (zM yQ (pv 0) (yM rfl T.m_GET) (nomark _))))) (zI (zS zE)) zR)
   (zD (zZ (zM yQ (pv 0) (yM rfl T.m_SET) (nomark _)) (zI (zS zE)) zR)
   (zD (zZ (zM yQ (pv 0) (yM rfl T.m_ALL) (nomark _)) (zI (zS (yH jG (pv 1) zE (fun _ _=>rfl)))) zR)
   (zD (zZ (zM yQ (pv 0) (yM rfl T.m_PICK) (nomark _)) (zI (zS (zL yX zE (yH jG (pv 1) zE (fun _ _=>rfl))))) zR)
   (zD (zZ (zM yQ (pv 0) (yM rfl T.m_LOOP) (nomark _)) (zI (zS zE)) zR)
   (zD (zZ (zM yQ (pv 0) (yM rfl T.m_CALL) (nomark _)) (zI (zS (yH jG (yH yD (pv 2) (yH jG (pv 1) zE (fun _ _=>rfl)) (fun _ _=>rfl)) zE (fun _ _=>rfl)))) zR)
   (zI (zS (zJ Cparts_of hr rfl (zA (pv 0) zB) passN))))))))),?_⟩
 try dsimp only [Cx.nox,Cx.exc,Cx.wish,yG]
 have hd1:ns.length=1->∃ n,ns=[n]:=fun l=>by
  cases ns with
  | nil=>cases l
  | cons n r=>cases r with
   | nil=>exact ⟨n,rfl⟩
   | cons m r=>cases l
 unfold dueP at q
 refine ⟨_,rfl,rfl,_,rfl,ite2 (fun c=>iteT ?_) (fun c0 => ?_)⟩
 ·rw [if_pos (.inl (vt c))] at q; exact q
 refine ⟨_,rfl,rfl,_,rfl,ite2 (fun c => ?_) (fun c1 => ?_)⟩
 ·rw [if_pos (.inr (vt c))] at q; exact q
 have n01:¬ (k=0\/k=1):=fun z=>z.elim (vf c0) (vf c1)
 rw [if_neg n01] at q
 refine ⟨_,rfl,rfl,_,rfl,ite2 (fun c => ?_) (fun c2 => ?_)⟩
 ·rw [if_pos (vt c)] at q; exact q
 rw [if_neg (vf c2)] at q
 refine ⟨_,rfl,rfl,_,rfl,ite2 (fun c => ?_) (fun c3 => ?_)⟩
 ·rw [if_pos (vt c)] at q
  obtain ⟨n,rfl⟩ := hd1 (hk (.inl (vt c)))
  exact ⟨_,rfl,t,_,_,_,rfl,rfl,.of ht,rfl,q⟩
 rw [if_neg (vf c3)] at q
 refine ⟨_,rfl,rfl,_,rfl,ite2 (fun c => ?_) (fun c4 => ?_)⟩
 ·rw [if_pos (vt c)] at q
  obtain ⟨n,rfl⟩ := hd1 (hk (.inr (.inl (vt c))))
  exact ⟨_,rfl,t,_,_,_,rfl,rfl,.of ht,rfl,_,_,rfl,rfl,q⟩
 rw [if_neg (vf c4)] at q
 refine ⟨_,rfl,rfl,_,rfl,ite2 (fun c => ?_) (fun c5 => ?_)⟩
 ·rw [if_pos (vt c)] at q; exact q
 rw [if_neg (vf c5)] at q
 refine ⟨_,rfl,rfl,_,rfl,ite2 (fun cc => ?_) (fun c6 => ?_)⟩
 ·rw [if_pos (vt cc)] at q
  obtain ⟨n,rfl⟩ := hd1 (hk (.inr (.inr (vt cc))))
  obtain ⟨n0,n1⟩ := hk6 (vt cc)
  have n1':n.toNat<cnt.length:=n1
  have n0' : 0<=n:=n0
  have ln:rs.length=cnt.length:=Paired.len pr
  have e1:cnt[n.toNat]? = some cnt[n.toNat]:=List.getElem?_eq_getElem n1'
  have e2:rs[n.toNat]? = some rs[n.toNat]:=List.getElem?_eq_getElem (by (first|lia|omega))
  obtain ⟨tt,er,et⟩ := Paired.get pr _ _ _ e2 e1
  have av:atI rs n=some (.ref tt):=kX n0' (by rw [e2,er])
  refine ⟨_,rfl,_,rfl,t,_,_,_,rfl,rfl,.of ht,rfl,c,rs,n,_,rfl,rfl,.of eh,av,tt,_,_,_,rfl,rfl,.of et,rfl,?_⟩
  have:(cnt[([n].headD 0).toNat]?).getD 0=cnt[n.toNat]:=by
   show (cnt[n.toNat]?).getD 0=_
   rw [e1]; rfl
  rw [this] at q
  exact q
 ·rw [if_neg (vf c6)] at q
  have n0:=vf c0; have n1:=vf c1; have n2:=vf c2; have n3:=vf c3; have n4:=vf c4; have n5:=vf c5; have n6:=vf c6
  exact ⟨_,rfl,k,rfl,by (first|lia|omega),h1,q⟩
theorem ok_nodeR (d:Nat) (hd10:d<=10) (T:Txt K mg aP aW aH CT CR) (F:Fun K "read_node" "read_node" jD f fd) (CNoText:CalX P w K mg base 1 "NoText" CT ["self", "at"] (spInit1 CT)) (Ctake_kind:Cal P w K mg base (CXE P w) 4 "take_kind" ["reading", "boxes"] (spKindR CR CT))
  (Ctake_own:Cal P w K mg base (CXE P w) 6 "take_own" ["reading", "kind", "boxes"] (spOwnR CR CT)) (Cparts_due:Cal P w K mg base (CXE P w) 2 "parts_due" ["kind", "numbers", "heads"] spDueW)
  (Cread_node:Cal P w K mg base (CXE P w) (6+d) "read_node" ["reading", "boxes", "deep"] (spNodeP CR CT d)):FnOk P w K mg base (CXE P w) (6+d+1) f fd ["reading", "boxes", "deep"] (spNodeR CR CT d):=by
 refine F.okX qJ (fun vs H Q E h => ?_) (fun cdv A outer s H vs Q E hr h => ?_)
 ·obtain ⟨A,bx,W,bs,num,cnt,a,bd,rfl,_⟩ := h
  rfl
 obtain ⟨A,bx,W,bs,num,cnt,a,bd,rfl,_,N,nok,q⟩ := h
 refine ⟨_,(zD (zZ (zM op_gt (pv 2) (yM rfl T.m_MOST_DEEP) (nomark _)) (zI (xI CNoText hr rfl (zA (yI (pv 0) rfl) zB))) zR)
   (zD (zN (i:=3) qJ.nd rfl (Or.inl rfl) (zJ Ctake_kind hr rfl (zA (pv 0) (zA (pv 1) zB)) passX))
   (zD (zN (i:=4) qJ.nd rfl (Or.inl rfl) (zJ Ctake_own hr rfl (zA (pv 0) (zA (pv 3) (zA (pv 1) zB))) passX))
   (zD (yB (yP PySem.F.plainAttrs_list PySem.F.slot_list_append PySem.F.type_list_append yJ (yI (pv 0) rfl) (zA (pv 3) zB)))
   (zD (yB (yP PySem.F.plainAttrs_list PySem.F.slot_list_extend PySem.F.type_list_extend mt_extendT (yI (pv 0) rfl) (zA (pv 4) zB)))
   (zI (kH (own_fly rfl rfl) rfl (jY rfl T.n_range (zA (zJ Cparts_due hr rfl (zA (pv 3) (zA (pv 4) (zA (yI (pv 0) rfl) zB))) passX) zB)) (zV (i:=5) qJ.nd rfl (Or.inl rfl)) (zI (yB (zJ Cread_node hr rfl (zA (pv 0) (zA (pv 1) (zA (zL yX (pv 2) zE) zB))) passX)))))))))),?_⟩
 try dsimp only [Cx.nox,Cx.exc,Cx.wish,yG]
 refine ⟨_,rfl,_,_,rfl,rfl,_,rfl,ite2 (fun c => ?_) (fun c => ?_)⟩
 ·have c':=of_decide_eq_true c
  obtain rfl:d=0:=by (first|lia|omega)
  exact ⟨_,rfl,A.rd,CR,A.dr,_,_,rfl,N.w.rd,T.cls,T.f_at,rfl,small (show 1<=1000 by decide),raised1 (FailR.one q)⟩
 have c':=df c
 obtain ⟨d,rfl⟩ : ∃ d',d=d'+1:=⟨d - 1,by (first|lia|omega)⟩
 refine ⟨_,rfl,_,rfl,A,W,a,bx,bs,rfl,N.w,N.box,?_⟩
 unfold nodeR at q
 cases e1:kindR W a bs with
 | error n=>rw [e1] at q; exact FailR.one q
 | ok k =>
 rw [e1] at q
 dsimp only at q
 obtain ⟨al,kq⟩ := kindR_lt e1
 have R1:=N.w.put k.2
 have k1:KeepL [A.rd,A.bd] H (upd H A.rd (RdO CR A k.2)):=KeepL.upd (List.mem_cons_self ..)
 have lv1:∀ b,upd H A.rd (RdO CR A k.2) b=none->H b=none:=yY (fun _ z=>z) N.w.rd
 have nun:A.nu≠A.rd:=fun z=>by have:=N.nu; rw [z,N.w.rd] at this; cases this
 refine ⟨_,rfl,_,rfl,_,rfl,A,W,k.2,k.1,bx,bs,num,rfl,R1,by rw [zH (N.w.ne N.box)]; exact N.box,by rw [zH nun]; exact N.nu,?_⟩
 cases e2:ownR W num k.2 k.1 bs with
 | error n=>rw [e2] at q; exact (FailR.mono q k1).sub (fun x hx=>by rw [List.mem_singleton.mp hx]; exact List.mem_cons_self ..)
 | ok r =>
 rw [e2] at q
 dsimp only at q
 intro t H2 kp2 lv2 rd2 et2
 obtain ⟨o1,o2,o3,o4,o5,o6,o7⟩ := ownR_lt e2 (by (first|lia|omega))
 have k2:KeepL [A.rd,A.bd] H H2:=k1.trans (fun b o nb e=>kp2 b o (fun z=>nb (by rw [List.mem_singleton.mp z]; exact List.mem_cons_self ..)) e)
 have lst2:∀ {x:Addr} {xs:List V},H x=some (.lst xs)->H2 x=some (.lst xs):=fun {x xs} e=>kp2 x _ (fun z=>N.w.ne e (List.mem_singleton.mp z)) (by rw [zH (N.w.ne e)]; exact e)
 have bd2:=lst2 N.bd
 have ht2:Tups H H2:=fun b xs e=>by
  have nb:b≠A.rd:=fun z=>by rw [z,N.w.rd] at e; cases e
  exact kp2 b _ (fun z=>nb (List.mem_singleton.mp z)) (by rw [zH nb]; exact e)
 have nu2:H2 A.nu=some (.dK (numD num)):=kp2 _ _ (fun z=>nun (List.mem_singleton.mp z)) (by rw [zH nun]; exact N.nu)
 have nrb:A.rd≠A.bd:=Ne.symm (N.w.ne N.bd)
 have few:=N.few
 have le:=N.le
 have hWk:=N.w.ok.few
 have hbl:(bd.map V.int).length=bd.length:=List.length_map ..
 refine ⟨_,rfl,A.rd,CR,A.dr,_,_,rfl,rd2,T.cls,T.f_bodies,rfl,.inl ⟨rfl,_,.of bd2⟩,_,rfl,A.bd,_,_,rfl,rfl,bd2,millionL (by (first|lia|omega)),?_⟩
 have rd3:upd H2 A.bd (.lst (bd.map V.int++[.int k.1])) A.rd=some (RdO CR A r.2):=by rw [zH nrb]; exact rd2
 have tb:t≠A.bd:=fun z=>by rw [z,bd2] at et2; cases et2
 have et3:upd H2 A.bd (.lst (bd.map V.int++[.int k.1])) t=some (.tup (r.1.map V.int)):=by rw [zH tb]; exact et2
 refine ⟨_,rfl,A.rd,CR,A.dr,_,_,rfl,rd3,T.cls,T.f_bodies,rfl,.inl ⟨rfl,_,.of zC⟩,_,rfl,A.bd,t,_,_,rfl,rfl,zC,et3,million (by rw [List.length_append,List.length_map,List.length_map]; show bd.length+1+r.1.length<=_; (first|lia|omega)),?_⟩
 rw [qH]
 have eb:bd.map V.int++[V.int k.1]++r.1.map V.int=(bd++k.1 :: r.1).map V.int:=by simp
 rw [eb]
 have et4:upd H2 A.bd (.lst ((bd++k.1 :: r.1).map V.int)) t=some (.tup (r.1.map V.int)):=by rw [zH tb]; exact et2
 have k4:KeepL [A.rd,A.bd] H (upd H2 A.bd (.lst ((bd++k.1 :: r.1).map V.int))):=k2.trans (KeepL.upd (List.mem_cons_of_mem _ (List.mem_cons_self ..)))
 have lv4:∀ b,upd H2 A.bd (.lst ((bd++k.1 :: r.1).map V.int)) b=none->H b=none:=yY (fun b z=>lv1 b (lv2 b z)) bd2
 have ht4:Tups H (upd H2 A.bd (.lst ((bd++k.1 :: r.1).map V.int))):=fun b xs e=>by
  have:=ht2 b xs e
  rw [zH (fun z=>by rw [z,bd2] at this; cases this)]
  exact this
 have N4:NdAt CR A (upd H2 A.bd (.lst ((bd++k.1 :: r.1).map V.int))) bx W bs num cnt r.2 (bd++k.1 :: r.1):=by
  refine ⟨⟨by rw [zH nrb]; exact rd2,by rw [zH (Ne.symm N.n1)]; exact lst2 N.w.wd,N.w.ok⟩,by rw [zH (Ne.symm N.n2)]; exact lst2 N.box,?_,N.cn.tups (fun xs e=>by rw [zH (Ne.symm N.n3)]; exact lst2 e) ht4,zC,N.n1,N.n2,N.n3,o1,?_⟩
  ·rw [zH (fun z=>by rw [z,bd2] at nu2; cases nu2)]; exact nu2
  ·rw [List.length_append,List.length_cons]
   rcases kq with ⟨ka,kb⟩ | ⟨ka,kb,kc⟩
   ·have:=o3 ka; (first|lia|omega)
   ·(first|lia|omega)
 generalize upd H2 A.bd (.lst ((bd++k.1 :: r.1).map V.int))=H4 at *
 generalize bd++k.1 :: r.1=bd4 at *
 have d6:k.1=6->0<=r.1.headD 0/\(r.1.headD 0).toNat<cnt.length:=fun z=>by
  rw [z] at e2
  obtain ⟨x,ex⟩ := own_num e2
  exact nok.there _ _ ex
 refine ⟨_,rfl,_,rfl,_,rfl,A.rd,CR,A.dr,_,_,rfl,N4.w.rd,T.cls,T.f_counted,rfl,k.1,t,A.cn,r.1,cnt,rfl,et4,N4.cn,?_,?_,o6,d6,?_⟩
 ·rcases kq with ⟨ka,kb⟩ | ⟨ka,kb,kc⟩ <;> (first|lia|omega)
 ·rcases kq with ⟨ka,kb⟩ | ⟨ka,kb,kc⟩ <;> (first|lia|omega)
 obtain ⟨n1,n2⟩ := due_near nok.near o7
 generalize dueP cnt k.1 r.1=nd at *
 generalize er:partsR (nodeR W num cnt bs d) nd.toNat r.2 bd4=res at q
 refine ⟨_,rfl,by (first|lia|omega),by (first|lia|omega),kU (fun i σ' H'=>∃ a' bd' v5,σ'=[some (.ref A.rd),some (.ref bx),some (.int (11 - ((d+1:Nat):Int))),some (.int k.1),some (.ref t),v5]/\KeepL [A.rd,A.bd] H H'/\(∀ b,H' b=none->H b=none)/\NdAt CR A H' bx W bs num cnt a' bd' /\
  partsR (nodeR W num cnt bs d) (nd.toNat - i) a' bd'=res) ⟨_,_,_,rfl,k4,lv4,N4,er⟩ ?_ ?_⟩
 ·rintro i σ' H' hi ⟨a',bd',v5,rfl,kp',lv',N',ep⟩
  refine ⟨_,rfl,_,rfl,_,rfl,_,_,rfl,rfl,A,bx,W,bs,num,cnt,a',bd',?_,by (first|lia|omega),N',nok,?_⟩
  ·show [V.ref A.rd,.ref bx,.int (11 - ((d+1:Nat):Int)+1)]=[V.ref A.rd,.ref bx,.int (11 - (d:Int))]
   rw [show (11 - ((d+1:Nat):Int)+1)=11 - (d:Int) by (first|lia|omega)]
  have hs:nd.toNat - i=(nd.toNat - (i+1))+1:=by (first|lia|omega)
  rw [hs] at ep
  unfold partsR at ep
  cases e3:nodeR W num cnt bs d a' bd' with
  | error n =>
   rw [e3] at ep
   rw [<- ep] at q
   exact FailR.mono q kp'
  | ok z =>
   rw [e3] at ep
   dsimp only at ep
   exact fun H5 k5 lv5 N5=>⟨_,_,_,rfl,kp'.trans k5,fun b e=>lv' b (lv5 b e),N5,ep⟩
 ·rintro σ' H' ⟨a',bd',v5,rfl,kp',lv',N',ep⟩
  rw [Nat.sub_self] at ep
  unfold partsR at ep
  rw [<- ep] at q
  exact q H' kp' lv' N'

end
section
variable {P:Program} {w:World} {K:PySem.W.Frag} {mg:Str->Option Value} {base:Heap} {f:Addr} {fd:FuncData} {aP aW aH CT CR:Addr}
set_option maxHeartbeats 4000000

theorem for_down {lo:Int} {n:Nat} {g:TG} {tb:TS} {D:Ends} {σ:St} {H:Hp} (Pv:Nat->St->Hp->Prop) (h0:Pv 0 σ H)
  (hs:∀ i σ H,i<n->Pv i σ H->g (.int (lo - (i:Nat))) σ H fun σ2 H2=>tb { D with nx:=Pv (i+1),ct:=Pv (i+1),bk:=D.nx } σ2 H2) (hd:∀ σ H,Pv n σ H->D.nx σ H) :
  ∃ W:Nat->Nat->St->Hp->Prop,(∃ m,W 0 m σ H)/\∀ i m σ H,W i m σ H ->
   ((Itd lo n).stop i H/\D.nx σ H)\/((Itd lo n).go i H/\∃ N:St->Hp->Prop,(∀ σ' H',N σ' H'->∃ m',m'<m/\W (i+1) m' σ' H')/\∀ x H',(Itd lo n).yld i H x H'->g x σ H' fun σ2 H2=>tb { D with nx:=N,ct:=N,bk:=D.nx } σ2 H2):=by
 refine ⟨fun i m σ H=>m=n - i/\i<=n/\Pv i σ H,⟨n,by simp,Nat.zero_le _,h0⟩,?_⟩
 rintro i m σ H ⟨rfl,hi,p⟩
 by_cases hlt:i<n
 ·refine .inr ⟨hlt,Pv (i+1),fun σ' H' p'=>⟨n - (i+1),by (first|lia|omega),rfl,hlt,p'⟩,fun x H' y => ?_⟩
  obtain ⟨e,y⟩ := y
  subst e y
  exact hs i σ _ hlt p
 ·have e:i=n:=by (first|lia|omega)
  subst e
  exact .inl ⟨Nat.le_refl _,hd σ H p⟩
def spNumNames:Sp:=fun vs H Q _=>∃ (wd:Addr) (W:List Str),vs=[.ref wd]/\H wd=some (.lst (W.map V.str))/\W.length<=1000000/\∀ p H',H p=none->Same H H'->H' p=some (.dK (numD (numN W)))->Q (.ref p) H'
def spCount:Sp:=fun vs H Q _=>∃ (wd:Addr) (W:List Str),vs=[.ref wd]/\H wd=some (.lst (W.map V.str))/\W.length<=1000000/\∀ p H',H p=none->Same H H'->CntAt H' p (cntN W)->Q (.ref p) H'
theorem eq_str (x y:Str):decide (V.str x=V.str y)=decide (x=y):=by
 by_cases z:x=y
 ·rw [z,decide_eq_true rfl,decide_eq_true rfl]
 ·rw [decide_eq_false z,decide_eq_false (fun e=>z (by injection e))]
theorem ok_numNames (T:Txt K mg aP aW aH CT CR) (F:Fun K "number_names" "number_names" xP f fd):FnOk P w K mg base (CXE P w) 1 f fd ["words"] spNumNames:=by
 refine F.okN xU (fun vs H Q E h => ?_) (fun cdv A outer s H vs Q E hr h => ?_)
 ·obtain ⟨wd,W,rfl,_⟩ := h
  rfl
 obtain ⟨wd,W,rfl,hw,hl,q⟩ := h
 refine ⟨_,(zD (zN (i:=1) xU.nd rfl (Or.inl rfl) pe_dnewK)
   (zD (zN (i:=2) xU.nd rfl (Or.inl rfl) zE)
   (zD (kH PassesOwn.never rfl (jY rfl T.n_range (zA (zU zT rfl T.n_len yN (zA (pv 0) zB)) zB)) (zV (i:=3) xU.nd rfl (Or.inl rfl)) (zI (zZ (zM yQ (yH yD (pv 0) (pv 3) (fun _ _=>rfl)) zP (nomark _)) (zD (zZ (zM op_lt (zL yX (pv 3) zE) (zU zT rfl T.n_len yN (zA (pv 0) zB)) (nomark _)) (zI (yB (pe_dsetd (pv 1) (yH yD (pv 0) (zL yX (pv 3) zE) (fun _ _=>rfl)) (pv 2) ⟨rfl,rfl,rfl,rfl⟩))) zR)
   (zI (ps_aug (i:=2) xU.nd rfl (Or.inl rfl) zE ip_add))) zR)))
   (zI (zS (pv 1)))))),?_⟩
 try dsimp only [Cx.nox,Cx.exc,Cx.wish,yG]
 intro p hp
 have nw:wd≠p:=zG hw hp
 have hwp:∀ o,upd H p o wd=some (.lst (W.map V.str)):=fun o=>by rw [zH nw]; exact hw
 have hz:(W.map V.str).length=W.length:=List.length_map ..
 refine ⟨_,rfl,wd,_,rfl,.inl (.of (hwp _)),_,rfl,by (first|lia|omega),by (first|lia|omega),kU (fun i σ' H'=>∃ (g:Int) (acc:List (Str × Int)) (v3:Option V),σ'=[some (.ref wd),some (.ref p),some (.int g),v3]/\H'=upd H p (.dK (numD acc))/\numG (W.drop i) g acc=numN W/\acc.length<=i) ⟨0,[],none,rfl,rfl,rfl,Nat.le_refl _⟩ ?_ ?_⟩
 ·rintro i σ' H' hi ⟨g,acc,v3,rfl,rfl,eg,la⟩
  have hi':i<W.length:=by (first|lia|omega)
  have e1:W[i]? = some W[i]:=List.getElem?_eq_getElem hi'
  rw [List.drop_eq_getElem_cons hi'] at eg
  generalize W[i]=x at e1 eg
  have atx:atI (W.map V.str) ((0:Int)+(i:Int))=some (.str x):=by
   rw [Int.zero_add]
   exact qB (by rw [List.getElem?_map,e1]; rfl)
  refine ⟨_,rfl,_,rfl,wd,_,_,_,rfl,rfl,.of (hwp _),atx,rfl,_,rfl,?_⟩
  rw [eq_str]
  unfold numG at eg
  refine ite2 (fun c => ?_) (fun c => ?_)
  ·rw [if_pos (of_decide_eq_true c)] at eg
   refine ⟨_,rfl,_,_,rfl,rfl,_,rfl,wd,_,rfl,.inl (.of (hwp _)),_,_,rfl,rfl,_,rfl,ite2 (fun c2 => ?_) (fun c2 => ?_)⟩
   ·have c2':=of_decide_eq_true c2
    have hi2:i+1<W.length:=by (first|lia|omega)
    have e2:W[i+1]? = some W[i+1]:=List.getElem?_eq_getElem hi2
    rw [List.drop_eq_getElem_cons hi2] at eg
    generalize ey:W[i+1]=y at e2 eg
    have aty:atI (W.map V.str) ((0:Int)+(i:Int)+1)=some (.str y):=by
     have:=qB (xs:=W.map V.str) (j:=i+1) (v:=.str y) (by rw [List.getElem?_map,e2]; rfl)
     rw [show (((i+1:Nat):Int))=(0:Int)+(i:Int)+1 by (first|lia|omega)] at this
     exact this
    dsimp only at eg
    refine ⟨_,rfl,p,rfl,.inl ⟨_,.inl zC⟩,_,rfl,_,rfl,_,_,rfl,rfl,wd,_,_,_,rfl,rfl,.of (hwp _),aty,_,rfl,numD acc,Sum.inr y,zC,rfl,millionL (by unfold numD; rw [List.length_map]; (first|lia|omega)),fun v hv => ?_,fun hv => ?_⟩
    ·rw [valV_num] at hv
     have hs:(lookN acc y).isSome=true:=by
      cases z:lookN acc y with
      | none=>rw [z] at hv; cases hv
      | some n=>rfl
     rw [hs,if_pos rfl] at eg
     refine ⟨_,rfl,_,_,rfl,rfl,?_⟩
     exact ⟨_,_,_,rfl,rfl,by rw [List.drop_eq_getElem_cons hi2,ey]; exact eg,by (first|lia|omega)⟩
    ·rw [valV_num] at hv
     have hs:(lookN acc y).isSome=false:=by
      cases z:lookN acc y with
      | none=>rfl
      | some n=>rw [z] at hv; cases hv
     rw [hs,if_neg (by decide)] at eg
     rw [qH]
     refine ⟨_,rfl,_,_,rfl,rfl,?_⟩
     exact ⟨_,acc++[(y,g)],_,rfl,by unfold numD; rw [List.map_append]; rfl,by rw [List.drop_eq_getElem_cons hi2,ey]; exact eg,by rw [List.length_append]; show acc.length+1<=i+1; (first|lia|omega)⟩
   ·have c2':=df c2
    have hn:W.drop (i+1)=[]:=List.drop_eq_nil_of_le (by (first|lia|omega))
    rw [hn] at eg
    refine ⟨_,rfl,_,_,rfl,rfl,?_⟩
    exact ⟨_,_,_,rfl,rfl,by rw [hn]; exact eg,by (first|lia|omega)⟩
  ·rw [if_neg (of_decide_eq_false (Bool.eq_false_iff.mpr c))] at eg
   exact ⟨_,_,_,rfl,rfl,eg,by (first|lia|omega)⟩
 ·rintro σ' H' ⟨g,acc,v3,rfl,rfl,eg,la⟩
  rw [List.drop_eq_nil_of_le (by (first|lia|omega))] at eg
  have eg':acc=numN W:=eg
  refine ⟨_,rfl,q p _ hp (zF hp _) ?_⟩
  rw [zC,eg']
theorem ok_count (T:Txt K mg aP aW aH CT CR) (F:Fun K "count_params" "count_params" xR f fd):FnOk P w K mg base (CXE P w) 1 f fd ["words"] spCount:=by
 refine F.okN xV (fun vs H Q E h => ?_) (fun cdv A outer s H vs Q E hr h => ?_)
 ·obtain ⟨wd,W,rfl,_⟩ := h
  rfl
 obtain ⟨wd,W,rfl,hw,hl,q⟩ := h
 refine ⟨_,(zD (zN (i:=1) xV.nd rfl (Or.inl rfl) (zK zB))
   (zD (zN (i:=2) xV.nd rfl (Or.inl rfl) (zU zT rfl T.n_len yN (zA (pv 0) zB)))
   (zD (kH PassesOwn.never rfl (pi_down rfl T.n_range (zA (zL jL (zU zT rfl T.n_len yN (zA (pv 0) zB)) zE) (zA (pe_un un_neg zE) (zA (pe_un un_neg zE) zB)))) (zV (i:=3) xV.nd rfl (Or.inl rfl)) (zD (wU (zZ (zM yQ (yH yD (pv 0) (pv 3) (fun _ _=>rfl)) zP (nomark _)) (zI (zN (i:=2) xV.nd rfl (Or.inl rfl) (pv 3))) zR))
   (zI (zZ (zM yQ (yH yD (pv 0) (pv 3) (fun _ _=>rfl)) zP (nomark _)) (zI (yB (yP PySem.F.plainAttrs_list PySem.F.slot_list_append PySem.F.type_list_append yJ (pv 1) (zA (zQ (zA (zL jL (zL jL (pv 2) (pv 3)) zE) zB)) zB)))) zR))))
   (zD (yB (pe_bm0 PySem.F.plainAttrs_list PySem.F.slot_list_reverse PySem.F.type_list_reverse mt_reverse (pv 1)))
   (zI (zS (pv 1))))))),?_⟩
 try dsimp only [Cx.nox,Cx.exc,Cx.wish,yG]
 refine ⟨small (show 0<=1000 by decide),fun p hp => ?_⟩
 have nw:wd≠p:=zG hw hp
 have hwp:upd H p (.lst []) wd=some (.lst (W.map V.str)):=by rw [zH nw]; exact hw
 have hz:(W.map V.str).length=W.length:=List.length_map ..
 refine ⟨_,rfl,wd,_,rfl,.inl (.of hwp),?_⟩
 refine ⟨_,rfl,wd,_,rfl,.inl (.of hwp),_,_,rfl,rfl,_,rfl,_,rfl,_,_,rfl,⟨by (first|lia|omega),by (first|lia|omega),by (first|lia|omega),by (first|lia|omega)⟩,?_⟩
 refine for_down (fun i σ' H'=>∃ (e:Int) (cs:List Int) (vs:List V) (v3:Option V),σ'=[some (.ref wd),some (.ref p),some (.int e),v3]/\Same H H'/\H' p=some (.lst vs)/\Paired (OneAt H') vs cs.reverse/\i<=W.length/\cntG (W.drop (W.length - i)) (W.length - i)=(e,cs)/\cs.length<=i)
  ⟨_,[],[],none,rfl,zF hp _,zC,.nil,Nat.zero_le _,?_,Nat.le_refl _⟩ ?_ ?_
 ·rw [Nat.sub_zero,List.drop_length]
  show (((W.length:Nat):Int),([]:List Int))=_
  rw [hz]
 ·rintro i σ' H' hi ⟨e,cs,vs,v3,rfl,sm,ep,pr,hil,ec,lc⟩
  have hi':i<W.length:=by (first|lia|omega)
  have hj:W.length - (i+1)<W.length:=by (first|lia|omega)
  have e1:W[W.length - (i+1)]? = some W[W.length - (i+1)]:=List.getElem?_eq_getElem hj
  have ed:W.drop (W.length - (i+1))=W[W.length - (i+1)] :: W.drop (W.length - i):=by
   rw [List.drop_eq_getElem_cons hj,show W.length - (i+1)+1=W.length - i by (first|lia|omega)]
  have en:W.length - i=W.length - (i+1)+1:=by (first|lia|omega)
  rw [en] at ec
  rw [en] at ed
  generalize W[W.length - (i+1)]=x at e1 ed
  have atx:atI (W.map V.str) (((W.map V.str).length:Int) - 1 - (i:Int))=some (.str x):=by
   refine kX (by (first|lia|omega)) ?_
   rw [show (((W.map V.str).length:Int) - 1 - (i:Int)).toNat=W.length - (i+1) by (first|lia|omega),List.getElem?_map,e1]
   rfl
  have hw':=sm _ _ hw
  have np:∀ {H2:Hp},Same H' H2->True:=fun _=>trivial
  have step:cntG (W.drop (W.length - (i+1))) (W.length - (i+1))=((if x = "with" then ((W.length - (i+1):Nat):Int) else e),if x = "fun" then ((if x = "with" then ((W.length - (i+1):Nat):Int) else e) - ((W.length - (i+1):Nat):Int) - 2) :: cs else cs):=by
   rw [ed]
   unfold cntG
   rw [ec]
  have ej:((W.map V.str).length:Int) - 1 - (i:Int)=((W.length - (i+1):Nat):Int):=by (first|lia|omega)
  generalize ee:(if x = "with" then ((W.length - (i+1):Nat):Int) else e)=e' at step
  refine ⟨fun σ2 H2=>σ2=[some (.ref wd),some (.ref p),some (.int e'),some (.int (((W.map V.str).length:Int) - 1 - (i:Int)))]/\H2=H',?_,?_⟩
  ·refine ⟨_,rfl,_,rfl,wd,_,_,_,rfl,rfl,.of hw',atx,rfl,_,rfl,?_⟩
   rw [eq_str]
   refine ite2 (fun c => ?_) (fun c => ?_)
   ·rw [if_pos (of_decide_eq_true c)] at ee
    rw [ej,<- ee]
    exact ⟨_,rfl,rfl,rfl⟩
   ·rw [if_neg (of_decide_eq_false (Bool.eq_false_iff.mpr c))] at ee
    rw [<- ee]
    exact ⟨rfl,rfl⟩
  rintro _ _ ⟨rfl,rfl⟩
  rename_i H'
  refine ⟨_,rfl,_,rfl,wd,_,_,_,rfl,rfl,.of hw',atx,rfl,_,rfl,?_⟩
  rw [eq_str]
  refine ite2 (fun c => ?_) (fun c => ?_)
  ·rw [if_pos (of_decide_eq_true c)] at step
   refine ⟨_,rfl,.inl ⟨rfl,_,.of ep⟩,_,rfl,_,rfl,_,_,rfl,rfl,_,_,rfl,rfl,small (show 1<=1000 by decide),fun t ht => ?_⟩
   have nt:p≠t:=zG ep ht
   have lv:=Paired.len pr
   rw [List.length_reverse] at lv
   have sm2:∀ o u,Same H (upd (upd H' t o) p u):=fun o u b z ez=>by
    rw [zH (zG ez hp),zH (zG (sm _ _ ez) ht)]
    exact sm _ _ ez
   refine ⟨p,_,_,rfl,rfl,by rw [zH nt]; exact ep,millionL (by (first|lia|omega)),_,_,_,_,rfl,sm2 _ _,zC,?_,by (first|lia|omega),step,?_⟩
   ·rw [List.reverse_cons]
    refine Paired.snoc (Paired.imp (fun v n z => ?_) pr) ⟨t,rfl,?_⟩
    ·obtain ⟨t',rfl,et⟩ := z
     refine ⟨t',rfl,?_⟩
     rw [zH (fun z=>by rw [z,ep] at et; cases et),zH (zG et ht)]
     exact et
    ·rw [zH (Ne.symm nt),zC,ej]
   ·rw [List.length_cons]; (first|lia|omega)
  ·rw [if_neg (of_decide_eq_false (Bool.eq_false_iff.mpr c))] at step
   exact ⟨_,_,_,_,rfl,sm,ep,pr,by (first|lia|omega),step,by (first|lia|omega)⟩
 ·rintro σ' H' ⟨e,cs,vs,v3,rfl,sm,ep,pr,hil,ec,lc⟩
  refine ⟨_,rfl,.inl ⟨rfl,_,.of ep⟩,p,_,rfl,rfl,ep,_,rfl,q p _ hp (fun b z ez => ?_) ⟨_,zC,?_⟩⟩
  ·rw [zH (zG ez hp)]; exact sm _ _ ez
  ·have e0:cs=cntN W:=by
    have:W.length - (((W.map V.str).length:Int) - 1 - -1).toNat=0:=by (first|lia|omega)
    rw [this,List.drop_zero] at ec
    unfold cntN
    rw [ec]
   rw [<- e0]
   have pr2:=Paired.rev pr
   rw [List.reverse_reverse] at pr2
   refine Paired.imp (fun v n z => ?_) pr2
   obtain ⟨t',rfl,et⟩ := z
   refine ⟨t',rfl,?_⟩
   rw [zH (fun z=>by rw [z,ep] at et; cases et)]
   exact et

end
section
variable {P:Program} {w:World} {K:PySem.W.Frag} {mg:Str->Option Value} {base:Heap} {f:Addr} {fd:FuncData} {aP aW aH CT CR:Addr}
set_option maxHeartbeats 4000000

structure MadeR (C:Addr) (A:RA) (H H':Hp) (W:List Str):Prop where
 rd:H' A.rd=some (RdO C A 0)
 keep:Keep A.rd H H'
 nm:H' A.nm=some (.lst [])
 hd:H' A.hd=some (.lst [])
 bd:H' A.bd=some (.lst [])
 nu:H' A.nu=some (.dK (numD (numN W)))
 cn:CntAt H' A.cn (cntN W)
 n1:A.nm≠A.hd
 n2:A.nm≠A.bd
 n3:A.hd≠A.bd
 n4:A.cn≠A.nm
 n5:A.cn≠A.hd
 n6:A.cn≠A.bd
 f1:H A.nm=none
 f2:H A.hd=none
 f3:H A.bd=none
 f4:H A.cn=none
theorem stepS {G G1:Hp} {x p:Addr} {i o:HO} (u:HO) (sm:Same G G1) (gx:G x=some i) (a:G p=none) (ep:G1 p=some o):G1 x=some i/\Keep x G (upd G1 x u)/\upd G1 x u p=some o/\upd G1 x u x=some u/\∀ b,upd G1 x u b=none->G b=none:=by
 have n:p≠x:=Ne.symm (zG gx a)
 refine ⟨sm _ _ gx,fun b v nb e => ?_,?_,zC,fun b e => ?_⟩
 ·rw [zH nb]; exact sm _ _ e
 ·rw [zH n]; exact ep
 ·by_cases z:b=x
  ·rw [z,zC] at e; cases e
  ·rw [zH z] at e; exact sm.free e
theorem CntAt.keep {H H':Hp} {x c:Addr} {cnt:List Int} {C dx:Addr} {fs:List (Str × V)} (h:CntAt H c cnt) (k:Keep x H H') (hx:H x=some (.ins C dx fs)):CntAt H' c cnt :=
 h.tups (fun xs e=>k _ _ (fun z=>by rw [z,hx] at e; cases e) e) fun b xs e=>k _ _ (fun z=>by rw [z,hx] at e; cases e) e
def spInitR (C:Addr):Sp:=fun vs H Q _=>∃ (x dx wd:Addr) (W:List Str),vs=[.ref x,.ref wd]/\H x=some (.ins C dx [])/\H wd=some (.lst (W.map V.str))/\W.length<=1000000/\∀ A H',A.rd=x->A.dr=dx->A.wd=wd->MadeR C A H H' W->Q .non H'
theorem ok_initR (T:Txt K mg aP aW aH CT CR) (F:Fun K "__init__" "Reading.__init__" yR f fd) (Cnumber_names:Cal P w K mg base (CXE P w) 1 "number_names" ["words"] spNumNames)
  (Ccount_params:Cal P w K mg base (CXE P w) 1 "count_params" ["words"] spCount):FnOk P w K mg base (CXE P w) 2 f fd ["self", "words"] (spInitR CR):=by
 refine F.okN sc_Reading___init__ (fun vs H Q E h => ?_) (fun cdv A outer s H vs Q E hr h => ?_)
 ·obtain ⟨x,dx,wd,W,rfl,_⟩ := h
  rfl
 obtain ⟨x,dx,wd,W,rfl,hx,hw,hl,q⟩ := h
 refine ⟨_,(zD (ps_fld (pv 0) (pv 1) rfl)
   (zD (ps_fld (pv 0) zE rfl)
   (zD (ps_fld (pv 0) (zK zB) rfl)
   (zD (ps_fld (pv 0) (zK zB) rfl)
   (zD (ps_fld (pv 0) (zK zB) rfl)
   (zD (ps_fld (pv 0) (zJ Cnumber_names hr rfl (zA (pv 1) zB) passN) rfl)
   (zI (ps_fld (pv 0) (zJ Ccount_params hr rfl (zA (pv 1) zB) passN) rfl)))))))),?_⟩
 try dsimp only [Cx.nox,Cx.exc,Cx.wish,yG]
 have nwx:wd≠x:=fun z=>by rw [z,hx] at hw; cases hw
 refine ⟨_,rfl,_,rfl,x,CR,dx,_,rfl,hx,T.cls,T.f_words,(show 0<1000 by decide),?_⟩
 refine ⟨_,rfl,x,CR,dx,_,rfl,zC,T.cls,T.f_at,(show 1<1000 by decide),?_⟩
 rw [qH]
 have live0:∀ {b:Addr} {o:HO},upd H x o b=none->H b=none:=fun {b o} e=>by
  by_cases z:b=x
  ·rw [z,zC] at e; cases e
  ·rw [zH z] at e; exact e
 have K0:∀ {o:HO},Keep x H (upd H x o):=fun {o}=>Keep.upd
 generalize hG:upd H x _=G at *
 have gx:G x=some (.ins CR dx [("words",.ref wd),("at",.int 0)]):=by rw [<- hG]; exact zC
 have gk:Keep x H G:=by rw [<- hG]; exact Keep.upd
 have gl:∀ b,G b=none->H b=none:=fun b e=>by rw [<- hG] at e; exact live0 e
 clear hG live0 K0
 refine ⟨small (show 0<=1000 by decide),fun nm a1 => ?_⟩
 obtain ⟨x1,k1,p1,y1,l1⟩ := stepS (.ins CR dx [("words",.ref wd),("at",.int 0),("names",.ref nm)]) (zF a1 (.lst [])) gx a1 zC
 refine ⟨_,rfl,x,CR,dx,_,rfl,x1,T.cls,T.f_names,(show 2<1000 by decide),small (show 0<=1000 by decide),fun hd a2 => ?_⟩
 obtain ⟨x2,k2,p2,y2,l2⟩ := stepS (.ins CR dx [("words",.ref wd),("at",.int 0),("names",.ref nm),("heads",.ref hd)]) (zF a2 (.lst [])) y1 a2 zC
 refine ⟨_,rfl,x,CR,dx,_,rfl,x2,T.cls,T.f_heads,(show 3<1000 by decide),small (show 0<=1000 by decide),fun bd a3 => ?_⟩
 obtain ⟨x3,k3,p3,y3,l3⟩ := stepS (.ins CR dx [("words",.ref wd),("at",.int 0),("names",.ref nm),("heads",.ref hd),("bodies",.ref bd)]) (zF a3 (.lst [])) y2 a3 zC
 refine ⟨_,rfl,x,CR,dx,_,rfl,x3,T.cls,T.f_bodies,(show 4<1000 by decide),?_⟩
 have k03:=gk.trans (k1.trans (k2.trans k3))
 refine ⟨_,rfl,wd,W,rfl,k03 _ _ nwx hw,hl,fun nu G4 a4 s4 e4 => ?_⟩
 obtain ⟨x4,k4,p4,y4,l4⟩ := stepS (.ins CR dx [("words",.ref wd),("at",.int 0),("names",.ref nm),("heads",.ref hd),("bodies",.ref bd),("numbered",.ref nu)]) s4 y3 a4 e4
 refine ⟨_,rfl,x,CR,dx,_,rfl,x4,T.cls,T.f_numbered,(show 5<1000 by decide),?_⟩
 refine ⟨_,rfl,wd,W,rfl,(k03.trans k4) _ _ nwx hw,hl,fun cn G5 a5 s5 e5 => ?_⟩
 obtain ⟨vs,ev,pv⟩ := id e5
 obtain ⟨x5,k5,p5,y5,l5⟩ := stepS (.ins CR dx [("words",.ref wd),("at",.int 0),("names",.ref nm),("heads",.ref hd),("bodies",.ref bd),("numbered",.ref nu),("counted",.ref cn)]) s5 y4 a5 ev
 refine ⟨_,rfl,x,CR,dx,_,rfl,x5,T.cls,T.f_counted,(show 6<1000 by decide),?_⟩
 have nx:∀ {G:Hp} {b:Addr} {i:HO},G x=some i->G b=none->b≠x:=fun e a=>Ne.symm (zG e a)
 have m1:=nx gx a1
 have m2:=nx y1 a2
 have m3:=nx y2 a3
 have m4:=nx y3 a4
 have h2:=k2 _ _ m1 p1
 have h3:=k3 _ _ m1 h2
 have h4:=k4 _ _ m1 h3
 have i3:=k3 _ _ m2 p2
 have i4:=k4 _ _ m2 i3
 have j4:=k4 _ _ m3 p3
 refine q ⟨x,dx,wd,nm,hd,bd,nu,cn⟩ _ rfl rfl rfl ⟨y5,k03.trans (k4.trans k5),k5 _ _ m1 h4,k5 _ _ m2 i4,k5 _ _ m3 j4,k5 _ _ m4 p4,CntAt.keep e5 Keep.upd x5,zG p1 a2,zG h2 a3,zG p2 a3,
  Ne.symm (zG h4 a5),Ne.symm (zG i4 a5),Ne.symm (zG j4 a5),gl _ a1,gl _ (l1 _ a2),gl _ (l1 _ (l2 _ a3)),gl _ (l1 _ (l2 _ (l3 _ (l4 _ a5))))⟩

end
section
variable {P:Program} {w:World} {K:PySem.W.Frag} {mg:Str->Option Value} {base:Heap} {f:Addr} {fd:FuncData} {aP aW aH CT CR:Addr}
set_option maxHeartbeats 4000000

def NmAt (H:Hp) (v:V) (p:Str × List Str):Prop:=∃ t b,v = .ref t/\H t=some (.tup [.str p.1,.ref b])/\H b=some (.tup (p.2.map V.str))
theorem NmAt.tups {H H':Hp} {v:V} {p:Str × List Str} (h:NmAt H v p) (g:Tups H H'):NmAt H' v p:=by
 obtain ⟨t,b,rfl,e1,e2⟩ := h
 exact ⟨t,b,rfl,g _ _ e1,g _ _ e2⟩
structure FnR (C:Addr) (A:RA) (H:Hp) (W:List Str) (num:List (Str × Int)) (cnt:List Int) (s:RS):Prop where
 w:RdW C A W H s.at_
 nm:∃ vs,H A.nm=some (.lst vs)/\Paired (NmAt H) vs s.names
 hd:H A.hd=some (.lst (s.heads.map V.int))
 bd:H A.bd=some (.lst (s.bodies.map V.int))
 nu:H A.nu=some (.dK (numD num))
 cn:CntAt H A.cn cnt
 n1:A.nm≠A.hd
 n2:A.nm≠A.bd
 n3:A.hd≠A.bd
 n4:A.cn≠A.nm
 n5:A.cn≠A.hd
 n6:A.cn≠A.bd
 w1:A.wd≠A.nm
 w2:A.wd≠A.hd
 w3:A.wd≠A.bd
 le:s.at_<=W.length
 few:s.bodies.length<=2 * s.at_
 hfew:s.heads.length=2 * s.names.length
 nfew:s.names.length<=16
def chR (A:RA):List Addr:=[A.rd,A.bd,A.nm,A.hd]
def spFunR (C CT:Addr):Sp:=fun vs H Q E=>∃ (A:RA) (W:List Str) (num:List (Str × Int)) (cnt:List Int) (s:RS),vs=[.ref A.rd]/\FnR C A H W num cnt s/\NumOk num cnt /\
 EndR (fun s'=>∀ H',KeepL (chR A) H H'->(∀ b,H' b=none->H b=none)->FnR C A H' W num cnt s'->Q .non H') (FailR CT (chR A) H E) (funR W num cnt s)
theorem chR_rd {A:RA}:A.rd∈chR A:=List.mem_cons_self ..
theorem chR_bd {A:RA}:A.bd∈chR A:=List.mem_cons_of_mem _ (List.mem_cons_self ..)
theorem chR_nm {A:RA}:A.nm∈chR A:=List.mem_cons_of_mem _ (List.mem_cons_of_mem _ (List.mem_cons_self ..))
theorem chR_hd {A:RA}:A.hd∈chR A:=List.mem_cons_of_mem _ (List.mem_cons_of_mem _ (List.mem_cons_of_mem _ (List.mem_cons_self ..)))
structure Mid (C:Addr) (A:RA) (H Hi:Hp) (W:List Str) (num:List (Str × Int)) (cnt:List Int) (bx:Addr) (bs:List Str) (a:Nat) (nv:List V) (hds bds:List Int):Prop where
 w:RdW C A W Hi a
 nm:Hi A.nm=some (.lst nv)
 hd:Hi A.hd=some (.lst (hds.map V.int))
 bd:Hi A.bd=some (.lst (bds.map V.int))
 nu:Hi A.nu=some (.dK (numD num))
 cn:CntAt Hi A.cn cnt
 box:Hi bx=some (.lst (bs.map V.str))
 tup:Tups H Hi
 keep:KeepL (chR A) H Hi
 live:∀ b,Hi b=none->H b=none
structure Apt (A:RA) (H:Hp) (bx:Addr):Prop where
 n1:A.nm≠A.hd
 n2:A.nm≠A.bd
 n3:A.hd≠A.bd
 n4:A.cn≠A.nm
 n5:A.cn≠A.hd
 n6:A.cn≠A.bd
 w1:A.wd≠A.nm
 w2:A.wd≠A.hd
 w3:A.wd≠A.bd
 b1:bx≠A.nm
 b2:bx≠A.hd
 b3:bx≠A.bd
 b4:bx≠A.wd
 b5:bx≠A.cn
 bn:H bx=none
section
variable {C:Addr} {A:RA} {H Hi Hj:Hp} {W:List Str} {num:List (Str × Int)} {cnt:List Int} {bx:Addr} {bs bs':List Str} {a a':Nat} {nv:List V} {hds bds:List Int}
theorem Mid.fail (m:Mid C A H Hi W num cnt bx bs a nv hds bds) {E:XK} {n:Nat} (f:FailR CT (chR A) H E n) (hb:H bx=none):FailR CT [A.rd,bx] Hi E n:=fun d H' g e=>f d H' (fun b o nb q=>g b o (fun z=>by
 rcases List.mem_cons.mp z with z | z
 ·exact nb (z ▸ chR_rd)
 ·rw [List.mem_singleton.mp z,hb] at q; cases q) (m.keep b o nb q)) e
theorem Mid.boxes (m:Mid C A H Hi W num cnt bx bs a nv hds bds) (p:Apt A H bx) (k:KeepL [A.rd,bx] Hi Hj) (lv:∀ b,Hj b=none->Hi b=none) (e1:Hj A.rd=some (RdO C A a')) (e2:Hj bx=some (.lst (bs'.map V.str))):Mid C A H Hj W num cnt bx bs' a' nv hds bds:=by
 have nx:∀ {b:Addr} {xs:List V},Hi b=some (.lst xs)->b≠bx->Hj b=some (.lst xs):=fun {b xs} e n=>k b _ (fun z=>by
  rcases List.mem_cons.mp z with z | z
  ·exact m.w.ne e z
  ·exact n (List.mem_singleton.mp z)) e
 have tp:Tups Hi Hj:=fun b xs e=>k b _ (fun z=>by
  rcases List.mem_cons.mp z with z | z
  ·rw [z,m.w.rd] at e; cases e
  ·rw [List.mem_singleton.mp z,m.box] at e; cases e) e
 refine ⟨⟨e1,nx m.w.wd (Ne.symm p.b4),m.w.ok⟩,nx m.nm (Ne.symm p.b1),nx m.hd (Ne.symm p.b2),nx m.bd (Ne.symm p.b3),k _ _ (fun z => ?_) m.nu,m.cn.tups (fun xs e=>nx e (Ne.symm p.b5)) tp,e2,fun b xs e=>tp _ _ (m.tup _ _ e),fun b o nb e=>k b o (fun z => ?_) (m.keep b o nb e),fun b e=>m.live b (lv b e)⟩
 ·have:=m.nu
  rcases List.mem_cons.mp z with z | z
  ·rw [z,m.w.rd] at this; cases this
  ·rw [List.mem_singleton.mp z,m.box] at this; cases this
 ·rcases List.mem_cons.mp z with z | z
  ·exact nb (z ▸ chR_rd)
  ·rw [List.mem_singleton.mp z,p.bn] at e; cases e
theorem Mid.heads (m:Mid C A H Hi W num cnt bx bs a nv hds bds) (p:Apt A H bx) (hds':List Int):Mid C A H (upd Hi A.hd (.lst (hds'.map V.int))) W num cnt bx bs a nv hds' bds:=by
 have nx:∀ {b:Addr} {o:HO},b≠A.hd->Hi b=some o->upd Hi A.hd (.lst (hds'.map V.int)) b=some o:=fun n e=>by rw [zH n]; exact e
 have tp:Tups Hi (upd Hi A.hd (.lst (hds'.map V.int))):=fun b xs e=>nx (fun z=>by rw [z,m.hd] at e; cases e) e
 exact ⟨⟨nx (Ne.symm (m.w.ne m.hd)) m.w.rd,nx p.w2 m.w.wd,m.w.ok⟩,nx p.n1 m.nm,zC,nx (Ne.symm p.n3) m.bd,nx (fun z=>by have:=m.nu; rw [z,m.hd] at this; cases this) m.nu,m.cn.tups (fun xs e=>nx p.n5 e) tp,nx p.b2 m.box,fun b xs e=>tp _ _ (m.tup _ _ e),
  m.keep.trans (KeepL.upd chR_hd),yY m.live m.hd⟩
theorem Mid.same (m:Mid C A H Hi W num cnt bx bs a nv hds bds) (g:Same Hi Hj):Mid C A H Hj W num cnt bx bs a nv hds bds :=
 ⟨⟨g _ _ m.w.rd,g _ _ m.w.wd,m.w.ok⟩,g _ _ m.nm,g _ _ m.hd,g _ _ m.bd,g _ _ m.nu,m.cn.tups (fun xs e=>g _ _ e) fun b xs e=>g _ _ e,g _ _ m.box,fun b xs e=>g _ _ (m.tup _ _ e),m.keep.trans (KeepL.same g),fun b e=>m.live b (g.free e)⟩
theorem Mid.named (m:Mid C A H Hi W num cnt bx bs a nv hds bds) (p:Apt A H bx) (nv':List V):Mid C A H (upd Hi A.nm (.lst nv')) W num cnt bx bs a nv' hds bds:=by
 have nx:∀ {b:Addr} {o:HO},b≠A.nm->Hi b=some o->upd Hi A.nm (.lst nv') b=some o:=fun n e=>by rw [zH n]; exact e
 have tp:Tups Hi (upd Hi A.nm (.lst nv')):=fun b xs e=>nx (fun z=>by rw [z,m.nm] at e; cases e) e
 exact ⟨⟨nx (Ne.symm (m.w.ne m.nm)) m.w.rd,nx p.w1 m.w.wd,m.w.ok⟩,zC,nx (Ne.symm p.n1) m.hd,nx (Ne.symm p.n2) m.bd,nx (fun z=>by have:=m.nu; rw [z,m.nm] at this; cases this) m.nu,m.cn.tups (fun xs e=>nx p.n4 e) tp,nx p.b1 m.box,fun b xs e=>tp _ _ (m.tup _ _ e),
  m.keep.trans (KeepL.upd chR_nm),yY m.live m.nm⟩
theorem Mid.nd (m:Mid C A H Hi W num cnt bx bs a nv hds bds) (p:Apt A H bx) (le:a<=W.length) (few:bds.length<=2 * a):NdAt C A Hi bx W bs num cnt a bds :=
 ⟨m.w,m.box,m.nu,m.cn,m.bd,Ne.symm p.w3,Ne.symm p.b3,Ne.symm p.n6,le,few⟩
end
theorem ok_funR (T:Txt K mg aP aW aH CT CR) (F:Fun K "read_function" "read_function" yW f fd) (CNoText:CalX P w K mg base 1 "NoText" CT ["self", "at"] (spInit1 CT)) (Cdue:Cal P w K mg base (CXE P w) 3 "due" ["reading"] (spDueR CR CT))
  (Ctake_new_name:Cal P w K mg base (CXE P w) 4 "take_new_name" ["reading", "there"] (spNewR CR CT)) (Ctake_boxes:Cal P w K mg base (CXE P w) 5 "take_boxes" ["reading", "boxes", "most", "last"] (spBoxesR CR CT))
  (Cread_node:Cal P w K mg base (CXE P w) 17 "read_node" ["reading", "boxes", "deep"] (spNodeR CR CT 10)):FnOk P w K mg base (CXE P w) 18 f fd ["reading"] (spFunR CR CT):=by
 refine F.okX kJ (fun vs H Q E h => ?_) (fun cdv Ar outer s0 H vs Q E hr h => ?_)
 ·obtain ⟨A,W,num,cnt,s,rfl,_⟩ := h
  rfl
 obtain ⟨A,W,num,cnt,s,rfl,R,nok,q⟩ := h
 refine ⟨_,(zD (zZ (PW.pt (qS (zM op_ne (zJ Cdue hr rfl (zA (pv 0) zB) passX) zP (nomark _)) (qG (zM yQ (zU zT rfl T.n_len yN (zA (yI (pv 0) rfl) zB)) (yM rfl T.m_MOST_FUNCTIONS) (nomark _))))) (zI (xI CNoText hr rfl (zA (yI (pv 0) rfl) zB))) zR)
   (zD (kQ (pv 0) zE in_add)
   (zD (zN (i:=1) kJ.nd rfl (Or.inl rfl) (zJ Ctake_new_name hr rfl (zA (pv 0) (zA (wW (own:=["named"]) (ys:=[]) rfl (wE (yI (pv 0) rfl)) (jB (sc:=defScope yW) rfl (by decide +kernel)) .nil (fun _ _ _ _ _=>(zV (i:=0) (show List.Nodup [("named" : Str)] from (by decide +kernel)) rfl (Or.inl rfl))) (fun _ _ _ _ _=>wB) (fun _ _ _ _ _=>(yH (ix_tupK K rfl) (pv 0) zE (fun _ _=>rfl)))) zB)) passX))
   (zD (zN (i:=2) kJ.nd rfl (Or.inl rfl) (zK zB))
   (zD (yB (zJ Ctake_boxes hr rfl (zA (pv 0) (zA (pv 2) (zA (pe_ifV (pt_truth (yI (pv 0) rfl) (fun _=>rfl)) (yM rfl T.m_MOST_PARAMS) zE) (zA zP zB)))) passX))
   (zD (yB (yP PySem.F.plainAttrs_list PySem.F.slot_list_append PySem.F.type_list_append yJ (yI (pv 0) rfl) (zA (zU zT rfl T.n_len yN (zA (pv 2) zB)) zB)))
   (zD (yB (zJ Ctake_boxes hr rfl (zA (pv 0) (zA (pv 2) (zA (yM rfl T.m_MOST_BOXES) (zA zP zB)))) passX))
   (zD (yB (yP PySem.F.plainAttrs_list PySem.F.slot_list_append PySem.F.type_list_append yJ (yI (pv 0) rfl) (zA (zU zT rfl T.n_len yN (zA (pv 2) zB)) zB)))
   (zD (yB (yP PySem.F.plainAttrs_list PySem.F.slot_list_append PySem.F.type_list_append yJ (yI (pv 0) rfl) (zA (zQ (zA (pv 1) (zA (yV jN rfl T.n_tuple bt_tuple (zA (pv 2) zB)) zB))) zB)))
   (zI (yB (zJ Cread_node hr rfl (zA (pv 0) (zA (pv 2) (zA zE zB))) passX)))))))))))),?_⟩
 try dsimp only [Cx.nox,Cx.exc,Cx.wish,yG]
 obtain ⟨nv,env,pnv⟩ := R.nm
 have hnl:=Paired.len pnv
 refine ⟨_,rfl,A,W,s.at_,rfl,R.w,?_⟩
 unfold funR at q
 cases e1:W[s.at_]? with
 | none =>
  rw [e1] at q
  rw [show dueR W s.at_ = .error s.at_ by unfold dueR; rw [e1]]
  exact FailR.one q
 | some x =>
 rw [e1] at q
 dsimp only at q
 rw [show dueR W s.at_ = .ok x by unfold dueR; rw [e1]]
 have al:=get_lt e1
 have fail:Fails1 CT H E (s.at_:Int)->∀ (D:Ends) (σ:St),True:=fun _ _ _=>trivial
 refine ⟨rfl,_,rfl,?_⟩
 rw [eq_str]
 by_cases cx:x = "fun"
 ·rw [decide_eq_true cx]
  have hnv:((nv.length:Nat):Int)=(s.names.length:Int):=by (first|lia|omega)
  refine iteF ⟨_,rfl,A.rd,CR,A.dr,_,_,rfl,R.w.rd,T.cls,T.f_names,rfl,A.nm,_,rfl,.inl (.of env),rfl,_,rfl,ite2 (fun c => ?_) (fun c => ?_)⟩
  ·have c':=vt c
   rw [if_pos (.inr (by (first|lia|omega)))] at q
   exact ⟨_,rfl,A.rd,CR,A.dr,_,_,rfl,R.w.rd,T.cls,T.f_at,rfl,small (show 1<=1000 by decide),raised1 (FailR.one q)⟩
  have c':=vf c
  have nf:=R.nfew
  rw [if_neg (fun z=>z.elim (fun z=>z cx) (fun z=>by (first|lia|omega)))] at q
  refine ⟨_,rfl,A.rd,CR,A.dr,_,_,rfl,R.w.rd,T.cls,T.f_at,rfl,_,_,rfl,rfl,A.dr,_,R.w.rd,(show 7<1000 by decide),?_⟩
  have R1:=R.w.put (s.at_+1)
  have nm1:upd H A.rd (RdO CR A (s.at_+1)) A.nm=some (.lst nv):=by rw [zH (R.w.ne env)]; exact env
  have np1:∀ {b:Addr},upd H A.rd (RdO CR A (s.at_+1)) b=none->H b=none:=fun {b} e=>yY (fun _ z=>z) R.w.rd b e
  have k1:KeepL (chR A) H (upd H A.rd (RdO CR A (s.at_+1))):=KeepL.upd chR_rd
  have tp1:Tups H (upd H A.rd (RdO CR A (s.at_+1))):=fun b xs e=>by rw [zH (fun z=>by rw [z,R.w.rd] at e; cases e)]; exact e
  refine ⟨_,rfl,_,rfl,A.rd,CR,A.dr,_,_,rfl,zC,T.cls,T.f_names,rfl,A.nm,rfl,⟨_,.of nm1⟩,fun p hp => ?_⟩
  have pm:A.nm≠p:=zG nm1 hp
  have pr:A.rd≠p:=zG R1.rd hp
  refine comp_lst (xs:=nv) (fun i σ' H'=>H'=upd (upd H A.rd (RdO CR A (s.at_+1))) p (.lst (((s.names.map (·.1)).take i).map V.str))/\∃ x,σ'=[x]) ⟨rfl,_,rfl⟩ ?_ ?_ ?_
  ·rintro i σ' H' hi ⟨rfl,_⟩
   exact .of (by rw [zH pm]; exact nm1)
  ·rintro i v σ' H' hi hv ⟨rfl,x0,rfl⟩
   have hi2:i<s.names.length:=by (first|lia|omega)
   obtain ⟨t,b,rfl,et,eb⟩ := Paired.get pnv _ _ _ hv (List.getElem?_eq_getElem hi2)
   have et1:=tp1 _ _ et
   refine ⟨_,rfl,t,_,_,_,rfl,rfl,.of (by rw [zH (zG et1 hp)]; exact et1),rfl,_,zC,millionL ?_,CW.next hi ⟨?_,_,rfl⟩⟩
   ·rw [List.length_map]
    have:=List.length_take_le i (s.names.map (·.1))
    (first|lia|omega)
   ·rw [qH,List.take_succ,List.getElem?_map,List.getElem?_eq_getElem hi2,List.map_append]
    rfl
  rintro σ' H' ⟨rfl,_⟩
  rw [List.take_of_length_le (by rw [List.length_map]; (first|lia|omega))]
  have s2:Same (upd H A.rd (RdO CR A (s.at_+1))) (upd (upd H A.rd (RdO CR A (s.at_+1))) p (.lst ((s.names.map (·.1)).map V.str))):=zF hp _
  have R2:RdW CR A W (upd (upd H A.rd (RdO CR A (s.at_+1))) p (.lst ((s.names.map (·.1)).map V.str))) (s.at_+1):=⟨s2 _ _ R1.rd,s2 _ _ R1.wd,R1.ok⟩
  refine ⟨A,W,s.at_+1,p,s.names.map (·.1),rfl,R2,zC,?_⟩
  cases e2:newR W (s.at_+1) (s.names.map (·.1)) with
  | error n=>rw [e2] at q; exact (FailR.mono q (k1.trans (KeepL.same s2))).one
  | ok name =>
  rw [e2] at q
  dsimp only at q
  have R3:=R2.put (s.at_+1+1)
  refine ⟨small (show 0<=1000 by decide),fun bx hb => ?_⟩
  have s4:=zF hb (.lst [])
  have kb:∀ {b:Addr} {o:HO},b≠A.rd->H b=some o->upd (upd (upd (upd H A.rd (RdO CR A (s.at_+1))) p (.lst ((s.names.map (·.1)).map V.str))) A.rd (RdO CR A (s.at_+1+1))) bx (.lst []) b=some o:=fun {b o} n e =>
   s4 _ _ (by rw [zH n]; exact s2 _ _ (by rw [zH n]; exact e))
  have lv4:∀ b,upd (upd (upd (upd H A.rd (RdO CR A (s.at_+1))) p (.lst ((s.names.map (·.1)).map V.str))) A.rd (RdO CR A (s.at_+1+1))) bx (.lst []) b=none->H b=none:=fun b e=>np1 (s2.free (yY (fun _ z=>z) R2.rd b (s4.free e)))
  have hbn:H bx=none:=np1 (s2.free (yY (fun _ z=>z) R2.rd bx hb))
  have ap:Apt A H bx:=⟨R.n1,R.n2,R.n3,R.n4,R.n5,R.n6,R.w1,R.w2,R.w3,Ne.symm (zG env hbn),Ne.symm (zG R.hd hbn),Ne.symm (zG R.bd hbn),Ne.symm (zG R.w.wd hbn),Ne.symm (by obtain ⟨vs,e,_⟩ := R.cn; exact zG e hbn),hbn⟩
  have tp4:Tups H (upd (upd (upd (upd H A.rd (RdO CR A (s.at_+1))) p (.lst ((s.names.map (·.1)).map V.str))) A.rd (RdO CR A (s.at_+1+1))) bx (.lst [])):=fun b xs e=>kb (fun z=>by rw [z,R.w.rd] at e; cases e) e
  have M:Mid CR A H (upd (upd (upd (upd H A.rd (RdO CR A (s.at_+1))) p (.lst ((s.names.map (·.1)).map V.str))) A.rd (RdO CR A (s.at_+1+1))) bx (.lst [])) W num cnt bx [] (s.at_+2) nv s.heads s.bodies :=
   ⟨⟨s4 _ _ R3.rd,s4 _ _ R3.wd,R.w.ok⟩,kb (R.w.ne env) env,kb (R.w.ne R.hd) R.hd,kb (R.w.ne R.bd) R.bd,kb (fun z=>by have:=R.nu; rw [z,R.w.rd] at this; cases this) R.nu,R.cn.tups (fun xs e=>kb (R.w.ne e) e) tp4,zC,tp4,fun b o nb e=>kb (fun z=>nb (z ▸ chR_rd)) e,lv4⟩
  generalize upd (upd (upd (upd H A.rd (RdO CR A (s.at_+1))) p (.lst ((s.names.map (·.1)).map V.str))) A.rd (RdO CR A (s.at_+1+1))) bx (.lst [])=H4 at M
  clear s4 kb lv4 tp4 s2 R2 R3
  obtain ⟨mo,emo⟩ : ∃ mo:Nat,mo=(if s.names=[] then 0 else 4):=⟨_,rfl⟩
  rw [<- emo] at q
  have hmo:mo<=4:=by rw [emo]; split <;> (first|lia|omega)
  have em:(if (!nv.isEmpty)=true then V.int 4 else V.int 0)=V.int (mo:Int):=by
   cases en:s.names with
   | nil=>rw [en] at hnl emo; rw [List.eq_nil_of_length_eq_zero hnl,emo]; rfl
   | cons a b =>
    rw [en] at hnl emo
    cases nv with
    | nil=>cases hnl
    | cons x y=>rw [emo]; rfl
  refine ⟨_,rfl,_,rfl,_,rfl,A.rd,CR,A.dr,_,_,rfl,M.w.rd,T.cls,T.f_names,rfl,_,.inl ⟨nv,.of M.nm,rfl⟩,A,W,s.at_+2,bx,[],mo, "with",by rw [em]; rfl,M.w,M.box,ap.b4,Nat.zero_le _,by (first|lia|omega),?_⟩
  cases e3:boxesR W mo "with" (W.length+1) (s.at_+2) [] with
  | error n=>rw [e3] at q; exact M.fail q hbn
  | ok z =>
  rw [e3] at q
  dsimp only at q
  intro H5 k5 lv5 rd5 bx5
  have M5:=M.boxes ap k5 lv5 rd5 bx5
  obtain ⟨zl,_,zg,zw⟩ := kW _ _ _ _ e3 (Nat.zero_le _)
  have hf:=R.hfew
  have lh:(s.heads.map V.int).length=s.heads.length:=List.length_map ..
  have lz:((z.2.map V.str).length:Int)=(z.2.length:Int):=by rw [List.length_map]
  refine ⟨_,rfl,A.rd,CR,A.dr,_,_,rfl,M5.w.rd,T.cls,T.f_heads,rfl,.inl ⟨rfl,_,.of M5.hd⟩,_,rfl,bx,_,rfl,.inl (.of M5.box),A.hd,_,_,rfl,rfl,M5.hd,millionL (by (first|lia|omega)),?_⟩
  rw [lz]
  have M6:=M5.heads ap (s.heads++[(z.2.length:Int)])
  rw [List.map_append] at M6
  refine ⟨_,rfl,_,rfl,A,W,z.1,bx,z.2,12, "is",rfl,M6.w,M6.box,ap.b4,by (first|lia|omega),by (first|lia|omega),?_⟩
  cases e4:boxesR W 12 "is" (W.length+1) z.1 z.2 with
  | error n=>rw [e4] at q; exact M6.fail q hbn
  | ok r =>
  rw [e4] at q
  dsimp only at q
  intro H7 k7 lv7 rd7 bx7
  have M7:=M6.boxes ap k7 lv7 rd7 bx7
  obtain ⟨rl,_,rg,rw'⟩ := kW _ _ _ _ e4 (by (first|lia|omega))
  have lr:((r.2.map V.str).length:Int)=(r.2.length:Int):=by rw [List.length_map]
  refine ⟨_,rfl,A.rd,CR,A.dr,_,_,rfl,M7.w.rd,T.cls,T.f_heads,rfl,.inl ⟨rfl,_,.of M7.hd⟩,_,rfl,bx,_,rfl,.inl (.of M7.box),A.hd,_,_,rfl,rfl,M7.hd,millionL (by rw [List.length_map,List.length_append]; show s.heads.length+1<=_; (first|lia|omega)),?_⟩
  rw [lr]
  have M8:=M7.heads ap (s.heads++[(z.2.length:Int)]++[(r.2.length:Int)])
  rw [List.map_append] at M8
  refine ⟨_,rfl,A.rd,CR,A.dr,_,_,rfl,M8.w.rd,T.cls,T.f_names,rfl,.inl ⟨rfl,_,.of M8.nm⟩,_,rfl,_,rfl,bx,_,rfl,.inl ⟨.of M8.box,fun bt hbt=>⟨small (show 2<=1000 by decide),fun t ht => ?_⟩⟩⟩
  have sa:=zF hbt (.tup (r.2.map V.str))
  have sb:=zF ht (.tup [.str name,.ref bt])
  have M9:=M8.same (sa.trans sb)
  have et9:=(show upd (upd (upd H7 A.hd (.lst ((s.heads++[(z.2.length:Int)]).map V.int++[V.int (r.2.length:Int)]))) bt (.tup (r.2.map V.str))) t (.tup [.str name,.ref bt]) t=some (.tup [.str name,.ref bt]) from zC)
  have eb9:=sb _ _ (show upd (upd H7 A.hd (.lst ((s.heads++[(z.2.length:Int)]).map V.int++[V.int (r.2.length:Int)]))) bt (.tup (r.2.map V.str)) bt=some (.tup (r.2.map V.str)) from zC)
  have M9':Mid CR A H _ W num cnt bx r.2 r.1 nv (s.heads++[(z.2.length:Int)]++[(r.2.length:Int)]) s.bodies:=M9
  refine ⟨A.nm,_,_,rfl,rfl,M9.nm,millionL (by (first|lia|omega)),?_⟩
  have M10:=M9.named ap (nv++[.ref t])
  have tp10:∀ {b:Addr} {xs:List V},upd (upd (upd H7 A.hd (.lst ((s.heads++[(z.2.length:Int)]).map V.int++[V.int (r.2.length:Int)]))) bt (.tup (r.2.map V.str))) t (.tup [.str name,.ref bt]) b=some (.tup xs)->upd (upd (upd (upd H7 A.hd (.lst ((s.heads++[(z.2.length:Int)]).map V.int++[V.int (r.2.length:Int)]))) bt (.tup (r.2.map V.str))) t (.tup [.str name,.ref bt])) A.nm (.lst (nv++[.ref t])) b=some (.tup xs):=fun {b xs} e=>by
   rw [zH (fun z=>by rw [z,M9.nm] at e; cases e)]; exact e
  have et10:=tp10 et9
  have eb10:=tp10 eb9
  generalize upd (upd (upd (upd H7 A.hd (.lst ((s.heads++[(z.2.length:Int)]).map V.int++[V.int (r.2.length:Int)]))) bt (.tup (r.2.map V.str))) t (.tup [.str name,.ref bt])) A.nm (.lst (nv++[.ref t]))=H10 at *
  have fw:=R.few
  refine ⟨_,rfl,_,rfl,A,bx,W,r.2,num,cnt,r.1,s.bodies,rfl,by (first|lia|omega),M10.nd ap (by (first|lia|omega)) (by (first|lia|omega)),nok,?_⟩
  cases e5:nodeR W num cnt r.2 10 r.1 s.bodies with
  | error n =>
   rw [e5] at q
   exact (FailR.mono q M10.keep).sub (fun y hy=>by
    rcases List.mem_cons.mp hy with z | z
    ·exact z ▸ chR_rd
    ·exact (List.mem_singleton.mp z) ▸ chR_bd)
  | ok y =>
  rw [e5] at q
  dsimp only at q
  intro H11 k11 lv11 N11
  have tp11:Tups H10 H11:=fun b xs e=>k11 b _ (fun z=>by
   rcases List.mem_cons.mp z with z | z
   ·rw [z,M10.w.rd] at e; cases e
   ·rw [List.mem_singleton.mp z,M10.bd] at e; cases e) e
  have ls11:∀ {b:Addr} {xs:List V},b≠A.bd->H10 b=some (.lst xs)->H11 b=some (.lst xs):=fun {b xs} n e=>k11 b _ (fun z=>by
   rcases List.mem_cons.mp z with z | z
   ·exact M10.w.ne e z
   ·exact n (List.mem_singleton.mp z)) e
  refine q H11 (M10.keep.trans (fun b o nb e=>k11 b o (fun z=>by
    rcases List.mem_cons.mp z with z | z
    ·exact nb (z ▸ chR_rd)
    ·exact nb ((List.mem_singleton.mp z) ▸ chR_bd)) e)) (fun b e=>M10.live b (lv11 b e))
   ⟨N11.w,⟨_,ls11 ap.n2 M10.nm,Paired.snoc (Paired.imp (fun v p z=>NmAt.tups (NmAt.tups z M10.tup) tp11) pnv) ⟨t,bt,rfl,tp11 _ _ et10,tp11 _ _ eb10⟩⟩,?_,N11.bd,N11.nu,N11.cn,R.n1,R.n2,R.n3,R.n4,R.n5,R.n6,R.w1,R.w2,R.w3,N11.le,N11.few,?_,?_⟩
  ·have:=ls11 ap.n3 M10.hd
   rw [List.append_assoc] at this
   exact this
  ·show (s.heads++_).length=2 * (s.names++_).length
   rw [List.length_append,List.length_append]
   show s.heads.length+2=2 * (s.names.length+1)
   (first|lia|omega)
  ·show (s.names++_).length<=16
   rw [List.length_append]
   show s.names.length+1<=16
   (first|lia|omega)
 ·rw [if_pos (.inl cx)] at q
  rw [decide_eq_false cx]
  exact iteT ⟨_,rfl,A.rd,CR,A.dr,_,_,rfl,R.w.rd,T.cls,T.f_at,rfl,small (show 1<=1000 by decide),raised1 (FailR.one q)⟩

end
section
variable {P:Program} {w:World} {K:PySem.W.Frag} {mg:Str->Option Value} {base:Heap} {f:Addr} {fd:FuncData} {aP aW aH CT CR:Addr}
set_option maxHeartbeats 4000000

theorem lookN_app {x:Str} {f:Int} {n:Str} {g:Int}:∀ {acc:List (Str × Int)},lookN (acc++[(n,g)]) x=some f->lookN acc x=some f\/f=g
 | [],h=>by
  simp only [List.nil_append,lookN] at h
  split at h
  ·cases h; exact .inr rfl
  ·cases h
 | p :: r,h=>by
  rw [List.cons_append] at h
  unfold lookN at h ⊢
  split at h
  ·rename_i c; rw [if_pos c]; exact .inl h
  ·rename_i c; rw [if_neg c]; exact lookN_app h
theorem numG_there:∀ (l:List Str) (g:Int) (acc:List (Str × Int)) (n:Nat) (x:Str) (f:Int),lookN (numG l g acc) x=some f->lookN acc x=some f\/g<=f/\f<g+((cntG l n).2.length:Int)
 | [],g,acc,n,x,f,h => .inl h
 | w :: r,g,acc,n,x,f,h=>by
  unfold numG at h
  unfold cntG
  dsimp only
  split at h
  ·rename_i c
   rw [if_pos c,List.length_cons]
   have ih:=numG_there r (g+1) _ (n+1) x f h
   rcases ih with ih | ih
   ·split at ih
    ·exact .inl ih
    ·split at ih
     ·exact .inl ih
     ·rcases lookN_app ih with z | z
      ·exact .inl z
      ·exact .inr ⟨by (first|lia|omega),by (first|lia|omega)⟩
   ·exact .inr ⟨by (first|lia|omega),by (first|lia|omega)⟩
  ·rename_i c
   rw [if_neg c]
   exact numG_there r g acc (n+1) x f h
theorem cntG_near:∀ (l:List Str) (n:Nat),(n:Int)<=(cntG l n).1/\(cntG l n).1<=n+l.length/\∀ c∈(cntG l n).2,-2<=c/\c<=n+l.length
 | [],n=>⟨Int.le_refl _,by show (n:Int)<=n+((0:Nat):Int); (first|lia|omega),fun c h=>by cases h⟩
 | w :: r,n=>by
  obtain ⟨i1,i2,i3⟩ := cntG_near r (n+1)
  have e1:(n:Int)<=(cntG (w :: r) n).1/\(cntG (w :: r) n).1<=n+(w :: r).length:=by
   unfold cntG
   dsimp only
   rw [List.length_cons]
   split <;> (first|lia|omega)
  refine ⟨e1.1,e1.2,fun c hc => ?_⟩
  have e2:=e1
  unfold cntG at hc e2
  dsimp only at hc e2
  rw [List.length_cons] at e2 ⊢
  split at hc
  ·rcases List.mem_cons.mp hc with z | z
   ·(first|lia|omega)
   ·have:=i3 c z; (first|lia|omega)
  ·have:=i3 c hc; (first|lia|omega)
theorem num_ok {W:List Str} (h:W.length<=1000000):NumOk (numN W) (cntN W):=by
 refine ⟨fun x f e => ?_,fun c hc => ?_⟩
 ·rcases numG_there W 0 [] 0 x f e with z | ⟨z1,z2⟩
  ·cases z
  ·unfold cntN; (first|lia|omega)
 ·have:=(cntG_near W 0).2.2 c hc
  (first|lia|omega)
theorem funR_goes {W:List Str} {num:List (Str × Int)} {cnt:List Int} {s s':RS} (h:funR W num cnt s = .ok s'):s.at_<s'.at_:=by
 unfold funR at h
 split at h
 ·cases h
 split at h
 ·cases h
 split at h
 ·cases h
 split at h
 ·cases h
 rename_i q e2
 split at h
 ·cases h
 rename_i r e3
 split at h
 ·cases h
 rename_i z e4
 cases h
 obtain ⟨_,_,g1,g2⟩ := kW _ _ _ _ e2 (Nat.zero_le _)
 obtain ⟨_,_,g3,g4⟩ := kW _ _ _ _ e3 (Nat.le_trans (kW _ _ _ _ e2 (Nat.zero_le _)).1 (by split <;> (first|lia|omega)))
 have:=node_goes 10 r.1 s.bodies z g4 e4
 show s.at_<z.1
 (first|lia|omega)
structure TextOk (t:Str):Prop where
 len:t.length<=1000000
 rep:(Txt.replace t "\n" " ").length<=1000000
 spl:(Txt.split (Txt.replace t "\n" " ") " ").length<=2000000
 ok:WOk (wordsT t)
def ReadAt (H':Hp) (p sp:Addr) (s:RS):Prop:=∃ np vs,H' p=some (.tup [.ref np,.ref sp])/\H' np=some (.tup vs)/\Paired (NmAt H') vs s.names/\H' sp=some (.lst ((sheetR s).map V.int))
def spReadT (CT:Addr):Sp:=fun vs H Q E=>∃ t:Str,vs=[.str t]/\TextOk t/\EndR (fun s=>∀ p sp H',Same H H'->ReadAt H' p sp s->H sp=none->Q (.ref p) H') (fun n=>Fails1 CT H E (n:Int)) (readR (wordsT t))
theorem ok_readT (T:Txt K mg aP aW aH CT CR) (F:Fun K "read_text" "read_text" jC f fd) (CNoText:CalX P w K mg base 1 "NoText" CT ["self", "at"] (spInit1 CT)) (Cwords_of:Cal P w K mg base (CXE P w) 1 "words_of" ["text"] spWordsOf)
  (CReading:CalK P w K mg base (CXE P w) 2 "Reading" CR ["self", "words"] (spInitR CR)) (Cread_function:Cal P w K mg base (CXE P w) 18 "read_function" ["reading"] (spFunR CR CT)):FnOk P w K mg base (CXE P w) 19 f fd ["text"] (spReadT CT):=by
 refine F.okX qI (fun vs H Q E h => ?_) (fun cdv Ar outer s0 H vs Q E hr h => ?_)
 ·obtain ⟨t,rfl,_⟩ := h
  rfl
 obtain ⟨t,rfl,ok,q⟩ := h
 refine ⟨_,(zD (zZ (kG (jF (zU call_isi rfl T.n_isinstance xM (zA (pv 0) (zA (pe_bltn (v:=.ty "str") rfl T.n_str bt_str rfl) zB))))) (zI (xI CNoText hr rfl (zA zE zB))) zR)
   (zD (zN (i:=1) qI.nd rfl (Or.inl rfl) (pe_makeC CReading hr rfl (zA (zJ Cwords_of hr rfl (zA (pv 0) zB) passX) zB) passX))
   (zD (yB (zJ Cread_function hr rfl (zA (pv 1) zB) passX))
   (zD (ps_while (own_fly rfl rfl) (zM op_lt (yI (pv 1) rfl) (zU zT rfl T.n_len yN (zA (yI (pv 1) rfl) zB)) (nomark _)) (zI (yB (zJ Cread_function hr rfl (zA (pv 1) zB) passX))))
   (zI (zS (zQ (zA (yV jN rfl T.n_tuple bt_tuple (zA (yI (pv 1) rfl) zB)) (zA (zL yA (zL yA (zK (zA (zU zT rfl T.n_len yN (zA (yI (pv 1) rfl) zB)) zB)) (yI (pv 1) rfl)) (yI (pv 1) rfl)) zB))))))))),?_⟩
 try dsimp only [Cx.nox,Cx.exc,Cx.wish,yG]
 refine ⟨_,rfl,.inl ⟨_,_,_,true,rfl,.str t,T.kstr,_,rfl,iteF ?_⟩⟩
 refine ⟨_,rfl,t,rfl,ok.len,ok.rep,ok.spl,fun wd H1 hwd s1 e1 => ?_⟩
 have hW:=ok.ok
 generalize wordsT t=W at *
 intro rd dr h1 h2 h3
 have nd:wd≠dr:=zG e1 h2
 have nr:wd≠rd:=zG e1 h1
 refine ⟨rd,dr,wd,W,rfl,zC,by rw [zH nr,zH nd]; exact e1,hW.few,fun A H2 er ed ew M=>⟨rfl,?_⟩⟩
 subst er ed ew
 have sH:Same H H2:=fun b o e=>by
  have e':=s1 _ _ e
  have n:b≠A.rd:=zG e' h1
  exact M.keep _ _ n (by rw [zH n,zH (zG e' h2)]; exact e')
 have wd2:H2 A.wd=some (.lst (W.map V.str)):=M.keep _ _ nr (by rw [zH nr,zH nd]; exact e1)
 have free:∀ {b:Addr},upd (upd H1 A.dr (.own A.rd)) A.rd (.ins CR A.dr []) b=none->b≠A.wd/\H b=none:=fun {b} e=>by
  have n1:b≠A.rd:=fun z=>by rw [z,zC] at e; cases e
  rw [zH n1] at e
  have n2:b≠A.dr:=fun z=>by rw [z,zC] at e; cases e
  rw [zH n2] at e
  exact ⟨(fun z=>by rw [z,e1] at e; cases e),s1.free e⟩
 have nok:=num_ok hW.few
 have R0:FnR CR A H2 W (numN W) (cntN W) ⟨0,[],[],[]⟩ := ⟨⟨M.rd,wd2,hW⟩,⟨[],M.nm,.nil⟩,M.hd,M.bd,M.nu,M.cn,M.n1,M.n2,M.n3,M.n4,M.n5,M.n6,Ne.symm (free M.f1).1,Ne.symm (free M.f2).1,Ne.symm (free M.f3).1,Nat.zero_le _,Nat.le_refl _,rfl,Nat.zero_le _⟩
 have nc:∀ x∈chR A,H x=none:=fun x hx=>by
  rcases List.mem_cons.mp hx with z | hx
  ·rw [z]; exact s1.free h1
  rcases List.mem_cons.mp hx with z | hx
  ·rw [z]; exact (free M.f3).2
  rcases List.mem_cons.mp hx with z | hx
  ·rw [z]; exact (free M.f1).2
  ·rw [List.mem_singleton.mp hx]; exact (free M.f2).2
 have sK:∀ {G:Hp},KeepL (chR A) H2 G->Same H G:=fun k b o e=>k b o (fun z=>by rw [nc b z] at e; cases e) (sH _ _ e)
 have fl:∀ {n:Nat},Fails1 CT H E (n:Int)->FailR CT (chR A) H2 E n:=fun f d H' g e=>f d H' (sK g) e
 unfold readR at q
 refine ⟨_,rfl,A,W,numN W,cntN W,_,rfl,R0,nok,?_⟩
 cases e2:funR W (numN W) (cntN W) ⟨0,[],[],[]⟩ with
 | error n=>rw [e2] at q; exact fl q
 | ok s =>
 rw [e2] at q
 dsimp only at q
 intro H3 k3 lv3 R3
 generalize er:funsR W (numN W) (cntN W) W.length s=res at q
 refine ⟨fun m σ' H'=>∃ s',σ'=[some (.str t),some (.ref A.rd)]/\KeepL (chR A) H2 H'/\FnR CR A H' W (numN W) (cntN W) s'/\funsR W (numN W) (cntN W) m s'=res/\W.length<=s'.at_+m,⟨W.length,s,rfl,k3,R3,er,Nat.le_add_left _ _⟩,?_⟩
 rintro m σ' H' ⟨s',rfl,k',R',em,hm⟩
 have lW:((W.map V.str).length:Int)=(W.length:Int):=by rw [List.length_map]
 refine ⟨_,rfl,A.rd,CR,A.dr,_,_,rfl,R'.w.rd,T.cls,T.f_at,rfl,_,rfl,A.rd,CR,A.dr,_,_,rfl,R'.w.rd,T.cls,T.f_words,rfl,A.wd,_,rfl,.inl (.of R'.w.wd),_,_,rfl,rfl,_,rfl,ite2 (fun c => ?_) (fun c => ?_)⟩
 ·have c':=of_decide_eq_true c
  obtain ⟨m,rfl⟩ : ∃ m',m=m'+1:=⟨m - 1,by (first|lia|omega)⟩
  unfold funsR at em
  rw [if_pos (by (first|lia|omega))] at em
  refine ⟨_,fun σ2 H2 z=>z,?_⟩
  refine ⟨_,rfl,A,W,numN W,cntN W,s',rfl,R',nok,?_⟩
  cases e3:funR W (numN W) (cntN W) s' with
  | error n =>
   rw [e3] at em
   rw [<- em] at q
   exact FailR.mono (fl q) k'
  | ok s2 =>
   rw [e3] at em
   dsimp only at em
   have:=funR_goes e3
   exact fun H4 k4 lv4 R4=>⟨m,Nat.lt_succ_self m,s2,rfl,k'.trans k4,R4,em,by (first|lia|omega)⟩
 ·have c':=df c
  have ee:res = .ok s':=by
   rw [<- em]
   cases m with
   | zero=>rfl
   | succ m=>unfold funsR; rw [if_neg (by (first|lia|omega))]
  rw [ee] at q
  obtain ⟨nv,env,pnv⟩ := R'.nm
  have hnl:=Paired.len pnv
  have nf:=R'.nfew
  have hf:=R'.hfew
  have bf:=R'.few
  have le:=R'.le
  have wf:=hW.few
  refine ⟨_,rfl,A.rd,CR,A.dr,_,_,rfl,R'.w.rd,T.cls,T.f_names,rfl,A.nm,nv,rfl,.inl ⟨.of env,fun np hnp => ?_⟩⟩
  have g1:=zF hnp (.tup nv)
  refine ⟨_,rfl,A.rd,CR,A.dr,_,_,rfl,g1 _ _ R'.w.rd,T.cls,T.f_names,rfl,A.nm,_,rfl,.inl (.of (g1 _ _ env)),small (show 1<=1000 by decide),fun l0 h0 => ?_⟩
  have g2:=g1.trans (zF h0 (.lst [.int (nv.length:Int)]))
  refine ⟨_,rfl,A.rd,CR,A.dr,_,_,rfl,g2 _ _ R'.w.rd,T.cls,T.f_heads,rfl,l0,A.hd,_,_,rfl,rfl,zC,g2 _ _ R'.hd,million (by rw [List.length_map]; show 1+_<=_; (first|lia|omega)),fun l1 h1 => ?_⟩
  have g3:=g2.trans (zF h1 (.lst ([.int (nv.length:Int)]++s'.heads.map V.int)))
  refine ⟨_,rfl,A.rd,CR,A.dr,_,_,rfl,g3 _ _ R'.w.rd,T.cls,T.f_bodies,rfl,l1,A.bd,_,_,rfl,rfl,zC,g3 _ _ R'.bd,million (by rw [List.length_append,List.length_map,List.length_map]; show 1+_+_<=_; (first|lia|omega)),fun l2 h2=>⟨small (show 2<=1000 by decide),fun p hp => ?_⟩⟩
  have s34:=zF h2 (.lst ([.int (nv.length:Int)]++s'.heads.map V.int++s'.bodies.map V.int))
  have g4:=g3.trans s34
  have s45:=zF hp (.tup [.ref np,.ref l2])
  have g5:=g4.trans s45
  have lv2:H l2=none:=(sK k').free (g3.free h2)
  have enp:upd H' np (.tup nv) np=some (.tup nv):=zC
  refine q p l2 _ ((sK k').trans g5) ⟨np,nv,zC,?_,Paired.imp (fun v x z=>NmAt.tups z fun b xs e=>g5 _ _ e) pnv,?_⟩ lv2
  ·exact s45 _ _ (s34 _ _ ((zF h1 _) _ _ ((zF h0 _) _ _ enp)))
  ·rw [s45 _ _ zC]
   unfold sheetR
   rw [List.map_cons,List.map_append,<- hnl]
   rfl

end
section
variable {P:Program} {w:World} {K:PySem.W.Frag} {mg:Str->Option Value} {base:Heap} {f:Addr} {fd:FuncData} {aP aW aH CT CR:Addr}
set_option maxHeartbeats 4000000

structure TxtL (K:PySem.W.Frag) (mg:Str->Option Value):Prop where
 n_len:mg "len" = none
 n_range:mg "range" = none
 n_int:mg "int" = none
 n_str:mg "str" = none
 n_all:mg "all" = none
 n_list:mg "list" = none
 n_bool:mg "bool" = none
 n_tuple:mg "tuple" = none
 n_isinstance:mg "isinstance" = none
 klist:PySem.W.kitOne K (.type "list") (.type "list")=some true
 ktup:PySem.W.kitOne K (.type "tuple") (.type "tuple")=some true
 kint:PySem.W.kitOne K (.type "int") (.type "int")=some true
 kbool:PySem.W.kitOne K (.type "int") (.type "bool")=some false
def spPen3 (K:PySem.W.Frag):Sp:=fun vs H Q _=>∃ (a:Addr) (ns:List Int) (k:Int),vs=[.ref a,.int k]/\0<=k/\k<1000/\Scr K H a ns/\ns.length<=63/\∀ st H',H st=none->Same H H'->Pen3 H' st 0->Q (.ref st) H'
theorem pm29:(0:Int)<2147483629:=by decide
theorem pm87:(0:Int)<2147483587:=by decide
theorem modb1 (x:Int) : -(2 ^ 64)<x % 2147483629/\x % 2147483629<2 ^ 64:=by
 have a1:=Int.emod_nonneg x (show (2147483629:Int)≠0 by decide)
 have a2:=Int.emod_lt_of_pos x pm29
 (first|lia|omega)
theorem modb2 (x:Int) {t:Int} (h0 : 0<=t) (h1:t<=1000001) : -(2 ^ 64)<x % 2147483587+7919 * t/\x % 2147483587+7919 * t<2 ^ 64:=by
 have a1:=Int.emod_nonneg x (show (2147483587:Int)≠0 by decide)
 have a2:=Int.emod_lt_of_pos x pm87
 (first|lia|omega)
theorem ok_pen3 (T:TxtL K mg) (F:Fun K "_law_pen" "_law_pen" kP f fd):FnOk P w K mg base (CXE P w) 1 f fd ["_law_script", "_law_k"] (spPen3 K):=by
 refine F.okN wA (fun vs H Q E h => ?_) (fun cdv A outer s H vs Q E hr h => ?_)
 ·obtain ⟨a,ns,k,rfl,_⟩ := h
  rfl
 obtain ⟨a,ns,k,rfl,k0,k1,hs,hl,q⟩ := h
 refine ⟨_,(zD (zN (i:=2) wA.nd rfl (Or.inl rfl) (zL yX (zL wI zE (pv 1)) zE))
   (zD (wU (zZ (zM op_lt (pv 1) (zU zT rfl T.n_len yN (zA (pv 0) zB)) (nomark _)) (zI (zN (i:=2) wA.nd rfl (Or.inl rfl) (yH yD (pv 0) (pv 1) (fun _ _=>rfl)))) (zI (zZ (zM op_gt (zU zT rfl T.n_len yN (zA (pv 0) zB)) zE (nomark _)) (zI (zN (i:=2) wA.nd rfl (Or.inl rfl) (zL yX (zL wJ (yH yD (pv 0) (zL wJ (pv 1) (zU zT rfl T.n_len yN (zA (pv 0) zB))) (fun _ _=>rfl)) zE) (zL wI zE (pv 1))))) zR))))
   (zD (zZ (zM op_ge (pv 2) (zL op_pow zE zE) (nomark _)) (zI (zS (zK (zA (zL jL (pv 2) (zL op_pow zE zE)) (zA (zL wJ (pv 2) zE) (zA zE zB)))))) zR)
   (zI (zS (zK (zA zE (zA (zL wJ (pv 2) zE) (zA zE zB))))))))),?_⟩
 try dsimp only [Cx.nox,Cx.exc,Cx.wish,yG]
 refine ⟨_,rfl,_,_,rfl,rfl,.inl ⟨by decide,by decide⟩,_,_,rfl,rfl,?_⟩
 have hlen:((ns.map V.int).length:Int)=ns.length:=by rw [List.length_map]
 refine ⟨fun σ' H'=>H'=H/\∃ x:Int,σ'=[some (.ref a),some (.int k),some (.int x)],?_,?_⟩
 ·refine ⟨_,rfl,_,rfl,a,_,rfl,.inl hs.sq,_,_,rfl,rfl,_,rfl,ite2 (fun c => ?_) (fun c => ?_)⟩
  ·have c':=of_decide_eq_true c
   obtain ⟨v,hv⟩ := atI_int (ns:=ns) (k:=k) k0 (by (first|lia|omega))
   exact ⟨_,rfl,_,rfl,a,_,_,_,rfl,rfl,hs.sq,hv,rfl,_,rfl⟩
  ·refine ⟨_,rfl,a,_,rfl,.inl hs.sq,_,_,rfl,rfl,_,rfl,ite2 (fun c2 => ?_) (fun c2=>⟨rfl,_,rfl⟩)⟩
   have c2':=of_decide_eq_true c2
   obtain ⟨v,hv⟩ := atI_int (ns:=ns) (k:=k % ((ns.map V.int).length:Int)) (Int.emod_nonneg _ (by (first|lia|omega))) (by rw [<- hlen]; exact Int.emod_lt_of_pos _ (by (first|lia|omega)))
   exact ⟨_,rfl,_,rfl,_,rfl,a,_,rfl,.inl hs.sq,_,_,rfl,rfl,by (first|lia|omega),a,_,_,_,rfl,rfl,hs.sq,hv,_,_,rfl,rfl,pm29,_,rfl,_,_,rfl,rfl,.inl ⟨by decide,by decide⟩,_,_,rfl,rfl,rfl,_,rfl⟩
 rintro _ _ ⟨rfl,x,rfl⟩
 rename_i H
 refine ⟨_,rfl,_,_,rfl,rfl,⟨by decide,by decide,by decide⟩,_,_,rfl,rfl,_,rfl,ite2 (fun c => ?_) (fun c => ?_)⟩
 ·have c':=of_decide_eq_true c
  refine ⟨_,rfl,_,_,rfl,rfl,⟨by decide,by decide,by decide⟩,_,_,rfl,rfl,_,rfl,_,_,rfl,rfl,pm87,small (show 3<=1000 by decide),fun st hst => ?_⟩
  exact q _ _ hst (zF hst _) ⟨_,_,_,zC,by (first|lia|omega),by decide,by decide⟩
 ·refine ⟨_,rfl,_,_,rfl,rfl,pm87,small (show 3<=1000 by decide),fun st hst => ?_⟩
  exact q _ _ hst (zF hst _) ⟨_,_,_,zC,by decide,by decide,by decide⟩
theorem ok_draw3 (F:Fun K "_law_draw" "_law_draw" jX f fd):FnOk P w K mg base (CXE P w) 1 f fd ["_law_pen_here", "_law_many"] spDraw3:=by
 refine F.okN kB (fun vs H Q E h => ?_) (fun cdv A outer s H vs Q E hr h => ?_)
 ·obtain ⟨st,many,m,rfl,_⟩ := h
  rfl
 obtain ⟨st,many,m,rfl,hm0,hm1,mb,⟨c,sd,t,e,c0,t0,tm⟩,q⟩ := h
 refine ⟨_,(zD (qT (zL yX (yH yD (pv 0) zE (fun _ _=>rfl)) zE) (pg_sub (pv 0) zE set_list))
   (zD (zZ (zM op_gt (yH yD (pv 0) zE (fun _ _=>rfl)) zE (nomark _)) (zD (zN (i:=2) kB.nd rfl (Or.inl rfl) (zL wJ (yH yD (pv 0) zE (fun _ _=>rfl)) (pv 1)))
   (zD (qT (zL op_fdivB (yH yD (pv 0) zE (fun _ _=>rfl)) (pv 1)) (pg_sub (pv 0) zE set_list))
   (zI (zS (pv 2))))) zR)
   (zD (zN (i:=3) kB.nd rfl (Or.inl rfl) (zL wJ (zL yX (zL yX (yH yD (pv 0) zE (fun _ _=>rfl)) (zL wI zE (yH yD (pv 0) zE (fun _ _=>rfl)))) zE) zE))
   (zD (zN (i:=3) kB.nd rfl (Or.inl rfl) (zL yX (zL wJ (zL wI (pv 3) (pv 3)) zE) (zL wI zE (yH yD (pv 0) zE (fun _ _=>rfl)))))
   (zD (zN (i:=3) kB.nd rfl (Or.inl rfl) (zL wJ (zL wI (pv 3) (pv 3)) zE))
   (zI (zS (zL wJ (zL op_fdivB (pv 3) zE) (pv 1))))))))),?_⟩
 try dsimp only [Cx.nox,Cx.exc,Cx.wish,yG]
 refine ⟨_,rfl,st,_,_,_,rfl,rfl,.of e,rfl,_,_,rfl,rfl,_,rfl,st,_,_,_,rfl,rfl,e,rfl,?_⟩
 have e1:upd H st (.lst [.int c,.int sd,.int (t+1)]) st=some (.lst [.int c,.int sd,.int (t+1)]):=zC
 have k1:Keep st H (upd H st (.lst [.int c,.int sd,.int (t+1)])):=Keep.upd
 refine ⟨_,rfl,st,_,_,_,rfl,rfl,.of e1,rfl,_,_,rfl,rfl,_,rfl,ite2 (fun c2 => ?_) (fun c2 => ?_)⟩
 ·refine ⟨_,rfl,st,_,_,_,rfl,rfl,.of e1,rfl,_,rfl,_,_,rfl,rfl,hm0,?_⟩
  refine ⟨_,rfl,st,_,_,_,rfl,rfl,.of e1,rfl,_,rfl,_,_,rfl,rfl,divB hm0 (Int.lt_trans hm1 (by decide)),_,rfl,st,_,_,_,rfl,rfl,e1,rfl,?_⟩
  exact ⟨_,rfl,q _ _ (Int.emod_nonneg _ (by (first|lia|omega))) (Int.emod_lt_of_pos _ hm0) ⟨⟨_,_,_,zC,Int.ediv_nonneg c0 (by (first|lia|omega)),by (first|lia|omega),by (first|lia|omega)⟩,k1.trans Keep.upd⟩⟩
 ·refine ⟨_,rfl,st,_,_,_,rfl,rfl,.of e1,rfl,_,rfl,st,_,_,_,rfl,rfl,.of e1,rfl,_,_,rfl,rfl,.inl ⟨by decide,by decide⟩,_,_,rfl,rfl,_,_,rfl,rfl,_,_,rfl,rfl,pm29,?_⟩
  refine ⟨_,rfl,_,rfl,_,_,rfl,rfl,.inl (modb1 _),_,_,rfl,rfl,pm87,_,rfl,st,_,_,_,rfl,rfl,.of e1,rfl,_,_,rfl,rfl,.inl ⟨by decide,by decide⟩,_,_,rfl,rfl,?_⟩
  refine ⟨_,rfl,_,rfl,_,_,rfl,rfl,.inl (modb2 _ (t:=t+1) (by (first|lia|omega)) (by (first|lia|omega))),_,_,rfl,rfl,pm29,?_⟩
  refine ⟨_,rfl,_,_,rfl,rfl,divB (by decide) (by decide),_,rfl,_,_,rfl,rfl,hm0,?_⟩
  exact q _ _ (Int.emod_nonneg _ (by (first|lia|omega))) (Int.emod_lt_of_pos _ hm0) ⟨⟨_,_,_,e1,c0,by (first|lia|omega),by (first|lia|omega)⟩,k1⟩

end
section
variable {P:Program} {w:World} {K:PySem.W.Frag} {mg:Str->Option Value} {base:Heap} {f:Addr} {fd:FuncData} {aP aW aH CT CR:Addr}
set_option maxHeartbeats 4000000

def spWordsL:Sp:=fun vs H Q _=>vs=[]/\∀ p H',H p=none->Same H H'->H' p=some (.lst (kwA.map V.str))->Q (.ref p) H'
theorem ok_wordsL (F:Fun K "_law_words" "_law_words" jI f fd):FnOk P w K mg base (CXE P w) 1 f fd [] spWordsL:=by
 refine F.okN sc__law_words (fun vs H Q E h => ?_) (fun cdv A outer s H vs Q E hr h => ?_)
 ·obtain ⟨rfl,_⟩ := h
  rfl
 obtain ⟨rfl,q⟩ := h
 refine ⟨_,(zD (zN (i:=0) sc__law_words.nd rfl (Or.inl rfl) zP)
   (zI (zS (yP PySem.F.plainAttrs_str PySem.F.slot_str_split PySem.F.type_str_split mt_split (pv 0) (zA zP zB))))),?_⟩
 try dsimp only [Cx.nox,Cx.exc,Cx.wish,yG]
 refine ⟨_,rfl,rfl,_, " ",rfl,rfl,rfl,million (by decide),?_,?_⟩
 ·rw [words_split]; exact small (by decide)
 ·rw [words_split]
  exact fun p hp=>q p _ hp (zF hp _) zC
def spNameL:Sp:=fun vs H Q _=>∃ (st tk:Addr) (ts:List Str) (m:Int),vs=[.ref st,.ref tk]/\Pen3 H st m/\m<=100000/\H tk=some (.lst (ts.map V.str))/\tk≠st/\ts.length<=24 /\
 ∀ nm H',okName nm=true->nm ∉ ts->Penned3 st (m+10) H H'->Q (.str nm) H'
theorem ok_nameL (T:TxtL K mg) (F:Fun K "_law_name" "_law_name" jE f fd) (C_law_draw:Cal P w K mg base (CXE P w) 1 "_law_draw" ["_law_pen_here", "_law_many"] spDraw3) (C_law_words:Cal P w K mg base (CXE P w) 1 "_law_words" [] spWordsL) :
  FnOk P w K mg base (CXE P w) 2 f fd ["_law_pen_here", "_law_taken"] spNameL:=by
 refine F.okN qK (fun vs H Q E h => ?_) (fun cdv A outer s H vs Q E hr h => ?_)
 ·obtain ⟨st,tk,ts,m,rfl,_⟩ := h
  rfl
 obtain ⟨st,tk,ts,m,rfl,D,m0,htk,ntk,hts,q⟩ := h
 refine ⟨_,(zD (zN (i:=2) qK.nd rfl (Or.inr rfl) zP)
   (zD (zN (i:=3) qK.nd rfl (Or.inl rfl) (yH yD (zK (zA zE (zA zE (zA zE (zA zE (zA zE (zA (zL yX zE (zJ C_law_draw hr rfl (zA (pv 0) (zA zE zB)) passN)) zB))))))) (zJ C_law_draw hr rfl (zA (pv 0) (zA zE zB)) passN) (fun _ _=>rfl)))
   (zD (ps_setcomp (i:=4) qK.nd rfl rfl  (own:=["_law_k"]) (ys:=["_law_letters", "_law_pen_here"]) rfl (jY rfl T.n_range (zA (pv 3) zB)) (jB (sc:=defScope jE) rfl (by decide +kernel)) (.cons (j:=2) rfl (.cons (j:=0) rfl .nil)) (fun _ _ _ _ _=>(zV (i:=0) (show List.Nodup [("_law_k" : Str),("_law_letters" : Str),("_law_pen_here" : Str)] from (by decide +kernel)) rfl (Or.inl rfl))) (fun _ _ _ _ _=>wB) (fun _ _ _ _ _=>(yH ix_str (pv 1) (zJ C_law_draw hr rfl (zA (pv 2) (zA zE zB)) passN) (fun _ _=>rfl))))
   (zD (ps_while PassesOwn.never (zM qQ (yP PySem.F.plainAttrs_str PySem.F.slot_str_join PySem.F.type_str_join wF zP (zA (pv 4) zB)) (zL yA (pv 1) (pe_callC0 C_law_words hr rfl passN)) rfl) (zI (qT (yH ix_str (pv 2) (zL wJ (zL yX (yP PySem.F.plainAttrs_str PySem.F.slot_str_index PySem.F.type_str_index mt_indexs (pv 2) (zA (yH yD (pv 4) (pe_un un_neg zE) (fun _ _=>rfl)) zB)) zE) zE) (fun _ _=>rfl)) (pg_sub (pv 4) (pe_un un_neg zE) set_list))))
   (zI (zS (yP PySem.F.plainAttrs_str PySem.F.slot_str_join PySem.F.type_str_join wF zP (zA (pv 4) zB)))))))),?_⟩
 try dsimp only [Cx.nox,Cx.exc,Cx.wish,yG]
 refine ⟨_,rfl,st,8,m,rfl,by decide,by decide,by (first|lia|omega),D,fun r8 H1 r0 r1 D1=>⟨_,_,rfl,rfl,small (show 6<=1000 by decide),fun o ho => ?_⟩⟩
 have D2:=D1.trans (D1.pen.new ho (.lst [.int 1,.int 1,.int 2,.int 3,.int 8,.int (1+r8)]))
 refine ⟨_,rfl,st,6,m+1,rfl,by decide,by decide,by (first|lia|omega),D2.pen,fun r6 H3 p0 p1 D3 => ?_⟩
 have eo:H3 o=some (.lst [.int 1,.int 1,.int 2,.int 3,.int 8,.int (1+r8)]):=D3.keep _ _ (Ne.symm (D1.pen.ne ho)) zC
 obtain ⟨sz,esz,z1,z8⟩ : ∃ sz:Int,atI [V.int 1,.int 1,.int 2,.int 3,.int 8,.int (1+r8)] r6=some (.int sz)/\1<=sz/\sz<=8:=by
  have:r6=0\/r6=1\/r6=2\/r6=3\/r6=4\/r6=5:=by (first|lia|omega)
  rcases this with rfl | rfl | rfl | rfl | rfl | rfl
  ·exact ⟨1,rfl,by decide,by decide⟩
  ·exact ⟨1,rfl,by decide,by decide⟩
  ·exact ⟨2,rfl,by decide,by decide⟩
  ·exact ⟨3,rfl,by decide,by decide⟩
  ·exact ⟨8,rfl,by decide,by decide⟩
  ·exact ⟨1+r8,rfl,by (first|lia|omega),by (first|lia|omega)⟩
 refine ⟨o,_,_,_,rfl,rfl,.of eo,esz,?_⟩
 have D13:=D2.trans D3
 refine ⟨_,rfl,_,rfl,by (first|lia|omega),by (first|lia|omega),fun p hp => ?_⟩
 have npt:p≠st:=Ne.symm (D3.pen.ne hp)
 refine comp_rng (lo:=0) (n:=sz.toNat) (fs:=[some (.str lettersS),some (.ref st)]) (fun j ys H'=>Penned3 st (m+2+j) H3 H'/\∃ cs:List Nat,H' p=some (.lst ((cs.map oneW).map V.str))/\cs.length=j/\∀ c∈cs,97<=c/\c<=122) ⟨(D3.pen.new hp _).mono (by (first|lia|omega)),[],zC,rfl,fun c hc=>(nomatch hc)⟩ ?_ ?_
 ·rintro j ys H' hj ⟨D',cs,ep,hl,hc⟩
  refine ⟨_,rfl,_,rfl,st,26,m+2+j,rfl,by decide,by decide,by (first|lia|omega),D'.pen,fun r H4 q0 q1 D4 => ?_⟩
  have hr:r.toNat<26:=by (first|lia|omega)
  have al:atI lettersS.cps.toList r=some (97+r.toNat):=kX q0 (by rw [wG,List.getElem?_map,List.getElem?_range hr]; rfl)
  refine ⟨lettersS,r,_,rfl,rfl,million (by decide),al,_,D4.keep _ _ npt ep,millionL (by rw [List.length_map,List.length_map]; (first|lia|omega)),CompW.next (ys:=ys) hj ⟨?_,cs++[97+r.toNat],?_,?_,?_⟩⟩
  ·refine ⟨(D4.pen.put npt).mono (by (first|lia|omega)),fun b v nb e => ?_⟩
   have nbp:b≠p:=zG e hp
   rw [zH nbp]
   exact D4.keep _ _ nb (D'.keep _ _ nb e)
  ·rw [zC,List.map_append,List.map_append]; rfl
  ·rw [List.length_append]; show cs.length+1=j+1; (first|lia|omega)
  ·intro c hm
   rcases List.mem_append.mp hm with z | z
   ·exact hc c z
   ·rw [List.mem_singleton.mp z]; (first|lia|omega)
 rintro ys H4 ⟨D4,cs,ep,hl,hc⟩
 have D14:=D13.trans D4
 obtain ⟨pre,last,rfl⟩ : ∃ pre last,cs=pre++[last]:=by
  have:cs≠[]:=fun z=>by rw [z] at hl; have:([]:List Nat).length=0:=rfl; (first|lia|omega)
  exact ⟨cs.dropLast,cs.getLast this,(List.dropLast_concat_getLast this).symm⟩
 have hlast:=hc last (List.mem_append_right _ (List.mem_singleton.mpr rfl))
 obtain ⟨j0,rfl⟩ : ∃ j0,last=97+j0:=⟨last - 97,by (first|lia|omega)⟩
 obtain ⟨ks,hks,hfree⟩ := free_name pre j0 ts hts
 have hp1:pre.length+1=sz.toNat:=by rw [<- hl,List.length_append]; rfl
 have tk4:H4 tk=some (.lst (ts.map V.str)):=D14.keep _ _ ntk htk
 have hpc:∀ c∈pre,97<=c/\c<=122:=fun c h=>hc c (List.mem_append_left _ h)
 have hpH:H p=none:=D13.free hp
 refine ⟨fun mm σ' H'=>∃ k,k<=ks/\mm=ks - k/\σ'=[some (.ref st),some (.ref tk),some (.str lettersS),some (.int sz),some (.ref p)]/\Penned3 st (m+10) H H'/\H' p=some (.lst (((pre++[97+(j0+k) % 26]).map oneW).map V.str)),⟨ks,0,Nat.zero_le _,rfl,rfl,D14.mono (by (first|lia|omega)),?_⟩,?_⟩
 ·rw [ep,Nat.add_zero,Nat.mod_eq_of_lt (by (first|lia|omega))]
 rintro mm σ' H' ⟨k,hk,rfl,rfl,D',ep'⟩
 have hlen:(((pre++[97+(j0+k) % 26]).map oneW).map (·.length)).sum<=100:=by
  have:∀ l:List Nat,((l.map oneW).map (·.length)).sum=l.length:=fun l=>by
   induction l with
   | nil=>rfl
   | cons c l ih=>rw [List.map_cons,List.map_cons,List.sum_cons,ih,List.length_cons]; show 1+_=_; (first|lia|omega)
  rw [this,List.length_append]
  show pre.length+1<=100
  (first|lia|omega)
 have tk':H' tk=some (.lst (ts.map V.str)):=D'.keep _ _ ntk htk
 have ls:((pre++[97+(j0+k) % 26]).map oneW).length<=100:=by rw [List.length_map,List.length_append]; show pre.length+1<=100; (first|lia|omega)
 refine ⟨rfl,_,rfl, "",p,_,rfl,rfl,.of ep',(show _+_ * 0<=16777216 by (first|lia|omega)),?_⟩
 rw [txt_ones]
 refine ⟨_,rfl,rfl,fun wl H5 hw s5 e5=>⟨tk,wl,_,_,rfl,rfl,s5 _ _ tk',e5,?_,fun c hc2=>⟨c,_,rfl,.inl (.of zC),rfl,?_,_,rfl,?_⟩⟩⟩
 ·rw [List.length_map,List.length_map]
  exact small (show ts.length+21<=1000 by (first|lia|omega))
 ·rw [<- List.map_append]; exact xJ _
 rw [<- List.map_append,kI]
 have s6:=s5.trans (zF hc2 (.lst ((ts++kwA).map V.str)))
 have D6:=D'.trans (D'.pen.more s6)
 have ep6:=s6 _ _ ep'
 refine ite2 (fun c2 => ?_) (fun c2 => ?_)
 ·have mem:=of_decide_eq_true c2
  have hk2:k<ks:=Nat.lt_of_le_of_ne hk (fun z=>hfree (z ▸ mem))
  refine ⟨_,fun σ2 H2 z=>z,?_⟩
  have hj:(j0+k) % 26<26:=Nat.mod_lt _ (by decide)
  have hj2:(((j0+k) % 26:Nat)+1:Int) % 26=(((j0+(k+1)) % 26:Nat):Int):=by (first|lia|omega)
  have hj3:(j0+(k+1)) % 26<26:=Nat.mod_lt _ (by decide)
  have al:atI lettersS.cps.toList ((((j0+k) % 26:Nat)+1:Int) % 26)=some (97+(j0+(k+1)) % 26):=by
   rw [hj2]
   exact qB (by rw [wG,List.getElem?_map,List.getElem?_range hj3]; rfl)
  have el:atI (((pre++[97+(j0+k) % 26]).map oneW).map V.str) (-1)=some (.str (oneW (97+(j0+k) % 26))):=by
   rw [List.map_append,List.map_append]
   exact atI_last _ _
  refine ⟨_,rfl,_,rfl,rfl,_,rfl,_,rfl,p,_,_,_,rfl,rfl,.of ep6,el,lettersS,_,_,_,rfl,rfl,idx_letter ⟨(j0+k) % 26,hj⟩,_,_,rfl,rfl,_,_,rfl,rfl,(show (0:Int)<26 by decide),lettersS,_,_,rfl,rfl,million (by decide),al,?_⟩
  have ei:ixN (((pre++[97+(j0+k) % 26]).map oneW).map V.str).length (-1)=some pre.length:=by
   rw [List.length_map,List.length_map,List.length_append]
   unfold ixN
   rw [if_neg (by decide),if_pos (by show -((pre.length+1:Nat):Int) <= -1; (first|lia|omega))]
   congr 1
   show (-1+((pre.length+1:Nat):Int)).toNat=pre.length
   (first|lia|omega)
  refine ⟨_,rfl,_,rfl,p,_,_,_,rfl,rfl,ep6,ei,ks - (k+1),by (first|lia|omega),k+1,by (first|lia|omega),rfl,rfl,?_,?_⟩
  ·refine ⟨D6.pen.put npt,fun b v nb e => ?_⟩
   rw [zH (zG e hpH)]
   exact D6.keep _ _ nb e
  ·rw [zC,List.map_append,List.map_append,List.map_append,List.map_append,List.set_append_right _ _ (by rw [List.length_map,List.length_map]; exact Nat.le_refl _)]
   rw [List.length_map,List.length_map,Nat.sub_self]
   rfl
 ·have nmem:=of_decide_eq_false (Bool.eq_false_iff.mpr c2)
  refine ⟨rfl,_,rfl, "",p,(pre++[97+(j0+k) % 26]).map oneW,rfl,rfl,.of ep6,(show _+_ * 0<=16777216 by (first|lia|omega)),?_⟩
  rw [txt_ones]
  refine q _ _ (okName_of (fun c h => ?_) ?_ ?_ (fun z=>nmem (List.mem_append_right _ z))) (fun z=>nmem (List.mem_append_left _ z)) ?_
  ·rcases List.mem_append.mp h with z | z
   ·exact hpc c z
   ·rw [List.mem_singleton.mp z]; have:=Nat.mod_lt (j0+k) (show 0<26 by decide); (first|lia|omega)
  ·rw [List.length_append]; exact Nat.le_add_left 1 _
  ·rw [List.length_append]; show pre.length+1<=8; (first|lia|omega)
  ·exact D6

end
section
variable {P:Program} {w:World} {K:PySem.W.Frag} {mg:Str->Option Value} {base:Heap} {f:Addr} {fd:FuncData} {aP aW aH CT CR:Addr}
set_option maxHeartbeats 4000000

def Few60 (n:Int):Prop:=n.natAbs<10 ^ 60
theorem wH {n:Int} (h0 : -5000<=n) (h1:n<=5000):Few60 n:=Nat.lt_trans (show n.natAbs<5001 by (first|lia|omega)) (by decide +kernel)
theorem few60_far {d e:Int} (d0 : 0<=d) (d1:d<10 ^ 6) (e0 : 0<=e) (e1:e<2):Few60 ((10 ^ 60 - 1 - d) * (1 - 2 * e)):=by
 unfold Few60
 have b1:(10:Int) ^ 6<10 ^ 60:=by decide +kernel
 have b2:((10:Int) ^ 60)=((10 ^ 60:Nat):Int):=by norm_cast
 have:e=0\/e=1:=by (first|lia|omega)
 rcases this with rfl | rfl
 ·rw [show (1 - 2 * 0:Int)=1 from rfl,Int.mul_one]
  generalize (10:Int) ^ 60=G at *
  generalize (10:Nat) ^ 60=B at *
  (first|lia|omega)
 ·rw [show (1 - 2 * 1:Int) = -1 from rfl,Int.mul_neg,Int.mul_one]
  generalize (10:Int) ^ 60=G at *
  generalize (10:Nat) ^ 60=B at *
  (first|lia|omega)
theorem oneTwo {e:Int} (e0 : 0<=e) (e1:e<2) : -(2 ^ 64)<1 - 2 * e/\1 - 2 * e<2 ^ 64:=by (first|lia|omega)
def spNumberL:Sp:=fun vs H Q _=>∃ (st:Addr) (far:Bool) (m:Int),vs=[.ref st,.bl far]/\m<=500000/\Pen3 H st m/\∀ (n:Int) (H':Hp),Few60 n->Penned3 st (m+3) H H'->Q (.int n) H'
theorem ok_numberL (F:Fun K "_law_number" "_law_number" xZ f fd) (C_law_draw:Cal P w K mg base (CXE P w) 1 "_law_draw" ["_law_pen_here", "_law_many"] spDraw3):FnOk P w K mg base (CXE P w) 2 f fd ["_law_pen_here", "_law_is_far"] spNumberL:=by
 refine F.okN sc__law_number (fun vs H Q E h => ?_) (fun cdv A outer s H vs Q E hr h => ?_)
 ·obtain ⟨st,far,m,rfl,_⟩ := h
  rfl
 obtain ⟨st,far,m,rfl,mb,D,q⟩ := h
 refine ⟨_,(zD (zN (i:=2) sc__law_number.nd rfl (Or.inl rfl) (zJ C_law_draw hr rfl (zA (pv 0) (zA zE zB)) passN))
   (zD (zZ (zM op_lt (pv 2) zE (nomark _)) (zI (zS (zL jL (zJ C_law_draw hr rfl (zA (pv 0) (zA zE zB)) passN) zE))) zR)
   (zD (zZ (PW.pt (qS (zM yQ (pv 2) zE (nomark _)) (qG (kG (jF (pv 1)))))) (zI (zS (zL jL (zJ C_law_draw hr rfl (zA (pv 0) (zA zE zB)) passN) zE))) zR)
   (zI (zS (zL wI (zL jL (zL jL (zL op_pow zE zE) zE) (zJ C_law_draw hr rfl (zA (pv 0) (zA (zL op_pow zE zE) zB)) passN)) (zL jL zE (zL wI zE (zJ C_law_draw hr rfl (zA (pv 0) (zA zE zB)) passN))))))))),?_⟩
 try dsimp only [Cx.nox,Cx.exc,Cx.wish,yG]
 refine ⟨_,rfl,st,6,m,rfl,by decide,by decide,by (first|lia|omega),D,fun r H1 r0 r1 D1 => ?_⟩
 have mid:∃ (e:V),e = .ref st/\spDraw3 [e,.int 2001] H1 (fun v H2=>∃ (i j:Int),v = .int i/\V.int 1000 = .int j/\Q (.int (i - j)) H2) E:=⟨_,rfl,st,2001,m+1,rfl,by decide,by decide,by (first|lia|omega),D1.pen,fun x H2 x0 x1 D2=>⟨_,_,rfl,rfl,q _ _ (wH (by (first|lia|omega)) (by (first|lia|omega))) ((D1.trans D2).mono (by (first|lia|omega)))⟩⟩
 refine ⟨_,rfl,_,_,rfl,rfl,_,rfl,ite2 (fun c => ?_) (fun c => ?_)⟩
 ·exact ⟨_,rfl,st,12,m+1,rfl,by decide,by decide,by (first|lia|omega),D1.pen,fun x H2 x0 x1 D2=>⟨_,_,rfl,rfl,q _ _ (wH (by (first|lia|omega)) (by (first|lia|omega))) ((D1.trans D2).mono (by (first|lia|omega)))⟩⟩
 obtain ⟨e,rfl,st',many,m',ev,k1,k2,k3,k4,k5⟩ := mid
 refine ⟨_,rfl,rfl,_,rfl,ite2 (fun c=>iteT ?_) (fun c => ?_)⟩
 ·exact ⟨_,rfl,st,2001,m+1,rfl,by decide,by decide,by (first|lia|omega),D1.pen,fun x H2 x0 x1 D2=>⟨_,_,rfl,rfl,q _ _ (wH (by (first|lia|omega)) (by (first|lia|omega))) ((D1.trans D2).mono (by (first|lia|omega)))⟩⟩
 refine ⟨_,rfl,_,rfl,?_⟩
 cases far with
 | false=>exact iteT ⟨_,rfl,st,2001,m+1,rfl,by decide,by decide,by (first|lia|omega),D1.pen,fun x H2 x0 x1 D2=>⟨_,_,rfl,rfl,q _ _ (wH (by (first|lia|omega)) (by (first|lia|omega))) ((D1.trans D2).mono (by (first|lia|omega)))⟩⟩
 | true =>
  refine iteF ?_
  refine ⟨_,_,rfl,rfl,⟨by decide,by decide,by decide⟩,_,_,rfl,rfl,_,rfl,_,_,rfl,rfl,⟨by decide,by decide,by decide⟩,st,_,m+1,rfl,by decide,by decide,by (first|lia|omega),D1.pen,fun d H2 d0 d1 D2 => ?_⟩
  refine ⟨_,_,rfl,rfl,_,rfl,st,2,m+2,rfl,by decide,by decide,by (first|lia|omega),D2.pen.mono (by (first|lia|omega)),fun e H3 e0 e1 D3 => ?_⟩
  refine ⟨_,_,rfl,rfl,.inl ⟨by decide,by decide⟩,_,_,rfl,rfl,_,_,rfl,rfl,.inr (oneTwo e0 e1),?_⟩
  exact q _ _ (few60_far d0 d1 e0 e1) ((D1.trans (D2.trans D3)).mono (by (first|lia|omega)))

end
section
variable {P:Program} {w:World} {K:PySem.W.Frag} {mg:Str->Option Value} {base:Heap} {f:Addr} {fd:FuncData} {aP aW aH CT CR:Addr}
set_option maxHeartbeats 4000000

def H3At (H:Hp) (v:V) (h:Hd3):Prop:=∃ t b,v = .ref t/\H t=some (.tup [.str h.1,.ref b,.int (h.2.2:Int)])/\H b=some (.tup (h.2.1.map V.str))
theorem H3At.tups {H H':Hp} {v:V} {h:Hd3} (x:H3At H v h) (g:Tups H H'):H3At H' v h:=by
 obtain ⟨t,b,rfl,e1,e2⟩ := x
 exact ⟨t,b,rfl,g _ _ e1,g _ _ e2⟩
def HdsR (H:Hp) (l:Addr) (hs:List Hd3):Prop:=∃ vs,H l=some (.lst vs)/\Paired (H3At H) vs hs
structure HdsG (hs:List Hd3):Prop where
 all:∀ h∈hs,HdOk h
 nd:(hs.map (·.1)).Nodup
 ne:hs≠[]
 few:hs.length<=16
 first:∀ h,hs[0]? = some h->h.2.2=0
theorem qD {st:Addr} {m n:Int} {H H':Hp} (D:Pen3 H st n) (p:Penned3 st m H H'):Tups H H':=fun b xs e=>p.keep b _ (fun z=>by obtain ⟨ys,ey⟩ := D.is; rw [z,ey] at e; cases e) e
def spHeadsL3:Sp:=fun vs H Q _=>∃ (st:Addr) (most m:Int),vs=[.ref st,.int most]/\0<most/\most<=16/\Pen3 H st m/\m<=10000/\∀ l hs H',Penned3 st (m+3000) H H'->HdsR H' l hs->HdsG hs->(hs.length:Int)<=most->H l=none->Q (.ref l) H'
theorem ok_headsL3 (T:TxtL K mg) (F:Fun K "_law_heads" "_law_heads" jK f fd) (C_law_draw:Cal P w K mg base (CXE P w) 1 "_law_draw" ["_law_pen_here", "_law_many"] spDraw3) (C_law_name:Cal P w K mg base (CXE P w) 2 "_law_name" ["_law_pen_here", "_law_taken"] spNameL) :
  FnOk P w K mg base (CXE P w) 3 f fd ["_law_pen_here", "_law_most"] spHeadsL3:=by
 refine F.okN yZ (fun vs H Q E h => ?_) (fun cdv A outer s H vs Q E hr h => ?_)
 ·obtain ⟨st,most,m,rfl,_⟩ := h
  rfl
 obtain ⟨st,most,m,rfl,o0,o1,D,m0,q⟩ := h
 refine ⟨_,(zD (zN (i:=2) yZ.nd rfl (Or.inl rfl) (zK zB))
   (zD (zN (i:=3) yZ.nd rfl (Or.inl rfl) (zK zB))
   (zD (kH PassesOwn.never rfl (jY rfl T.n_range (zA (zL yX zE (zJ C_law_draw hr rfl (zA (pv 0) (zA (pv 1) zB)) passN)) zB)) (zV (i:=4) yZ.nd rfl (Or.inl rfl)) (zD (zN (i:=5) yZ.nd rfl (Or.inl rfl) (zJ C_law_name hr rfl (zA (pv 0) (zA (pv 3) zB)) passN))
   (zD (yB (yP PySem.F.plainAttrs_list PySem.F.slot_list_append PySem.F.type_list_append yJ (pv 3) (zA (pv 5) zB)))
   (zD (zN (i:=6) yZ.nd rfl (Or.inl rfl) (zL wI (zJ C_law_draw hr rfl (zA (pv 0) (zA zE zB)) passN) (yV call_int1 rfl T.n_int bt_int (zA (qA op_gt (pv 4) zE (nomark _)) zB))))
   (zD (zN (i:=7) yZ.nd rfl (Or.inl rfl) (zK zB))
   (zD (kH PassesOwn.never rfl (jY rfl T.n_range (zA (zL yX (pv 6) (zJ C_law_draw hr rfl (zA (pv 0) (zA (yH yD (zK (zA zE (zA (zL jL zE (pv 6)) zB))) (yV call_int1 rfl T.n_int bt_int (zA (qA yQ (zJ C_law_draw hr rfl (zA (pv 0) (zA zE zB)) passN) zE (nomark _)) zB)) (fun _ _=>rfl)) zB)) passN)) zB)) (zV (i:=8) yZ.nd rfl (Or.inl rfl)) (zI (yB (yP PySem.F.plainAttrs_list PySem.F.slot_list_append PySem.F.type_list_append yJ (pv 7) (zA (zJ C_law_name hr rfl (zA (pv 0) (zA (pv 7) zB)) passN) zB)))))
   (zI (yB (yP PySem.F.plainAttrs_list PySem.F.slot_list_append PySem.F.type_list_append yJ (pv 2) (zA (zQ (zA (pv 5) (zA (yV jN rfl T.n_tuple bt_tuple (zA (pv 7) zB)) (zA (pv 6) zB)))) zB))))))))))
   (zI (zS (pv 2)))))),?_⟩
 try dsimp only [Cx.nox,Cx.exc,Cx.wish,yG]
 refine ⟨small (show 0<=1000 by decide),fun fo hf=>⟨small (show 0<=1000 by decide),fun tk ht => ?_⟩⟩
 have D1:=D.new hf (.lst [])
 have D2:=D1.trans (D1.pen.new ht (.lst []))
 have nft:fo≠tk:=fun z=>by rw [<- z,zC] at ht; cases ht
 have hkt:H tk=none:=(zF hf (.lst [])).free ht
 have nfs:fo≠st:=Ne.symm (D.ne hf)
 have nts:tk≠st:=Ne.symm (D.ne hkt)
 refine ⟨_,rfl,_,rfl,st,most,m,rfl,o0,by (first|lia|omega),by (first|lia|omega),D2.pen,fun r H3 r0 r1 D3=>⟨_,_,rfl,rfl,_,rfl,by (first|lia|omega),by (first|lia|omega),?_⟩⟩
 have D23:=D2.trans D3
 refine kU (fun i σ' H'=>∃ (hs:List Hd3) (vs:List V) (v4 v5 v6 v7 v8:Option V),σ'=[some (.ref st),some (.int most),some (.ref fo),some (.ref tk),v4,v5,v6,v7,v8]/\Penned3 st (m+1+140 * i) H H'/\H' fo=some (.lst vs)/\Paired (H3At H') vs hs/\H' tk=some (.lst ((hs.map (·.1)).map V.str))/\hs.length=i /\
  (∀ h∈hs,HdOk h)/\(hs.map (·.1)).Nodup/\∀ h,hs[0]? = some h->h.2.2=0) ⟨[],[],_,_,_,_,_,rfl,D23.mono (by (first|lia|omega)),?_,.nil,?_,rfl,fun h hh=>(nomatch hh),.nil,fun h hh=>(nomatch hh)⟩ ?_ ?_
 ·exact D3.keep _ _ nfs (by rw [zH nft]; exact zC)
 ·exact D3.keep _ _ nts zC
 ·rintro i σ' H' hi ⟨hs,vs,v4,v5,v6,v7,v8,rfl,D',ef,pv,et,hl,hok,hnd,hfst⟩
  have hi16:i<16:=by (first|lia|omega)
  refine ⟨_,rfl,_,rfl,st,tk,hs.map (·.1),m+1+140 * i,rfl,D'.pen,by (first|lia|omega),et,nts,by rw [List.length_map]; (first|lia|omega),fun nm H4 ok nin D4 => ?_⟩
  have et4:=D4.keep _ _ nts et
  have ef4:=D4.keep _ _ nfs ef
  refine ⟨_,rfl,.inl ⟨rfl,_,.of et4⟩,_,rfl,tk,_,_,rfl,rfl,et4,small1000 (by rw [List.length_map,List.length_map]; (first|lia|omega)),?_⟩
  have D5:Penned3 st (m+1+140 * i+10) H (upd H4 tk (.lst ((hs.map (·.1)).map V.str++[.str nm]))):=⟨(D'.trans D4).pen.put nts,fun b o nb e=>by rw [zH (zG e hkt)]; exact (D'.trans D4).keep _ _ nb e⟩
  have ef5:upd H4 tk (.lst ((hs.map (·.1)).map V.str++[.str nm])) fo=some (.lst vs):=by rw [zH nft]; exact ef4
  have tp5:Tups H' (upd H4 tk (.lst ((hs.map (·.1)).map V.str++[.str nm]))):=fun b xs e=>by
   have:=qD D'.pen D4 b xs e
   rw [zH (fun z=>by rw [z,et4] at this; cases this)]
   exact this
  have et5:upd H4 tk (.lst ((hs.map (·.1)).map V.str++[.str nm])) tk=some (.lst ((hs.map (·.1)).map V.str++[.str nm])):=zC
  generalize upd H4 tk (.lst ((hs.map (·.1)).map V.str++[.str nm]))=H5 at *
  refine ⟨_,rfl,st,5,m+1+140 * i+10,rfl,by decide,by decide,by (first|lia|omega),D5.pen,fun r5 H6 a0 a1 D6 => ?_⟩
  have ef6:=D6.keep _ _ nfs ef5
  have et6:=D6.keep _ _ nts et5
  have tp6:=qD D5.pen D6
  refine ⟨_,rfl,_,_,rfl,rfl,.inr ⟨_,rfl,_,_,rfl,rfl,.inl (by (first|lia|omega)),?_⟩⟩
  obtain ⟨p,ep,p4,pz⟩ : ∃ p:Nat,r5 * (if decide ((0:Int)<0+(i:Int))=true then 1 else 0)=(p:Int)/\p<=4/\(i=0->p=0):=by
   by_cases z:i=0
   ·refine ⟨0,?_,by (first|lia|omega),fun _=>rfl⟩
    rw [if_neg (by rw [decide_eq_true_eq]; (first|lia|omega)),Int.mul_zero]
    rfl
   ·refine ⟨r5.toNat,?_,by (first|lia|omega),fun y=>absurd y z⟩
    rw [if_pos (decide_eq_true (by (first|lia|omega))),Int.mul_one]
    (first|lia|omega)
  show gName 6 (V.int (r5 * if decide ((0:Int)<0+(i:Int))=true then 1 else 0)) _ _ _
  rw [ep]
  refine ⟨small (show 0<=1000 by decide),fun bx hbx => ?_⟩
  have D56:=D5.trans D6
  have hbH:H bx=none:=D56.free hbx
  have nbs:bx≠st:=Ne.symm (D56.pen.ne hbx)
  have nbf:fo≠bx:=zG ef6 hbx
  have nbt:tk≠bx:=zG et6 hbx
  have s7:=zF hbx (.lst [])
  have D7:=D56.trans (D56.pen.more s7)
  have eb7:upd H6 bx (.lst []) bx=some (.lst []):=zC
  have ef7:=s7 _ _ ef6
  have et7:=s7 _ _ et6
  have tp7:Tups H' (upd H6 bx (.lst [])):=fun b xs e=>s7 _ _ (tp6 _ _ (tp5 _ _ e))
  clear s7
  generalize upd H6 bx (.lst [])=H7 at *
  refine ⟨_,rfl,_,rfl,_,rfl,_,_,rfl,rfl,small (show 2<=1000 by decide),fun o ho => ?_⟩
  have D8:=D7.trans (D7.pen.new ho (.lst [.int 3,.int (13 - (p:Int))]))
  have s8:=zF ho (.lst [.int 3,.int (13 - (p:Int))])
  refine ⟨_,rfl,st,6,m+1+140 * i+11,rfl,by decide,by decide,by (first|lia|omega),D8.pen.mono (by (first|lia|omega)),fun r6 H9 b0 b1 D9 => ?_⟩
  have nos:o≠st:=Ne.symm (D7.pen.ne ho)
  have eo:H9 o=some (.lst [.int 3,.int (13 - (p:Int))]):=D9.keep _ _ nos zC
  obtain ⟨c,ec,c0,c13⟩ : ∃ c:Int,atI [V.int 3,.int (13 - (p:Int))] (if decide (V.int r6=V.int 0)=true then 1 else 0)=some (.int c)/\0<c/\c<=13 - p:=by
   split
   ·exact ⟨13 - p,rfl,by (first|lia|omega),by (first|lia|omega)⟩
   ·exact ⟨3,rfl,by decide,by (first|lia|omega)⟩
  refine ⟨rfl,.inr ⟨_,rfl,o,_,_,_,rfl,rfl,.of eo,ec,st,c,m+1+140 * i+12,rfl,c0,by (first|lia|omega),by (first|lia|omega),D9.pen.mono (by (first|lia|omega)),fun rc H10 d0 d1 D10=>⟨_,_,rfl,rfl,_,rfl,by (first|lia|omega),by (first|lia|omega),?_⟩⟩⟩
  have D79:Penned3 st (m+1+140 * i+13) H H10:=(D8.trans (D9.trans D10)).mono (by (first|lia|omega))
  have k10:∀ {b:Addr} {o':HO},b≠st->H7 b=some o'->H10 b=some o':=fun n e=>D10.keep _ _ n (D9.keep _ _ n (s8 _ _ e))
  have tp10:Tups H' H10:=fun b xs e=>by
   have e7:=tp7 _ _ e
   exact k10 (fun z=>by obtain ⟨ys,ey⟩ := D7.pen.is; rw [z,ey] at e7; cases e7) e7
  have cnt12:((p:Int)+rc).toNat<=12:=by (first|lia|omega)
  have cntp:p<=((p:Int)+rc).toNat:=by (first|lia|omega)
  generalize ((p:Int)+rc).toNat=nb at cnt12 cntp
  have eb10:=k10 nbs eb7
  refine kU (fun j σ2 H2=>∃ (bs:List Str) (v8:Option V),σ2=[some (.ref st),some (.int most),some (.ref fo),some (.ref tk),some (.int (0+(i:Int))),some (.str nm),some (.int (p:Int)),some (.ref bx),v8]/\Penned3 st (m+1+140 * i+13+10 * j) H H2/\(∀ (b:Addr) (o':HO),b≠st->b≠bx->H10 b=some o'->H2 b=some o')/\H2 bx=some (.lst (bs.map V.str))/\bs.length=j/\bs.Nodup/\∀ b∈bs,okName b=true)
   ⟨[],_,rfl,D79.mono (by (first|lia|omega)),fun _ _ _ _ e=>e,eb10,rfl,.nil,fun b hb=>(nomatch hb)⟩ ?_ ?_
  ·rintro j σ2 H2 hj ⟨bs,v8',rfl,Dj,kj,ebj,hlj,ndj,okj⟩
   refine ⟨_,rfl,.inl ⟨rfl,_,.of ebj⟩,_,rfl,_,rfl,st,bx,bs,m+1+140 * i+13+10 * j,rfl,Dj.pen,by (first|lia|omega),ebj,nbs,by (first|lia|omega),fun bn H11 okb nib D11 => ?_⟩
   have eb11:=D11.keep _ _ nbs ebj
   refine ⟨bx,_,_,rfl,rfl,eb11,small1000 (by rw [List.length_map]; (first|lia|omega)),bs++[bn],_,rfl,?_,?_,?_,?_,?_,?_⟩
   ·refine ⟨((Dj.trans D11).pen.put nbs).mono (by (first|lia|omega)),fun b o' nb' e => ?_⟩
    rw [zH (zG e hbH)]
    exact (Dj.trans D11).keep _ _ nb' e
   ·intro b o' n1 n2 e
    rw [zH n2]
    exact D11.keep _ _ n1 (kj b o' n1 n2 e)
   ·rw [zC,List.map_append]; rfl
   ·rw [List.length_append]; show bs.length+1=j+1; (first|lia|omega)
   ·exact List.nodup_append.mpr ⟨ndj,by simp,fun a ha b hb e=>nib (by rw [<- List.mem_singleton.mp hb,<- e]; exact ha)⟩
   ·intro b hb
    rcases List.mem_append.mp hb with z | z
    ·exact okj b z
    ·rw [List.mem_singleton.mp z]; exact okb
  rintro σ2 H2 ⟨bs,v8',rfl,Dj,kj,ebj,hlj,ndj,okj⟩
  have efj:=kj _ _ nfs nbf (k10 nfs ef7)
  have etj:=kj _ _ nts nbt (k10 nts et7)
  have tpj:Tups H' H2:=fun b xs e=>by
   have e10:=tp10 _ _ e
   refine kj _ _ (fun z => ?_) (fun z => ?_) e10
   ·obtain ⟨ys,ey⟩ := D79.pen.is; rw [z,ey] at e10; cases e10
   ·rw [z,eb10] at e10; cases e10
  have hlv:=Paired.len pv
  refine ⟨_,rfl,.inl ⟨rfl,_,.of efj⟩,_,rfl,_,rfl,bx,_,rfl,.inl ⟨.of ebj,fun bt hbt => ?_⟩⟩
  have sa:=zF hbt (.tup (bs.map V.str))
  refine ⟨_,rfl,small (show 3<=1000 by decide),fun t ht2 => ?_⟩
  have sb:=zF ht2 (.tup [.str nm,.ref bt,.int (p:Int)])
  have sab:=sa.trans sb
  have D12:=Dj.trans (Dj.pen.more sab)
  have ebt:upd (upd H2 bt (.tup (bs.map V.str))) t (.tup [.str nm,.ref bt,.int (p:Int)]) bt=some (.tup (bs.map V.str)):=sb _ _ zC
  have ett:upd (upd H2 bt (.tup (bs.map V.str))) t (.tup [.str nm,.ref bt,.int (p:Int)]) t=some (.tup [.str nm,.ref bt,.int (p:Int)]):=zC
  have ef12:=sab _ _ efj
  have tpf:∀ {b:Addr} {xs:List V} {G:Hp} {o:HO},G fo=some (.lst vs)->G b=some (.tup xs)->upd G fo o b=some (.tup xs):=fun {b xs G o} h e=>by rw [zH (fun z=>by rw [z,h] at e; cases e)]; exact e
  refine ⟨fo,_,_,rfl,rfl,ef12,small1000 (by (first|lia|omega)),hs++[(nm,bs,p)],_,_,_,_,_,_,rfl,?_,zC,?_,?_,?_,?_,?_,?_⟩
  ·refine ⟨(D12.pen.put nfs).mono (by (first|lia|omega)),fun b o' nb' e => ?_⟩
   rw [zH (zG e hf)]
   exact D12.keep _ _ nb' e
  ·refine Paired.snoc (Paired.imp (fun v h z=>z.tups fun b xs e=>tpf ef12 (sab _ _ (tpj _ _ e))) pv) ⟨t,bt,rfl,tpf ef12 ett,tpf ef12 ebt⟩
  ·rw [zH (Ne.symm nft),sab _ _ etj,List.map_append,List.map_append]; rfl
  ·rw [List.length_append]; show hs.length+1=i+1; (first|lia|omega)
  ·intro h hh
   rcases List.mem_append.mp hh with z | z
   ·exact hok h z
   ·rw [List.mem_singleton.mp z]; exact ⟨ok,⟨ndj,okj,by show bs.length<=12; (first|lia|omega)⟩,p4,by show p<=bs.length; (first|lia|omega)⟩
  ·rw [List.map_append]
   refine List.nodup_append.mpr ⟨hnd,by simp,fun a ha b hb e=>nin ?_⟩
   have eb:b=nm:=by simpa using hb
   rw [<- eb,<- e]
   exact ha
  ·intro h hh
   cases hs with
   | nil =>
    have:h=(nm,bs,p):=by simpa using hh.symm
    rw [this]
    exact pz hl.symm
   | cons a b=>exact hfst h (by simpa using hh)
 ·rintro σ' H' ⟨hs,vs,v4,v5,v6,v7,v8,rfl,D',ef,pv,et,hl,hok,hnd,hfst⟩
  refine ⟨_,rfl,q fo hs H' (D'.mono (by (first|lia|omega))) ⟨vs,ef,pv⟩ ⟨hok,hnd,fun z => ?_,by (first|lia|omega),hfst⟩ (by (first|lia|omega)) hf⟩
  rw [z] at hl
  have:([]:List Hd3).length=0:=rfl
  (first|lia|omega)

end
section
variable {P:Program} {w:World} {K:PySem.W.Frag} {mg:Str->Option Value} {base:Heap} {f:Addr} {fd:FuncData} {aP aW aH CT CR:Addr}
set_option maxHeartbeats 4000000

structure ShAt (st hd bx lf:Addr) (hs:List Hd3) (bs:List Str) (H:Hp) (m l:Int):Prop where
 pen:Pen3 H st m
 hds:HdsR H hd hs
 box:H bx=some (.tup (bs.map V.str))
 lft:H lf=some (.lst [.int l])
 n1:lf≠st
 n2:lf≠hd
 n3:hd≠st
section
variable {st hd bx lf:Addr} {hs:List Hd3} {bs:List Str} {H H':Hp} {m m' l l':Int}
theorem ShAt.penned (h:ShAt st hd bx lf hs bs H m l) (D:Penned3 st m' H H'):ShAt st hd bx lf hs bs H' m' l:=by
 have tp:=qD h.pen D
 obtain ⟨vs,e,p⟩ := h.hds
 exact ⟨D.pen,⟨vs,D.keep _ _ h.n3 e,Paired.imp (fun v x z=>z.tups tp) p⟩,tp _ _ h.box,D.keep _ _ h.n1 h.lft,h.n1,h.n2,h.n3⟩
theorem ShAt.same (h:ShAt st hd bx lf hs bs H m l) (g:Same H H'):ShAt st hd bx lf hs bs H' m l:=h.penned (h.pen.more g)
theorem ShAt.mono (h:ShAt st hd bx lf hs bs H m l) (k:m<=m'):ShAt st hd bx lf hs bs H m' l:=⟨h.pen.mono k,h.hds,h.box,h.lft,h.n1,h.n2,h.n3⟩
theorem ShAt.put (h:ShAt st hd bx lf hs bs H m l) {x:Addr} {xs ys:List V} (ex:H x=some (.lst xs)) (n1:x≠st) (n2:x≠hd) (n3:x≠lf):ShAt st hd bx lf hs bs (upd H x (.lst ys)) m l:=by
 have tp:Tups H (upd H x (.lst ys)):=fun b zs e=>by rw [zH (fun z=>by rw [z,ex] at e; cases e)]; exact e
 obtain ⟨vs,e,p⟩ := h.hds
 exact ⟨h.pen.put n1,⟨vs,by rw [zH (Ne.symm n2)]; exact e,Paired.imp (fun v x z=>z.tups tp) p⟩,tp _ _ h.box,by rw [zH (Ne.symm n3)]; exact h.lft,h.n1,h.n2,h.n3⟩
theorem ShAt.left (h:ShAt st hd bx lf hs bs H m l) (l':Int):ShAt st hd bx lf hs bs (upd H lf (.lst [.int l'])) m l':=by
 have tp:Tups H (upd H lf (.lst [.int l'])):=fun b zs e=>by rw [zH (fun z=>by rw [z,h.lft] at e; cases e)]; exact e
 obtain ⟨vs,e,p⟩ := h.hds
 exact ⟨h.pen.put h.n1,⟨vs,by rw [zH (Ne.symm h.n2)]; exact e,Paired.imp (fun v x z=>z.tups tp) p⟩,tp _ _ h.box,zC,h.n1,h.n2,h.n3⟩
theorem ShAt.hne (h:ShAt st hd bx lf hs bs H m l) {x:Addr} (e:H x=none):x≠st/\x≠hd/\x≠lf:=by
 obtain ⟨vs,e2,_⟩ := h.hds
 exact ⟨Ne.symm (h.pen.ne e),Ne.symm (zG e2 e),Ne.symm (zG h.lft e)⟩
end
theorem penKL {st lf:Addr} {m:Int} {H H':Hp} (D:Penned3 st m H H'):KeepL [st,lf] H H':=fun b o nb e=>D.keep b o (fun z=>nb (z ▸ List.mem_cons_self ..)) e
def EndS (st hd bx lf:Addr) (hs:List Hd3) (bs:List Str) (d:Nat) (H:Hp) (m l:Int) (Q:VK):Prop:=∀ p wa na ws zs l' H',KeepL [st,lf] H H'->(∀ b,H' b=none->H b=none)->ShAt st hd bx lf hs bs H' (m+10 * (ws.length:Int)) l'->l'.toNat<=l.toNat->ws.length+28 * l'.toNat<=2+28 * l.toNat->zs.length<=2 * ws.length ->
 H' p=some (.tup [.ref wa,.ref na])->H' wa=some (.lst (ws.map V.str))->H' na=some (.lst (zs.map V.int))->H wa=none->H na=none->Reads hs bs d ws zs->(∀ w∈ws,WdOk w)->Q (.ref p) H'
def spShapeL (d:Nat):Sp:=fun vs H Q _=>∃ (st hd bx lf:Addr) (hs:List Hd3) (bs:List Str) (m l:Int),vs=[.ref st,.ref hd,.ref bx,.ref lf,.int (11 - (d:Int))]/\1<=d/\d<=10/\ShAt st hd bx lf hs bs H m l/\HdsG hs/\BxOk bs/\m+280 * (l.toNat:Int)<=300000/\l<=100/\EndS st hd bx lf hs bs d H m l Q
def spShapeP:Nat->Sp
 | 0=>fun _ _ _ _=>False
 | d+1=>spShapeL d
def manyT:List Int:=[1,0,0,2,0,1,2,2,2,2,2,2,2,2,2,3,1,0]
def MidS (st hd bx lf:Addr) (hs:List Hd3) (bs:List Str) (d:Nat) (k:Int) (w:Str) (wa na:Addr) (H:Hp) (m l:Int) (C:Prop) (σ':St) (H':Hp):Prop:=∃ (ow:List Str) (on:List Int) (n:Nat) (v7 v12:Option V),
 σ'=[some (.ref st),some (.ref hd),some (.ref bx),some (.ref lf),some (.int (11 - ((d+1:Nat):Int))),some (.int k),none,v7,some (.str w),some (.int (n:Int)),some (.ref wa),some (.ref na),v12,none,none,none]/\KeepL [st,lf] H H'/\(∀ b,H' b=none->H b=none)/\ShAt st hd bx lf hs bs H' m l /\
 H' wa=some (.lst ((w :: ow).map V.str))/\H' na=some (.lst ((k :: on).map V.int))/\(C->OwnIs hs bs k ow on n)/\(¬ C->ow=[]/\on=[]/\manyT[(k - 2).toNat]? = some (n:Int))/\ow.length<=1/\on.length=ow.length/\n<=13/\(∀ x∈ow,WdOk x)/\(k=19->n=0)
structure NwS (st hd lf:Addr) (H:Hp) (wa na:Addr):Prop where
 w1:wa≠st
 w2:wa≠hd
 w3:wa≠lf
 a1:na≠st
 a2:na≠hd
 a3:na≠lf
 wn:wa≠na
 f1:H wa=none
 f2:H na=none
theorem MidS.app {st hd bx lf:Addr} {hs:List Hd3} {bs:List Str} {d:Nat} {k:Int} {w:Str} {wa na:Addr} {H H2:Hp} {m l:Int} {C:Prop} (nw:NwS st hd lf H wa na) (kp:KeepL [st,lf] H H2) (lv:∀ b,H2 b=none->H b=none) (S:ShAt st hd bx lf hs bs H2 m l) (ew:H2 wa=some (.lst [.str w])) (en:H2 na=some (.lst [.int k]))
  {x:Str} {z:Int} {n:Nat} {v7 v12:Option V} (own:OwnIs hs bs k [x] [z] n) (wd:WdOk x) (hn:n<=13) (hC:C) (h19:k≠19) :
  MidS st hd bx lf hs bs d k w wa na H m l C [some (.ref st),some (.ref hd),some (.ref bx),some (.ref lf),some (.int (11 - ((d+1:Nat):Int))),some (.int k),none,v7,some (.str w),some (.int (n:Int)),some (.ref wa),some (.ref na),v12,none,none,none]
   (upd (upd H2 wa (.lst ([.str w]++[.str x]))) na (.lst ([.int k]++[.int z]))):=by
 have en2:upd H2 wa (.lst ([.str w]++[.str x])) na=some (.lst [.int k]):=by rw [zH (Ne.symm nw.wn)]; exact en
 refine ⟨[x],[z],n,v7,v12,rfl,fun b o nb e => ?_,yY (yY lv ew) en2,(S.put ew nw.w1 nw.w2 nw.w3).put en2 nw.a1 nw.a2 nw.a3,?_,zC,fun _=>own,fun z=>absurd hC z,Nat.le_refl _,rfl,hn,(fun y hy=>by rw [List.mem_singleton.mp hy]; exact wd),fun z=>absurd z h19⟩
 ·rw [zH (zG e nw.f2),zH (zG e nw.f1)]
  exact kp b o nb e
 ·rw [zH nw.wn]; exact zC
theorem many_small:∀ j:Fin 18,∃ n:Nat,manyT[j.1]? = some (n:Int)/\n<=13:=by
 intro j
 have:∀ j:Fin 18,(manyT[j.1]?).map Int.toNat=some ((manyT.getD j.1 0).toNat)/\0<=manyT.getD j.1 0/\(manyT.getD j.1 0).toNat<=13:=by decide
 obtain ⟨h1,h2,h3⟩ := this j
 refine ⟨(manyT.getD j.1 0).toNat,?_,h3⟩
 have hl:j.1<manyT.length:=j.2
 rw [List.getElem?_eq_getElem hl]
 have:manyT.getD j.1 0=manyT[j.1]:=by rw [List.getD_eq_getElem?_getD,List.getElem?_eq_getElem hl]; rfl
 rw [<- this]
 congr 1
 (first|lia|omega)
theorem many_is {k:Int} {n:Nat} (h2 : 2<=k) (h19:k<=19) (h234:¬ (k=2\/k=3\/k=4)) (h6:k≠6) (e:manyT[(k - 2).toNat]? = some (n:Int)):(if k=5 then 2 else (partsW[(k - 7).toNat]?).getD 0)=(n:Int):=by
 have tab:∀ j:Fin 18,j.1<3\/j.1=4\/manyT[j.1]? = some (if j.1=3 then 2 else (partsW[j.1 - 5]?).getD 0):=by decide
 rcases tab ⟨(k - 2).toNat,by (first|lia|omega)⟩ with z | z | z
 ·have z':(k - 2).toNat<3:=z
  (first|lia|omega)
 ·have z':(k - 2).toNat=4:=z
  (first|lia|omega)
 ·have z':manyT[(k - 2).toNat]? = some (if (k - 2).toNat=3 then 2 else (partsW[(k - 2).toNat - 5]?).getD 0):=z
  rw [e] at z'
  injection z' with z'
  rw [z']
  by_cases c:k=5
  ·rw [if_pos c,if_pos (by (first|lia|omega))]
  ·rw [if_neg c,if_neg (by (first|lia|omega)),show (k - 2).toNat - 5=(k - 7).toNat by (first|lia|omega)]
theorem kwA_at {k:Int} (h2 : 2<=k) (h19:k<=19):∃ w,kwW[(k - 2).toNat]? = some w/\atI (kwA.map V.str) (k+1)=some (.str w):=by
 have hl:(k - 2).toNat<kwW.length:=by show (k - 2).toNat<18; (first|lia|omega)
 refine ⟨kwW[(k - 2).toNat],List.getElem?_eq_getElem hl,kX (by (first|lia|omega)) ?_⟩
 rw [List.getElem?_map,show (k+1).toNat=kwH.length+(k - 2).toNat by show _=3+_; (first|lia|omega)]
 unfold kwA
 rw [List.getElem?_append_right (Nat.le_add_right _ _),Nat.add_sub_cancel_left,List.getElem?_eq_getElem hl]
 rfl
theorem pick3 {r:Int} (h0 : 0<=r) (h1:r<3):∃ k:Int,atI [V.int 0,.int 1,.int 19] r=some (.int k)/\(k=0\/k=1\/k=19):=by
 have:r=0\/r=1\/r=2:=by (first|lia|omega)
 rcases this with rfl | rfl | rfl
 ·exact ⟨0,rfl,.inl rfl⟩
 ·exact ⟨1,rfl,.inr (.inl rfl)⟩
 ·exact ⟨19,rfl,.inr (.inr rfl)⟩
theorem ok_shapeL (d:Nat) (T:TxtL K mg) (F:Fun K "_law_shape" "_law_shape" xT f fd) (C_law_draw:Cal P w K mg base (CXE P w) 1 "_law_draw" ["_law_pen_here", "_law_many"] spDraw3) (C_law_words:Cal P w K mg base (CXE P w) 1 "_law_words" [] spWordsL)
  (C_law_number:Cal P w K mg base (CXE P w) 2 "_law_number" ["_law_pen_here", "_law_is_far"] spNumberL) (C_law_shape:Cal P w K mg base (CXE P w) (2+d) "_law_shape" ["_law_pen_here", "_law_heads_here", "_law_boxes", "_law_left", "_law_deep"] (spShapeP d)) :
  FnOk P w K mg base (CXE P w) (2+d+1) f fd ["_law_pen_here", "_law_heads_here", "_law_boxes", "_law_left", "_law_deep"] (spShapeL d):=by
 refine F.okN zX (fun vs H Q E h => ?_) (fun cdv A outer s H vs Q E hr h => ?_)
 ·obtain ⟨st,hd,bx,lf,hs,bs,m,l,rfl,_⟩ := h
  rfl
 obtain ⟨st,hd,bx,lf,hs,bs,m,l,rfl,d1,d10,S,hg,hb,mb,lb,q⟩ := h
 obtain ⟨d,rfl⟩ : ∃ d',d=d'+1:=⟨d - 1,by (first|lia|omega)⟩
 refine ⟨_,(zD (qT (zL jL (yH yD (pv 3) zE (fun _ _=>rfl)) zE) (pg_sub (pv 3) zE set_list))
   (zD (zN (i:=5) zX.nd rfl (Or.inl rfl) (zJ C_law_draw hr rfl (zA (pv 0) (zA zE zB)) passN))
   (zD (wU (zZ (PW.pt (qS (zM op_lt (yH yD (pv 3) zE (fun _ _=>rfl)) zE (nomark _)) (qG (zM yQ (pv 4) zE (nomark _))))) (zI (zN (i:=5) zX.nd rfl (Or.inl rfl) (yH yD (zK (zO (.int (.int (.int .nil))))) (zJ C_law_draw hr rfl (zA (pv 0) (zA zE zB)) passN) (fun _ _=>rfl)))) zR))
   (zD (wU (zZ (PW.pt (pw_and (zM qQ (pv 5) (zQ (zO (.int (.int .nil)))) rfl) (pw_and1 (zM (op_eqNilT hr) (pv 2) (zQ zB) (nomark _))))) (zI (zN (i:=5) zX.nd rfl (Or.inl rfl) zE)) zR))
   (zD (zZ (zM yQ (pv 5) zE (nomark _)) (zD (zN (i:=6) zX.nd rfl (Or.inl rfl) (zJ C_law_number hr rfl (zA (pv 0) (zA (qA op_gt (yH yD (pv 3) zE (fun _ _=>rfl)) zE (nomark _)) zB)) passN))
   (zI (zS (zQ (zA (zK (zA (yV call_str_int rfl T.n_str bt_str (zA (pv 6) zB)) zB)) (zA (zK (zA zE (zA (pv 6) zB))) zB)))))) zR)
   (zD (zZ (zM yQ (pv 5) zE (nomark _)) (zD (zN (i:=7) zX.nd rfl (Or.inl rfl) (zJ C_law_draw hr rfl (zA (pv 0) (zA (zU zT rfl T.n_len yN (zA (pv 2) zB)) zB)) passN))
   (zI (zS (zQ (zA (zK (zA (yH jG (pv 2) (pv 7) (fun _ _=>rfl)) zB)) (zA (zK (zA zE (zA (pv 7) zB))) zB)))))) zR)
   (zD (zN (i:=8) zX.nd rfl (Or.inl rfl) (yH yD (pe_callC0 C_law_words hr rfl passN) (zL yX (pv 5) zE) (fun _ _=>rfl)))
   (zD (zN (i:=9) zX.nd rfl (Or.inl rfl) (yH yD (zK (zO (.int (.int (.int (.int (.int (.int (.int (.int (.int (.int (.int (.int (.int (.int (.int (.int (.int (.int .nil)))))))))))))))))))) (zL jL (pv 5) zE) (fun _ _=>rfl)))
   (zD (zN (i:=10) zX.nd rfl (Or.inl rfl) (zK (zA (pv 8) zB)))
   (zD (zN (i:=11) zX.nd rfl (Or.inl rfl) (zK (zA (pv 5) zB)))
   (zD (wU (zZ (zM yQ (pv 5) zE (nomark _)) (zD (zN (i:=7) zX.nd rfl (Or.inl rfl) (zJ C_law_draw hr rfl (zA (pv 0) (zA (zU zT rfl T.n_len yN (zA (pv 2) zB)) zB)) passN))
   (zD (yB (yP PySem.F.plainAttrs_list PySem.F.slot_list_append PySem.F.type_list_append yJ (pv 10) (zA (yH jG (pv 2) (pv 7) (fun _ _=>rfl)) zB)))
   (zI (yB (yP PySem.F.plainAttrs_list PySem.F.slot_list_append PySem.F.type_list_append yJ (pv 11) (zA (pv 7) zB)))))) zR))
   (zD (wU (zZ (zM qQ (pv 5) (zQ (zO (.int (.int .nil)))) rfl) (zD (zN (i:=12) zX.nd rfl (Or.inl rfl) (zL yX (zL jL (pv 5) zE) (zJ C_law_draw hr rfl (zA (pv 0) (zA (yH yD (zK (zA zE (zA (zL jL zE (pv 5)) zB))) (yV call_int1 rfl T.n_int bt_int (zA (qA yQ (zJ C_law_draw hr rfl (zA (pv 0) (zA zE zB)) passN) zE (nomark _)) zB)) (fun _ _=>rfl)) zB)) passN)))
   (zD (yB (yP PySem.F.plainAttrs_list PySem.F.slot_list_append PySem.F.type_list_append yJ (pv 10) (zA (yV call_str_int rfl T.n_str bt_str (zA (pv 12) zB)) zB)))
   (zD (yB (yP PySem.F.plainAttrs_list PySem.F.slot_list_append PySem.F.type_list_append yJ (pv 11) (zA (pv 12) zB)))
   (zI (zN (i:=9) zX.nd rfl (Or.inl rfl) (zL jL (zL yX (pv 12) (pv 5)) zE)))))) zR))
   (zD (wU (zZ (zM yQ (pv 5) zE (nomark _)) (zD (zN (i:=7) zX.nd rfl (Or.inl rfl) (zJ C_law_draw hr rfl (zA (pv 0) (zA (zU zT rfl T.n_len yN (zA (pv 1) zB)) zB)) passN))
   (zD (yB (yP PySem.F.plainAttrs_list PySem.F.slot_list_append PySem.F.type_list_append yJ (pv 10) (zA (yH jG (yH yD (pv 1) (pv 7) (fun _ _=>rfl)) zE (fun _ _=>rfl)) zB)))
   (zD (yB (yP PySem.F.plainAttrs_list PySem.F.slot_list_append PySem.F.type_list_append yJ (pv 11) (zA (pv 7) zB)))
   (zI (zN (i:=9) zX.nd rfl (Or.inl rfl) (yH jG (yH yD (pv 1) (pv 7) (fun _ _=>rfl)) zE (fun _ _=>rfl))))))) zR))
   (zD (kH PassesOwn.never rfl (jY rfl T.n_range (zA (pv 9) zB)) (zV (i:=13) zX.nd rfl (Or.inl rfl)) (zD (qT (zJ C_law_shape hr rfl (zA (pv 0) (zA (pv 1) (zA (pv 2) (zA (pv 3) (zA (zL yX (pv 4) zE) zB))))) passN) (qU rfl (yC (zV (i:=14) zX.nd rfl (Or.inl rfl)) (yC (zV (i:=15) zX.nd rfl (Or.inl rfl)) jO))))
   (zD (yB (yP PySem.F.plainAttrs_list PySem.F.slot_list_extend PySem.F.type_list_extend mt_extend (pv 10) (zA (pv 14) zB)))
   (zI (yB (yP PySem.F.plainAttrs_list PySem.F.slot_list_extend PySem.F.type_list_extend mt_extend (pv 11) (zA (pv 15) zB)))))))
   (zI (zS (zQ (zA (pv 10) (zA (pv 11) zB))))))))))))))))))),?_⟩
 try dsimp only [Cx.nox,Cx.exc,Cx.wish,yG]
 refine ⟨_,rfl,lf,_,_,_,rfl,rfl,.of S.lft,rfl,_,_,rfl,rfl,_,rfl,lf,_,_,_,rfl,rfl,S.lft,rfl,?_⟩
 have S1:=S.left (l - 1)
 have k1:KeepL [st,lf] H (upd H lf (.lst [.int (l - 1)])):=KeepL.upd (List.mem_cons_of_mem _ (List.mem_cons_self ..))
 have lv1:∀ b,upd H lf (.lst [.int (l - 1)]) b=none->H b=none:=yY (fun _ z=>z) S.lft
 have eset:[V.int l].set 0 (.int (l - 1))=[.int (l - 1)]:=rfl
 refine ⟨_,rfl,st,20,m,rfl,by decide,by decide,by (first|lia|omega),S1.pen,fun r H2 r0 r1 D2 => ?_⟩
 have S2:=S1.penned D2
 have k2:KeepL [st,lf] H H2:=k1.trans (penKL D2)
 have lv2:∀ b,H2 b=none->H b=none:=fun b e=>lv1 b (D2.free e)
 have nl9:∀ (k:Int),(l - 1<1\/d=0->k=0\/k=1\/k=19)->True:=fun _ _=>trivial
 refine ⟨fun σ' H'=>∃ k:Int,σ'=[some (.ref st),some (.ref hd),some (.ref bx),some (.ref lf),some (.int (11 - ((d+1:Nat):Int))),some (.int k),none,none,none,none,none,none,none,none,none,none]/\0<=k/\k<=19/\(l - 1<1\/d=0->k=0\/k=1\/k=19)/\KeepL [st,lf] H H'/\(∀ b,H' b=none->H b=none)/\ShAt st hd bx lf hs bs H' (m+2) (l - 1),?_,?_⟩
 ·refine ⟨_,rfl,lf,_,_,_,rfl,rfl,.of S2.lft,rfl,_,_,rfl,rfl,_,rfl,ite2 (fun c=>iteT ?_) (fun c => ?_)⟩
  ·refine ⟨small (show 3<=1000 by decide),fun o ho=>⟨_,rfl,st,3,m+1,rfl,by decide,by decide,by (first|lia|omega),(S2.same (zF ho _)).pen,fun r3 H3 a0 a1 D3 => ?_⟩⟩
   obtain ⟨k,ek,hk⟩ := pick3 a0 a1
   have S3:=(S2.same (zF ho (.lst [.int 0,.int 1,.int 19]))).penned D3
   have eo:H3 o=some (.lst [.int 0,.int 1,.int 19]):=D3.keep _ _ (S2.hne ho).1 zC
   exact ⟨o,_,_,_,rfl,rfl,.of eo,ek,k,rfl,by (first|lia|omega),by (first|lia|omega),fun _=>hk,k2.trans ((KeepL.same (zF ho _)).trans (penKL D3)),fun b e=>lv2 b ((zF ho _).free (D3.free e)),S3.mono (by (first|lia|omega))⟩
  have c':=df c
  refine ⟨_,rfl,rfl,_,rfl,ite2 (fun c2 => ?_) (fun c2 => ?_)⟩
  ·refine ⟨small (show 3<=1000 by decide),fun o ho=>⟨_,rfl,st,3,m+1,rfl,by decide,by decide,by (first|lia|omega),(S2.same (zF ho _)).pen,fun r3 H3 a0 a1 D3 => ?_⟩⟩
   obtain ⟨k,ek,hk⟩ := pick3 a0 a1
   have S3:=(S2.same (zF ho (.lst [.int 0,.int 1,.int 19]))).penned D3
   have eo:H3 o=some (.lst [.int 0,.int 1,.int 19]):=D3.keep _ _ (S2.hne ho).1 zC
   exact ⟨o,_,_,_,rfl,rfl,.of eo,ek,k,rfl,by (first|lia|omega),by (first|lia|omega),fun _=>hk,k2.trans ((KeepL.same (zF ho _)).trans (penKL D3)),fun b e=>lv2 b ((zF ho _).free (D3.free e)),S3.mono (by (first|lia|omega))⟩
  have c2':=vf c2
  exact ⟨r,rfl,r0,by (first|lia|omega),fun z=>by (first|lia|omega),k2,lv2,S2.mono (by (first|lia|omega))⟩
 rintro _ _ ⟨k,rfl,k0,k19,hkl,k3,lv3,S3⟩
 rename_i H3
 refine ⟨fun σ' H'=>∃ k:Int,σ'=[some (.ref st),some (.ref hd),some (.ref bx),some (.ref lf),some (.int (11 - ((d+1:Nat):Int))),some (.int k),none,none,none,none,none,none,none,none,none,none]/\0<=k/\k<=19/\(l - 1<1\/d=0->k=0\/k=1\/k=19)/\(k=1\/k=2->bs≠[])/\KeepL [st,lf] H H'/\(∀ b,H' b=none->H b=none)/\ShAt st hd bx lf hs bs H' (m+2) (l - 1),?_,?_⟩
 ·refine ⟨_,rfl,small (show 2<=1000 by decide),fun tp htp=>⟨tp,_,rfl,.inr (.of zC),rfl,rfl,_,rfl,?_⟩⟩
  have k4:=k3.trans (KeepL.same (zF htp (.tup [.int 1,.int 2])))
  have lv4:∀ b,upd H3 tp (.tup [.int 1,.int 2]) b=none->H b=none:=fun b e=>lv3 b ((zF htp _).free e)
  have S4:=S3.same (zF htp (.tup [.int 1,.int 2]))
  have ei:inV (.int k) [V.int 1,.int 2]=decide (k=1\/k=2):=by
   exact (inV_ints k [1,2]).trans (decide_eq_decide.mpr (by simp))
  rw [ei]
  refine ite2 (fun c => ?_) (fun c => ?_)
  ·have c':=of_decide_eq_true c
   refine ⟨_,rfl,small (show 0<=1000 by decide),fun et het=>⟨bx,et,_,rfl,rfl,.of ((zF het _) _ _ S4.box),.of zC,_,rfl,?_⟩⟩
   have k5:=k4.trans (KeepL.same (zF het (.tup [])))
   have lv5:∀ b,upd (upd H3 tp (.tup [.int 1,.int 2])) et (.tup []) b=none->H b=none:=fun b e=>lv4 b ((zF het _).free e)
   have S5:=S4.same (zF het (.tup []))
   cases eb:bs with
   | nil =>
    subst eb
    exact iteT ⟨0,rfl,by decide,by decide,fun _ => .inl rfl,fun z=>by (first|lia|omega),k5,lv5,S5⟩
   | cons x y =>
    rw [<- eb]
    refine iteN (by rw [eb]; rfl) ⟨k,rfl,k0,k19,hkl,fun _=>by rw [eb]; exact fun z=>(nomatch z),k5,lv5,S5⟩
  ·have c':=of_decide_eq_false (Bool.eq_false_iff.mpr c)
   exact ⟨k,rfl,k0,k19,hkl,fun z=>absurd z c',k4,lv4,S4⟩
 rintro _ _ ⟨k,rfl,k0,k19,hkl,hkb,k4,lv4,S4⟩
 rename_i H4
 have fin:∀ (H5:Hp) (m5 l5:Int) (ws:List Str) (zs:List Int) (wa na:Addr),KeepL [st,lf] H H5->(∀ b,H5 b=none->H b=none)->ShAt st hd bx lf hs bs H5 m5 l5->m5<=m+10 * (ws.length:Int)->l5.toNat<=l.toNat->ws.length+28 * l5.toNat<=2+28 * l.toNat->zs.length<=2 * ws.length->H5 wa=some (.lst (ws.map V.str))->H5 na=some (.lst (zs.map V.int))->H wa=none->H na=none ->
   Reads hs bs (d+1) ws zs->(∀ w∈ws,WdOk w)->∀ p,H5 p=none->Q (.ref p) (upd H5 p (.tup [.ref wa,.ref na])):=fun H5 m5 l5 ws zs wa na k5 lv5 S5 b1 b2 b3 b4 e1 e2 f1 f2 rd wd p hp=>by
  have sm:=zF hp (.tup [.ref wa,.ref na])
  exact q p wa na ws zs l5 _ (k5.trans (KeepL.same sm)) (fun b e=>lv5 b (sm.free e)) ((S5.same sm).mono b1) b2 b3 b4 zC (sm _ _ e1) (sm _ _ e2) f1 f2 rd wd
 have fin1:∀ (H5:Hp) (m5:Int) (x:Str) (zs:List Int),Penned3 st m5 H4 H5->m5<=m+10->zs.length<=2->Reads hs bs (d+1) [x] zs->WdOk x->∀ wa,H5 wa=none->∀ na,upd H5 wa (.lst [.str x]) na=none->∀ p,upd (upd H5 wa (.lst [.str x])) na (.lst (zs.map V.int)) p=none ->
   Q (.ref p) (upd (upd (upd H5 wa (.lst [.str x])) na (.lst (zs.map V.int))) p (.tup [.ref wa,.ref na])):=fun H5 m5 x zs D5 b1 b4 rd wd wa hwa na hna p hp=>by
  have sa:=zF hwa (.lst [.str x])
  have sb:=zF hna (.lst (zs.map V.int))
  refine fin _ m5 (l - 1) [x] zs wa na ((k4.trans (penKL D5)).trans (KeepL.same (sa.trans sb))) (fun b e=>lv4 b (D5.free ((sa.trans sb).free e))) ((S4.penned D5).same (sa.trans sb)) (by show m5<=m+10 * ((1:Nat):Int); (first|lia|omega)) (by (first|lia|omega)) (by show 1+_<=_; (first|lia|omega)) b4 (sb _ _ zC) zC (lv4 _ (D5.free hwa)) (lv4 _ (D5.free (sa.free hna))) rd (fun w hw=>by rw [List.mem_singleton.mp hw]; exact wd) p hp
 refine ⟨_,rfl,rfl,_,rfl,ite2 (fun c => ?_) (fun c0 => ?_)⟩
 ·refine ⟨_,rfl,_,rfl,lf,_,_,_,rfl,rfl,.of S4.lft,rfl,_,_,rfl,rfl,st,_,m+2,rfl,by (first|lia|omega),S4.pen,fun n H5 fn D5 => ?_⟩
  have lg:n.natAbs.log2<1920:=by
   refine Nat.lt_of_le_of_lt (?_:n.natAbs.log2<=200) (by decide)
   by_cases z:n.natAbs=0
   ·rw [z]; decide
   ·exact Nat.le_of_lt ((Nat.log2_lt z).mpr (Nat.lt_trans fn (by decide +kernel)))
  refine ⟨_,rfl,n,rfl,lg,small (show 1<=1000 by decide),fun wa hwa=>⟨_,rfl,small (show 2<=1000 by decide),fun na hna=>⟨small (show 2<=1000 by decide),fun p hp => ?_⟩⟩⟩
  exact fin1 H5 _ (numS n) [0,n] D5 (by (first|lia|omega)) (Nat.le_refl _) (reads_num fn) (num_wd fn) wa hwa na hna p hp
 refine ⟨_,rfl,rfl,_,rfl,ite2 (fun c => ?_) (fun c1 => ?_)⟩
 ·have bne:=hkb (.inl (vt c))
  have b12:=hb.few
  have b0 : 0<bs.length:=List.length_pos_iff.mpr bne
  have lbs:((bs.map V.str).length:Int)=(bs.length:Int):=by rw [List.length_map]
  refine ⟨_,rfl,_,rfl,bx,_,rfl,.inr (.of S4.box),st,_,m+2,rfl,by (first|lia|omega),by (first|lia|omega),by (first|lia|omega),S4.pen,fun r H5 r0' r1' D5 => ?_⟩
  have hr':r.toNat<bs.length:=by (first|lia|omega)
  have eb:bs[r.toNat]? = some bs[r.toNat]:=List.getElem?_eq_getElem hr'
  generalize bs[r.toNat]=b at eb
  have S5:=S4.penned D5
  have ab:atI (bs.map V.str) r=some (.str b):=kX r0' (by rw [List.getElem?_map,eb]; rfl)
  refine ⟨_,rfl,_,rfl,bx,_,_,_,rfl,rfl,.of S5.box,ab,small (show 1<=1000 by decide),fun wa hwa=>⟨_,rfl,small (show 2<=1000 by decide),fun na hna=>⟨small (show 2<=1000 by decide),fun p hp => ?_⟩⟩⟩
  have rg:=reads_get (hs:=hs) (d:=d) hb eb
  rw [show ((r.toNat:Nat):Int)=r by (first|lia|omega)] at rg
  exact fin1 H5 _ b [1,r] D5 (by (first|lia|omega)) (Nat.le_refl _) rg (xO (hb.ok b (List.mem_of_getElem? eb))) wa hwa na hna p hp
 have n0:=vf c0
 have n1:=vf c1
 have k2' : 2<=k:=by (first|lia|omega)
 obtain ⟨w,hw,aw⟩ := kwA_at k2' k19
 obtain ⟨n,en,n13⟩ := many_small ⟨(k - 2).toNat,by (first|lia|omega)⟩
 dsimp only at en
 have am:atI (manyT.map V.int) (k - 2)=some (.int (n:Int)):=kX (by (first|lia|omega)) (by rw [List.getElem?_map,en]; rfl)
 refine ⟨rfl,fun wl H5 hwl s5 e5=>⟨_,rfl,_,_,rfl,rfl,wl,_,_,_,rfl,rfl,.of e5,aw,?_⟩⟩
 refine ⟨small (show 18<=1000 by decide),fun o ho=>⟨_,rfl,_,_,rfl,rfl,o,_,_,_,rfl,rfl,.of zC,am,?_⟩⟩
 have s6:=s5.trans (zF ho (.lst (manyT.map V.int)))
 refine ⟨_,rfl,small (show 1<=1000 by decide),fun wa hwa=>⟨_,rfl,small (show 1<=1000 by decide),fun na hna => ?_⟩⟩
 have s7:=s6.trans (zF hwa (.lst [.str w]))
 have s8:=s7.trans (zF hna (.lst [.int k]))
 have nw:NwS st hd lf H wa na:=⟨((S4.same s6).hne hwa).1,((S4.same s6).hne hwa).2.1,((S4.same s6).hne hwa).2.2,((S4.same s7).hne hna).1,((S4.same s7).hne hna).2.1,((S4.same s7).hne hna).2.2,(fun z=>by rw [<- z,zC] at hna; cases hna),lv4 _ (s6.free hwa),lv4 _ (s7.free hna)⟩
 refine ⟨MidS st hd bx lf hs bs d k w wa na H (m+3) (l - 1) (k=2),?_,?_⟩
 ·have S8:=S4.same s8
  have k8:=k4.trans (KeepL.same s8)
  have lv8:∀ b,upd (upd (upd H5 o (.lst (manyT.map V.int))) wa (.lst [.str w])) na (.lst [.int k]) b=none->H b=none:=fun b e=>lv4 b (s8.free e)
  have ew8:upd (upd (upd H5 o (.lst (manyT.map V.int))) wa (.lst [.str w])) na (.lst [.int k]) wa=some (.lst [.str w]):=by rw [zH nw.wn]; exact zC
  have en8:upd (upd (upd H5 o (.lst (manyT.map V.int))) wa (.lst [.str w])) na (.lst [.int k]) na=some (.lst [.int k]):=zC
  refine ⟨_,rfl,rfl,_,rfl,ite2 (fun c => ?_) (fun c => ?_)⟩
  ·have kk:=vt c
   have bne:=hkb (.inr kk)
   have b12:=hb.few
   have b0 : 0<bs.length:=List.length_pos_iff.mpr bne
   have lbs:((bs.map V.str).length:Int)=(bs.length:Int):=by rw [List.length_map]
   refine ⟨_,rfl,_,rfl,bx,_,rfl,.inr (.of S8.box),st,_,m+2,rfl,by (first|lia|omega),by (first|lia|omega),by (first|lia|omega),S8.pen,fun r H9 r0' r1' D9 => ?_⟩
   have hr':r.toNat<bs.length:=by (first|lia|omega)
   have eb:bs[r.toNat]? = some bs[r.toNat]:=List.getElem?_eq_getElem hr'
   generalize bs[r.toNat]=b at eb
   have S9:=S8.penned D9
   have ab:atI (bs.map V.str) r=some (.str b):=kX r0' (by rw [List.getElem?_map,eb]; rfl)
   have ew9:=D9.keep _ _ nw.w1 ew8
   have en9:=D9.keep _ _ nw.a1 en8
   have own:=is_own_set (hs:=hs) hb eb
   rw [show ((r.toNat:Nat):Int)=r by (first|lia|omega)] at own
   have e1:n=1:=by
    rw [kk] at en
    have en':some (1:Int)=some (n:Int):=en
    injection en' with z
    (first|lia|omega)
   refine ⟨_,rfl,.inl ⟨rfl,_,.of ew9⟩,_,rfl,_,rfl,bx,_,_,_,rfl,rfl,.of S9.box,ab,wa,_,_,rfl,rfl,ew9,small1000 (show 1<=1000 by decide),?_⟩
   refine ⟨_,rfl,.inl ⟨rfl,_,.of (by rw [zH (Ne.symm nw.wn)]; exact en9)⟩,_,rfl,na,[.int k],_,rfl,rfl,by rw [zH (Ne.symm nw.wn)]; exact en9,small1000 (show 1<=1000 by decide),?_⟩
   exact MidS.app nw (k8.trans (penKL D9)) (fun b e=>lv8 b (D9.free e)) (S9.mono (by (first|lia|omega))) ew9 en9 (by rw [kk,e1]; exact own) (xO (hb.ok b (List.mem_of_getElem? eb))) n13 kk (by (first|lia|omega))
  ·have kk:=vf c
   exact ⟨[],[],n,none,none,rfl,k8,lv8,S8.mono (by (first|lia|omega)),ew8,en8,fun z=>absurd z kk,fun _=>⟨rfl,rfl,en⟩,Nat.zero_le _,rfl,n13,(fun x hx=>(nomatch hx)),fun z=>by
    rw [z] at en
    have en':some (0:Int)=some (n:Int):=en
    injection en' with y
    (first|lia|omega)⟩
 rintro σ9 H9 M9
 refine ⟨MidS st hd bx lf hs bs d k w wa na H (m+5) (l - 1) (k=2\/k=3\/k=4),?_,?_⟩
 ·obtain ⟨ow,on,n,v7,v12,rfl,k9,lv9,S9,ew9,en9,own9,no9,l1,l2,n13,wd9,z9⟩ := M9
  refine ⟨_,rfl,small (show 2<=1000 by decide),fun tp htp=>⟨tp,_,rfl,.inr (.of zC),rfl,rfl,_,rfl,?_⟩⟩
  have st9:=zF htp (.tup [.int 3,.int 4])
  have ei:inV (.int k) [V.int 3,.int 4]=decide (k=3\/k=4):=(inV_ints k [3,4]).trans (decide_eq_decide.mpr (by simp))
  rw [ei]
  have kt:=k9.trans (KeepL.same st9)
  have lvt:∀ b,upd H9 tp (.tup [.int 3,.int 4]) b=none->H b=none:=fun b e=>lv9 b (st9.free e)
  have St:=S9.same st9
  have ewt:=st9 _ _ ew9
  have ent:=st9 _ _ en9
  refine ite2 (fun c => ?_) (fun c => ?_)
  ·have kk:=of_decide_eq_true c
   obtain ⟨rfl,rfl,en⟩ := no9 (by (first|lia|omega))
   refine ⟨_,rfl,_,_,rfl,rfl,_,rfl,_,rfl,_,_,rfl,rfl,small (show 2<=1000 by decide),fun o ho => ?_⟩
   have so:=zF ho (.lst [.int 3,.int (15 - k)])
   refine ⟨_,rfl,st,9,m+3,rfl,by decide,by decide,by (first|lia|omega),(St.same so).pen,fun r9 H10 a0 a1 D10 => ?_⟩
   have eo:H10 o=some (.lst [.int 3,.int (15 - k)]):=D10.keep _ _ (St.hne ho).1 zC
   obtain ⟨c,ec,c0,c13⟩ : ∃ c:Int,atI [V.int 3,.int (15 - k)] (if decide (V.int r9=V.int 0)=true then 1 else 0)=some (.int c)/\0<c/\c<=15 - k:=by
    split
    ·exact ⟨15 - k,rfl,by (first|lia|omega),by (first|lia|omega)⟩
    ·exact ⟨3,rfl,by decide,by (first|lia|omega)⟩
   refine ⟨rfl,.inr ⟨_,rfl,o,_,_,_,rfl,rfl,.of eo,ec,st,c,m+4,rfl,c0,by (first|lia|omega),by (first|lia|omega),D10.pen.mono (by (first|lia|omega)),fun rc H11 d0 d1' D11=>⟨_,_,rfl,rfl,?_⟩⟩⟩
   have kE:∀ {b:Addr} {o':HO},b≠st->upd H9 tp (.tup [.int 3,.int 4]) b=some o'->H11 b=some o':=fun n e=>D11.keep _ _ n (D10.keep _ _ n (so _ _ e))
   have S11:=((St.same so).penned D10).penned D11
   have ew11:H11 wa=some (.lst [.str w]):=kE nw.w1 ewt
   have en11:H11 na=some (.lst [.int k]):=kE nw.a1 ent
   have cb1:k - 2<=k - 2+rc:=by (first|lia|omega)
   have cb2:k - 2+rc<=12:=by (first|lia|omega)
   have own:=is_own_many (hs:=hs) (bs:=bs) kk cb1 cb2
   have wdc:WdOk (numS (k - 2+rc)):=num_wd (Nat.lt_trans (show (k - 2+rc).natAbs<100 by (first|lia|omega)) (by decide +kernel))
   have lg:(k - 2+rc).natAbs.log2<1920:=by
    refine Nat.lt_of_le_of_lt (?_:(k - 2+rc).natAbs.log2<=200) (by decide)
    by_cases z:(k - 2+rc).natAbs=0
    ·rw [z]; decide
    ·exact Nat.le_of_lt ((Nat.log2_lt z).mpr (Nat.lt_trans (show (k - 2+rc).natAbs<100 by (first|lia|omega)) (by decide +kernel)))
   have n13':(k - 2+rc+k - 3).toNat<=13:=by (first|lia|omega)
   have ecast:(((k - 2+rc+k - 3).toNat:Nat):Int)=k - 2+rc+k - 3:=by (first|lia|omega)
   refine ⟨_,rfl,.inl ⟨rfl,_,.of ew11⟩,_,rfl,_,rfl,lg,wa,_,_,rfl,rfl,ew11,small1000 (show 1<=1000 by decide),?_⟩
   refine ⟨_,rfl,.inl ⟨rfl,_,.of (by rw [zH (Ne.symm nw.wn)]; exact en11)⟩,_,rfl,na,[.int k],_,rfl,rfl,by rw [zH (Ne.symm nw.wn)]; exact en11,small1000 (show 1<=1000 by decide),?_⟩
   refine ⟨_,rfl,_,rfl,_,_,rfl,rfl,_,_,rfl,rfl,?_⟩
   have ap:=MidS.app (d:=d) (C:=k=2\/k=3\/k=4) (v7:=v7) (v12:=some (.int (k - 2+rc))) nw ((kt.trans (KeepL.same so)).trans ((penKL D10).trans (penKL D11))) (fun b e=>lvt b (so.free (D10.free (D11.free e)))) (S11.mono (m':=m+5) (by (first|lia|omega))) ew11 en11 own wdc n13' (.inr kk) (by (first|lia|omega))
   rw [ecast] at ap
   exact ap
  ·have kk:=of_decide_eq_false (Bool.eq_false_iff.mpr c)
   exact ⟨ow,on,n,v7,v12,rfl,kt,lvt,St.mono (by (first|lia|omega)),ewt,ent,fun z=>own9 (z.resolve_right kk),fun z=>no9 (fun y=>z (.inl y)),l1,l2,n13,wd9,z9⟩
 rintro σ10 H10 M10
 refine ⟨MidS st hd bx lf hs bs d k w wa na H (m+6) (l - 1) True,?_,?_⟩
 ·obtain ⟨ow,on,n,v7,v12,rfl,k9,lv9,S9,ew9,en9,own9,no9,l1,l2,n13,wd9,z9⟩ := M10
  refine ⟨_,rfl,rfl,_,rfl,ite2 (fun c => ?_) (fun c => ?_)⟩
  ·have kk:=vt c
   obtain ⟨rfl,rfl,en⟩ := no9 (by (first|lia|omega))
   obtain ⟨vs,ev,pv⟩ := S9.hds
   have hl:=Paired.len pv
   have h0 : 0<hs.length:=List.length_pos_iff.mpr hg.ne
   have h16:=hg.few
   refine ⟨_,rfl,_,rfl,hd,_,rfl,.inl (.of ev),st,_,m+5,rfl,by (first|lia|omega),by (first|lia|omega),by (first|lia|omega),S9.pen,fun r H11 r0' r1' D11 => ?_⟩
   have S11:=S9.penned D11
   obtain ⟨vs',ev',pv'⟩ := S11.hds
   have hl':=Paired.len pv'
   have hr':r.toNat<hs.length:=by (first|lia|omega)
   have eh:hs[r.toNat]? = some hs[r.toNat]:=List.getElem?_eq_getElem hr'
   generalize hs[r.toNat]=h at eh
   have ev2:vs'[r.toNat]? = some vs'[r.toNat]:=List.getElem?_eq_getElem (by (first|lia|omega))
   obtain ⟨t,b,et,e1,e2⟩ := Paired.get pv' _ _ _ ev2 eh
   have av:atI vs' r=some (.ref t):=kX r0' (by rw [ev2,et])
   have ew11:H11 wa=some (.lst [.str w]):=D11.keep _ _ nw.w1 ew9
   have en11:H11 na=some (.lst [.int k]):=D11.keep _ _ nw.a1 en9
   have hok:=hg.all h (List.mem_of_getElem? eh)
   have own:=is_own_call (bs:=bs) eh
   rw [show ((r.toNat:Nat):Int)=r by (first|lia|omega)] at own
   have p4:=hok.p4
   have tw:t≠wa:=fun z=>by rw [z,ew11] at e1; cases e1
   have tn:t≠na:=fun z=>by rw [z,en11] at e1; cases e1
   refine ⟨_,rfl,.inl ⟨rfl,_,.of ew11⟩,_,rfl,_,rfl,hd,_,_,_,rfl,rfl,.of ev',av,t,_,_,_,rfl,rfl,.of e1,rfl,wa,_,_,rfl,rfl,ew11,small1000 (show 1<=1000 by decide),?_⟩
   refine ⟨_,rfl,.inl ⟨rfl,_,.of (by rw [zH (Ne.symm nw.wn)]; exact en11)⟩,_,rfl,na,[.int k],_,rfl,rfl,by rw [zH (Ne.symm nw.wn)]; exact en11,small1000 (show 1<=1000 by decide),?_⟩
   refine ⟨_,rfl,_,rfl,hd,vs',_,_,rfl,rfl,.of (by rw [zH (Ne.symm nw.a2),zH (Ne.symm nw.w2)]; exact ev'),av,t,[.str h.1,.ref b,.int (h.2.2:Int)],_,_,rfl,rfl,.of (by rw [zH tn,zH tw]; exact e1),rfl,?_⟩
   exact MidS.app (d:=d) (C:=True) (v7:=some (.int r)) (v12:=v12) nw (k9.trans (penKL D11)) (fun b e=>lv9 b (D11.free e)) (S11.mono (m':=m+6) (by (first|lia|omega))) ew11 en11 (by rw [kk]; exact own) (xO hok.nm) (by (first|lia|omega)) trivial (by (first|lia|omega))
  ·have kk:=vf c
   refine ⟨ow,on,n,v7,v12,rfl,k9,lv9,S9.mono (by (first|lia|omega)),ew9,en9,fun _ => ?_,fun z=>absurd trivial z,l1,l2,n13,wd9,z9⟩
   by_cases z:k=2\/k=3\/k=4
   ·exact own9 z
   ·obtain ⟨rfl,rfl,en⟩ := no9 z
    exact is_own_none ⟨by (first|lia|omega),by (first|lia|omega),by (first|lia|omega),by (first|lia|omega),by (first|lia|omega),kk⟩ (many_is k2' k19 (by (first|lia|omega)) kk en)
 rintro σ11 H11 M11
 obtain ⟨ow,on,n,v7,v12,rfl,k11,lv11,S11,ew11,en11,own11,no11,l1,l2,n13,wd11,z11⟩ := M11
 have own:=own11 trivial
 have dn : 0<n->1<=d/\2<=l:=fun hn=>by
  have:¬ (l - 1<1\/d=0):=fun z=>by
   rcases hkl z with y | y | y
   ·(first|lia|omega)
   ·(first|lia|omega)
   ·have:=z11 y; (first|lia|omega)
  (first|lia|omega)
 refine ⟨_,rfl,_,rfl,by (first|lia|omega),by (first|lia|omega),kU (fun i σ' H'=>∃ (ws:List Str) (zs:List Int) (l':Int) (v13 v14 v15:Option V),σ'=[some (.ref st),some (.ref hd),some (.ref bx),some (.ref lf),some (.int (11 - ((d+1:Nat):Int))),some (.int k),none,v7,some (.str w),some (.int (n:Int)),some (.ref wa),some (.ref na),v12,v13,v14,v15] /\
  KeepL [st,lf] H H'/\(∀ b,H' b=none->H b=none)/\ShAt st hd bx lf hs bs H' (m+6+10 * (ws.length:Int)) l'/\l'.toNat<=(l - 1).toNat/\ws.length+28 * l'.toNat<=2 * i+28 * (l - 1).toNat/\zs.length<=2 * ws.length/\H' wa=some (.lst ((w :: (ow++ws)).map V.str))/\H' na=some (.lst ((k :: (on++zs)).map V.int))/\RParts hs bs d i ws zs/\∀ x∈ws,WdOk x)
  ⟨[],[],l - 1,none,none,none,rfl,k11,lv11,S11.mono (by show m+6<=m+6+10 * ((0:Nat):Int); (first|lia|omega)),Nat.le_refl _,by show 0+_<=_; (first|lia|omega),Nat.zero_le _,by rw [List.append_nil]; exact ew11,by rw [List.append_nil]; exact en11,.nil,fun x hx=>(nomatch hx)⟩ ?_ ?_⟩
 ·rintro i σ' H' hi ⟨ws,zs,l',v13,v14,v15,rfl,k',lv',S',b1,b2,b3,ew',en',rp,wd'⟩
  have hi':i<n:=by (first|lia|omega)
  obtain ⟨hd1,hl2⟩ := dn (by (first|lia|omega))
  refine ⟨_,rfl,_,rfl,_,rfl,_,rfl,_,rfl,_,_,rfl,rfl,st,hd,bx,lf,hs,bs,m+6+10 * (ws.length:Int),l',?_,hd1,by (first|lia|omega),S',hg,hb,by (first|lia|omega),by (first|lia|omega),fun p wa2 na2 ws2 zs2 l2 H2 k2 lv2 S2 c1 c2 c3 ep ew2 en2 f1 f2 rd2 wd2 => ?_⟩
  ·show [V.ref st,.ref hd,.ref bx,.ref lf,.int (11 - ((d+1:Nat):Int)+1)]=[V.ref st,.ref hd,.ref bx,.ref lf,.int (11 - (d:Int))]
   rw [show (11 - ((d+1:Nat):Int)+1)=11 - (d:Int) by (first|lia|omega)]
  have nin:∀ {b:Addr},b≠st->b≠lf->b ∉ [st,lf]:=fun h1 h2 z=>by
   rcases List.mem_cons.mp z with z | z
   ·exact h1 z
   ·exact h2 (List.mem_singleton.mp z)
  have ewk:=k2 _ _ (nin nw.w1 nw.w3) ew'
  have enk:=k2 _ _ (nin nw.a1 nw.a3) en'
  have w2n:wa2≠wa:=fun z=>by rw [z,ew'] at f1; cases f1
  have w2a:wa2≠na:=fun z=>by rw [z,en'] at f1; cases f1
  have a2w:na2≠wa:=fun z=>by rw [z,ew'] at f2; cases f2
  have lnw:((w :: (ow++ws)).map V.str).length=1+ow.length+ws.length:=by rw [List.length_map,List.length_cons,List.length_append]; (first|lia|omega)
  have lnz:((k :: (on++zs)).map V.int).length=1+on.length+zs.length:=by rw [List.length_map,List.length_cons,List.length_append]; (first|lia|omega)
  refine ⟨p,_,rfl,.of ep,rfl,_,_,rfl,_,_,rfl,rfl,?_⟩
  refine ⟨_,rfl,.inl ⟨rfl,_,.of ewk⟩,_,rfl,wa,wa2,_,_,rfl,rfl,ewk,ew2,?_,?_⟩
  ·rw [lnw,List.length_map]; exact million (by (first|lia|omega))
  have enu:upd H2 wa (.lst ((w :: (ow++ws)).map V.str++ws2.map V.str)) na=some (.lst ((k :: (on++zs)).map V.int)):=by rw [zH (Ne.symm nw.wn)]; exact enk
  have en2u:upd H2 wa (.lst ((w :: (ow++ws)).map V.str++ws2.map V.str)) na2=some (.lst (zs2.map V.int)):=by rw [zH a2w]; exact en2
  refine ⟨_,rfl,.inl ⟨rfl,_,.of enu⟩,_,rfl,na,na2,_,_,rfl,rfl,enu,en2u,?_,?_⟩
  ·rw [lnz,List.length_map]; exact million (by (first|lia|omega))
  have Sx:=(S2.put (ys:=(w :: (ow++ws)).map V.str++ws2.map V.str) ewk nw.w1 nw.w2 nw.w3).put (ys:=(k :: (on++zs)).map V.int++zs2.map V.int) enu nw.a1 nw.a2 nw.a3
  refine ⟨ws++ws2,zs++zs2,l2,_,_,_,rfl,fun b o nb e => ?_,yY (yY (fun b e=>lv' b (lv2 b e)) ewk) enu,Sx.mono (by rw [List.length_append]; (first|lia|omega)),by (first|lia|omega),by rw [List.length_append]; (first|lia|omega),by rw [List.length_append,List.length_append]; (first|lia|omega),?_,?_,.snoc rp rd2,fun x hx => ?_⟩
  ·rw [zH (zG e nw.f2),zH (zG e nw.f1)]
   exact k2 b o nb (k' b o nb e)
  ·rw [zH nw.wn,zC]; simp
  ·rw [zC]; simp
  ·rcases List.mem_append.mp hx with z | z
   ·exact wd' x z
   ·exact wd2 x z
 ·rintro σ' H' ⟨ws,zs,l',v13,v14,v15,rfl,k',lv',S',b1,b2,b3,ew',en',rp,wd'⟩
  have nn:((n:Int)).toNat=n:=Int.toNat_natCast n
  rw [nn] at b2 rp
  have lw:(w :: (ow++ws)).length=1+ow.length+ws.length:=by rw [List.length_cons,List.length_append]; (first|lia|omega)
  have lz:(k :: (on++zs)).length=1+on.length+zs.length:=by rw [List.length_cons,List.length_append]; (first|lia|omega)
  have kc:k=2+(((k - 2).toNat:Nat):Int):=by (first|lia|omega)
  refine ⟨_,rfl,_,rfl,small (show 2<=1000 by decide),fun p hp=>fin H' _ l' (w :: (ow++ws)) (k :: (on++zs)) wa na k' lv' S' (by rw [lw]; (first|lia|omega)) (by (first|lia|omega)) ?_ (by rw [lw,lz]; (first|lia|omega)) ew' en' nw.f1 nw.f2 ?_ ?_ p hp⟩
  ·rw [lw]
   by_cases hn : 0<n
   ·have:=dn hn; (first|lia|omega)
   ·(first|lia|omega)
  ·rw [kc] at own ⊢
   exact reads_kind hb hw own rp
  ·intro x hx
   rcases List.mem_cons.mp hx with z | z
   ·rw [z]; exact kw_wdok (List.mem_of_getElem? hw)
   ·rcases List.mem_append.mp z with z | z
    ·exact wd11 x z
    ·exact wd' x z

end
section
variable {P:Program} {w:World} {K:PySem.W.Frag} {mg:Str->Option Value} {base:Heap} {f:Addr} {fd:FuncData} {aP aW aH CT CR:Addr}
set_option maxHeartbeats 4000000

def headsH (hs:List Hd3):List Int:=(hs.map fun h=>[(h.2.2:Int),(h.2.1.length:Int)]).flatten
theorem headsP_of (pr:List Pg):headsP pr=headsH (pr.map (·.1)):=by
 unfold headsP headsH
 rw [List.map_map]
 rfl
theorem headsH_snoc (hs:List Hd3) (h:Hd3):headsH (hs++[h])=headsH hs++[(h.2.2:Int),(h.2.1.length:Int)]:=by
 unfold headsH
 rw [List.map_append,List.flatten_append]
 simp
theorem bodiesP_snoc (pr:List Pg) (x:Pg):bodiesP (pr++[x])=bodiesP pr++x.2.2:=by
 unfold bodiesP
 rw [List.map_append,List.flatten_append]
 simp
theorem headsH_len (hs:List Hd3):(headsH hs).length=2 * hs.length:=by
 induction hs with
 | nil=>rfl
 | cons h r ih =>
  show ([(h.2.2:Int),(h.2.1.length:Int)]++headsH r).length=_
  rw [List.length_append,ih]
  show 2+2 * r.length=2 * (r.length+1)
  (first|lia|omega)
def LnAt (H:Hp) (v:V) (ws:List Str):Prop:=∃ a,v = .ref a/\H a=some (.lst (ws.map V.str))
def sheetP (pr:List Pg):List Int:=(pr.length:Int) :: (headsP pr++bodiesP pr)
structure ProgAt (H:Hp) (p sh:Addr) (na li:Addr) (pr:List Pg):Prop where
 here:H p=some (.tup [.ref na,.ref sh,.ref li])
 nms:∃ vs,H na=some (.tup vs)/\Paired (NmAt H) vs (namesP pr)
 sheet:H sh=some (.lst ((sheetP pr).map V.int))
 lines:∃ vs,H li=some (.lst vs)/\Paired (LnAt H) vs (pr.map lineW)
structure PrG (pr:List Pg):Prop where
 ok:ProgR pr
 few:∀ x∈pr,x.2.1.length<=700
 fewz:(bodiesP pr).length<=100000
def spProgL:Sp:=fun vs H Q _=>∃ (st:Addr) (most room m:Int),vs=[.ref st,.int most,.int room]/\0<most/\most<=16/\0<=room/\room<=24/\Pen3 H st m/\m<=10000/\∀ p sh na li pr H',Penned3 st (m+120000) H H'->ProgAt H' p sh na li pr->PrG pr->(pr.length:Int)<=most->H sh=none->Q (.ref p) H'
def LnB (sh li st:Addr) (H:Hp) (v:V) (ws:List Str):Prop:=∃ a,v = .ref a/\H a=some (.lst (ws.map V.str))/\a≠sh/\a≠li/\a≠st
structure PIn (st hd na sh li:Addr) (hs:List Hd3) (H:Hp) (m:Int) (i:Nat) (pr:List Pg) (lvs:List V) (H':Hp):Prop where
 got:pr.map (·.1)=hs.take i
 pen:Penned3 st m H H'
 hds:HdsR H' hd hs
 nms:∃ ws,H' na=some (.tup ws)/\Paired (NmAt H') ws (hs.map fun h=>(h.1,h.2.1))
 sheet:H' sh=some (.lst (((hs.length:Int) :: (headsH hs++bodiesP pr)).map V.int))
 lines:H' li=some (.lst lvs)
 ln:Paired (LnB sh li st H') lvs (pr.map lineW)
 ok:∀ x∈pr,PgOk hs x/\x.2.1.length<=700
 few:(bodiesP pr).length<=2000 * i
section
variable {st hd na sh li:Addr} {hs:List Hd3} {H H' H2:Hp} {m m':Int} {i:Nat} {pr:List Pg} {lvs:List V}
theorem PIn.step (h:PIn st hd na sh li hs H m i pr lvs H') (P:Penned3 st m' H H2) (nd:hd≠st) (ns:sh≠st) (nl:li≠st) (k:∀ (b:Addr) (o:HO),b≠st->H' b=some o->H2 b=some o):PIn st hd na sh li hs H m' i pr lvs H2:=by
 have tp:Tups H' H2:=fun b xs e=>k b _ (fun z=>by obtain ⟨ys,ey⟩ := h.pen.pen.is; rw [z,ey] at e; cases e) e
 obtain ⟨vs,ev,pv⟩ := h.hds
 obtain ⟨ws,ew,pw⟩ := h.nms
 refine ⟨h.got,P,⟨vs,k _ _ nd ev,Paired.imp (fun v x z=>z.tups tp) pv⟩,⟨ws,tp _ _ ew,Paired.imp (fun v x z=>z.tups tp) pw⟩,k _ _ ns h.sheet,k _ _ nl h.lines,Paired.imp (fun v x z => ?_) h.ln,h.ok,h.few⟩
 obtain ⟨a,rfl,ea,n1,n2,n3⟩ := z
 exact ⟨a,rfl,k _ _ n3 ea,n1,n2,n3⟩
end
theorem ok_progL (T:TxtL K mg) (F:Fun K "_law_program" "_law_program" xB f fd) (C_law_heads:Cal P w K mg base (CXE P w) 3 "_law_heads" ["_law_pen_here", "_law_most"] spHeadsL3) (C_law_shape:Cal P w K mg base (CXE P w) 13 "_law_shape" ["_law_pen_here", "_law_heads_here", "_law_boxes", "_law_left", "_law_deep"] (spShapeL 10)) :
  FnOk P w K mg base (CXE P w) 14 f fd ["_law_pen_here", "_law_most", "_law_room"] spProgL:=by
 refine F.okN zY (fun vs H Q E h => ?_) (fun cdv A outer s H vs Q E hr h => ?_)
 ·obtain ⟨st,most,room,m,rfl,_⟩ := h
  rfl
 obtain ⟨st,most,room,m,rfl,o0,o1,q0,q1,D,m0,q⟩ := h
 refine ⟨_,(zD (zN (i:=3) zY.nd rfl (Or.inl rfl) (zJ C_law_heads hr rfl (zA (pv 0) (zA (pv 1) zB)) passN))
   (zD (zN (i:=4) zY.nd rfl (Or.inl rfl) (yV jN rfl T.n_tuple bt_tuple (zA (wW (own:=["_law_name_here", "_law_boxes", "_law_params"]) (ys:=[]) rfl (wE (pv 3)) (jB (sc:=defScope xB) rfl (by decide +kernel)) .nil (fun _ _ _ _ _=>(pg_tupK (n:=3) K rfl rfl (yC (zV (i:=0) (show List.Nodup [("_law_name_here" : Str),("_law_boxes" : Str),("_law_params" : Str)] from (by decide +kernel)) rfl (Or.inl rfl)) (yC (zV (i:=1) (show List.Nodup [("_law_name_here" : Str),("_law_boxes" : Str),("_law_params" : Str)] from (by decide +kernel)) rfl (Or.inl rfl)) (yC (zV (i:=2) (show List.Nodup [("_law_name_here" : Str),("_law_boxes" : Str),("_law_params" : Str)] from (by decide +kernel)) rfl (Or.inl rfl)) jO))))) (fun _ _ _ _ _=>wB) (fun _ _ _ _ _=>(zQ (zA (pv 0) (zA (pv 1) zB))))) zB)))
   (zD (zN (i:=5) zY.nd rfl (Or.inl rfl) (zK (zA (zU zT rfl T.n_len yN (zA (pv 3) zB)) zB)))
   (zD (kH PassesOwn.never rfl (wE (pv 3)) (qU rfl (yC (zV (i:=6) zY.nd rfl (Or.inl rfl)) (yC (zV (i:=7) zY.nd rfl (Or.inl rfl)) (yC (zV (i:=8) zY.nd rfl (Or.inl rfl)) jO)))) (zI (yB (yP PySem.F.plainAttrs_list PySem.F.slot_list_extend PySem.F.type_list_extend mt_extend (pv 5) (zA (zK (zA (pv 8) (zA (zU zT rfl T.n_len yN (zA (pv 7) zB)) zB))) zB)))))
   (zD (zN (i:=9) zY.nd rfl (Or.inl rfl) (zK zB))
   (zD (kH PassesOwn.never rfl (wE (pv 3)) (qU rfl (yC (zV (i:=6) zY.nd rfl (Or.inl rfl)) (yC (zV (i:=7) zY.nd rfl (Or.inl rfl)) (yC (zV (i:=8) zY.nd rfl (Or.inl rfl)) jO)))) (zD (qT (zJ C_law_shape hr rfl (zA (pv 0) (zA (pv 3) (zA (pv 7) (zA (zK (zA (pv 2) zB)) (zA zE zB))))) passN) (qU rfl (yC (zV (i:=10) zY.nd rfl (Or.inl rfl)) (yC (zV (i:=11) zY.nd rfl (Or.inl rfl)) jO))))
   (zD (zN (i:=12) zY.nd rfl (Or.inl rfl) (zL yA (zL yA (zL yA (zL yA (zK (zA zP (zA (pv 6) zB))) (yV call_list_of rfl T.n_list bt_list (zA (qE sl_tupU (pv 7) wD (wC (pv 8))) zB))) (zK (zA zP zB))) (yV call_list_of rfl T.n_list bt_list (zA (qE sl_tupU (pv 7) (wC (pv 8)) wD) zB))) (zK (zA zP zB))))
   (zD (yB (yP PySem.F.plainAttrs_list PySem.F.slot_list_append PySem.F.type_list_append yJ (pv 9) (zA (zL yA (pv 12) (pv 10)) zB)))
   (zI (yB (yP PySem.F.plainAttrs_list PySem.F.slot_list_extend PySem.F.type_list_extend mt_extend (pv 5) (zA (pv 11) zB))))))))
   (zI (zS (zQ (zA (pv 4) (zA (pv 5) (zA (pv 9) zB)))))))))))),?_⟩
 try dsimp only [Cx.nox,Cx.exc,Cx.wish,yG]
 refine ⟨_,rfl,_,rfl,st,most,m,rfl,o0,o1,D,m0,fun hd hs H1 D1 hr1 hg hmost f1 => ?_⟩
 obtain ⟨vs,ev,pv⟩ := id hr1
 have hvl:=Paired.len pv
 have h16:=hg.few
 have nhs:hd≠st:=Ne.symm (D.ne f1)
 refine ⟨_,rfl,hd,rfl,⟨_,.of ev⟩,fun p hp => ?_⟩
 have npd:hd≠p:=zG ev hp
 refine comp_lst (xs:=vs) (fun i σ' H'=>∃ us,H' p=some (.lst us)/\Paired (NmAt H') us ((hs.take i).map fun h=>(h.1,h.2.1))/\Same H1 H'/\us.length=i/\∃ x y z,σ'=[x,y,z]) ⟨[],zC,.nil,zF hp _,rfl,_,_,_,rfl⟩ ?_ ?_ ?_
 ·rintro i σ' H' hi ⟨us,_,_,sm,_⟩
  exact .of (sm _ _ ev)
 ·rintro i v σ' H' hi hv ⟨us,ep,pu,sm,hlu,x0,y0,z0,rfl⟩
  have hi2:i<hs.length:=by (first|lia|omega)
  obtain ⟨t,b,rfl,et,eb⟩ := Paired.get pv _ _ _ hv (List.getElem?_eq_getElem hi2)
  refine ⟨t,_,rfl,.of (sm _ _ et),rfl,_,_,rfl,_,_,rfl,_,_,rfl,rfl,?_⟩
  refine ⟨_,rfl,_,rfl,small (show 2<=1000 by decide),fun t2 ht2 => ?_⟩
  have sm2:=zF ht2 (.tup [.str hs[i].1,.ref b])
  have np:p≠t2:=zG ep ht2
  have tpp:∀ {c:Addr} {xs:List V} {o:HO},upd H' t2 (.tup [.str hs[i].1,.ref b]) c=some (.tup xs)->upd (upd H' t2 (.tup [.str hs[i].1,.ref b])) p o c=some (.tup xs):=fun {c xs o} e=>by
   rw [zH (fun z=>by rw [z,zH np,ep] at e; cases e)]; exact e
  refine ⟨us,by rw [zH np]; exact ep,small1000 (by (first|lia|omega)),CW.next hi ⟨us++[.ref t2],zC,?_,?_,?_,_,_,_,rfl⟩⟩
  ·rw [List.take_succ,List.getElem?_eq_getElem hi2,List.map_append]
   exact Paired.snoc (Paired.imp (fun v x z=>z.tups fun c xs e=>tpp (sm2 _ _ e)) pu) ⟨t2,b,rfl,tpp zC,tpp (sm2 _ _ (sm _ _ eb))⟩
  ·intro c o e
   rw [zH (zG e hp)]
   exact sm2 _ _ (sm _ _ e)
  ·rw [List.length_append]; show us.length+1=i+1; (first|lia|omega)
 rintro σ' H2 ⟨us,ep,pu,sm2,hlu,_⟩
 rw [List.take_of_length_le (by (first|lia|omega))] at pu
 refine ⟨p,_,rfl,.inl ⟨.of ep,fun na hna => ?_⟩⟩
 have s3:=zF hna (.tup us)
 have ev3:=s3 _ _ (sm2 _ _ ev)
 refine ⟨_,rfl,hd,_,rfl,.inl (.of ev3),small (show 1<=1000 by decide),fun sh hsh => ?_⟩
 have D4:=D1.trans (D1.pen.more ((sm2.trans s3).trans (zF hsh (.lst [.int (vs.length:Int)]))))
 have hr4:HdsR (upd (upd H2 na (.tup us)) sh (.lst [.int (vs.length:Int)])) hd hs:=⟨vs,(zF hsh _) _ _ ev3,Paired.imp (fun v x z=>z.tups fun c xs e=>(zF hsh _) _ _ (s3 _ _ (sm2 _ _ e))) pv⟩
 have nm4:∃ ws,upd (upd H2 na (.tup us)) sh (.lst [.int (vs.length:Int)]) na=some (.tup ws)/\Paired (NmAt (upd (upd H2 na (.tup us)) sh (.lst [.int (vs.length:Int)]))) ws (hs.map fun h=>(h.1,h.2.1)) :=
  ⟨us,(zF hsh _) _ _ zC,Paired.imp (fun v x z=>z.tups fun c xs e=>(zF hsh _) _ _ (s3 _ _ e)) pu⟩
 have fsh:H sh=none:=D1.free (sm2.free (s3.free hsh))
 have nss:sh≠st:=Ne.symm (D.ne fsh)
 have nsd:sh≠hd:=Ne.symm (zG ev3 hsh)
 have esh4:upd (upd H2 na (.tup us)) sh (.lst [.int (vs.length:Int)]) sh=some (.lst [.int (vs.length:Int)]):=zC
 generalize upd (upd H2 na (.tup us)) sh (.lst [.int (vs.length:Int)])=H4 at *
 clear s3 ev3 sm2 ep hna hsh
 obtain ⟨vs4,ev4,pv4⟩ := id hr4
 have hvl4:=Paired.len pv4
 refine ⟨_,rfl,hd,rfl,⟨_,.of ev4⟩,for_list (xs:=vs4) (fun i σ' H'=>∃ v6 v7 v8,σ'=[some (.ref st),some (.int most),some (.int room),some (.ref hd),some (.ref na),some (.ref sh),v6,v7,v8,none,none,none,none]/\(∀ (b:Addr) (o:HO),b≠sh->H4 b=some o->H' b=some o)/\H' sh=some (.lst (((hs.length:Int) :: headsH (hs.take i)).map V.int))/\∀ b,H' b=none->H4 b=none)
  ⟨_,_,_,rfl,fun _ _ _ e=>e,by rw [esh4,hvl]; rfl,fun _ e=>e⟩ (fun i σ' H' hi ⟨_,_,_,_,k',_⟩ => .of (k' _ _ (Ne.symm nsd) ev4)) ?_ ?_⟩
 ·rintro i v σ' H' hv ⟨v6,v7,v8,rfl,k',es',lv'⟩
  have hi2:i<hs.length:=by
   have:=(List.getElem?_eq_some_iff.mp hv).1
   (first|lia|omega)
  obtain ⟨t,b,rfl,et,eb⟩ := Paired.get pv4 _ _ _ hv (List.getElem?_eq_getElem hi2)
  have tk:∀ {c:Addr} {xs:List V},H4 c=some (.tup xs)->H' c=some (.tup xs):=fun {c xs} e=>k' _ _ (fun z=>by rw [z,esh4] at e; cases e) e
  refine ⟨t,_,rfl,.of (tk et),rfl,_,_,rfl,_,_,rfl,_,_,rfl,rfl,?_⟩
  refine ⟨_,rfl,.inl ⟨rfl,_,.of es'⟩,_,rfl,_,rfl,b,_,rfl,.inr (.of (tk eb)),small (show 2<=1000 by decide),fun x hx => ?_⟩
  have nx:sh≠x:=zG es' hx
  have lb:(((hs[i].2.1.map V.str).length:Nat):Int)=(hs[i].2.1.length:Int):=by rw [List.length_map]
  rw [lb]
  refine ⟨sh,x,_,_,rfl,rfl,by rw [zH nx]; exact es',zC,?_,_,_,_,rfl,fun c o n e => ?_,?_,fun c e => ?_⟩
  ·rw [List.length_map,List.length_cons,headsH_len]
   have:=List.length_take_le i hs
   show 2 * _+1+2<=sizeLine
   exact million (by (first|lia|omega))
  ·rw [zH n,zH (zG (k' _ _ n e) hx)]; exact k' _ _ n e
  ·rw [zC,List.take_succ,List.getElem?_eq_getElem hi2]
   show some (HO.lst _)=some (.lst (((hs.length:Int) :: headsH (hs.take i++[hs[i]])).map V.int))
   rw [headsH_snoc]
   simp
  ·refine lv' c ?_
   by_cases z:c=sh
   ·rw [z,zC] at e; cases e
   ·rw [zH z] at e
    exact (zF hx _).free e
 rintro σ' H5 ⟨v6,v7,v8,rfl,k5,es5,lv5⟩
 rw [List.take_of_length_le (by (first|lia|omega))] at es5
 refine ⟨small (show 0<=1000 by decide),fun li hli => ?_⟩
 have s6:=zF hli (.lst [])
 have fli:H li=none:=D4.free (lv5 _ hli)
 have nls:li≠st:=Ne.symm (D.ne fli)
 have nlh:sh≠li:=zG es5 hli
 have tp5:Tups H4 H5:=fun c xs e=>k5 _ _ (fun z=>by rw [z,esh4] at e; cases e) e
 have D5:Penned3 st (m+3000) H H5:=by
  obtain ⟨⟨c,sd,t,e,z⟩,kp⟩ := D4
  exact ⟨⟨c,sd,t,k5 _ _ (Ne.symm nss) e,z⟩,fun b o nb e=>k5 _ _ (zG e fsh) (kp b o nb e)⟩
 have P6:PIn st hd na sh li hs H (m+3000) 0 [] [] (upd H5 li (.lst [])):=by
  obtain ⟨ws,ew,pw⟩ := nm4
  exact ⟨rfl,D5.trans (D5.pen.more s6),⟨vs4,s6 _ _ (k5 _ _ (Ne.symm nsd) ev4),Paired.imp (fun v x z=>z.tups fun c xs e=>s6 _ _ (tp5 _ _ e)) pv4⟩,⟨ws,s6 _ _ (tp5 _ _ ew),Paired.imp (fun v x z=>z.tups fun c xs e=>s6 _ _ (tp5 _ _ e)) pw⟩,
   by rw [s6 _ _ es5]; show some (HO.lst _)=some (.lst (((hs.length:Int) :: (headsH hs++[])).map V.int)); rw [List.append_nil],zC,.nil,(fun x hx=>(nomatch hx)),Nat.zero_le _⟩
 have ev6:=s6 _ _ (k5 _ _ (Ne.symm nsd) ev4)
 have nld:li≠hd:=fun z=>by rw [z,k5 _ _ (Ne.symm nsd) ev4] at hli; cases hli
 generalize upd H5 li (.lst [])=H6 at *
 clear s6 tp5 D5 lv5 es5 k5
 refine ⟨_,rfl,hd,rfl,⟨_,.of ev6⟩,for_list (xs:=vs4) (fun i σ' H'=>∃ pr lvs v6 v7 v8 v10 v11 v12,σ'=[some (.ref st),some (.int most),some (.int room),some (.ref hd),some (.ref na),some (.ref sh),v6,v7,v8,some (.ref li),v10,v11,v12]/\PIn st hd na sh li hs H (m+3000+7000 * i) i pr lvs H'/\H' hd=some (.lst vs4))
  ⟨[],[],_,_,_,_,_,_,rfl,P6.step (P6.pen.mono (by (first|lia|omega))) nhs nss nls (fun _ _ _ e=>e),ev6⟩ (fun i σ' H' hi ⟨_,_,_,_,_,_,_,_,_,_,e⟩ => .of e) ?_ ?_⟩
 ·rintro i v σ' H7 hv ⟨pr,lvs,v6,v7,v8,v10,v11,v12,rfl,P7,ev7⟩
  have hi2:i<hs.length:=by
   have:=(List.getElem?_eq_some_iff.mp hv).1
   (first|lia|omega)
  have eh:hs[i]? = some hs[i]:=List.getElem?_eq_getElem hi2
  have hok:=hg.all hs[i] (List.getElem_mem hi2)
  obtain ⟨vs7,ev7',pv7⟩ := P7.hds
  rw [ev7] at ev7'
  cases ev7'
  obtain ⟨t,b,rfl,et,eb⟩ := Paired.get pv7 _ _ _ hv eh
  generalize hs[i]=h at *
  refine ⟨t,_,rfl,.of et,rfl,_,_,rfl,_,_,rfl,_,_,rfl,rfl,?_⟩
  refine ⟨_,rfl,_,rfl,_,rfl,_,rfl,small (show 1<=1000 by decide),fun lf hlf => ?_⟩
  have s8:=zF hlf (.lst [.int room])
  have P8:=P7.step (P7.pen.trans (P7.pen.pen.more s8)) nhs nss nls (fun b o _ e=>s8 _ _ e)
  have nfs:lf≠st:=Ne.symm (P7.pen.pen.ne hlf)
  have nfd:lf≠hd:=Ne.symm (zG ev7 hlf)
  have S8:ShAt st hd b lf hs h.2.1 (upd H7 lf (.lst [.int room])) (m+3000+7000 * i) room:=⟨P8.pen.pen,P8.hds,s8 _ _ eb,zC,nfs,nfd,nhs⟩
  refine ⟨st,hd,b,lf,hs,h.2.1,m+3000+7000 * i,room,rfl,by decide,by decide,S8,hg,hok.bx,by (first|lia|omega),by (first|lia|omega),fun p2 wa na2 ws zs l' H9 k9 lv9 S9 c1 c2 c3 ep2 ew en f1 f2 rd wd => ?_⟩
  have ws7:ws.length<=674:=by (first|lia|omega)
  have kb:∀ (c:Addr) (o:HO),c≠st->H7 c=some o->H9 c=some o:=fun c o n e=>k9 c o (fun z=>by
   rcases List.mem_cons.mp z with z | z
   ·exact n z
   ·exact zG e hlf (List.mem_singleton.mp z)) (s8 _ _ e)
  have P9:PIn st hd na sh li hs H (m+3000+7000 * ((i+1:Nat):Int)) i pr lvs H9:=P7.step ⟨S9.pen.mono (by (first|lia|omega)),fun c o n e=>kb c o n (P7.pen.keep c o n e)⟩ nhs nss nls kb
  have lv79:∀ c,H9 c=none->H7 c=none:=fun c e=>s8.free (lv9 c e)
  have eb9:H9 b=some (.tup (h.2.1.map V.str)):=S9.box
  have b12:=hok.bx.few
  have pb:=hok.pb
  refine ⟨p2,_,rfl,.of ep2,rfl,_,_,rfl,_,_,rfl,rfl,?_⟩
  refine ⟨_,rfl,small (show 2<=1000 by decide),fun a1 h1 => ?_⟩
  have g1:=zF h1 (.lst [V.str "fun",V.str h.1])
  refine ⟨_,rfl,_,rfl,_,rfl,b,_,rfl,g1 _ _ eb9,fun r1 G1 x1 y1=>⟨r1,_,rfl,.inr (.of y1),fun a2 h2 => ?_⟩⟩
  rw [qR]
  have dl:((h.2.1.map V.str).drop h.2.2).length<=12:=by rw [List.length_drop,List.length_map]; (first|lia|omega)
  have p4:=hok.p4
  have n2:=zF h2 (.lst ((h.2.1.map V.str).take h.2.2))
  refine ⟨a1,a2,_,_,rfl,rfl,n2 _ _ (x1 _ _ zC),zC,small (show 2+((h.2.1.map V.str).take h.2.2).length<=1000 by rw [List.length_take,List.length_map]; (first|lia|omega)),fun a3 h3 => ?_⟩
  have n3:=zF h3 (.lst ([V.str "fun",V.str h.1]++(h.2.1.map V.str).take h.2.2))
  refine ⟨small (show 1<=1000 by decide),fun a4 h4 => ?_⟩
  have n4:=zF h4 (.lst [V.str "with"])
  refine ⟨a3,a4,_,_,rfl,rfl,n4 _ _ zC,zC,small (show ([V.str "fun",V.str h.1]++(h.2.1.map V.str).take h.2.2).length+1<=1000 by rw [List.length_append,List.length_take,List.length_map]; show 2+_+1<=_; (first|lia|omega)),fun a5 h5 => ?_⟩
  have n5:=zF h5 (.lst ([V.str "fun",V.str h.1]++(h.2.1.map V.str).take h.2.2++[V.str "with"]))
  have z5:=g1.trans (x1.trans (n2.trans (n3.trans (n4.trans n5))))
  refine ⟨_,rfl,_,rfl,_,rfl,b,_,rfl,z5 _ _ eb9,fun r2 G2 x2 y2=>⟨r2,_,rfl,.inr (.of y2),fun a6 h6 => ?_⟩⟩
  rw [cutV_drop]
  have n6:=zF h6 (.lst ((h.2.1.map V.str).drop h.2.2))
  refine ⟨a5,a6,_,_,rfl,rfl,n6 _ _ (x2 _ _ zC),zC,small (show ([V.str "fun",V.str h.1]++(h.2.1.map V.str).take h.2.2++[V.str "with"]).length+((h.2.1.map V.str).drop h.2.2).length<=1000 by rw [List.length_append,List.length_append,List.length_take,List.length_map]; show 2+_+1+_<=_; (first|lia|omega)),fun a7 h7 => ?_⟩
  have n7:=zF h7 (.lst ([V.str "fun",V.str h.1]++(h.2.1.map V.str).take h.2.2++[V.str "with"]++(h.2.1.map V.str).drop h.2.2))
  refine ⟨small (show 1<=1000 by decide),fun a8 h8 => ?_⟩
  have n8:=zF h8 (.lst [V.str "is"])
  have l7:([V.str "fun",V.str h.1]++(h.2.1.map V.str).take h.2.2++[V.str "with"]++(h.2.1.map V.str).drop h.2.2).length<=27:=by
   rw [List.length_append,List.length_append,List.length_append,List.length_take,List.length_map]
   show 2+_+1+_<=_
   (first|lia|omega)
  refine ⟨a7,a8,_,_,rfl,rfl,n8 _ _ zC,zC,small (Nat.le_trans (Nat.add_le_add_right l7 1) (by decide)),fun a9 h9 => ?_⟩
  have n9:=zF h9 (.lst ([V.str "fun",V.str h.1]++(h.2.1.map V.str).take h.2.2++[V.str "with"]++(h.2.1.map V.str).drop h.2.2++[V.str "is"]))
  have z9:=z5.trans (x2.trans (n6.trans (n7.trans (n8.trans n9))))
  refine ⟨_,rfl,.inl ⟨rfl,_,.of (z9 _ _ P9.lines)⟩,_,rfl,_,rfl,a9,wa,_,_,rfl,rfl,zC,z9 _ _ ew,million (by rw [List.length_append,List.length_map]; show _+1+_<=_; (first|lia|omega)),fun a10 h10 => ?_⟩
  have n10:=zF h10 (.lst ([V.str "fun",V.str h.1]++(h.2.1.map V.str).take h.2.2++[V.str "with"]++(h.2.1.map V.str).drop h.2.2++[V.str "is"]++ws.map V.str))
  have z10:=z9.trans n10
  have P10:=P9.step (P9.pen.trans (P9.pen.pen.more z10)) nhs nss nls (fun c o _ e=>z10 _ _ e)
  have lln:=Paired.len P10.ln
  have lpr:pr.length=i:=by
   have:=congrArg List.length P7.got
   rw [List.length_map,List.length_take] at this
   (first|lia|omega)
  rw [List.length_map] at lln
  refine ⟨li,_,_,rfl,rfl,P10.lines,small1000 (by (first|lia|omega)),?_⟩
  have li9:=P7.lines
  have a2l:na2≠li:=fun z=>by rw [z,s8 _ _ li9] at f2; cases f2
  have a2s:na2≠sh:=fun z=>by rw [z,s8 _ _ P7.sheet] at f2; cases f2
  have zl:zs.length<=1348:=by (first|lia|omega)
  have lbs:=P7.few
  have ehd:=P10.hds
  obtain ⟨vs10,ev10,pv10⟩ := P10.hds
  obtain ⟨ws10,ew10,pw10⟩ := P10.nms
  have en10:=z10 _ _ en
  have ea10:=(show ∀ {G:Hp} {o:HO},upd G a10 o a10=some o from zC)
  have nal:a10≠li:=Ne.symm (zG (z9 _ _ P9.lines) h10)
  have nas:a10≠sh:=Ne.symm (zG (z9 _ _ P9.sheet) h10)
  have nat:a10≠st:=by
   obtain ⟨xs,ex⟩ := P9.pen.pen.is
   exact Ne.symm (zG (z9 _ _ ex) h10)
  have ealn:upd (upd (upd (upd (upd G2 a6 (.lst ((h.2.1.map V.str).drop h.2.2))) a7 (.lst ([V.str "fun",V.str h.1]++(h.2.1.map V.str).take h.2.2++[V.str "with"]++(h.2.1.map V.str).drop h.2.2))) a8 (.lst [V.str "is"])) a9 (.lst ([V.str "fun",V.str h.1]++(h.2.1.map V.str).take h.2.2++[V.str "with"]++(h.2.1.map V.str).drop h.2.2++[V.str "is"]))) a10 (.lst ([V.str "fun",V.str h.1]++(h.2.1.map V.str).take h.2.2++[V.str "with"]++(h.2.1.map V.str).drop h.2.2++[V.str "is"]++ws.map V.str)) a10=some (.lst ((lineW (h,ws,zs)).map V.str)):=by
   rw [zC]
   unfold lineW
   simp
  generalize upd (upd (upd (upd (upd G2 a6 (.lst ((h.2.1.map V.str).drop h.2.2))) a7 (.lst ([V.str "fun",V.str h.1]++(h.2.1.map V.str).take h.2.2++[V.str "with"]++(h.2.1.map V.str).drop h.2.2))) a8 (.lst [V.str "is"])) a9 (.lst ([V.str "fun",V.str h.1]++(h.2.1.map V.str).take h.2.2++[V.str "with"]++(h.2.1.map V.str).drop h.2.2++[V.str "is"]))) a10 (.lst ([V.str "fun",V.str h.1]++(h.2.1.map V.str).take h.2.2++[V.str "with"]++(h.2.1.map V.str).drop h.2.2++[V.str "is"]++ws.map V.str))=GE at *
  have esl:upd GE li (.lst (lvs++[.ref a10])) sh=some (.lst (((hs.length:Int) :: (headsH hs++bodiesP pr)).map V.int)):=by rw [zH nlh]; exact P10.sheet
  refine ⟨_,rfl,.inl ⟨rfl,_,.of esl⟩,_,rfl,sh,na2,_,_,rfl,rfl,esl,by rw [zH a2l]; exact en10,?_,?_⟩
  ·rw [List.length_map,List.length_map,List.length_cons,List.length_append,headsH_len]
   exact million (by (first|lia|omega))
  have kF:∀ {c:Addr} {o:HO},c≠li->c≠sh->GE c=some o->upd (upd GE li (.lst (lvs++[.ref a10]))) sh (.lst (((hs.length:Int) :: (headsH hs++bodiesP pr)).map V.int++zs.map V.int)) c=some o:=fun n1 n2 e=>by rw [zH n2,zH n1]; exact e
  have tF:∀ {c:Addr} {xs:List V},GE c=some (.tup xs)->upd (upd GE li (.lst (lvs++[.ref a10]))) sh (.lst (((hs.length:Int) :: (headsH hs++bodiesP pr)).map V.int++zs.map V.int)) c=some (.tup xs):=fun {c xs} e=>kF (fun z=>by rw [z,P10.lines] at e; cases e) (fun z=>by rw [z,P10.sheet] at e; cases e) e
  have evF:GE hd=some (.lst vs4):=z10 _ _ (kb _ _ nhs ev7)
  refine ⟨pr++[(h,ws,zs)],lvs++[.ref a10],_,_,_,_,_,_,rfl,⟨?_,?_,?_,?_,?_,?_,?_,?_,?_⟩,?_⟩
  ·rw [List.map_append,P7.got,List.take_succ,eh]; rfl
  ·exact ⟨(P10.pen.pen.put nls).put nss,fun c o n e=>by rw [zH (zG e fsh),zH (zG e fli)]; exact P10.pen.keep c o n e⟩
  ·exact ⟨vs10,kF (Ne.symm nld) (Ne.symm nsd) ev10,Paired.imp (fun v x z=>z.tups fun c xs e=>tF e) pv10⟩
  ·exact ⟨ws10,tF ew10,Paired.imp (fun v x z=>z.tups fun c xs e=>tF e) pw10⟩
  ·rw [zC,bodiesP_snoc]; simp
  ·rw [zH (Ne.symm nlh)]; exact zC
  ·rw [List.map_append]
   refine Paired.snoc (Paired.imp (fun v x z => ?_) P10.ln) ⟨a10,rfl,kF nal nas ealn,nas,nal,nat⟩
   obtain ⟨c,rfl,ec,y1,y2,y3⟩ := z
   exact ⟨c,rfl,kF y2 y1 ec,y1,y2,y3⟩
  ·intro x hx
   rcases List.mem_append.mp hx with z | z
   ·exact P7.ok x z
   ·rw [List.mem_singleton.mp z]; exact ⟨⟨hok,rd,wd⟩,by show ws.length<=700; (first|lia|omega)⟩
  ·rw [bodiesP_snoc,List.length_append]; show _+zs.length<=_; (first|lia|omega)
  ·exact kF (Ne.symm nld) (Ne.symm nsd) evF
 ·rintro σ' H7 ⟨pr,lvs,v6,v7,v8,v10,v11,v12,rfl,P7,ev7⟩
  have got:=P7.got
  rw [List.take_of_length_le (by (first|lia|omega))] at got
  have lpr:pr.length=hs.length:=by rw [<- got,List.length_map]
  refine ⟨_,rfl,_,rfl,_,rfl,small (show 3<=1000 by decide),fun p3 hp3 => ?_⟩
  have s9:=zF hp3 (.tup [.ref na,.ref sh,.ref li])
  obtain ⟨ws10,ew10,pw10⟩ := P7.nms
  have few:=P7.few
  refine q p3 sh na li pr _ ((P7.pen.trans (P7.pen.pen.more s9)).mono (by (first|lia|omega))) ⟨zC,⟨ws10,s9 _ _ ew10,?_⟩,?_,⟨lvs,s9 _ _ P7.lines,Paired.imp (fun v x z => ?_) P7.ln⟩⟩ ⟨⟨fun x hx => ?_,?_,?_,by (first|lia|omega),fun x hx => ?_⟩,fun x hx=>(P7.ok x hx).2,by (first|lia|omega)⟩ (by (first|lia|omega)) fsh
  ·have e:namesP pr=hs.map fun h=>(h.1,h.2.1):=by
    unfold namesP
    rw [<- got,List.map_map]
    rfl
   rw [e]
   exact Paired.imp (fun v x z=>z.tups fun c xs e=>s9 _ _ e) pw10
  ·rw [s9 _ _ P7.sheet]
   unfold sheetP
   rw [headsP_of,got,lpr]
  ·obtain ⟨c,rfl,ec,_⟩ := z
   exact ⟨c,rfl,s9 _ _ ec⟩
  ·rw [got]; exact (P7.ok x hx).1
  ·have:(pr.map fun x=>x.1.1)=hs.map (·.1):=by rw [<- got,List.map_map]; rfl
   rw [this]; exact hg.nd
  ·intro z
   rw [z] at lpr
   exact hg.ne (List.length_eq_zero_iff.mp lpr.symm)
  ·refine hg.first x.1 ?_
   rw [<- got,List.getElem?_map,hx]
   rfl

end
section
variable {P:Program} {w:World} {K:PySem.W.Frag} {mg:Str->Option Value} {base:Heap} {f:Addr} {fd:FuncData} {aP aW aH CT CR:Addr}
set_option maxHeartbeats 4000000

structure TxtE (K:PySem.W.Frag) (mg:Str->Option Value) (CN CT CC CM CR CE:Addr):Prop where
 n_isinstance:mg "isinstance" = none
 n_int:mg "int" = none
 n_bool:mg "bool" = none
 n_ValueError:mg "ValueError" = none
 m_NoSheet:mg "NoSheet" = some (.ref CN)
 m_NoText:mg "NoText" = some (.ref CT)
 m_NoCode:mg "NoCode" = some (.ref CC)
 m_NoName:mg "NoName" = some (.ref CM)
 m_NoRow:mg "NoRow" = some (.ref CR)
 m_ChainError:mg "ChainError" = some (.ref CE)
 exc:ExCls K CT
 is:IsCls K CT
 mch:Mch K CT CE
 xat:NoAttr K CT "at"
 kT:PySem.W.kitOne K (.ref CT) (.ref CT)=some true
 kC:PySem.W.kitOne K (.ref CT) (.ref CC)=some false
 kM:PySem.W.kitOne K (.ref CT) (.ref CM)=some false
 kR:PySem.W.kitOne K (.ref CT) (.ref CR)=some false
 kN:PySem.W.kitOne K (.ref CT) (.ref CN)=some false
 kV:PySem.W.kitOne K (.ref CT) (.type "ValueError")=some true
 kint:PySem.W.kitOne K (.type "int") (.type "int")=some true
 kbool:PySem.W.kitOne K (.type "int") (.type "bool")=some false
variable {CN CC CM CW CE:Addr}
def spRightE (CT:Addr):Sp:=fun vs H Q _=>∃ (x d:Addr) (n:Int),vs=[.ref x,.int n]/\H x=some (ExO x CT (some d))/\H d=some (XdO d [("at",.int n)])/\∀ H',Same H H'->Q (.bl true) H'
theorem ok_rightE (T:TxtE K mg CN CT CC CM CW CE) (F:Fun K "_law_right" "_law_right" jJ f fd):FnOk P w K mg base (CXE P w) 1 f fd ["_law_e", "_law_at"] (spRightE CT):=by
 refine F.okN sc__law_right (fun vs H Q E h => ?_) (fun cdv A outer s H vs Q E hr h => ?_)
 ·obtain ⟨x,d,n,rfl,_⟩ := h
  rfl
 obtain ⟨x,d,n,rfl,ex,ed,q⟩ := h
 refine ⟨_,(zD (zZ (PW.pt (qS (kG (jF (zU call_isX rfl T.n_isinstance xM (zA (pv 0) (zA (kZ rfl T.m_NoText) zB))))) (qS (kG (jF (zU call_isX rfl T.n_isinstance xM (zA (pv 0) (zA (pe_bltn (v:=.ty "ValueError") rfl T.n_ValueError bt_ValueError rfl) zB))))) (qG (jF (zU call_isXT rfl T.n_isinstance xM (zA (pv 0) (zA (zQ (zA (kZ rfl T.m_NoCode) (zA (kZ rfl T.m_NoName) (zA (kZ rfl T.m_NoRow) (zA (kZ rfl T.m_NoSheet) zB))))) zB)))))))) (zI (zS pe_bl)) zR)
   (zI (zS (pe_and (zU call_isi rfl T.n_isinstance xM (zA (pe_fldXK K rfl (pv 0)) (zA (pe_bltn (v:=.ty "int") rfl T.n_int bt_int rfl) zB))) (pe_and (pe_not (zU call_isi rfl T.n_isinstance xM (zA (pe_fldXK K rfl (pv 0)) (zA (pe_bltn (v:=.ty "bool") rfl T.n_bool bt_bool rfl) zB)))) (pe_one (qA yQ (pe_fldXK K rfl (pv 0)) (pv 1) (nomark _)))))))),?_⟩
 try dsimp only [Cx.nox,Cx.exc,Cx.wish,yG]
 refine ⟨_,rfl,x,CT,d,_,true,ex,ed,T.exc,T.is,.inr ⟨_,rfl,T.kT⟩,_,rfl,iteF ?_⟩
 refine ⟨_,rfl,x,CT,d,_,true,ex,ed,T.exc,T.is,.inl ⟨_,rfl,T.kV⟩,_,rfl,iteF ?_⟩
 refine ⟨_,rfl,small (show 4<=1000 by decide),fun tp htp => ?_⟩
 have s3:=zF htp (.tup (([CC,CM,CW,CN]:List Addr).map V.ref))
 refine ⟨x,CT,d,_,tp,[CC,CM,CW,CN],false,s3 _ _ ex,s3 _ _ ed,T.exc,T.is,rfl,zC,kit_no4 T.kC T.kM T.kR T.kN,_,rfl,iteF ?_⟩
 have ex:=s3 _ _ ex
 have ed:=s3 _ _ ed
 refine ⟨_,rfl,x,CT,d,_,_,rfl,ex,ed,T.exc,T.xat,rfl,.inl ⟨_,_,_,true,rfl,.int n,T.kint,_,rfl,iteT ?_⟩⟩
 refine ⟨_,rfl,x,CT,d,_,_,rfl,ex,ed,T.exc,T.xat,rfl,.inl ⟨_,_,_,false,rfl,.int n,T.kbool,_,rfl,_,rfl,iteT ?_⟩⟩
 refine ⟨_,rfl,x,CT,d,_,_,rfl,ex,ed,T.exc,T.xat,rfl,_,rfl,rfl,?_⟩
 have e:decide (V.int n=V.int n)=true:=decide_eq_true rfl
 have q':=q _ s3
 rw [<- e] at q'
 exact q'
def NoTxt (K:PySem.W.Frag) (H:Hp) (v:V):Prop:=∃ t,TyOf K H v t/\PySem.W.kitOne K t (.type "str")=some false
def spReadA (K:PySem.W.Frag) (CT:Addr):Sp:=fun vs H Q E=>spReadT CT vs H Q E\/∃ v,vs=[v]/\NoTxt K H v/\Fails1 CT H E 0
theorem ok_readA (T:Txt K mg aP aW aH CT CR) (F:Fun K "read_text" "read_text" jC f fd) (CNoText:CalX P w K mg base 1 "NoText" CT ["self", "at"] (spInit1 CT)) (Cwords_of:Cal P w K mg base (CXE P w) 1 "words_of" ["text"] spWordsOf)
  (CReading:CalK P w K mg base (CXE P w) 2 "Reading" CR ["self", "words"] (spInitR CR)) (Cread_function:Cal P w K mg base (CXE P w) 18 "read_function" ["reading"] (spFunR CR CT)):FnOk P w K mg base (CXE P w) 19 f fd ["text"] (fun vs H Q E=>∃ v,vs=[v]/\NoTxt K H v/\Fails1 CT H E 0):=by
 refine F.okX qI (fun vs H Q E h => ?_) (fun cdv Ar outer s0 H vs Q E hr h => ?_)
 ·obtain ⟨t,rfl,_⟩ := h
  rfl
 obtain ⟨v,rfl,⟨t,ty,kt⟩,q⟩ := h
 refine ⟨_,(zD (zZ (kG (jF (zU call_isi rfl T.n_isinstance xM (zA (pv 0) (zA (pe_bltn (v:=.ty "str") rfl T.n_str bt_str rfl) zB))))) (zI (xI CNoText hr rfl (zA zE zB))) zR)
   (zD (zN (i:=1) qI.nd rfl (Or.inl rfl) (pe_makeC CReading hr rfl (zA (zJ Cwords_of hr rfl (zA (pv 0) zB) passX) zB) passX))
   (zD (yB (zJ Cread_function hr rfl (zA (pv 1) zB) passX))
   (zD (ps_while (own_fly rfl rfl) (zM op_lt (yI (pv 1) rfl) (zU zT rfl T.n_len yN (zA (yI (pv 1) rfl) zB)) (nomark _)) (zI (yB (zJ Cread_function hr rfl (zA (pv 1) zB) passX))))
   (zI (zS (zQ (zA (yV jN rfl T.n_tuple bt_tuple (zA (yI (pv 1) rfl) zB)) (zA (zL yA (zL yA (zK (zA (zU zT rfl T.n_len yN (zA (yI (pv 1) rfl) zB)) zB)) (yI (pv 1) rfl)) (yI (pv 1) rfl)) zB))))))))),?_⟩
 try dsimp only [Cx.nox,Cx.exc,Cx.wish,yG]
 refine ⟨_,rfl,.inl ⟨_,_,_,false,rfl,ty,kt,_,rfl,iteT ?_⟩⟩
 exact ⟨small (show 1<=1000 by decide),raised1 q⟩
theorem FnOk.both {CX:CXT} {k:Nat} {ps:List Str} {sp sp':Sp} (h:FnOk P w K mg base CX k f fd ps sp) (h':FnOk P w K mg base CX k f fd ps sp'):FnOk P w K mg base CX k f fd ps (fun vs H Q E=>sp vs H Q E\/sp' vs H Q E) :=
 ⟨fun vs H Q E z=>z.elim (h.len vs H Q E) (h'.len vs H Q E),fun A outer s H args us vs Q E hr e0 hb r z=>z.elim (h.run A outer s H args us vs Q E hr e0 hb r) (h'.run A outer s H args us vs Q E hr e0 hb r)⟩
def spCaught (K:PySem.W.Frag) (CT:Addr):Sp:=fun vs H Q _=>∃ v,vs=[v] /\
  ((∃ t:Str,v = .str t/\TextOk t/\EndR (fun s=>∀ H',Same H H'->Q .non H') (fun n=>∀ x d H',Same H H'->H' x=some (ExO x CT (some d))->H' d=some (XdO d [("at",.int (n:Int))])->Q (.ref x) H') (readR (wordsT t))) \/
   NoTxt K H v/\∀ x d H',Same H H'->H' x=some (ExO x CT (some d))->H' d=some (XdO d [("at",.int 0)])->Q (.ref x) H')
theorem ok_caught (T:TxtE K mg CN CT CC CM CW CE) (F:Fun K "_law_caught" "_law_caught" jA f fd) (Cread_text:Cal P w K mg base (CXE P w) 19 "read_text" ["text"] (spReadA K CT)):FnOk P w K mg base (CXE P w) 20 f fd ["_law_text"] (spCaught K CT):=by
 refine F.okN kD (fun vs H Q E h => ?_) (fun cdv A outer s H vs Q E hr h => ?_)
 ·obtain ⟨v,rfl,_⟩ := h
  rfl
 obtain ⟨v,rfl,h⟩ := h
 refine ⟨_,(zD (zN (i:=1) kD.nd rfl (Or.inl rfl) wV)
   (zD (ps_tryS (i:=2) kD.nd rfl rfl rfl T.m_ChainError (fun _ _=>(zI (yB (pe_callS Cread_text hr rfl (zA (pv 0) zB))))) (fun _=>(zI (zN (i:=1) kD.nd rfl (Or.inl rfl) (pv 2)))))
   (zI (zS (pv 1))))),?_⟩
 try dsimp only [Cx.nox,Cx.exc,Cx.wish,yG]
 try dsimp only [gName,List.set]
 rcases h with ⟨t,rfl,tok,h⟩ | ⟨nt,q⟩
 ·refine ⟨_,rfl,.inl ⟨t,rfl,tok,?_⟩⟩
  cases e:readR (wordsT t) with
  | ok s =>
   rw [e] at h
   exact fun p sp H' g _ _=>⟨_,rfl,h H' g⟩
  | error n =>
   rw [e] at h
   exact fun d H' g ed=>⟨CT,d,rfl,rfl,T.mch,fun x ex=>⟨_,rfl,_,rfl,h x d H' g ex ed⟩⟩
 ·refine ⟨_,rfl,.inr ⟨v,rfl,nt,fun d H' g ed=>⟨CT,d,rfl,rfl,T.mch,fun x ex=>⟨_,rfl,_,rfl,q x d H' g ex ed⟩⟩⟩⟩

end
section
variable {P:Program} {w:World} {K:PySem.W.Frag} {mg:Str->Option Value} {base:Heap} {f:Addr} {fd:FuncData} {aP aW aH CT CR:Addr}
set_option maxHeartbeats 4000000

def NmsAt (H:Hp) (a:Addr) (ns:List (Str × List Str)):Prop:=∃ vs,H a=some (.tup vs)/\Paired (NmAt H) vs ns
def badN:List Str:=["Fun", "a1", "aaaaaaaaa", "a_b", "7", "-", "new", "fun", "call", "set", "ab-", "."]
theorem badN_no:∀ w∈badN,okName w=false/\wdB w=true/\headR ["with", "q",w, "is", "0"] 0=some 2/\headR ["with", "q",w, "is", "0"] 4=some 2:=by decide +kernel
theorem wd_cons {w:Str} {r:List Str} (h:WdT w) (hr:∀ x∈r,WdT x):∀ x∈w :: r,WdT x:=fun x hx=>by
 rcases List.mem_cons.mp hx with z | z
 ·rw [z]; exact h
 ·exact hr x z
def spBadNames:Sp:=fun vs H Q _=>vs=[]/\∀ p H',H p=none->Same H H'->H' p=some (.lst (badN.map V.str))->Q (.ref p) H'
theorem ok_badNames (F:Fun K "_law_bad_names" "_law_bad_names" xA f fd):FnOk P w K mg base (CXE P w) 1 f fd [] spBadNames:=by
 refine F.okN sc__law_bad_names (fun vs H Q E h => ?_) (fun cdv A outer s H vs Q E hr h => ?_)
 ·obtain ⟨rfl,_⟩ := h
  rfl
 obtain ⟨rfl,q⟩ := h
 refine ⟨_,(zI (zS (zK (zO (.str (.str (.str (.str (.str (.str (.str (.str (.str (.str (.str (.str .nil)))))))))))))))),?_⟩
 try dsimp only [Cx.nox,Cx.exc,Cx.wish,yG]
 exact ⟨small (show 12<=1000 by decide),fun p hp=>q p _ hp (zF hp _) zC⟩
def BadH (nms:List (Str × List Str)) (i:Nat) (ws:List Str) (n:Nat):Prop:=(∃ x,nms[i]? = some x/\BadHd (nms.take i) x.1 ws n)/\ws.length<=30
structure NmG (nms:List (Str × List Str)):Prop where
 ok:∀ x∈nms,okName x.1=true
 nd:(nms.map (·.1)).Nodup
 few:nms.length<=15
def StE (H4:Hp) (σ:St) (ws:List Str) (t:TE):Prop:=∀ (H5:Hp) (Q:VK),Same H4 H5->(∀ a H',Same H5 H'->H' a=some (.lst (ws.map V.str))->Q (.ref a) H')->t σ H5 Q
theorem StE.cat {H4:Hp} {σ:St} {ws us:List Str} {t u:TE} (h:StE H4 σ ws t) (h':LwE σ us u) (hw:ws.length+us.length<=1000):StE H4 σ (ws++us) (tOp rCat t u):=fun H5 Q s5 q=>by
 refine h H5 _ s5 fun a H1 s1 e1=>h' H1 _ fun b H2 f2 s2 e2=>⟨a,b,_,_,rfl,rfl,s2 _ _ e1,e2,?_,fun p hp => ?_⟩
 ·rw [List.length_map,List.length_map]; exact small hw
 ·refine q p _ (s1.trans (s2.trans (zF hp _))) ?_
  rw [zC,List.map_append]
def bsN (x:Str):List Str:=x.cps.toList.map fun c=>("b" : Str)++⟨#[c]⟩
def spBadHeads:Sp:=fun vs H Q _=>∃ (st na:Addr) (m:Int) (nms:List (Str × List Str)) (i:Nat),vs=[.ref st,.ref na,.int (i:Int)]/\Pen3 H st m/\m<=200000/\NmsAt H na nms/\i<nms.length/\NmG nms /\
 ∀ p H',Penned3 st (m+10) H H'->PrB (BadH nms i) H' (.ref p)->Q (.ref p) H'
theorem ok_badHeads (T:TxtL K mg) (F:Fun K "_law_bad_heads" "_law_bad_heads" yO f fd) (C_law_draw:Cal P w K mg base (CXE P w) 1 "_law_draw" ["_law_pen_here", "_law_many"] spDraw3) (C_law_bad_names:Cal P w K mg base (CXE P w) 1 "_law_bad_names" [] spBadNames) :
  FnOk P w K mg base (CXE P w) 2 f fd ["_law_pen_here", "_law_names", "_law_number_here"] spBadHeads:=by
 refine F.okN yT (fun vs H Q E h => ?_) (fun cdv A outer s H vs Q E hr h => ?_)
 ·obtain ⟨st,na,m,nms,i,rfl,_⟩ := h
  rfl
 obtain ⟨st,na,m,nms,i,rfl,D,m0,⟨vs,ev,pw⟩,hi,G,q⟩ := h
 refine ⟨_,(zD (zN (i:=3) yT.nd rfl (Or.inl rfl) (yH yD (pe_callC0 C_law_bad_names hr rfl passN) (zJ C_law_draw hr rfl (zA (pv 0) (zA zE zB)) passN) (fun _ _=>rfl)))
   (zD (qT (yH jG (pv 1) (pv 2) (fun _ _=>rfl)) (qU rfl (yC (zV (i:=4) yT.nd rfl (Or.inl rfl)) (yC (zV (i:=5) yT.nd rfl (Or.inl rfl)) jO))))
   (zD (zN (i:=6) yT.nd rfl (Or.inl rfl) (zJ C_law_draw hr rfl (zA (pv 0) (zA zE zB)) passN))
   (zD (zN (i:=7) yT.nd rfl (Or.inl rfl) (zK (zA zP (zA (pv 4) zB))))
   (zD (zZ (zM yQ (pv 6) zE (nomark _)) (zI (zS (zQ (zA (zK (zA zP (zA (pv 4) (zA zP (zA zP zB))))) (zA zE zB))))) zR)
   (zD (zZ (zM yQ (pv 6) zE (nomark _)) (zI (zS (zQ (zA (zK (zA zP (zA (yH yD (zK (zA (pv 3) (zA (yH jG (yH jG (pv 1) zE (fun _ _=>rfl)) zE (fun _ _=>rfl)) zB))) (zL wI (yV call_int1 rfl T.n_int bt_int (zA (qA op_gt (pv 2) zE (nomark _)) zB)) (zJ C_law_draw hr rfl (zA (pv 0) (zA zE zB)) passN)) (fun _ _=>rfl)) (zA zP (zA zP zB))))) (zA zE zB))))) zR)
   (zD (zZ (PW.pt (pw_and (zM yQ (pv 6) zE (nomark _)) (pw_and1 (zM yQ (pv 2) zE (nomark _))))) (zI (zS (zQ (zA (zL yA (pv 7) (zK (zO (.str (.str (.str .nil)))))) (zA zE zB))))) zR)
   (zD (zZ (zM yQ (pv 6) zE (nomark _)) (zI (zS (zQ (zA (zL yA (pv 7) (zK (zO (.str (.str (.str (.str (.str (.str (.str .nil)))))))))) (zA zE zB))))) zR)
   (zD (zZ (PW.pt (pw_and (zM yQ (pv 6) zE (nomark _)) (pw_and1 (zM op_gt (pv 2) zE (nomark _))))) (zI (zS (zQ (zA (zL yA (zL yA (zL yA (pv 7) (zK (zO (.str (.str (.str (.str (.str .nil)))))))) (wW (own:=["_law_letter"]) (ys:=[]) rfl (pi_str zP) (jB (sc:=defScope yO) rfl (by decide +kernel)) .nil (fun _ _ _ _ _=>(zV (i:=0) (show List.Nodup [("_law_letter" : Str)] from (by decide +kernel)) rfl (Or.inl rfl))) (fun _ _ _ _ _=>wB) (fun _ _ _ _ _=>(zL kS zP (pv 0))))) (zK (zA zP zB))) (zA zE zB))))) zR)
   (zD (zZ (zM yQ (pv 6) zE (nomark _)) (zI (zS (zQ (zA (zL yA (zL yA (zL yA (pv 7) (zK (zA zP zB))) (wW (own:=["_law_letter"]) (ys:=[]) rfl (pi_str zP) (jB (sc:=defScope yO) rfl (by decide +kernel)) .nil (fun _ _ _ _ _=>(zV (i:=0) (show List.Nodup [("_law_letter" : Str)] from (by decide +kernel)) rfl (Or.inl rfl))) (fun _ _ _ _ _=>wB) (fun _ _ _ _ _=>(zL kS zP (pv 0))))) (zK (zA zP zB))) (zA zE zB))))) zR)
   (zD (zZ (zM yQ (pv 6) zE (nomark _)) (zI (zS (zQ (zA (zL yA (pv 7) (zK (zO (.str (.str (.str (.str (.str .nil)))))))) (zA zE zB))))) zR)
   (zD (zZ (zM yQ (pv 6) zE (nomark _)) (zI (zS (zQ (zA (zL yA (pv 7) (zK (zA zP (zA zP (zA (yH yD (zK (zA (pv 3) (zA zP zB))) (zJ C_law_draw hr rfl (zA (pv 0) (zA zE zB)) passN) (fun _ _=>rfl)) (zA zP zB)))))) (zA zE zB))))) zR)
   (zI (zS (zQ (zA (zL yA (pv 7) (zK (zA (yH yD (zK (zO (.str (.str (.str (.str .nil)))))) (zJ C_law_draw hr rfl (zA (pv 0) (zA zE zB)) passN) (fun _ _=>rfl)) (zA zP (zA zP zB))))) (zA zE zB))))))))))))))))),?_⟩
 try dsimp only [Cx.nox,Cx.exc,Cx.wish,yG]
 refine ⟨rfl,fun p0 H1 hp0 s1 e1 => ?_⟩
 have D1:=D.more s1
 refine ⟨_,rfl,st,12,m,rfl,by decide,by decide,by (first|lia|omega),D1.pen,fun r H2 r0 r1 D2 => ?_⟩
 have e2:=D2.keep _ _ (Ne.symm (D.ne hp0)) e1
 have hr12:r.toNat<badN.length:=by show r.toNat<12; (first|lia|omega)
 have eb:atI (badN.map V.str) r=some (.str badN[r.toNat]):=kX r0 (by rw [List.getElem?_map,List.getElem?_eq_getElem hr12]; rfl)
 have mb:badN[r.toNat]∈badN:=List.getElem_mem hr12
 generalize badN[r.toNat]=bd at eb mb
 obtain ⟨nb1,nb2,nb3,nb4⟩ := badN_no bd mb
 refine ⟨p0,_,_,_,rfl,rfl,.of e2,eb,?_⟩
 have P2:=D1.trans D2
 have tp2:Tups H H2:=qD D P2
 have hvl:=Paired.len pw
 have ei:nms[i]? = some nms[i]:=List.getElem?_eq_getElem hi
 have ev2:=tp2 _ _ ev
 have evi:atI vs (i:Int)=some vs[i]:=qB (List.getElem?_eq_getElem (by (first|lia|omega)))
 obtain ⟨t,b,evt,et,ebx⟩ := Paired.get pw i _ _ (List.getElem?_eq_getElem (by (first|lia|omega))) ei
 rw [evt] at evi
 have okm:=G.ok nms[i] (List.getElem_mem hi)
 have nnm:nms[i].1 ∉ (nms.take i).map (·.1):=fun z=>by
  have nd:=G.nd
  rw [<- List.take_append_drop i nms,List.map_append,List.nodup_append] at nd
  refine nd.2.2 _ z nms[i].1 ?_ rfl
  rw [List.drop_eq_getElem_cons hi]
  exact List.mem_cons_self ..
 have few:(nms.take i).length≠16:=by
  have:=List.length_take_le i nms
  have:=G.few
  (first|lia|omega)
 have lti:(nms.take i).length=i:=by rw [List.length_take]; (first|lia|omega)
 have nil0:(i=0) ↔ nms.take i=[]:=⟨fun z=>by rw [z]; rfl,fun z=>by rw [z] at lti; exact lti.symm⟩
 have first0 : 0<i->∃ v0 x0,vs[0]? = some v0/\nms[0]? = some x0/\x0.1∈(nms.take i).map (·.1)/\NmAt H v0 x0/\okName x0.1=true:=fun z=>by
  have h0 : 0<nms.length:=by (first|lia|omega)
  refine ⟨vs[0],nms[0],List.getElem?_eq_getElem (by (first|lia|omega)),List.getElem?_eq_getElem h0,?_,Paired.get pw 0 _ _ (List.getElem?_eq_getElem (by (first|lia|omega))) (List.getElem?_eq_getElem h0),G.ok _ (List.getElem_mem h0)⟩
  refine List.mem_map.mpr ⟨nms[0],?_,rfl⟩
  refine List.mem_of_getElem? (i:=0) ?_
  rw [List.getElem?_take,if_pos z,List.getElem?_eq_getElem h0]
 have hBH:∀ {ws:List Str} {n:Nat},BadHd (nms.take i) nms[i].1 ws n->ws.length<=30->BadH nms i ws n:=fun a b=>⟨⟨_,ei,a⟩,b⟩
 generalize nms[i]=x at *
 refine ⟨_,rfl,_,rfl,na,_,_,_,rfl,rfl,.of ev2,evi,t,_,rfl,.of (tp2 _ _ et),rfl,_,_,rfl,_,_,rfl,rfl,?_⟩
 refine ⟨_,rfl,st,7,m+1,rfl,by decide,by decide,by (first|lia|omega),D2.pen,fun wy H3 w0 w1 D3 => ?_⟩
 have P3:=P2.trans D3
 refine ⟨_,rfl,small (show 2<=1000 by decide),fun sa hsa => ?_⟩
 have P4:=P3.trans (P3.pen.new hsa (.lst [.str "fun",.str x.1]))
 have esa:upd H3 sa (.lst [.str "fun",.str x.1]) sa=some (.lst [.str "fun",.str x.1]):=zC
 have tp4:Tups H (upd H3 sa (.lst [.str "fun",.str x.1])):=qD D P4
 have nsa:sa≠st:=Ne.symm (P3.pen.ne hsa)
 generalize upd H3 sa (.lst [.str "fun",.str x.1])=H4 at *
 have fin:∀ {σ:St} {t:TE} {H5:Hp},Penned3 st (m+10) H H5->BdE σ (BadH nms i) t->t σ H5 Q:=fun P5 bd=>bd _ _ fun p H6 hp s6 pr=>q p H6 (P5.trans (P5.pen.more s6)) pr
 have P4m:Penned3 st (m+10) H H4:=P4.mono (by (first|lia|omega))
 try dsimp only [gName,List.set]
 have ev4:=tp4 _ _ ev
 have wx:WdT x.1:=(xO okm).t
 refine ⟨_,rfl,rfl,_,rfl,ite2 (fun c => ?_) (fun c => ?_)⟩
 ·exact fin P4m (BdE.mk (ws:=["func",x.1, "with", "is"]) (n:=0) (hBH (bad_first (by decide +kernel) (wd_cons (qF (by decide +kernel)) (wd_cons wx (wdT_all (by decide +kernel))))) (show 4<=30 by decide)) (LwE.lst (fun H Q q=>⟨_,rfl,q⟩) (show 4<=1000 by decide)) (fun H Q q=>q))
 have vf0:=vf c
 refine ⟨_,rfl,rfl,_,rfl,ite2 (fun c => ?_) (fun c => ?_)⟩
 ·obtain ⟨v0,x0,hv0,hx0,n0⟩ : ∃ v0 x0,vs[0]? = some v0/\nms[0]? = some x0/\NmAt H v0 x0:=⟨vs[0],nms[0],List.getElem?_eq_getElem (by (first|lia|omega)),List.getElem?_eq_getElem (by (first|lia|omega)),Paired.get pw 0 _ _ (List.getElem?_eq_getElem (by (first|lia|omega))) (List.getElem?_eq_getElem (by (first|lia|omega)))⟩
  obtain ⟨t0,b0,rfl,et0,_⟩ := id n0
  refine ⟨_,rfl,_,rfl,na,_,_,_,rfl,rfl,.of ev4,qB hv0,t0,_,_,_,rfl,rfl,.of (tp4 _ _ et0),rfl,small (show 2<=1000 by decide),fun o ho => ?_⟩
  have P5:=P4.trans (P4.pen.new ho (.lst [.str bd,.str x0.1]))
  have eo:upd H4 o (.lst [.str bd,.str x0.1]) o=some (.lst [.str bd,.str x0.1]):=zC
  refine ⟨_,rfl,_,_,rfl,rfl,.inr ⟨_,rfl,_,rfl,st,2,m+1+1,rfl,by decide,by decide,by (first|lia|omega),P5.pen,fun r2 H6 q0 q1 D6=>⟨_,_,rfl,rfl,.inr ⟨by (first|lia|omega),by (first|lia|omega)⟩,?_⟩⟩⟩
  have eo6:=D6.keep _ _ (Ne.symm (P4.pen.ne ho)) eo
  have P6:=(P5.trans D6).mono (n:=m+10) (by (first|lia|omega))
  obtain ⟨y,ey,yok,ywd⟩ : ∃ y:Str,atI [V.str bd,V.str x0.1] ((if decide ((0:Int)<(i:Int))=true then 1 else 0) * r2)=some (.str y)/\(okName y=true->y∈(nms.take i).map (·.1))/\WdT y:=by
   by_cases zi : 0<i
   ·rw [if_pos (decide_eq_true (by (first|lia|omega))),Int.one_mul]
    have:r2=0\/r2=1:=by (first|lia|omega)
    rcases this with rfl | rfl
    ·exact ⟨bd,rfl,fun z=>(by rw [nb1] at z; cases z),qF nb2⟩
    ·obtain ⟨v0',x0',_,hx0',mx,_,okx⟩ := first0 zi
     rw [hx0] at hx0'
     cases hx0'
     exact ⟨x0.1,rfl,fun _=>mx,(xO okx).t⟩
   ·rw [if_neg (fun z=>zi (by have:=of_decide_eq_true z; (first|lia|omega))),Int.zero_mul]
    exact ⟨bd,rfl,fun z=>(by rw [nb1] at z; cases z),qF nb2⟩
  refine ⟨o,_,_,_,rfl,rfl,.of eo6,ey,small (show 4<=1000 by decide),fun a ha=>⟨small (show 2<=1000 by decide),fun p hp => ?_⟩⟩
  have s7:=zF ha (.lst [.str "fun",.str y,.str "with",.str "is"])
  have s8:=zF hp (.tup [.ref a,.int 1])
  refine q p _ (P6.trans (P6.pen.more (s7.trans s8))) ⟨p,a,["fun",y, "with", "is"],1,rfl,zC,s8 _ _ zC,hBH (bad_name few yok (wd_cons ywd (wdT_all (by decide +kernel)))) (show 4<=30 by decide)⟩
 have vf1:=vf c
 have hh:∀ {r:List Str} {e:Nat},r.all wdB=true->r.length<25->(i=0->headR (r++[("0" : Str)]) 0=some e)->(i≠0->headR (r++[("0" : Str)]) 4=some e)->BadH nms i (("fun" : Str) :: x.1 :: r) (2+e):=fun {r e} h1 h2 h3 h4=>by
  refine hBH (bad_head few okm nnm h1 (by (first|lia|omega)) ?_) (by rw [List.length_cons,List.length_cons]; (first|lia|omega))
  by_cases z:i=0
  ·rw [if_pos (nil0.mp z)]; exact h3 z
  ·rw [if_neg (fun y=>z (nil0.mpr y))]; exact h4 z
 have ret:∀ {σ:St} {t:TE} {u:TA} {us:List Str} {e:Nat},StE H4 σ (("fun" : Str) :: x.1 :: us) t->(∀ (H:Hp) (Q:List V->Hp->Prop),Q [.int ((2+e:Nat):Int)] H->u σ H Q)->BadH nms i (("fun" : Str) :: x.1 :: us) (2+e)->tTup (tCons t u) σ H4 Q:=fun {σ t u us e} ht hu hb=>by
  refine ht _ _ (Same.refl _) fun a H5 s5 e5=>hu H5 _ ⟨small (show 2<=1000 by decide),fun p hp => ?_⟩
  have s6:=zF hp (.tup [.ref a,.int ((2+e:Nat):Int)])
  exact q p _ (P4m.trans (P4m.pen.more (s5.trans s6))) ⟨p,a,_,_,rfl,zC,s6 _ _ e5,hb⟩
 have st0:∀ {σ:St} {j:Nat},σ[j]? = some (some (.ref sa))->StE H4 σ ["fun",x.1] (tVar j):=fun hσ H5 Q s5 q5=>⟨_,hσ,q5 sa H5 (Same.refl _) (s5 _ _ esa)⟩
 have:wy=2\/wy=3\/wy=4\/wy=5\/wy=6:=by (first|lia|omega)
 rcases this with rfl | rfl | rfl | rfl | rfl
 ·refine ⟨_,rfl,rfl,_,rfl,iteT ⟨_,rfl,rfl,_,rfl,ite2 (fun c => ?_) (fun c=>⟨_,rfl,rfl,_,rfl,iteT ?_⟩)⟩⟩
  ·have i0:i=0:=by have:=vt c; (first|lia|omega)
   exact ret (us:=["p", "with", "is"]) (e:=0) (StE.cat (st0 rfl) (LwE.lst (ws:=["p", "with", "is"]) (fun H Q q=>q) (by decide)) (show 2+3<=1000 by decide)) (fun H Q q=>q) (hh (by decide +kernel) (by decide) (fun _=>by decide +kernel) (fun z=>absurd i0 z))
  ·have i0:i≠0:=by have:=vf c; (first|lia|omega)
   exact ret (us:=["p", "q", "r", "s", "t", "with", "is"]) (e:=4) (StE.cat (st0 rfl) (LwE.lst (ws:=["p", "q", "r", "s", "t", "with", "is"]) (fun H Q q=>q) (by decide)) (show 2+7<=1000 by decide)) (fun H Q q=>q) (hh (by decide +kernel) (by decide) (fun z=>absurd z i0) (fun _=>by decide +kernel))
 ·refine ⟨_,rfl,rfl,_,rfl,iteF ⟨_,rfl,rfl,_,rfl,iteF ⟨_,rfl,rfl,_,rfl,iteT ⟨_,rfl,_,_,rfl,rfl,_,rfl,ite2 (fun c => ?_) (fun c=>⟨_,rfl,rfl,_,rfl,iteT ?_⟩)⟩⟩⟩⟩
  ·have i0:i≠0:=by have:=of_decide_eq_true c; (first|lia|omega)
   refine ret (us:=(["p", "q", "r", "s", "with"]:List Str)++bsN "abcdefghi" ++ [("is" : Str)]) (e:=13) (StE.cat (StE.cat (StE.cat (st0 rfl) (LwE.lst (ws:=["p", "q", "r", "s", "with"]) (fun H Q q=>q) (by decide)) (show 2+5<=1000 by decide)) (us:=bsN "abcdefghi") ?_ (show 2+5+9<=1000 by decide)) (LwE.lst (ws:=["is"]) (fun H Q q=>q) (by decide)) (show 2+5+9+1<=1000 by decide)) (fun H Q q=>q) (hh (by decide +kernel) (by decide) (fun z=>absurd z i0) (fun _=>by decide +kernel))
   refine LwE.map (x := "abcdefghi") (f:=fun c=>("b" : Str)++⟨#[c]⟩) (by decide) ?_
   intro c H Q q
   exact ⟨_,rfl,_,_,rfl,rfl,(by rw [show (("b" : Str).length+(⟨#[c]⟩ : Str).length)=2 from rfl]; exact small (show 2<=1000 by decide)),q⟩
  ·have i0:i=0:=by have:=df c; (first|lia|omega)
   refine ret (us:=([("with" : Str)]:List Str)++bsN "abcdefghijklm" ++ [("is" : Str)]) (e:=13) (StE.cat (StE.cat (StE.cat (st0 rfl) (LwE.lst (ws:=["with"]) (fun H Q q=>q) (by decide)) (show 2+1<=1000 by decide)) (us:=bsN "abcdefghijklm") ?_ (show 2+1+13<=1000 by decide)) (LwE.lst (ws:=["is"]) (fun H Q q=>q) (by decide)) (show 2+1+13+1<=1000 by decide)) (fun H Q q=>q) (hh (by decide +kernel) (by decide) (fun _=>by decide +kernel) (fun z=>absurd i0 z))
   refine LwE.map (x := "abcdefghijklm") (f:=fun c=>("b" : Str)++⟨#[c]⟩) (by decide) ?_
   intro c H Q q
   exact ⟨_,rfl,_,_,rfl,rfl,(by rw [show (("b" : Str).length+(⟨#[c]⟩ : Str).length)=2 from rfl]; exact small (show 2<=1000 by decide)),q⟩
 ·refine ⟨_,rfl,rfl,_,rfl,iteF ⟨_,rfl,rfl,_,rfl,iteF ⟨_,rfl,rfl,_,rfl,iteF ⟨_,rfl,rfl,_,rfl,iteF ⟨_,rfl,rfl,_,rfl,iteT ?_⟩⟩⟩⟩⟩
  exact ret (us:=["with", "p", "q", "p", "is"]) (e:=3) (StE.cat (st0 rfl) (LwE.lst (ws:=["with", "p", "q", "p", "is"]) (fun H Q q=>q) (by decide)) (show 2+5<=1000 by decide)) (fun H Q q=>q) (hh (by decide +kernel) (by decide) (fun z=>by decide +kernel) (fun _=>by decide +kernel))
 ·refine ⟨_,rfl,rfl,_,rfl,iteF ⟨_,rfl,rfl,_,rfl,iteF ⟨_,rfl,rfl,_,rfl,iteF ⟨_,rfl,rfl,_,rfl,iteF ⟨_,rfl,rfl,_,rfl,iteF ⟨_,rfl,rfl,_,rfl,iteT ?_⟩⟩⟩⟩⟩⟩
  refine ⟨_,rfl,_,rfl,small (show 2<=1000 by decide),fun o ho => ?_⟩
  have P5:=P4.trans (P4.pen.new ho (.lst [.str bd,.str "with"]))
  have s5:=zF ho (.lst [.str bd,.str "with"])
  refine ⟨_,rfl,st,2,m+1+1,rfl,by decide,by decide,by (first|lia|omega),P5.pen,fun r2 H6 q0 q1 D6 => ?_⟩
  have eo6:=D6.keep _ _ (Ne.symm (P4.pen.ne ho)) zC
  have P6:=(P5.trans D6).mono (n:=m+10) (by (first|lia|omega))
  obtain ⟨y,ey,ywd,y0,y4⟩ : ∃ y:Str,atI [V.str bd,V.str "with"] r2=some (.str y)/\wdB y=true/\headR ["with", "q",y, "is", "0"] 0=some 2/\headR ["with", "q",y, "is", "0"] 4=some 2:=by
   have:r2=0\/r2=1:=by (first|lia|omega)
   rcases this with rfl | rfl
   ·exact ⟨bd,rfl,nb2,nb3,nb4⟩
   ·exact ⟨"with",rfl,by decide +kernel,by decide +kernel,by decide +kernel⟩
  refine ⟨o,_,_,_,rfl,rfl,.of eo6,ey,small (show 4<=1000 by decide),fun b2 hb2 => ?_⟩
  have s7:=zF hb2 (.lst [.str "with",.str "q",.str y,.str "is"])
  have esa6:=D6.keep _ _ nsa (s5 _ _ esa)
  refine ⟨sa,b2,_,_,rfl,rfl,s7 _ _ esa6,zC,small (show 2+4<=1000 by decide),fun a ha=>⟨small (show 2<=1000 by decide),fun p hp => ?_⟩⟩
  have s8:=zF ha (.lst ([.str "fun",.str x.1]++[.str "with",.str "q",.str y,.str "is"]))
  have s9:=zF hp (.tup [.ref a,.int 4])
  refine q p _ (P6.trans (P6.pen.more (s7.trans (s8.trans s9)))) ⟨p,a,["fun",x.1, "with", "q",y, "is"],4,rfl,zC,s9 _ _ zC,hh (r:=["with", "q",y, "is"]) (e:=2) ?_ (show 4<25 by decide) (fun _=>y0) (fun _=>y4)⟩
  rw [List.all_cons,List.all_cons,List.all_cons,ywd]
  decide +kernel
 ·refine ⟨_,rfl,rfl,_,rfl,iteF ⟨_,rfl,rfl,_,rfl,iteF ⟨_,rfl,rfl,_,rfl,iteF ⟨_,rfl,rfl,_,rfl,iteF ⟨_,rfl,rfl,_,rfl,iteF ⟨_,rfl,rfl,_,rfl,iteF ?_⟩⟩⟩⟩⟩⟩
  refine ⟨_,rfl,small (show 4<=1000 by decide),fun o ho => ?_⟩
  have P5:=P4.trans (P4.pen.new ho (.lst [.str "is",.str "set",.str "0",.str "fun"]))
  have s5:=zF ho (.lst [.str "is",.str "set",.str "0",.str "fun"])
  refine ⟨_,rfl,st,4,m+1+1,rfl,by decide,by decide,by (first|lia|omega),P5.pen,fun r2 H6 q0 q1 D6 => ?_⟩
  have eo6:=D6.keep _ _ (Ne.symm (P4.pen.ne ho)) zC
  have P6:=(P5.trans D6).mono (n:=m+10) (by (first|lia|omega))
  obtain ⟨y,ey,ywd,y0,y4⟩ : ∃ y:Str,atI [V.str "is",.str "set",.str "0",.str "fun"] r2=some (.str y)/\wdB y=true/\headR [y, "with", "is", "0"] 0=some 0/\headR [y, "with", "is", "0"] 4=some 0:=by
   have:r2=0\/r2=1\/r2=2\/r2=3:=by (first|lia|omega)
   rcases this with rfl | rfl | rfl | rfl <;> exact ⟨_,rfl,by decide +kernel,by decide +kernel,by decide +kernel⟩
  refine ⟨o,_,_,_,rfl,rfl,.of eo6,ey,small (show 3<=1000 by decide),fun b2 hb2 => ?_⟩
  have s7:=zF hb2 (.lst [.str y,.str "with",.str "is"])
  have esa6:=D6.keep _ _ nsa (s5 _ _ esa)
  refine ⟨sa,b2,_,_,rfl,rfl,s7 _ _ esa6,zC,small (show 2+3<=1000 by decide),fun a ha=>⟨small (show 2<=1000 by decide),fun p hp => ?_⟩⟩
  have s8:=zF ha (.lst ([.str "fun",.str x.1]++[.str y,.str "with",.str "is"]))
  have s9:=zF hp (.tup [.ref a,.int 2])
  refine q p _ (P6.trans (P6.pen.more (s7.trans (s8.trans s9)))) ⟨p,a,["fun",x.1,y, "with", "is"],2,rfl,zC,s9 _ _ zC,hh (r:=[y, "with", "is"]) (e:=0) ?_ (show 3<25 by decide) (fun _=>y0) (fun _=>y4)⟩
  rw [List.all_cons,ywd]
  decide +kernel

end
section
variable {P:Program} {w:World} {K:PySem.W.Frag} {mg:Str->Option Value} {base:Heap} {f:Addr} {fd:FuncData} {aP aW aH CT CR:Addr}
set_option maxHeartbeats 4000000

theorem pen_strs {H:Hp} {st a:Addr} {m:Int} {ws:List Str} (D:Pen3 H st m) (e:H a=some (.lst (ws.map V.str))):a≠st:=fun z=>by
 obtain ⟨c,s,t,e2,_⟩ := D
 rw [z,e2] at e
 injection e with e
 injection e with e
 cases ws with
 | nil=>cases e
 | cons x r=>rw [List.map_cons] at e; injection e with e _; cases e
theorem mul_nine:MulOk "9" 61:=by refine ⟨by decide,fun _ _=>by decide,fun _ _=>by decide⟩
def BadKS (sg:Str) (ws:List Str) (n:Nat):Prop:=BadK sg ws n/\ws.length<=100
def oddN:List Str:=["zz", "yy", "xx", "ww", "vv"]
theorem oddN_ok:∀ w∈oddN,w ≠ "fun" /\ wdB w=true:=by decide +kernel
def spBadBodies:Sp:=fun vs H Q _=>∃ (st na:Addr) (m:Int) (nms:List (Str × List Str)),vs=[.ref st,.ref na]/\Pen3 H st m/\m<=200000/\NmsAt H na nms/\nms.length<=4 /\
 ∀ p sg H',Penned3 st (m+1) H H'->sg ∉ nms.map (·.1)->PrB (BadKS sg) H' (.ref p)->Q (.ref p) H'
theorem ok_badBodies (T:TxtL K mg) (F:Fun K "_law_bad_bodies" "_law_bad_bodies" yL f fd) (C_law_draw:Cal P w K mg base (CXE P w) 1 "_law_draw" ["_law_pen_here", "_law_many"] spDraw3) :
  FnOk P w K mg base (CXE P w) 2 f fd ["_law_pen_here", "_law_names"] spBadBodies:=by
 refine F.okN zW (fun vs H Q E h => ?_) (fun cdv A outer s H vs Q E hr h => ?_)
 ·obtain ⟨st,na,m,nms,rfl,_⟩ := h
  rfl
 obtain ⟨st,na,m,nms,rfl,D,m0,⟨vs,ev,pw⟩,h4,q⟩ := h
 refine ⟨_,(zD (zN (i:=2) zW.nd rfl (Or.inr rfl) (wW (own:=["_law_name_here", "_law_boxes"]) (ys:=[]) rfl (pi_tup (pv 1)) (jB (sc:=defScope yL) rfl (by decide +kernel)) .nil (fun _ _ _ _ _=>(pg_tupK (n:=2) K rfl rfl (yC (zV (i:=0) (show List.Nodup [("_law_name_here" : Str),("_law_boxes" : Str)] from (by decide +kernel)) rfl (Or.inl rfl)) (yC (zV (i:=1) (show List.Nodup [("_law_name_here" : Str),("_law_boxes" : Str)] from (by decide +kernel)) rfl (Or.inl rfl)) jO)))) (fun _ _ _ _ _=>wB) (fun _ _ _ _ _=>(pv 0))))
   (zD (zN (i:=3) zW.nd rfl (Or.inl rfl) (yH yD (wW (own:=["_law_word"]) (ys:=["_law_there"]) rfl (pi_tup (zQ (zO (.str (.str (.str (.str (.str .nil)))))))) (jB (sc:=defScope yL) rfl (by decide +kernel)) (.cons (j:=2) rfl .nil) (fun _ _ _ _ _=>(zV (i:=0) (show List.Nodup [("_law_word" : Str),("_law_there" : Str)] from (by decide +kernel)) rfl (Or.inl rfl))) (fun _ _ _ _ _=>pts_one (zM (op_notIn_seqK K rfl) (pv 0) (pv 1) rfl)) (fun _ _ _ _ _=>(pv 0))) zE (fun _ _=>rfl)))
   (zD (zN (i:=4) zW.nd rfl (Or.inl rfl) (zK (zA (zQ (zA (zK (zA zP zB)) (zA zE zB))) (zA (zQ (zA (zK (zA zP zB)) (zA zE zB))) (zA (zQ (zA (zK (zA zP zB)) (zA zE zB))) (zA (zQ (zA (zK (zA zP zB)) (zA zE zB))) (zA (zQ (zA (zK (zO (.str (.str (.str .nil))))) (zA zE zB))) (zA (zQ (zA (zK (zA zP zB)) (zA zE zB))) (zA (zQ (zA (zK (zO (.str (.str .nil)))) (zA zE zB))) zB)))))))))
   (zD (zN (i:=4) zW.nd rfl (Or.inl rfl) (zL yA (pv 4) (zK (zA (zQ (zA (zK (zO (.str (.str (.str .nil))))) (zA zE zB))) (zA (zQ (zA (zK (zO (.str (.str .nil)))) (zA zE zB))) (zA (zQ (zA (zK (zO (.str (.str .nil)))) (zA zE zB))) (zA (zQ (zA (zK (zO (.str (.str (.str .nil))))) (zA zE zB))) zB)))))))
   (zD (zN (i:=4) zW.nd rfl (Or.inl rfl) (zL yA (pv 4) (zK (zA (zQ (zA (zK (zO (.str (.str (.str .nil))))) (zA zE zB))) (zA (zQ (zA (zK (zO (.str (.str (.str (.str .nil)))))) (zA zE zB))) (zA (zQ (zA (zK (zO (.str (.str (.str .nil))))) (zA zE zB))) (zA (zQ (zA (zK (zO (.str (.str .nil)))) (zA zE zB))) zB)))))))
   (zD (zN (i:=4) zW.nd rfl (Or.inl rfl) (zL yA (pv 4) (zK (zA (zQ (zA (zK (zA zP (zA (pv 3) zB))) (zA zE zB))) (zA (zQ (zA (zK (zO (.str (.str .nil)))) (zA zE zB))) (zA (zQ (zA (zK (zO (.str (.str .nil)))) (zA zE zB))) (zA (zQ (zA (zK (zA (zL op_mulS zP zE) zB)) (zA zE zB))) (zA (zQ (zA (zK (zO (.str (.str .nil)))) (zA zE zB))) zB))))))))
   (zD (zN (i:=4) zW.nd rfl (Or.inl rfl) (zL yA (pv 4) (zK (zA (zQ (zA (zL yA (zL wX (zK (zA zP zB)) zE) (zK (zA zP zB))) (zA zE zB))) (zA (zQ (zA (zL yA (zL wX (zK (zO (.str (.str .nil)))) zE) (zK (zA zP zB))) (zA zE zB))) (zA (zQ (zA (zK (zO (.str (.str .nil)))) (zA zE zB))) (zA (zQ (zA (zK (zO (.str (.str .nil)))) (zA zE zB))) zB)))))))
   (zD (zN (i:=4) zW.nd rfl (Or.inl rfl) (zL yA (pv 4) (zK (zA (zQ (zA (zK (zO (.str (.str (.str (.str .nil)))))) (zA zE zB))) (zA (zQ (zA (zK (zO (.str (.str .nil)))) (zA zE zB))) (zA (zQ (zA (zK (zO (.str (.str .nil)))) (zA zE zB))) (zA (zQ (zA (zK (zO (.str (.str (.str (.str .nil)))))) (zA zE zB))) zB)))))))
   (zD (zN (i:=4) zW.nd rfl (Or.inl rfl) (zL yA (pv 4) (zK (zA (zQ (zA (zL yA (zL wX (zK (zO (.str (.str .nil)))) zE) (zK (zA zP zB))) (zA zE zB))) (zA (zQ (zA (zK (zA zP zB)) (zA zE zB))) zB)))))
   (zD (zN (i:=4) zW.nd rfl (Or.inl rfl) (zL yA (pv 4) (zK (zA (zQ (zA (zL yA (zL wX (zK (zO (.str (.str (.str (.str .nil)))))) zE) (zK (zO (.str (.str (.str .nil)))))) (zA zE zB))) zB))))
   (zD (zN (i:=4) zW.nd rfl (Or.inl rfl) (zL yA (pv 4) (zK (zA (zQ (zA (zL yA (zL wX (zK (zO (.str (.str .nil)))) zE) (zK (zO (.str (.str .nil))))) (zA zE zB))) (zA (zQ (zA (zL yA (zL wX (zK (zO (.str (.str (.str .nil))))) zE) (zK (zO (.str (.str .nil))))) (zA zE zB))) zB)))))
   (zD (zN (i:=4) zW.nd rfl (Or.inl rfl) (zL yA (pv 4) (zK (zA (zQ (zA (zL yA (zL wX (zK (zA zP zB)) zE) (zK (zA zP zB))) (zA zE zB))) (zA (zQ (zA (zL wX (zK (zO (.str (.str .nil)))) zE) (zA zE zB))) (zA (zQ (zA (zL yA (zL wX (zK (zA zP zB)) zE) (zK (zA zP zB))) (zA zE zB))) zB))))))
   (zI (zS (yH yD (pv 4) (zJ C_law_draw hr rfl (zA (pv 0) (zA (zU zT rfl T.n_len yN (zA (pv 4) zB)) zB)) passN) (fun _ _=>rfl)))))))))))))))),?_⟩
 try dsimp only [Cx.nox,Cx.exc,Cx.wish,yG]
 have hvl:=Paired.len pw
 refine ⟨_,rfl,na,rfl,⟨_,.of ev⟩,fun th hth => ?_⟩
 refine comp_tup (xs:=vs) (fun i σ' H'=>H'=upd H th (.lst (((nms.take i).map (·.1)).map V.str))/\∃ y z,σ'=[y,z]) ⟨rfl,_,_,rfl⟩ ?_ ?_ ?_
 ·rintro i σ' H' hi ⟨rfl,_⟩
  exact .of ((zF hth _) _ _ ev)
 ·rintro i v σ' H' hi hv ⟨rfl,y,z,rfl⟩
  have hi2:i<nms.length:=by (first|lia|omega)
  obtain ⟨t,b,rfl,et,eb⟩ := Paired.get pw _ _ _ hv (List.getElem?_eq_getElem hi2)
  refine ⟨t,_,rfl,.of ((zF hth _) _ _ et),rfl,_,_,rfl,_,_,rfl,rfl,?_⟩
  refine ⟨_,rfl,_,zC,?_,CW.next hi ⟨?_,_,_,rfl⟩⟩
  ·rw [List.length_map,List.length_map,List.length_take]; exact small1000 (by (first|lia|omega))
  ·rw [qH,List.take_succ,List.getElem?_eq_getElem hi2,List.map_append,List.map_append]
   rfl
 rintro σ' H' ⟨rfl,_⟩
 rw [List.take_of_length_le (by (first|lia|omega))]
 have s0:=zF hth (.lst ((nms.map (·.1)).map V.str))
 have eth:upd H th (.lst ((nms.map (·.1)).map V.str)) th=some (.lst ((nms.map (·.1)).map V.str)):=zC
 generalize upd H th (.lst ((nms.map (·.1)).map V.str))=H0 at *
 try dsimp only [gName,List.set]
 refine ⟨small (show 5<=1000 by decide),fun ot hot=>⟨ot,rfl,⟨_,.of zC⟩,fun l hl => ?_⟩⟩
 have s1:=s0.trans (zF hot (.tup (oddN.map V.str)))
 have eo:upd H0 ot (.tup (oddN.map V.str)) ot=some (.tup (oddN.map V.str)):=zC
 have eth1:=(zF hot (.tup (oddN.map V.str))) _ _ eth
 have hl':upd H0 ot (.tup (oddN.map V.str)) l=none:=hl
 show CompGo _ l _ (upd (upd H0 ot (.tup (oddN.map V.str))) l (.lst [])) _ _ _ _
 generalize upd H0 ot (.tup (oddN.map V.str))=H01 at *
 have nol:ot≠l:=zG eo hl'
 have ntl:th≠l:=zG eth1 hl'
 refine comp_tup (xs:=oddN.map V.str) (fun i σ' H'=>H'=upd H01 l (.lst (((oddN.take i).filter fun x => !decide (x∈nms.map (·.1))).map V.str))/\∃ y,σ'=[y,some (.ref th)]) ⟨rfl,_,rfl⟩ ?_ ?_ ?_
 ·rintro i σ' H' hi ⟨rfl,_⟩
  exact .of (by rw [zH nol]; exact eo)
 ·rintro i v σ' H' hi hv ⟨rfl,y,rfl⟩
  rw [List.length_map] at hi
  rw [List.getElem?_map,List.getElem?_eq_getElem hi] at hv
  cases hv
  have et:oddN.take (i+1)=oddN.take i++[oddN[i]]:=by rw [List.take_succ,List.getElem?_eq_getElem hi]; rfl
  refine ⟨_,rfl,_,rfl,th,_,rfl,.inl (.of (by rw [zH ntl]; exact eth1)),rfl,xJ _,_,rfl,?_⟩
  rw [kI]
  refine ite2 (fun c => ?_) (fun c => ?_)
  ·have c:(!decide (oddN[i]∈nms.map (·.1)))=true:=c
   refine ⟨_,rfl,_,zC,?_,CW.next (by rw [List.length_map]; exact hi) ⟨?_,_,rfl⟩⟩
   ·rw [List.length_map]
    have h1:=List.length_filter_le (fun x => !decide (x∈nms.map (·.1))) (oddN.take i)
    have h2:=List.length_take_le' i oddN
    have h3:oddN.length=5:=rfl
    exact small1000 (by (first|lia|omega))
   ·rw [qH,et,List.filter_append,List.map_append]
    congr 3
    show _=List.map V.str (List.filter _ [oddN[i]])
    rw [List.filter_cons,if_pos c]
    rfl
  ·have c:¬ (!decide (oddN[i]∈nms.map (·.1)))=true:=c
   refine CW.next (by rw [List.length_map]; exact hi) ⟨?_,_,rfl⟩
   rw [et,List.filter_append]
   have:List.filter (fun x => !decide (x∈nms.map (·.1))) [oddN[i]]=[]:=by rw [List.filter_cons,if_neg c]; rfl
   rw [this,List.append_nil]
 rintro σ' H' ⟨rfl,_⟩
 rw [List.length_map,List.take_length]
 obtain ⟨sg,r,er⟩ : ∃ sg r,(oddN.filter fun x => !decide (x∈nms.map (·.1)))=sg :: r:=by
  cases e:oddN.filter fun x => !decide (x∈nms.map (·.1)) with
  | cons a b=>exact ⟨a,b,rfl⟩
  | nil =>
   have:∀ x∈oddN,x∈nms.map (·.1):=fun x hx=>by
    refine Classical.byContradiction fun z => ?_
    have:x∈oddN.filter fun x => !decide (x∈nms.map (·.1)):=List.mem_filter.mpr ⟨hx,by rw [decide_eq_false z]; rfl⟩
    rw [e] at this
    cases this
   have l1:=nodup_le (show oddN.Nodup by decide +kernel) this
   rw [List.length_map] at l1
   have h3:oddN.length=5:=rfl
   (first|lia|omega)
 have msg:sg∈oddN.filter fun x => !decide (x∈nms.map (·.1)):=by rw [er]; exact List.mem_cons_self ..
 obtain ⟨mo,ns⟩ := List.mem_filter.mp msg
 obtain ⟨sgf,sgw⟩ := oddN_ok sg mo
 have sgw:=qF sgw
 have sgn:sg ∉ nms.map (·.1):=fun z=>by rw [decide_eq_true z] at ns; cases ns
 refine ⟨l,_,_,_,rfl,rfl,.of zC,(by rw [er]; exact kX (Int.le_refl 0) rfl),?_⟩
 have s2:=s1.trans (zF hl' (.lst ((oddN.filter fun x => !decide (x∈nms.map (·.1))).map V.str)))
 generalize upd H01 l (.lst ((oddN.filter fun x => !decide (x∈nms.map (·.1))).map V.str))=H02 at *
 try dsimp only [gName,List.set,tSeq,tAsg,tRet]
 refine BsE.go (P:=BadKS sg) (m:=7) ?_ (by decide) fun a1 H1 f1 s1' L1 => ?_
 ·exact BsE.cons (BdE.mk (ws:=(["with"]:List Str)) (n:=0) ⟨yE (by decide +kernel),by decide +kernel⟩ (LwE.lst (ws:=["with"]) (fun H Q q=>q) (by decide)) (fun H Q q=>q))
   (BsE.cons (BdE.mk (ws:=(["zz"]:List Str)) (n:=0) ⟨yE (by decide +kernel),by decide +kernel⟩ (LwE.lst (ws:=["zz"]) (fun H Q q=>q) (by decide)) (fun H Q q=>q))
   (BsE.cons (BdE.mk (ws:=(["01"]:List Str)) (n:=0) ⟨yE (by decide +kernel),by decide +kernel⟩ (LwE.lst (ws:=["01"]) (fun H Q q=>q) (by decide)) (fun H Q q=>q))
   (BsE.cons (BdE.mk (ws:=(["-0"]:List Str)) (n:=0) ⟨yE (by decide +kernel),by decide +kernel⟩ (LwE.lst (ws:=["-0"]) (fun H Q q=>q) (by decide)) (fun H Q q=>q))
   (BsE.cons (BdE.mk (ws:=(["add", "1", "is"]:List Str)) (n:=2) ⟨yE (by decide +kernel),by decide +kernel⟩ (LwE.lst (ws:=["add", "1", "is"]) (fun H Q q=>q) (by decide)) (fun H Q q=>q))
   (BsE.cons (BdE.mk (ws:=(["+1"]:List Str)) (n:=0) ⟨yE (by decide +kernel),by decide +kernel⟩ (LwE.lst (ws:=["+1"]) (fun H Q q=>q) (by decide)) (fun H Q q=>q))
   (BsE.cons (BdE.mk (ws:=(["set", "0"]:List Str)) (n:=1) ⟨yE (by decide +kernel),by decide +kernel⟩ (LwE.lst (ws:=["set", "0"]) (fun H Q q=>q) (by decide)) (fun H Q q=>q))
   (BsE.nil)))))))
 try dsimp only [gName,List.set,tSeq,tAsg,tRet]
 refine ⟨_,rfl,BsE.more (P:=BadKS sg) (m:=7) (k:=4) L1 ?_ (by decide) fun a2 H2 f2 s2' L2 => ?_⟩
 ·exact BsE.cons (BdE.mk (ws:=(["set", "zz", "0"]:List Str)) (n:=1) ⟨yE (by decide +kernel),by decide +kernel⟩ (LwE.lst (ws:=["set", "zz", "0"]) (fun H Q q=>q) (by decide)) (fun H Q q=>q))
   (BsE.cons (BdE.mk (ws:=(["all", "0"]:List Str)) (n:=1) ⟨yE (by decide +kernel),by decide +kernel⟩ (LwE.lst (ws:=["all", "0"]) (fun H Q q=>q) (by decide)) (fun H Q q=>q))
   (BsE.cons (BdE.mk (ws:=(["all", "13"]:List Str)) (n:=1) ⟨yE (by decide +kernel),by decide +kernel⟩ (LwE.lst (ws:=["all", "13"]) (fun H Q q=>q) (by decide)) (fun H Q q=>q))
   (BsE.cons (BdE.mk (ws:=(["all", "01", "1"]:List Str)) (n:=1) ⟨yE (by decide +kernel),by decide +kernel⟩ (LwE.lst (ws:=["all", "01", "1"]) (fun H Q q=>q) (by decide)) (fun H Q q=>q))
   (BsE.nil))))
 try dsimp only [gName,List.set,tSeq,tAsg,tRet]
 refine ⟨_,rfl,BsE.more (P:=BadKS sg) (m:=11) (k:=4) L2 ?_ (by decide) fun a3 H3 f3 s3 L3 => ?_⟩
 ·exact BsE.cons (BdE.mk (ws:=(["all", "k", "1"]:List Str)) (n:=1) ⟨yE (by decide +kernel),by decide +kernel⟩ (LwE.lst (ws:=["all", "k", "1"]) (fun H Q q=>q) (by decide)) (fun H Q q=>q))
   (BsE.cons (BdE.mk (ws:=(["pick", "1", "k", "1"]:List Str)) (n:=1) ⟨yE (by decide +kernel),by decide +kernel⟩ (LwE.lst (ws:=["pick", "1", "k", "1"]) (fun H Q q=>q) (by decide)) (fun H Q q=>q))
   (BsE.cons (BdE.mk (ws:=(["pick", "13", "k"]:List Str)) (n:=1) ⟨yE (by decide +kernel),by decide +kernel⟩ (LwE.lst (ws:=["pick", "13", "k"]) (fun H Q q=>q) (by decide)) (fun H Q q=>q))
   (BsE.cons (BdE.mk (ws:=(["pick", "-1"]:List Str)) (n:=1) ⟨yE (by decide +kernel),by decide +kernel⟩ (LwE.lst (ws:=["pick", "-1"]) (fun H Q q=>q) (by decide)) (fun H Q q=>q))
   (BsE.nil))))
 try dsimp only [gName,List.set,tSeq,tAsg,tRet]
 refine ⟨_,rfl,BsE.more (P:=BadKS sg) (m:=15) (k:=5) L3 ?_ (by decide) fun a4 H4 f4 s4 L4 => ?_⟩
 ·exact BsE.cons (BdE.mk (ws:=(["call",sg]:List Str)) (n:=1) ⟨badK_call (fun _=>rfl) sgf sgw,show 2<=100 by decide⟩ (LwE.lst (ws:=["call",sg]) (fun H Q q=>⟨_,rfl,q⟩) (show 2<=1000 by decide)) (fun H Q q=>q))
   (BsE.cons (BdE.mk (ws:=(["call", "0"]:List Str)) (n:=1) ⟨badK_call (fun z=>absurd z (by decide +kernel)) (by decide +kernel) (qF (by decide +kernel)),by decide⟩ (LwE.lst (ws:=["call", "0"]) (fun H Q q=>q) (by decide)) (fun H Q q=>q))
   (BsE.cons (BdE.mk (ws:=(["call", "call"]:List Str)) (n:=1) ⟨badK_call (fun z=>absurd z (by decide +kernel)) (by decide +kernel) (qF (by decide +kernel)),by decide⟩ (LwE.lst (ws:=["call", "call"]) (fun H Q q=>q) (by decide)) (fun H Q q=>q))
   (BsE.cons (BdE.mk (ws:=([Txt.mul "9" 61]:List Str)) (n:=0) ⟨yE (by decide +kernel),by decide +kernel⟩ (LwE.lst (ws:=[Txt.mul "9" 61]) (fun H Q q=>⟨_,_,rfl,rfl,mul_nine,q⟩) (by decide)) (fun H Q q=>q))
   (BsE.cons (BdE.mk (ws:=(["get", "k"]:List Str)) (n:=0) ⟨yE (by decide +kernel),by decide +kernel⟩ (LwE.lst (ws:=["get", "k"]) (fun H Q q=>q) (by decide)) (fun H Q q=>q))
   (BsE.nil)))))
 try dsimp only [gName,List.set,tSeq,tAsg,tRet]
 refine ⟨_,rfl,BsE.more (P:=BadKS sg) (m:=20) (k:=4) L4 ?_ (by decide) fun a5 H5 f5 s5 L5 => ?_⟩
 ·exact BsE.cons (BdE.mk (ws:=((List.replicate (10:Int).toNat (["fail"]:List Str)).flatten++(["k"]:List Str))) (n:=10) ⟨yE (by decide +kernel),by decide +kernel⟩ (LwE.cat (by decide +kernel) (LwE.rep (k:=10) (by decide) (by decide) (by decide) (LwE.lst (ws:=["fail"]) (fun H Q q=>q) (by decide))) (LwE.lst (ws:=["k"]) (fun H Q q=>q) (by decide))) (fun H Q q=>q))
   (BsE.cons (BdE.mk (ws:=((List.replicate (10:Int).toNat (["all", "1"]:List Str)).flatten++(["k"]:List Str))) (n:=20) ⟨yE (by decide +kernel),by decide +kernel⟩ (LwE.cat (by decide +kernel) (LwE.rep (k:=10) (by decide) (by decide) (by decide) (LwE.lst (ws:=["all", "1"]) (fun H Q q=>q) (by decide))) (LwE.lst (ws:=["k"]) (fun H Q q=>q) (by decide))) (fun H Q q=>q))
   (BsE.cons (BdE.mk (ws:=(["k", "k"]:List Str)) (n:=1) ⟨yE (by decide +kernel),by decide +kernel⟩ (LwE.lst (ws:=["k", "k"]) (fun H Q q=>q) (by decide)) (fun H Q q=>q))
   (BsE.cons (BdE.mk (ws:=(["0", "is"]:List Str)) (n:=1) ⟨yE (by decide +kernel),by decide +kernel⟩ (LwE.lst (ws:=["0", "is"]) (fun H Q q=>q) (by decide)) (fun H Q q=>q))
   (BsE.nil))))
 try dsimp only [gName,List.set,tSeq,tAsg,tRet]
 refine ⟨_,rfl,BsE.more (P:=BadKS sg) (m:=24) (k:=4) L5 ?_ (by decide) fun a6 H6 f6 s6 L6 => ?_⟩
 ·exact BsE.cons (BdE.mk (ws:=(["add", "k", "k", "k"]:List Str)) (n:=3) ⟨yE (by decide +kernel),by decide +kernel⟩ (LwE.lst (ws:=["add", "k", "k", "k"]) (fun H Q q=>q) (by decide)) (fun H Q q=>q))
   (BsE.cons (BdE.mk (ws:=(["new", "0"]:List Str)) (n:=1) ⟨yE (by decide +kernel),by decide +kernel⟩ (LwE.lst (ws:=["new", "0"]) (fun H Q q=>q) (by decide)) (fun H Q q=>q))
   (BsE.cons (BdE.mk (ws:=(["number", "1"]:List Str)) (n:=0) ⟨yE (by decide +kernel),by decide +kernel⟩ (LwE.lst (ws:=["number", "1"]) (fun H Q q=>q) (by decide)) (fun H Q q=>q))
   (BsE.cons (BdE.mk (ws:=(["set", "k", "loop", "0"]:List Str)) (n:=4) ⟨yE (by decide +kernel),by decide +kernel⟩ (LwE.lst (ws:=["set", "k", "loop", "0"]) (fun H Q q=>q) (by decide)) (fun H Q q=>q))
   (BsE.nil))))
 try dsimp only [gName,List.set,tSeq,tAsg,tRet]
 refine ⟨_,rfl,BsE.more (P:=BadKS sg) (m:=28) (k:=2) L6 ?_ (by decide) fun a7 H7 f7 s7 L7 => ?_⟩
 ·exact BsE.cons (BdE.mk (ws:=((List.replicate (10:Int).toNat (["set", "k"]:List Str)).flatten++(["k"]:List Str))) (n:=20) ⟨yE (by decide +kernel),by decide +kernel⟩ (LwE.cat (by decide +kernel) (LwE.rep (k:=10) (by decide) (by decide) (by decide) (LwE.lst (ws:=["set", "k"]) (fun H Q q=>q) (by decide))) (LwE.lst (ws:=["k"]) (fun H Q q=>q) (by decide))) (fun H Q q=>q))
   (BsE.cons (BdE.mk (ws:=(["1_0"]:List Str)) (n:=0) ⟨yE (by decide +kernel),by decide +kernel⟩ (LwE.lst (ws:=["1_0"]) (fun H Q q=>q) (by decide)) (fun H Q q=>q))
   (BsE.nil))
 try dsimp only [gName,List.set,tSeq,tAsg,tRet]
 refine ⟨_,rfl,BsE.more (P:=BadKS sg) (m:=30) (k:=1) L7 ?_ (by decide) fun a8 H8 f8 s8 L8 => ?_⟩
 ·exact BsE.cons (BdE.mk (ws:=((List.replicate (9:Int).toNat (["pick", "2", "0", "0"]:List Str)).flatten++(["pick", "2", "k"]:List Str))) (n:=38) ⟨yE (by decide +kernel),by decide +kernel⟩ (LwE.cat (by decide +kernel) (LwE.rep (k:=9) (by decide) (by decide) (by decide) (LwE.lst (ws:=["pick", "2", "0", "0"]) (fun H Q q=>q) (by decide))) (LwE.lst (ws:=["pick", "2", "k"]) (fun H Q q=>q) (by decide))) (fun H Q q=>q))
   (BsE.nil)
 try dsimp only [gName,List.set,tSeq,tAsg,tRet]
 refine ⟨_,rfl,BsE.more (P:=BadKS sg) (m:=31) (k:=2) L8 ?_ (by decide) fun a9 H9 f9 s9 L9 => ?_⟩
 ·exact BsE.cons (BdE.mk (ws:=((List.replicate (9:Int).toNat (["loop", "0"]:List Str)).flatten++(["loop", "k"]:List Str))) (n:=19) ⟨yE (by decide +kernel),by decide +kernel⟩ (LwE.cat (by decide +kernel) (LwE.rep (k:=9) (by decide) (by decide) (by decide) (LwE.lst (ws:=["loop", "0"]) (fun H Q q=>q) (by decide))) (LwE.lst (ws:=["loop", "k"]) (fun H Q q=>q) (by decide))) (fun H Q q=>q))
   (BsE.cons (BdE.mk (ws:=((List.replicate (9:Int).toNat (["put", "1", "k"]:List Str)).flatten++(["put", "1"]:List Str))) (n:=28) ⟨yE (by decide +kernel),by decide +kernel⟩ (LwE.cat (by decide +kernel) (LwE.rep (k:=9) (by decide) (by decide) (by decide) (LwE.lst (ws:=["put", "1", "k"]) (fun H Q q=>q) (by decide))) (LwE.lst (ws:=["put", "1"]) (fun H Q q=>q) (by decide))) (fun H Q q=>q))
   (BsE.nil))
 try dsimp only [gName,List.set,tSeq,tAsg,tRet]
 refine ⟨_,rfl,BsE.more (P:=BadKS sg) (m:=33) (k:=3) L9 ?_ (by decide) fun a10 H10 f10 s10 L10 => ?_⟩
 ·exact BsE.cons (BdE.mk (ws:=((List.replicate (10:Int).toNat (["size"]:List Str)).flatten++(["k"]:List Str))) (n:=10) ⟨yE (by decide +kernel),by decide +kernel⟩ (LwE.cat (by decide +kernel) (LwE.rep (k:=10) (by decide) (by decide) (by decide) (LwE.lst (ws:=["size"]) (fun H Q q=>q) (by decide))) (LwE.lst (ws:=["k"]) (fun H Q q=>q) (by decide))) (fun H Q q=>q))
   (BsE.cons (BdE.mk (ws:=(List.replicate (10:Int).toNat (["add", "k"]:List Str)).flatten) (n:=19) ⟨yE (by decide +kernel),by decide +kernel⟩ (LwE.rep (k:=10) (by decide) (by decide) (by decide) (LwE.lst (ws:=["add", "k"]) (fun H Q q=>q) (by decide))) (fun H Q q=>q))
   (BsE.cons (BdE.mk (ws:=((List.replicate (10:Int).toNat (["push"]:List Str)).flatten++(["k"]:List Str))) (n:=10) ⟨yE (by decide +kernel),by decide +kernel⟩ (LwE.cat (by decide +kernel) (LwE.rep (k:=10) (by decide) (by decide) (by decide) (LwE.lst (ws:=["push"]) (fun H Q q=>q) (by decide))) (LwE.lst (ws:=["k"]) (fun H Q q=>q) (by decide))) (fun H Q q=>q))
   (BsE.nil)))
 try dsimp only [gName,List.set,tSeq,tAsg,tRet]
 have sA:=s2.trans (s1'.trans (s2'.trans (s3.trans (s4.trans (s5.trans (s6.trans (s7.trans (s8.trans (s9.trans s10)))))))))
 obtain ⟨us,eus,lus,bus⟩ := id L10
 have DA:=D.more sA
 refine ⟨_,rfl,_,rfl,_,rfl,a10,_,rfl,.inl (.of eus),st,(us.length:Int),m,rfl,by rw [lus]; decide,by rw [lus]; decide,by (first|lia|omega),DA.pen,fun r H11 r0 r1 D11 => ?_⟩
 have hr36:r.toNat<us.length:=by (first|lia|omega)
 have na:a10≠st:=fun z=>by
  obtain ⟨c,s',t',e',_⟩ := DA.pen
  rw [z,e'] at eus
  injection eus with eus
  injection eus with eus
  rw [<- eus] at lus
  exact absurd (show 3=36 from lus) (by decide)
 have e11:=D11.keep _ _ na eus
 refine ⟨a10,_,_,_,rfl,rfl,.of e11,kX r0 (List.getElem?_eq_getElem hr36),?_⟩
 obtain ⟨t,a,ws,n,ev',e1,e2,hb⟩ := bus _ (List.getElem_mem hr36)
 rw [ev']
 refine q t sg H11 (DA.trans D11) sgn ⟨t,a,ws,n,rfl,(qD DA.pen D11) _ _ e1,D11.keep _ _ (pen_strs DA.pen e2) e2,hb⟩

end
section
variable {P:Program} {w:World} {K:PySem.W.Frag} {mg:Str->Option Value} {base:Heap} {f:Addr} {fd:FuncData} {aP aW aH CT CR:Addr}
set_option maxHeartbeats 4000000

def shortT:List Str:=("abcdefghijklmnopq" : Str).cps.toList.map fun c=>("fun " : Str)++⟨#[c]⟩ ++ " with is 0"
theorem tx1:TxR (Txt.join " " (shortT.take 16)) .non:=txR_none (by decide +kernel)
theorem tx2:TxR (Txt.join " " shortT) (.int ((80:Nat):Int)):=kA (by decide +kernel)
theorem tx3:TxR "fun main with is call main 1" (.int ((6:Nat):Int)):=kA (by decide +kernel)
theorem tx4:TxR "fun main with is call f 1 fun f a with is 0 fun f with is 0" (.int ((14:Nat):Int)):=kA (by decide +kernel)
theorem tx5:TxR "fun main with is call f fun f with is 0 fun f a with is 0" (.int ((12:Nat):Int)):=kA (by decide +kernel)
theorem tx6:TxR "fun main with is call f 1 2 fun f a b" (.int ((12:Nat):Int)):=kA (by decide +kernel)
theorem tx7:TxR "fun main with is call f 1 fun f a b is 0" (.int ((7:Nat):Int)):=kA (by decide +kernel)
theorem tx8:TxR (("fun main with is 0 fun f a with is" : Str)++Txt.mul " call f" 10 ++ " a") (.int ((30:Nat):Int)):=kA (by decide +kernel)
def LsX (H:Hp) (l:Addr) (m:Nat):Prop:=∃ us,H l=some (.lst us)/\us.length=m/\∀ v∈us,PrX H v
theorem lsx_push {H:Hp} {l p:Addr} {m:Nat} {us:List V} (e:H l=some (.lst us)) (hk:us.length=m) (a:∀ v∈us,PrX H v) (hp:PrX H (.ref p)):LsX (upd H l (.lst (us++[.ref p]))) l (m+1):=by
 have tp:∀ {v:V},PrX H v->PrX (upd H l (.lst (us++[.ref p]))) v:=fun {v} h=>by
  obtain ⟨t,x,o,rfl,et,r⟩ := h
  exact ⟨t,x,o,rfl,by rw [zH (fun z=>by rw [z,e] at et; cases et)]; exact et,r⟩
 refine ⟨_,zC,by rw [List.length_append,hk]; rfl,fun v hv => ?_⟩
 rcases List.mem_append.mp hv with z | z
 ·exact tp (a v z)
 ·rw [List.mem_singleton.mp z]; exact tp hp
def spTexts:Sp:=fun vs H Q _=>vs=[]/\∀ l H',Same H H'->LsX H' l 8->Q (.ref l) H'
theorem short_len:(shortT.map (·.length)).sum+shortT.length * (" " : Str).length<=16777216:=by decide +kernel
theorem short_len2:((shortT.take 16).map (·.length)).sum+(shortT.take 16).length * (" " : Str).length<=16777216:=by decide +kernel
theorem mul_call:MulOk " call f" 10:=by refine ⟨by decide,fun _ _=>by decide,fun _ _=>by decide⟩
theorem ok_texts (F:Fun K "_law_texts" "_law_texts" xS f fd):FnOk P w K mg base (CXE P w) 1 f fd [] spTexts:=by
 refine F.okN kY (fun vs H Q E h => ?_) (fun cdv A outer s H vs Q E hr h => ?_)
 ·obtain ⟨rfl,_⟩ := h
  rfl
 obtain ⟨rfl,q⟩ := h
 refine ⟨_,(zD (ps_setcomp (i:=0) kY.nd rfl rfl  (own:=["_law_letter"]) (ys:=[]) rfl (pi_str zP) (jB (sc:=defScope xS) rfl (by decide +kernel)) .nil (fun _ _ _ _ _=>(zV (i:=0) (show List.Nodup [("_law_letter" : Str)] from (by decide +kernel)) rfl (Or.inl rfl))) (fun _ _ _ _ _=>wB) (fun _ _ _ _ _=>(zL kS (zL kS zP (pv 0)) zP)))
   (zD (zN (i:=1) kY.nd rfl (Or.inl rfl) (zK (zA (zQ (zA (yP PySem.F.plainAttrs_str PySem.F.slot_str_join PySem.F.type_str_join wF zP (zA (qE sl_list (pv 0) wD (wC zE)) zB)) (zA wV zB))) (zA (zQ (zA (yP PySem.F.plainAttrs_str PySem.F.slot_str_join PySem.F.type_str_join wF zP (zA (pv 0) zB)) (zA zE zB))) (zA (zQ (zO (.str (.int .nil)))) zB)))))
   (zD (yB (yP PySem.F.plainAttrs_list PySem.F.slot_list_append PySem.F.type_list_append yJ (pv 1) (zA (zQ (zO (.str (.int .nil)))) zB)))
   (zD (yB (yP PySem.F.plainAttrs_list PySem.F.slot_list_append PySem.F.type_list_append yJ (pv 1) (zA (zQ (zO (.str (.int .nil)))) zB)))
   (zD (zN (i:=1) kY.nd rfl (Or.inl rfl) (zL yA (pv 1) (zK (zA (zQ (zO (.str (.int .nil)))) (zA (zQ (zO (.str (.int .nil)))) zB)))))
   (zI (zS (zL yA (pv 1) (zK (zA (zQ (zA (zL kS (zL kS zP (zL op_mulS zP zE)) zP) (zA zE zB))) zB)))))))))),?_⟩
 try dsimp only [Cx.nox,Cx.exc,Cx.wish,yG]
 dsimp only [tSeq]
 refine LwE.map (x := "abcdefghijklmnopq") (f:=fun c=>("fun " : Str)++⟨#[c]⟩ ++ " with is 0") (by decide) ?_ H _ fun sh H1 f1 s1 e1 => ?_
 ·intro c H Q q
  exact ⟨_,rfl,_,_,rfl,rfl,small (show 5<=1000 by decide),_,_,rfl,rfl,small (show 15<=1000 by decide),q⟩
 have e1:H1 sh=some (.lst (shortT.map V.str)):=e1
 try dsimp only [gName,List.set]
 refine ⟨rfl,_,rfl,_,rfl,sh,_,rfl,.of e1,fun c1 hc1 => ?_⟩
 have s2:=zF hc1 (.lst ((shortT.take 16).map V.str))
 have ec:cutV (shortT.map V.str) none (some 16)=(shortT.take 16).map V.str:=by rw [List.map_take]; exact qR 16
 rw [ec]
 generalize eC:upd H1 c1 (.lst ((shortT.take 16).map V.str))=H2 at *
 have ec1:H2 c1=some (.lst ((shortT.take 16).map V.str)):=by rw [<- eC]; exact zC
 refine ⟨_,c1,_,rfl,rfl,.of ec1,short_len2,small (show 2<=1000 by decide),fun p1 h3 => ?_⟩
 have s3:=zF h3 (.tup [.str (Txt.join " " (shortT.take 16)),.non])
 have x1:PrX (upd H2 p1 (.tup [.str (Txt.join " " (shortT.take 16)),.non])) (.ref p1):=⟨p1,_,_,rfl,zC,tx1⟩
 generalize upd H2 p1 (.tup [.str (Txt.join " " (shortT.take 16)),.non])=H3 at *
 refine ⟨rfl,_,rfl,_,sh,_,rfl,rfl,.of (s3 _ _ (s2 _ _ e1)),short_len,small (show 2<=1000 by decide),fun p2 h4 => ?_⟩
 have s4:=zF h4 (.tup [.str (Txt.join " " shortT),.int 80])
 have x2:PrX (upd H3 p2 (.tup [.str (Txt.join " " shortT),.int 80])) (.ref p2):=⟨p2,_,_,rfl,zC,tx2⟩
 generalize upd H3 p2 (.tup [.str (Txt.join " " shortT),.int 80])=H4 at *
 refine ⟨small (show 2<=1000 by decide),fun p3 h5 => ?_⟩
 have s5:=zF h5 (.tup [.str "fun main with is call main 1",.int 6])
 have x3:PrX (upd H4 p3 (.tup [.str "fun main with is call main 1",.int 6])) (.ref p3):=⟨p3,_,_,rfl,zC,tx3⟩
 generalize upd H4 p3 (.tup [.str "fun main with is call main 1",.int 6])=H5 at *
 refine ⟨small (show 3<=1000 by decide),fun l hl => ?_⟩
 have s6:=zF hl (.lst [.ref p1,.ref p2,.ref p3])
 have sA:=s1.trans (s2.trans (s3.trans (s4.trans (s5.trans s6))))
 have L6:LsX (upd H5 l (.lst [.ref p1,.ref p2,.ref p3])) l 3:=⟨_,zC,rfl,fun v hv=>by
  rcases List.mem_cons.mp hv with z | hv
  ·rw [z]; exact ((x1.same s4).same s5).same s6
  rcases List.mem_cons.mp hv with z | hv
  ·rw [z]; exact (x2.same s5).same s6
  ·rw [List.mem_singleton.mp hv]; exact x3.same s6⟩
 have hlH:H l=none:=s1.free (s2.free (s3.free (s4.free (s5.free hl))))
 generalize upd H5 l (.lst [.ref p1,.ref p2,.ref p3])=H6 at *
 obtain ⟨us,eu,lu,au⟩ := L6
 try dsimp only [gName,List.set]
 refine ⟨_,rfl,.inl ⟨rfl,_,.of eu⟩,small (show 2<=1000 by decide),fun p4 h7 => ?_⟩
 have s7:=zF h7 (.tup [.str "fun main with is call f 1 fun f a with is 0 fun f with is 0",.int 14])
 have x4:PrX (upd H6 p4 (.tup [.str "fun main with is call f 1 fun f a with is 0 fun f with is 0",.int 14])) (.ref p4):=⟨p4,_,_,rfl,zC,tx4⟩
 generalize upd H6 p4 (.tup [.str "fun main with is call f 1 fun f a with is 0 fun f with is 0",.int 14])=H7 at *
 refine ⟨l,_,_,rfl,rfl,s7 _ _ eu,small1000 (by (first|lia|omega)),?_⟩
 obtain ⟨us2,eu2,lu2,au2⟩ := lsx_push (s7 _ _ eu) lu (fun v hv=>(au v hv).same s7) x4
 have k7:Same H (upd H7 l (.lst (us++[.ref p4]))):=fun b o e=>by rw [zH (zG e hlH)]; exact s7 _ _ (sA _ _ e)
 generalize upd H7 l (.lst (us++[.ref p4]))=H8 at *
 refine ⟨_,rfl,.inl ⟨rfl,_,.of eu2⟩,small (show 2<=1000 by decide),fun p5 h9 => ?_⟩
 have s9:=zF h9 (.tup [.str "fun main with is call f fun f with is 0 fun f a with is 0",.int 12])
 have x5:PrX (upd H8 p5 (.tup [.str "fun main with is call f fun f with is 0 fun f a with is 0",.int 12])) (.ref p5):=⟨p5,_,_,rfl,zC,tx5⟩
 generalize upd H8 p5 (.tup [.str "fun main with is call f fun f with is 0 fun f a with is 0",.int 12])=H9 at *
 refine ⟨l,_,_,rfl,rfl,s9 _ _ eu2,small1000 (by (first|lia|omega)),?_⟩
 obtain ⟨us3,eu3,lu3,au3⟩ := lsx_push (s9 _ _ eu2) lu2 (fun v hv=>(au2 v hv).same s9) x5
 have k9:Same H (upd H9 l (.lst (us2++[.ref p5]))):=fun b o e=>by rw [zH (zG e hlH)]; exact s9 _ _ (k7 _ _ e)
 generalize upd H9 l (.lst (us2++[.ref p5]))=H10 at *
 refine ⟨_,rfl,small (show 2<=1000 by decide),fun p6 h11 => ?_⟩
 have s11:=zF h11 (.tup [.str "fun main with is call f 1 2 fun f a b",.int 12])
 have x6:PrX (upd H10 p6 (.tup [.str "fun main with is call f 1 2 fun f a b",.int 12])) (.ref p6):=⟨p6,_,_,rfl,zC,tx6⟩
 generalize upd H10 p6 (.tup [.str "fun main with is call f 1 2 fun f a b",.int 12])=H11 at *
 refine ⟨small (show 2<=1000 by decide),fun p7 h12 => ?_⟩
 have s12:=zF h12 (.tup [.str "fun main with is call f 1 fun f a b is 0",.int 7])
 have x7:PrX (upd H11 p7 (.tup [.str "fun main with is call f 1 fun f a b is 0",.int 7])) (.ref p7):=⟨p7,_,_,rfl,zC,tx7⟩
 generalize upd H11 p7 (.tup [.str "fun main with is call f 1 fun f a b is 0",.int 7])=H12 at *
 refine ⟨small (show 2<=1000 by decide),fun l2 hl2 => ?_⟩
 have s13:=zF hl2 (.lst [.ref p6,.ref p7])
 have k13:=k9.trans (s11.trans (s12.trans s13))
 refine ⟨l,l2,_,_,rfl,rfl,(s11.trans (s12.trans s13)) _ _ eu3,zC,small (by rw [lu3]; show 5+2<=1000; decide),fun l3 hl3 => ?_⟩
 have s14:=zF hl3 (.lst (us3++[.ref p6,.ref p7]))
 have g14:=s11.trans (s12.trans (s13.trans s14))
 have au4:∀ v∈us3++[V.ref p6,V.ref p7],PrX (upd (upd H12 l2 (.lst [.ref p6,.ref p7])) l3 (.lst (us3++[.ref p6,.ref p7]))) v:=fun v hv=>by
  rcases List.mem_append.mp hv with z | hv
  ·exact (au3 v z).same g14
  rcases List.mem_cons.mp hv with z | hv
  ·rw [z]; exact ((x6.same s12).same s13).same s14
  ·rw [List.mem_singleton.mp hv]; exact (x7.same s13).same s14
 have e14:upd (upd H12 l2 (.lst [.ref p6,.ref p7])) l3 (.lst (us3++[.ref p6,.ref p7])) l3=some (.lst (us3++[.ref p6,.ref p7])):=zC
 have k14:=k13.trans s14
 generalize upd (upd H12 l2 (.lst [.ref p6,.ref p7])) l3 (.lst (us3++[.ref p6,.ref p7]))=H14 at *
 try dsimp only [gName,List.set]
 refine ⟨_,rfl,_,_,rfl,rfl,mul_call,_,_,rfl,rfl,small (by decide +kernel),_,_,rfl,rfl,small (by decide +kernel),small (show 2<=1000 by decide),fun p8 h15 => ?_⟩
 have s15:=zF h15 (.tup [.str (("fun main with is 0 fun f a with is" : Str)++Txt.mul " call f" 10 ++ " a"),.int 30])
 have x8:PrX (upd H14 p8 (.tup [.str (("fun main with is 0 fun f a with is" : Str)++Txt.mul " call f" 10 ++ " a"),.int 30])) (.ref p8):=⟨p8,_,_,rfl,zC,tx8⟩
 generalize upd H14 p8 (.tup [.str (("fun main with is 0 fun f a with is" : Str)++Txt.mul " call f" 10 ++ " a"),.int 30])=H15 at *
 refine ⟨small (show 1<=1000 by decide),fun l4 hl4 => ?_⟩
 have s16:=zF hl4 (.lst [.ref p8])
 refine ⟨l3,l4,_,_,rfl,rfl,(s15.trans s16) _ _ e14,zC,small (by rw [List.length_append,lu3]; show 5+2+1<=1000; decide),fun l5 hl5 => ?_⟩
 have s17:=zF hl5 (.lst (us3++[.ref p6,.ref p7]++[.ref p8]))
 refine q l5 _ (k14.trans (s15.trans (s16.trans s17))) ⟨_,zC,by rw [List.length_append,List.length_append,lu3]; rfl,fun v hv => ?_⟩
 rcases List.mem_append.mp hv with z | hv
 ·exact ((au4 v z).same s15).same (s16.trans s17)
 ·rw [List.mem_singleton.mp hv]; exact x8.same (s16.trans s17)

end
section
variable {P:Program} {w:World} {K:PySem.W.Frag} {mg:Str->Option Value} {base:Heap} {f:Addr} {fd:FuncData} {aP aW aH CT CR:Addr}
set_option maxHeartbeats 4000000

theorem plain_line {hs:List Hd3} {x:Pg} (ok:PgOk hs x):(lineW x).take ((lineW x).idxOf ("is" : Str)+1)++[("0" : Str)]=lineW (pgN x.1)/\FirstAt ((lineW x).map V.str) (.str "is") ((lineW x).idxOf ("is" : Str))/\(lineW x).idxOf ("is" : Str)+1<=(lineW x).length:=by
 have nb:∀ b∈x.1.2.1,b ≠ "is" := fun b hb=>by
  have:=(jZ (ok.hd.bx.ok b hb)).2.2.2.1
  exact fun z=>this (z ▸ by decide)
 have nn:x.1.1 ≠ "is" := by
  have:=(jZ ok.hd.nm).2.2.2.1
  exact fun z=>this (z ▸ by decide)
 have el:lineW x=(("fun" : Str) :: x.1.1 :: (x.1.2.1.take x.1.2.2++("with" : Str) :: x.1.2.1.drop x.1.2.2))++(("is" : Str) :: x.2.1):=by unfold lineW; simp
 have en:lineW (pgN x.1)=(("fun" : Str) :: x.1.1 :: (x.1.2.1.take x.1.2.2++("with" : Str) :: x.1.2.1.drop x.1.2.2))++(("is" : Str) :: [("0" : Str)]):=by unfold lineW pgN; simp
 have ni:("is" : Str) ∉ (("fun" : Str) :: x.1.1 :: (x.1.2.1.take x.1.2.2++("with" : Str) :: x.1.2.1.drop x.1.2.2)):=fun z=>by
  rcases List.mem_cons.mp z with z | z
  ·exact absurd z (by decide +kernel)
  rcases List.mem_cons.mp z with z | z
  ·exact nn z.symm
  rcases List.mem_append.mp z with z | z
  ·exact nb _ (List.mem_of_mem_take z) rfl
  rcases List.mem_cons.mp z with z | z
  ·exact absurd z (by decide +kernel)
  ·exact nb _ (List.mem_of_mem_drop z) rfl
 generalize (("fun" : Str) :: x.1.1 :: (x.1.2.1.take x.1.2.2++("with" : Str) :: x.1.2.1.drop x.1.2.2))=u at *
 have ei:(lineW x).idxOf ("is" : Str)=u.length:=by
  rw [el,List.idxOf_append,if_neg ni,List.idxOf_cons_self,Nat.zero_add]
 refine ⟨?_,first_strs (by rw [el]; exact List.mem_append_right _ (List.mem_cons_self ..)),?_⟩
 ·rw [ei,en,el]
  rw [List.take_append,List.take_of_length_le (Nat.le_succ _),Nat.add_sub_cancel_left,List.append_assoc]
  rfl
 ·rw [ei,el,List.length_append,List.length_cons]
  (first|lia|omega)
theorem paired_mem {α β:Type} {F G : α->β->Prop}:∀ {xs:List α} {ys:List β},Paired F xs ys->(∀ x y,x∈xs->F x y->G x y)->Paired G xs ys
 | _,_,.nil,_ => .nil
 | _,_,.cons h t,k => .cons (k _ _ (List.mem_cons_self ..) h) (paired_mem t fun x y hx=>k x y (List.mem_cons_of_mem _ hx))
def plainP (pr:List Pg):List Pg:=pr.map fun x=>pgN x.1
def spLone:Sp:=fun vs H Q _=>∃ (na li:Addr) (hs:List Hd3) (pr:List Pg),vs=[.ref na,.ref li]/\(∃ us,H li=some (.lst us)/\Paired (LnAt H) us (pr.map lineW))/\(∀ x∈pr,PgOk hs x/\x.2.1.length<=700)/\pr.length<=16 /\
 ∀ l H',Same H H'->(∃ us,H' l=some (.lst us)/\Paired (LnAt H') us ((plainP pr).map lineW))->H l=none->Q (.ref l) H'
theorem LnAt.same {H H':Hp} {v:V} {ws:List Str} (h:LnAt H v ws) (g:Same H H'):LnAt H' v ws:=by
 obtain ⟨a,rfl,e⟩ := h
 exact ⟨a,rfl,g _ _ e⟩
theorem ok_lone (F:Fun K "_law_lone" "_law_lone" jW f fd):FnOk P w K mg base (CXE P w) 1 f fd ["_law_names", "_law_lines"] spLone:=by
 refine F.okN wT (fun vs H Q E h => ?_) (fun cdv A outer s H vs Q E hr h => ?_)
 ·obtain ⟨na,li,hs,pr,rfl,_⟩ := h
  rfl
 obtain ⟨na,li,hs,pr,rfl,⟨us,eu,pu⟩,ok,h16,q⟩ := h
 refine ⟨_,(zD (zN (i:=2) wT.nd rfl (Or.inl rfl) (zK zB))
   (zD (kH PassesOwn.never rfl (wE (pv 1)) (zV (i:=3) wT.nd rfl (Or.inl rfl)) (zI (yB (yP PySem.F.plainAttrs_list PySem.F.slot_list_append PySem.F.type_list_append yJ (pv 2) (zA (zL yA (qE sl_list (pv 3) wD (wC (zL yX (yP PySem.F.plainAttrs_list PySem.F.slot_list_index PySem.F.type_list_index mt_indexL (pv 3) (zA zP zB)) zE))) (zK (zA zP zB))) zB)))))
   (zI (zS (pv 2))))),?_⟩
 try dsimp only [Cx.nox,Cx.exc,Cx.wish,yG]
 refine ⟨small (show 0<=1000 by decide),fun l hl => ?_⟩
 have s0:=zF hl (.lst [])
 have hul:=Paired.len pu
 rw [List.length_map] at hul
 have nll:li≠l:=zG eu hl
 refine ⟨_,rfl,li,rfl,⟨_,.of (s0 _ _ eu)⟩,for_list (xs:=us) (fun i σ' H'=>∃ v3 ys,σ'=[some (.ref na),some (.ref li),some (.ref l),v3]/\Same H H'/\H' l=some (.lst ys)/\Paired (LnAt H') ys ((plainP (pr.take i)).map lineW)/\(∀ v∈ys,v ≠ .ref l)) ⟨_,[],rfl,s0,zC,.nil,fun v hv=>nomatch hv⟩ (fun i σ' H' _ ⟨_,_,_,s,_⟩ => .of (s _ _ eu)) ?_ ?_⟩
 ·rintro i v σ' H1 hv ⟨v3,ys,rfl,s1,e1,p1,ny⟩
  have hi:i<pr.length:=by
   have:=(List.getElem?_eq_some_iff.mp hv).1
   (first|lia|omega)
  have epi:pr[i]? = some pr[i]:=List.getElem?_eq_getElem hi
  obtain ⟨a,rfl,ea⟩ := Paired.get pu _ _ _ hv (by rw [List.getElem?_map,epi]; rfl)
  obtain ⟨okx,fx⟩ := ok pr[i] (List.getElem_mem hi)
  have et:pr.take (i+1)=pr.take i++[pr[i]]:=by rw [List.take_succ,epi]; rfl
  generalize pr[i]=x at *
  obtain ⟨pl1,pl2,pl3⟩ := plain_line okx
  have b12:=okx.hd.bx.few
  have pb:=okx.hd.pb
  have ll:(lineW x).length<=720:=by
   unfold lineW
   simp only [List.length_cons,List.length_append,List.length_take,List.length_drop]
   (first|lia|omega)
  have ys16:ys.length<=16:=by
   rw [Paired.len p1,List.length_map]
   unfold plainP
   rw [List.length_map,List.length_take]
   (first|lia|omega)
  try dsimp only [gName,List.set]
  refine ⟨_,rfl,.inl ⟨rfl,_,.of e1⟩,_,rfl,_,rfl,.inl ⟨rfl,_,.of (s1 _ _ ea)⟩,a,_,_,_,rfl,rfl,.of (s1 _ _ ea),rfl,xJ _,pl2,_,_,rfl,rfl,_,rfl,a,_,rfl,.of (s1 _ _ ea),fun c hc => ?_⟩
  have ec:cutV ((lineW x).map V.str) none (some (((lineW x).idxOf ("is" : Str):Int)+1))=((lineW x).take ((lineW x).idxOf ("is" : Str)+1)).map V.str:=by
   rw [List.map_take]
   exact qR ((lineW x).idxOf ("is" : Str)+1)
  rw [ec]
  have s2:=zF hc (.lst (((lineW x).take ((lineW x).idxOf ("is" : Str)+1)).map V.str))
  refine ⟨small (show 1<=1000 by decide),fun z hz => ?_⟩
  have s3:=zF hz (.lst [.str "0"])
  refine ⟨c,z,_,_,rfl,rfl,s3 _ _ zC,zC,small (by rw [List.length_map,List.length_take]; show _+1<=_; (first|lia|omega)),fun y hy => ?_⟩
  have ey:((lineW x).take ((lineW x).idxOf ("is" : Str)+1)).map V.str++[.str "0"]=(lineW (pgN x.1)).map V.str:=by rw [<- pl1,List.map_append]; rfl
  rw [ey]
  have s4:=zF hy (.lst ((lineW (pgN x.1)).map V.str))
  have s14:=s2.trans (s3.trans s4)
  have ny1:y≠l:=fun z=>by rw [z,(s2.trans s3) _ _ e1] at hy; cases hy
  refine ⟨l,_,_,rfl,rfl,s14 _ _ e1,small1000 (by (first|lia|omega)),_,ys++[.ref y],rfl,fun b o e => ?_,zC,?_,fun v hv => ?_⟩
  ·rw [zH (zG e hl)]; exact s14 _ _ (s1 _ _ e)
  ·have up:∀ {v:V} {ws:List Str},LnAt H1 v ws->v ≠ .ref l->LnAt (upd (upd (upd (upd H1 c (.lst (((lineW x).take ((lineW x).idxOf ("is" : Str)+1)).map V.str))) z (.lst [.str "0"])) y (.lst ((lineW (pgN x.1)).map V.str))) l (.lst (ys++[.ref y]))) v ws:=fun {v ws} h hn=>by
    obtain ⟨b,rfl,eb⟩ := h
    exact ⟨b,rfl,by rw [zH (fun z=>hn (by rw [z]))]; exact s14 _ _ eb⟩
   rw [et]
   unfold plainP
   rw [List.map_append,List.map_append]
   refine Paired.snoc (paired_mem p1 fun v ws hv h=>up h (ny v hv)) ⟨y,rfl,by rw [zH ny1]; exact zC⟩
  ·rcases List.mem_append.mp hv with z | z
   ·exact ny v z
   ·rw [List.mem_singleton.mp z]; exact fun z=>ny1 (by injection z)
 ·rintro σ' H1 ⟨v3,ys,rfl,s1,e1,p1,ny⟩
  rw [List.take_of_length_le (by (first|lia|omega))] at p1
  exact ⟨_,rfl,q l H1 s1 ⟨ys,e1,p1⟩ hl⟩

end
section
variable {P:Program} {w:World} {K:PySem.W.Frag} {mg:Str->Option Value} {base:Heap} {f:Addr} {fd:FuncData} {aP aW aH CT CR:Addr}
set_option maxHeartbeats 4000000

structure TxtLS (K:PySem.W.Frag) (mg:Str->Option Value):Prop extends TxtL K mg where
 n_sum:mg "sum" = none
theorem pen_lns {H:Hp} {st a:Addr} {m:Int} {vs:List V} {lss:List (List Str)} (D:Pen3 H st m) (e:H a=some (.lst vs)) (p:Paired (LnAt H) vs lss):a≠st:=fun z=>by
 obtain ⟨c,s,t,e2,_⟩ := D
 rw [z,e2] at e
 injection e with e
 injection e with e
 subst e
 cases p with
 | cons h _ =>
  obtain ⟨b,eb,_⟩ := h
  cases eb
theorem lines_refs {H:Hp}:∀ {us:List V} {lss:List (List Str)},Paired (LnAt H) us lss->∃ as:List Addr,us=as.map V.ref/\Paired (fun a ys=>H a=some (.lst ys)) as (lss.map fun ls=>ls.map V.str)
 | _,_,.nil=>⟨[],rfl,.nil⟩
 | _,_,.cons h t=>by
  obtain ⟨a,rfl,e⟩ := h
  obtain ⟨as,rfl,p⟩ := lines_refs t
  exact ⟨a :: as,rfl,.cons e p⟩
theorem flat_map_strs (lss:List (List Str)):(lss.map fun ls=>ls.map V.str).flatten=lss.flatten.map V.str:=by rw [List.map_flatten]
theorem plain_names (pr:List Pg):namesP (plainP pr)=namesP pr:=by
 unfold namesP plainP
 rw [List.map_map]
 rfl
theorem plain_take (pr:List Pg) (i:Nat):plainP (pr.take i)=(plainP pr).take i:=by
 unfold plainP
 rw [List.map_take]
theorem names_take (pr:List Pg) (i:Nat):(namesP pr).take i=namesP (pr.take i):=by
 unfold namesP
 rw [List.map_take]
structure ProgH (pr:List Pg):Prop where
 hd:∀ x∈pr,HdOk x.1
 nd:(pr.map fun x=>x.1.1).Nodup
 ne:pr≠[]
 few:pr.length<=4
 first:∀ x,pr[0]? = some x->x.1.2.2=0
theorem ProgH.pre {pr:List Pg} (h:ProgH pr) (i:Nat):PreOk (plainP (pr.take i)):=by
 refine ⟨fun x hx => ?_,?_,?_,fun x hx => ?_⟩
 ·obtain ⟨y,hy,rfl⟩ := List.mem_map.mp hx
  exact pgN_ok (h.hd y (List.mem_of_mem_take hy))
 ·have:((plainP (pr.take i)).map fun x=>x.1.1)=(pr.take i).map fun x=>x.1.1:=by unfold plainP; rw [List.map_map]; rfl
  rw [this,List.map_take]
  exact h.nd.sublist (List.take_sublist _ _)
 ·unfold plainP
  rw [List.length_map,List.length_take]
  have:=h.few
  (first|lia|omega)
 ·unfold plainP at hx
  rw [List.getElem?_map] at hx
  obtain ⟨y,hy,rfl⟩ := Option.map_eq_some_iff.mp hx
  refine h.first y ?_
  rw [List.getElem?_take] at hy
  split at hy
  ·exact hy
  ·cases hy
theorem ProgH.nmg {pr:List Pg} (h:ProgH pr):NmG (namesP pr):=by
 refine ⟨fun x hx => ?_,?_,?_⟩
 ·obtain ⟨y,hy,rfl⟩ := List.mem_map.mp hx
  exact (h.hd y hy).nm
 ·unfold namesP
  rw [List.map_map]
  exact h.nd
 ·unfold namesP
  rw [List.length_map]
  have:=h.few
  (first|lia|omega)
theorem plain_len {pr:List Pg} (h:ProgH pr) (i:Nat):(wordsP (plainP (pr.take i))).length<=100:=by
 have key:∀ l:List Pg,(∀ x∈l,HdOk x.1)->(wordsP (plainP l)).length<=17 * l.length:=fun l=>by
  induction l with
  | nil=>exact fun _=>Nat.le_refl _
  | cons x r ih =>
   intro hx
   have h1:=hx x (List.mem_cons_self ..)
   have:=ih (fun y hy=>hx y (List.mem_cons_of_mem _ hy))
   show (lineW (pgN x.1)++wordsP (plainP r)).length<=_
   have ll:(lineW (pgN x.1)).length=x.1.2.1.length+5:=by
    unfold lineW pgN
    simp only [List.length_cons,List.length_append,List.length_take,List.length_drop,List.length_nil]
    have:=h1.pb
    (first|lia|omega)
   have:=h1.bx.few
   rw [List.length_append,ll,List.length_cons]
   (first|lia|omega)
 have h2:=key (pr.take i) (fun x hx=>h.hd x (List.mem_of_mem_take hx))
 rw [List.length_take] at h2
 have:=h.few
 (first|lia|omega)
theorem plain_wd {pr:List Pg} (h:ProgH pr) (i:Nat):∀ w∈wordsP (plainP (pr.take i)),WdT w:=fun w hw=>by
 unfold wordsP at hw
 obtain ⟨ls,m1,m2⟩ := List.mem_flatten.mp hw
 obtain ⟨y,hy,rfl⟩ := List.mem_map.mp m1
 exact lineW_wd ((h.pre i).all y hy) w m2
def spSpoilt:Sp:=fun vs H Q _=>∃ (st na li:Addr) (m:Int) (pr:List Pg),vs=[.ref st,.ref na,.ref li]/\Pen3 H st m/\m<=190000/\NmsAt H na (namesP pr)/\(∃ us,H li=some (.lst us)/\Paired (LnAt H) us ((plainP pr).map lineW))/\ProgH pr /\
 ∀ p a ws (n:Nat) H',Penned3 st (m+20) H H'->H' p=some (.tup [.ref a,.int (n:Int)])->H' a=some (.lst (ws.map V.str))->readR ws = .error n->(∀ w∈ws,WdT w)->ws.length<=3000->Q (.ref p) H'
theorem qV {H H':Hp} {st a:Addr} {m m':Int} {ns:List (Str × List Str)} (h:NmsAt H a ns) (D:Pen3 H st m) (P:Penned3 st m' H H'):NmsAt H' a ns:=by
 obtain ⟨vs,e,p⟩ := h
 exact ⟨vs,qD D P _ _ e,Paired.imp (fun v x z=>z.tups (qD D P)) p⟩
theorem ok_spoilt (T:TxtLS K mg) (F:Fun K "_law_spoilt" "_law_spoilt" xY f fd) (C_law_draw:Cal P w K mg base (CXE P w) 1 "_law_draw" ["_law_pen_here", "_law_many"] spDraw3) (C_law_bad_heads:Cal P w K mg base (CXE P w) 2 "_law_bad_heads" ["_law_pen_here", "_law_names", "_law_number_here"] spBadHeads)
  (C_law_bad_bodies:Cal P w K mg base (CXE P w) 2 "_law_bad_bodies" ["_law_pen_here", "_law_names"] spBadBodies):FnOk P w K mg base (CXE P w) 3 f fd ["_law_pen_here", "_law_names", "_law_lines"] spSpoilt:=by
 refine F.okN yS (fun vs H Q E h => ?_) (fun cdv A outer s H vs Q E hr h => ?_)
 ·obtain ⟨st,na,li,m,pr,rfl,_⟩ := h
  rfl
 obtain ⟨st,na,li,m,pr,rfl,D,m0,hna,⟨us,eu,pu⟩,ph,q⟩ := h
 refine ⟨_,(zD (zN (i:=3) yS.nd rfl (Or.inl rfl) (zJ C_law_draw hr rfl (zA (pv 0) (zA (zU zT rfl T.n_len yN (zA (pv 2) zB)) zB)) passN))
   (zD (wU (zN (i:=4) yS.nd rfl (Or.inl rfl) (zU (call_sumL rfl) rfl T.n_sum bt_sum (zA (qE sl_list (pv 2) wD (wC (pv 3))) (zA (zK zB) zB)))))
   (zD (zZ (zM yQ (zJ C_law_draw hr rfl (zA (pv 0) (zA zE zB)) passN) zE (nomark _)) (zD (qT (zJ C_law_bad_heads hr rfl (zA (pv 0) (zA (pv 1) (zA (pv 3) zB))) passN) (qU rfl (yC (zV (i:=5) yS.nd rfl (Or.inl rfl)) (yC (zV (i:=6) yS.nd rfl (Or.inl rfl)) jO))))
   (zI (zS (zQ (zA (zL yA (zL yA (pv 4) (pv 5)) (zK (zA zP zB))) (zA (zL yX (zU zT rfl T.n_len yN (zA (pv 4) zB)) (pv 6)) zB)))))) zR)
   (zD (zN (i:=7) yS.nd rfl (Or.inl rfl) (zK (zA zP (zA (yH jG (yH jG (pv 1) (pv 3) (fun _ _=>rfl)) zE (fun _ _=>rfl)) (zA zP (zA zP (zA zP zB)))))))
   (zD (qT (zJ C_law_bad_bodies hr rfl (zA (pv 0) (zA (pv 1) zB)) passN) (qU rfl (yC (zV (i:=5) yS.nd rfl (Or.inl rfl)) (yC (zV (i:=6) yS.nd rfl (Or.inl rfl)) jO))))
   (zI (zS (zQ (zA (zL yA (zL yA (pv 4) (pv 7)) (pv 5)) (zA (zL yX (zL yX (zU zT rfl T.n_len yN (zA (pv 4) zB)) zE) (pv 6)) zB)))))))))),?_⟩
 try dsimp only [Cx.nox,Cx.exc,Cx.wish,yG]
 have hul:=Paired.len pu
 have hpl:((plainP pr).map lineW).length=pr.length:=by unfold plainP; rw [List.length_map,List.length_map]
 rw [hpl] at hul
 have p4:=ph.few
 have p0 : 0<pr.length:=List.length_pos_iff.mpr ph.ne
 refine ⟨_,rfl,_,rfl,li,_,rfl,.inl (.of eu),st,(us.length:Int),m,rfl,by (first|lia|omega),by (first|lia|omega),by (first|lia|omega),D,fun r H1 r0 r1 D1 => ?_⟩
 obtain ⟨i,rfl⟩ : ∃ i:Nat,r=(i:Int):=⟨r.toNat,by (first|lia|omega)⟩
 have hi:i<pr.length:=by (first|lia|omega)
 have nli:li≠st:=pen_lns D eu pu
 have eu1:=D1.keep _ _ nli eu
 have pu1:Paired (LnAt H1) us ((plainP pr).map lineW):=Paired.imp (fun v ws z=>by
  obtain ⟨a,rfl,ea⟩ := z
  exact ⟨a,rfl,D1.keep _ _ (pen_strs D ea) ea⟩) pu
 try dsimp only [gName,List.set]
 have l100:=plain_len ph i
 refine ⟨fun σ' H'=>∃ wa,σ'=[some (.ref st),some (.ref na),some (.ref li),some (.int (i:Int)),some (.ref wa),none,none,none]/\Same H1 H'/\H' wa=some (.lst ((wordsP (plainP (pr.take i))).map V.str)),?_,?_⟩
 ·refine ⟨_,rfl,_,rfl,_,rfl,li,_,rfl,.of eu1,fun c hc => ?_⟩
  rw [qR]
  have s2:=zF hc (.lst (us.take i))
  refine ⟨small (show 0<=1000 by decide),fun z hz => ?_⟩
  have s3:=zF hz (.lst [])
  have s23:=s2.trans s3
  have pt:=Paired.take i pu1
  obtain ⟨as,eas,pas⟩ := lines_refs pt
  have efl:(((plainP pr).map lineW).take i).flatten=wordsP (plainP (pr.take i)):=by rw [<- List.map_take,plain_take]; rfl
  have lz:((((plainP pr).map lineW).take i).map fun ls=>ls.map V.str).flatten=(wordsP (plainP (pr.take i))).map V.str:=by rw [flat_map_strs,efl]
  refine ⟨c,z,as,_,rfl,by rw [<- eas]; exact s3 _ _ zC,Paired.imp (fun a ys e=>s23 _ _ e) pas,zC,by rw [lz,List.length_map]; exact small (by (first|lia|omega)),fun e0 => ?_,fun p hp => ?_⟩
  ·refine ⟨z,rfl,s23,?_⟩
   rw [<- lz,e0]
   exact zC
  ·rw [lz]
   exact ⟨p,rfl,s23.trans (zF hp _),zC⟩
 rintro σ' H2 ⟨wa,rfl,s2,ewa⟩
 have D2:=D1.trans (D1.pen.more s2)
 have hna2:=qV hna D D2
 have nwa:wa≠st:=pen_strs D2.pen ewa
 try dsimp only [gName,List.set]
 refine ⟨_,rfl,st,2,m+1,rfl,by decide,by decide,by (first|lia|omega),D2.pen,fun r2 H3 q0 q1 D3 => ?_⟩
 have D13:=D2.trans D3
 have ewa3:=D3.keep _ _ nwa ewa
 have hna3:=qV hna D D13
 have wd0:=plain_wd ph i
 refine ⟨rfl,_,rfl,ite2 (fun c => ?_) (fun c => ?_)⟩
 ·refine ⟨_,rfl,_,rfl,_,rfl,st,na,m+1+1,namesP pr,i,rfl,D3.pen,by (first|lia|omega),hna3,by unfold namesP; rw [List.length_map]; exact hi,ph.nmg,fun p H4 D4 pr4 => ?_⟩
  obtain ⟨t,a,ws,n,ep,et,ea,⟨⟨x,ex,bd⟩,wl⟩⟩ := pr4
  cases ep
  have ewa4:=D4.keep _ _ nwa ewa3
  refine ⟨p,_,rfl,.of et,rfl,_,_,rfl,_,_,rfl,rfl,?_⟩
  refine ⟨_,rfl,_,rfl,wa,a,_,_,rfl,rfl,ewa4,ea,small (by rw [List.length_map,List.length_map]; (first|lia|omega)),fun b hb => ?_⟩
  have s5:=zF hb (.lst ((wordsP (plainP (pr.take i))).map V.str++ws.map V.str))
  refine ⟨small (show 1<=1000 by decide),fun z hz => ?_⟩
  have s6:=zF hz (.lst [.str "0"])
  refine ⟨b,z,_,_,rfl,rfl,s6 _ _ zC,zC,small (by rw [List.length_append,List.length_map,List.length_map]; show _+1<=_; (first|lia|omega)),fun y hy => ?_⟩
  have s7:=zF hy (.lst ((wordsP (plainP (pr.take i))).map V.str++ws.map V.str++[.str "0"]))
  have s57:=s5.trans (s6.trans s7)
  refine ⟨_,rfl,wa,_,rfl,.inl (.of (s57 _ _ ewa4)),_,rfl,_,_,rfl,rfl,small (show 2<=1000 by decide),fun p2 hp2 => ?_⟩
  have s8:=zF hp2 (.tup [.ref y,.int ((((wordsP (plainP (pr.take i))).map V.str).length:Int)+(n:Int))])
  have D14:=(D13.trans D4)
  refine q p2 y (wordsP (plainP (pr.take i))++(ws++[("0" : Str)])) ((wordsP (plainP (pr.take i))).length+n) _ ((D14.trans (D14.pen.more (s57.trans s8))).mono (by (first|lia|omega))) ?_ ?_ ?_ (fun w hw => ?_) ?_
  ·rw [zC,List.length_map,Int.natCast_add]
  ·rw [s8 _ _ zC]; simp
  ·refine read_badhd (ph.pre i) (nm:=x.1) ?_
   rw [plain_names,<- names_take]
   exact bd
  ·rcases List.mem_append.mp hw with z | z
   ·exact wd0 w z
   rcases List.mem_append.mp z with z | z
   ·exact bd.wd w z
   ·rw [List.mem_singleton.mp z]; exact qF (by decide +kernel)
  ·rw [List.length_append,List.length_append]; show _+(_+1)<=_; (first|lia|omega)
 ·have hni:i<(namesP pr).length:=by unfold namesP; rw [List.length_map]; exact hi
  obtain ⟨nv,env,pnv⟩ := id hna3
  have lnv:=Paired.len pnv
  have eni:(namesP pr)[i]? = some (namesP pr)[i]:=List.getElem?_eq_getElem hni
  obtain ⟨t0,b0,ev0,et0,eb0⟩ := Paired.get pnv i _ _ (List.getElem?_eq_getElem (by (first|lia|omega))) eni
  have okn:=ph.nmg.ok _ (List.getElem_mem hni)
  have nnm:(namesP pr)[i].1 ∉ ((namesP pr).take i).map (·.1):=fun z=>by
   have nd:=ph.nmg.nd
   rw [<- List.take_append_drop i (namesP pr),List.map_append,List.nodup_append] at nd
   refine nd.2.2 _ z (namesP pr)[i].1 ?_ rfl
   rw [List.drop_eq_getElem_cons hni]
   exact List.mem_cons_self ..
  have sub:∀ x,x∈((namesP pr).take i).map (·.1)->x∈(namesP pr).map (·.1):=fun x hx=>by
   rw [List.map_take] at hx
   exact List.mem_of_mem_take hx
  have memi:(namesP pr)[i].1∈(namesP pr).map (·.1):=List.mem_map.mpr ⟨_,List.getElem_mem hni,rfl⟩
  generalize (namesP pr)[i]=x at *
  refine ⟨_,rfl,_,rfl,na,_,_,_,rfl,rfl,.of env,qB (List.getElem?_eq_getElem (by (first|lia|omega))),?_⟩
  rw [ev0]
  refine ⟨t0,_,_,_,rfl,rfl,.of et0,rfl,small (show 5<=1000 by decide),fun hd hhd => ?_⟩
  have s4:=zF hhd (.lst ((headK x.1).map V.str))
  have D4:=D13.trans (D13.pen.more s4)
  have ehd:upd H3 hd (.lst ((headK x.1).map V.str)) hd=some (.lst ((headK x.1).map V.str)):=zC
  have nhd:hd≠st:=Ne.symm (D13.pen.ne hhd)
  have ewa4:=s4 _ _ ewa3
  have hna4:=qV hna D D4
  show (gName 7 (.ref hd)) _ (upd H3 hd (.lst ((headK x.1).map V.str))) _
  generalize upd H3 hd (.lst ((headK x.1).map V.str))=H4 at *
  try dsimp only [gName,List.set]
  refine ⟨_,rfl,_,rfl,st,na,m+1+1,namesP pr,rfl,D4.pen,by (first|lia|omega),hna4,by unfold namesP; rw [List.length_map]; exact p4,fun p sg H5 D5 sgn pr5 => ?_⟩
  obtain ⟨t,a,ws,n,ep,et,ea,⟨bd,wl⟩⟩ := pr5
  cases ep
  have ewa5:=D5.keep _ _ nwa ewa4
  have ehd5:=D5.keep _ _ nhd ehd
  refine ⟨p,_,rfl,.of et,rfl,_,_,rfl,_,_,rfl,rfl,?_⟩
  refine ⟨_,rfl,_,rfl,wa,hd,_,_,rfl,rfl,ewa5,ehd5,small (by rw [List.length_map,List.length_map]; show _+5<=_; (first|lia|omega)),fun b hb => ?_⟩
  have s6:=zF hb (.lst ((wordsP (plainP (pr.take i))).map V.str++(headK x.1).map V.str))
  refine ⟨_,rfl,b,a,_,_,rfl,rfl,zC,s6 _ _ ea,small (by rw [List.length_append,List.length_map,List.length_map,List.length_map]; show _+5+_<=_; (first|lia|omega)),fun y hy => ?_⟩
  have s7:=zF hy (.lst ((wordsP (plainP (pr.take i))).map V.str++(headK x.1).map V.str++ws.map V.str))
  have s67:=s6.trans s7
  refine ⟨_,rfl,wa,_,rfl,.inl (.of (s67 _ _ ewa5)),_,_,rfl,rfl,_,rfl,_,_,rfl,rfl,small (show 2<=1000 by decide),fun p2 hp2 => ?_⟩
  have s8:=zF hp2 (.tup [.ref y,.int ((((wordsP (plainP (pr.take i))).map V.str).length:Int)+5+(n:Int))])
  have D15:=D4.trans D5
  refine q p2 y (wordsP (plainP (pr.take i))++(headK x.1++ws)) ((wordsP (plainP (pr.take i))).length+5+n) _ ((D15.trans (D15.pen.more (s67.trans s8))).mono (by (first|lia|omega))) ?_ ?_ ?_ (fun w hw => ?_) ?_
  ·rw [zC,List.length_map,Int.natCast_add,Int.natCast_add]
   rfl
  ·rw [s8 _ _ zC]; simp
  ·refine read_badK (sg:=sg) (ph.pre i) ?_ okn ?_ (fun z=>sgn (by rw [z]; exact memi)) ?_ bd
   ·unfold plainP; rw [List.length_map,List.length_take]; (first|lia|omega)
   ·rw [plain_names,<- names_take]; exact nnm
   ·rw [plain_names,<- names_take]; exact fun z=>sgn (sub _ z)
  ·rcases List.mem_append.mp hw with z | z
   ·exact wd0 w z
   rcases List.mem_append.mp z with z | z
   ·exact wd_cons (qF (by decide +kernel)) (wd_cons (xO okn).t (wdT_all (by decide +kernel))) w z
   ·exact bd.wd w z
  ·rw [List.length_append,List.length_append]; show _+(5+_)<=_; (first|lia|omega)

end
section
variable {P:Program} {w:World} {K:PySem.W.Frag} {mg:Str->Option Value} {base:Heap} {f:Addr} {fd:FuncData} {aP aW aH CT CR:Addr}
set_option maxHeartbeats 4000000

theorem errR_eq {α:Type} {r:Except Nat α} {n:Nat} (h:errR r=some n):r = .error n:=by
 cases r with
 | ok x=>cases h
 | error m=>cases h; rfl
theorem inter_size (c:Nat):∀ qs:List (List Nat),(inter c qs).length<=(qs.map fun q=>q.length+1).sum
 | []=>Nat.le_refl _
 | [q]=>by show q.length<=q.length+1+0; (first|lia|omega)
 | q :: q2 :: r=>by
  have:=inter_size c (q2 :: r)
  show (q++c :: inter c (q2 :: r)).length<=q.length+1+((q2 :: r).map fun q=>q.length+1).sum
  rw [List.length_append,List.length_cons]
  (first|lia|omega)
theorem join_size {z:Str} {c:Nat} (hz:z=⟨#[c]⟩) (ws:List Str):(Txt.join z ws).length<=(ws.map fun w=>w.length+1).sum:=by
 have e:(Txt.join z ws).cps.toList=inter c (ws.map fun x=>x.cps.toList):=by
  rw [hz,<- jM c ws]
  exact congrArg (fun t:Str=>t.cps.toList) (StrLaws.glued_eq_join _ _)
 have l:(Txt.join z ws).cps.toList.length=(Txt.join z ws).length:=Array.length_toList
 rw [<- l,e]
 have h:=inter_size c (ws.map fun x=>x.cps.toList)
 rw [List.map_map] at h
 have:(ws.map ((fun q:List Nat=>q.length+1) ∘ fun x=>x.cps.toList))=ws.map fun w=>w.length+1:=List.map_congr_left fun w _=>by
  show w.cps.toList.length+1=w.length+1
  have:w.cps.toList.length=w.length:=Array.length_toList
  (first|lia|omega)
 rw [this] at h
 exact h
theorem sum_le {α:Type} (g : α->Nat) (k:Nat):∀ l:List α,(∀ x∈l,g x<=k)->(l.map g).sum<=k * l.length
 | [],_=>Nat.le_refl _
 | x :: r,h=>by
  have:=sum_le g k r fun y hy=>h y (List.mem_cons_of_mem _ hy)
  have:=h x (List.mem_cons_self ..)
  rw [List.map_cons,List.sum_cons,List.length_cons,Nat.mul_add]
  (first|lia|omega)
theorem textOk_words {t:Str} (h:t.length<=1000000) {ws:List Str} (e:wordsT t=ws) (hw:∀ w∈ws,WdT w) (hl:ws.length<=15000):TextOk t:=by
 rw [<- e] at hw hl
 obtain ⟨r1,r2⟩ := words_short h hw (by (first|lia|omega))
 exact ⟨h,r1,r2,⟨by (first|lia|omega),fun w z=>Nat.le_trans (hw w z).sh (by decide)⟩⟩
theorem textOk_join {ws:List Str} (hw:∀ w∈ws,WdT w) (hl:ws.length<=15000):TextOk (Txt.join " " ws)/\(ws.map (·.length)).sum+ws.length * (" " : Str).length<=16777216:=by
 have h1:=join_size (z := " ") (c:=32) qZ ws
 have h2:=sum_le (fun w:Str=>w.length+1) 62 ws fun w hw'=>Nat.succ_le_succ (hw w hw').sh
 have h3:=sum_le (fun w:Str=>w.length) 61 ws fun w hw'=>(hw w hw').sh
 have e1:(" " : Str).length=1:=rfl
 refine ⟨textOk_words (by (first|lia|omega)) (join_words hw) hw hl,?_⟩
 rw [e1]
 (first|lia|omega)
theorem txR_ok {x:Str} {o:V} (h:TxR x o):TextOk x:=by
 obtain ⟨⟨h1,h2,h3⟩,_⟩ := h
 have e1:=rep_len x
 have e2:=split_len (Txt.replace x "\n" " ") 32
 rw [<- qZ] at e2
 exact ⟨h1,by (first|lia|omega),by (first|lia|omega),⟨h2,h3⟩⟩
theorem PrG.progH {pr:List Pg} (h:PrG pr) (h4:(pr.length:Int)<=4):ProgH pr:=⟨fun x hx=>(h.ok.all x hx).hd,h.ok.nd,h.ok.ne,by (first|lia|omega),h.ok.first⟩
theorem plain_prog {pr:List Pg} (h:ProgH pr):ProgR (plainP pr):=by
 refine ⟨fun x hx => ?_,?_,fun z=>h.ne (by simpa [plainP] using z),by unfold plainP; rw [List.length_map]; have:=h.few; (first|lia|omega),fun x hx => ?_⟩
 ·obtain ⟨y,hy,rfl⟩ := List.mem_map.mp hx
  exact pgN_ok (h.hd y hy)
 ·have:((plainP pr).map fun x=>x.1.1)=pr.map fun x=>x.1.1:=by unfold plainP; rw [List.map_map]; rfl
  rw [this]; exact h.nd
 ·unfold plainP at hx
  rw [List.getElem?_map] at hx
  obtain ⟨y,hy,rfl⟩ := Option.map_eq_some_iff.mp hx
  exact h.first y hy
def KnT (K:PySem.W.Frag) (H:Hp) (v:V):Prop:=v = .non\/(∃ i,v = .int i)\/(∃ b,v = .bl b)\/(∃ a xs,v = .ref a/\(H a=some (.lst xs)\/H a=some (.tup xs)))\/∃ a kvs,v = .ref a/\H a=some (.dK kvs)
theorem ok_law11 (T:TxtLS K mg) (kn:∀ {H:Hp} {v:V},KnT K H v->NoTxt K H v) (F:Fun K "law" "law" s_law f fd) (C_law_pen:Cal P w K mg base (CXE P w) 1 "_law_pen" ["_law_script", "_law_k"] (spPen3 K)) (C_law_draw:Cal P w K mg base (CXE P w) 1 "_law_draw" ["_law_pen_here", "_law_many"] spDraw3)
  (C_law_program:Cal P w K mg base (CXE P w) 14 "_law_program" ["_law_pen_here", "_law_most", "_law_room"] spProgL) (C_law_lone:Cal P w K mg base (CXE P w) 1 "_law_lone" ["_law_names", "_law_lines"] spLone) (C_law_spoilt:Cal P w K mg base (CXE P w) 3 "_law_spoilt" ["_law_pen_here", "_law_names", "_law_lines"] spSpoilt)
  (C_law_texts:Cal P w K mg base (CXE P w) 1 "_law_texts" [] spTexts) (C_law_caught:Cal P w K mg base (CXE P w) 20 "_law_caught" ["_law_text"] (spCaught K CT)) (C_law_right:Cal P w K mg base (CXE P w) 1 "_law_right" ["_law_e", "_law_at"] (spRightE CT)) :
  FnOk P w K mg base (CXE P w) 21 f fd ["_law_script"] (spLaw K):=by
 refine F.okN jP (fun vs H Q E h => ?_) (fun cdv A outer s H vs Q E hr h => ?_)
 ·obtain ⟨a,ns,rfl,_⟩ := h
  rfl
 obtain ⟨a,ns,rfl,hs,hl,q⟩ := h
 refine ⟨_,(zD (kH PassesOwn.never rfl (jY rfl T.n_range (zA zE zB)) (zV (i:=1) jP.nd rfl (Or.inl rfl)) (zD (zN (i:=2) jP.nd rfl (Or.inl rfl) (zJ C_law_pen hr rfl (zA (pv 0) (zA (pv 1) zB)) passN))
   (zD (qT (zJ C_law_program hr rfl (zA (pv 2) (zA zE (zA zE zB))) passN) (qU rfl (yC (zV (i:=3) jP.nd rfl (Or.inl rfl)) (yC (zV (i:=4) jP.nd rfl (Or.inl rfl)) (yC (zV (i:=5) jP.nd rfl (Or.inl rfl)) jO)))))
   (zD (zN (i:=6) jP.nd rfl (Or.inl rfl) (zJ C_law_lone hr rfl (zA (pv 3) (zA (pv 5) zB)) passN))
   (zD (zZ (zM op_notN (zJ C_law_caught hr rfl (zA (yP PySem.F.plainAttrs_str PySem.F.slot_str_join PySem.F.type_str_join wF zP (zA (wW (own:=["_law_line"]) (ys:=[]) rfl (wE (pv 6)) (jB (sc:=defScope s_law) rfl (by decide +kernel)) .nil (fun _ _ _ _ _=>(zV (i:=0) (show List.Nodup [("_law_line" : Str)] from (by decide +kernel)) rfl (Or.inl rfl))) (fun _ _ _ _ _=>wB) (fun _ _ _ _ _=>(pe_bmK K rfl PySem.F.plainAttrs_str PySem.F.slot_str_join PySem.F.type_str_join (mt_joinK K rfl) zP (zA (pv 0) zB)))) zB)) zB) passN) wV (nomark _)) (zI (zS pe_bl)) zR)
   (zD (kH PassesOwn.never rfl (jY rfl T.n_range (zA zE zB)) (zV (i:=7) jP.nd rfl (Or.inl rfl)) (zD (qT (zJ C_law_spoilt hr rfl (zA (pv 2) (zA (pv 3) (zA (pv 6) zB))) passN) (qU rfl (yC (zV (i:=8) jP.nd rfl (Or.inl rfl)) (yC (zV (i:=9) jP.nd rfl (Or.inl rfl)) jO))))
   (zI (zZ (kG (jF (zJ C_law_right hr rfl (zA (zJ C_law_caught hr rfl (zA (yP PySem.F.plainAttrs_str PySem.F.slot_str_join PySem.F.type_str_join wF zP (zA (pv 8) zB)) zB) passN) (zA (pv 9) zB)) passN))) (zI (zS pe_bl)) zR))))
   (zD (zN (i:=8) jP.nd rfl (Or.inl rfl) (qE sl_list (zU (call_sumL rfl) rfl T.n_sum bt_sum (zA (qE sl_list (pv 5) wD (wC zE)) (zA (zK zB) zB))) wD (wC (zL yX zE (zJ C_law_draw hr rfl (zA (pv 2) (zA (zL yX zE (zU zT rfl T.n_len yN (zA (yH jG (yH jG (pv 3) zE (fun _ _=>rfl)) zE (fun _ _=>rfl)) zB))) zB)) passN)))))
   (zI (zZ (kG (jF (zJ C_law_right hr rfl (zA (zJ C_law_caught hr rfl (zA (yP PySem.F.plainAttrs_str PySem.F.slot_str_join PySem.F.type_str_join wF zP (zA (pv 8) zB)) zB) passN) (zA (zU zT rfl T.n_len yN (zA (pv 8) zB)) zB)) passN))) (zI (zS pe_bl)) zR)))))))))
   (zD (kH PassesOwn.never rfl (wE (pe_callC0 C_law_texts hr rfl passN)) (qU rfl (yC (zV (i:=10) jP.nd rfl (Or.inl rfl)) (yC (zV (i:=9) jP.nd rfl (Or.inl rfl)) jO))) (zD (zN (i:=11) jP.nd rfl (Or.inl rfl) (zJ C_law_caught hr rfl (zA (pv 10) zB) passN))
   (zI (zZ (PW.pt (qS (PW.pt (pw_and (zM op_isN (pv 9) wV (nomark _)) (pw_and1 (zM op_notN (pv 11) wV (nomark _))))) (qG (PW.pt (pw_and (zM op_notN (pv 9) wV (nomark _)) (pw_and1 (kG (jF (zJ C_law_right hr rfl (zA (pv 11) (zA (pv 9) zB)) passN))))))))) (zI (zS pe_bl)) zR))))
   (zD (kH PassesOwn.never rfl (wE (zK (zA wV (zA zE (zA pe_bl (zA (zK zB) (zA (zK (zA zP zB)) (zA (zQ (zA zP zB)) (zA pe_dnewK zB))))))))) (zV (i:=12) jP.nd rfl (Or.inl rfl)) (zI (zZ (kG (jF (zJ C_law_right hr rfl (zA (zJ C_law_caught hr rfl (zA (pv 12) zB) passN) (zA zE zB)) passN))) (zI (zS pe_bl)) zR)))
   (zI (zS (pe_and (zJ C_law_right hr rfl (zA (zJ C_law_caught hr rfl (zA zP zB) passN) (zA zE zB)) passN) (pe_one (zJ C_law_right hr rfl (zA (zJ C_law_caught hr rfl (zA zP zB) passN) (zA zE zB)) passN)))))))),?_⟩
 try dsimp only [Cx.nox,Cx.exc,Cx.wish,yG]
 refine ⟨2,rfl,by decide,by decide,kU (lo:=0) (n:=2) (fun i σ' H'=>(∃ v1 v2 v3 v4 v5 v6 v7 v8 v9,σ'=[some (.ref a),v1,v2,v3,v4,v5,v6,v7,v8,v9,none,none,none])/\Same H H') ⟨⟨_,_,_,_,_,_,_,_,_,rfl⟩,Same.refl H⟩ ?_ ?_⟩
 ·rintro i σ' H1 hi ⟨⟨v1,v2,v3,v4,v5,v6,v7,v8,v9,rfl⟩,s1⟩
  refine ⟨_,rfl,_,rfl,a,ns,_,rfl,by (first|lia|omega),by (first|lia|omega),hs.imp (fun ⟨o,z⟩=>⟨o,s1 _ _ z⟩) id,hl,fun st H2 hst s2 D2 => ?_⟩
  refine ⟨_,rfl,st,4,6,0,rfl,by decide,by decide,by decide,by decide,D2,by decide,fun p sh na li pr H4 D4 pa pg h4 fsh => ?_⟩
  have hstH:H st=none:=s1.free hst
  have s4:Same H H4:=fun b o e=>D4.keep b o (fun z=>by rw [z,hstH] at e; cases e) (s2 _ _ (s1 _ _ e))
  obtain ⟨pa1,hna,esh,⟨lv,el,pl⟩⟩ := pa
  have ph:=pg.progH h4
  have p4:=ph.few
  have p0 : 0<pr.length:=List.length_pos_iff.mpr ph.ne
  refine ⟨p,_,rfl,.of pa1,rfl,_,_,rfl,_,_,rfl,_,_,rfl,rfl,?_⟩
  refine ⟨_,rfl,_,rfl,na,li,pr.map (·.1),pr,rfl,⟨lv,el,pl⟩,fun x hx=>⟨pg.ok.all x hx,pg.few x hx⟩,by (first|lia|omega),fun pla H5 s5 hpl fpl => ?_⟩
  obtain ⟨us,eus,pus⟩ := id hpl
  have hul:=Paired.len pus
  have hpl4:((plainP pr).map lineW).length=pr.length:=by unfold plainP; rw [List.length_map,List.length_map]
  have wdp:∀ ls∈(plainP pr).map lineW,∀ w∈ls,WdT w:=fun ls hls=>by
   obtain ⟨x,hx,rfl⟩ := List.mem_map.mp hls
   exact lineW_wd ((plain_prog ph).all x hx)
  have shp:∀ ls∈(plainP pr).map lineW,ls.length<=100:=fun ls hls=>by
   have h1:=plain_len ph pr.length
   rw [List.take_of_length_le (Nat.le_refl _)] at h1
   unfold wordsP at h1
   have:ls.length<=((plainP pr).map lineW).flatten.length:=List.Sublist.length_le (List.sublist_flatten_of_mem hls)
   (first|lia|omega)
  try dsimp only [gName,List.set]
  refine ⟨rfl,_,rfl,pla,rfl,⟨_,.of eus⟩,fun jl hjl => ?_⟩
  have nlj:pla≠jl:=zG eus hjl
  refine comp_lst (xs:=us) (fun k σ' H'=>H'=upd H5 jl (.lst (((((plainP pr).map lineW).take k).map (Txt.join " ")).map V.str))/\∃ y,σ'=[y]) ⟨rfl,_,rfl⟩ ?_ ?_ ?_
  ·rintro k σ' H' hk ⟨rfl,_⟩
   exact .of (by rw [zH nlj]; exact eus)
  ·rintro k v σ' H' hk hv ⟨rfl,y,rfl⟩
   have hk2:k<((plainP pr).map lineW).length:=by (first|lia|omega)
   have ek:=List.getElem?_eq_getElem hk2
   have mk:=List.getElem_mem hk2
   obtain ⟨b,rfl,eb⟩ := Paired.get pus _ _ _ hv ek
   have sz:=(textOk_join (wdp _ mk) (by have:=shp _ mk; (first|lia|omega))).2
   have et:((plainP pr).map lineW).take (k+1)=((plainP pr).map lineW).take k++[((plainP pr).map lineW)[k]]:=by rw [List.take_succ,ek]; rfl
   generalize ((plainP pr).map lineW)[k]=ls at *
   refine ⟨rfl,_,rfl,_,b,ls,rfl,rfl,.of (by rw [zH (zG eb hjl)]; exact eb),sz,_,zC,?_,CW.next hk ⟨?_,_,rfl⟩⟩
   ·rw [List.length_map,List.length_map,List.length_take]; exact small1000 (by (first|lia|omega))
   ·rw [qH,et,List.map_append,List.map_append]; rfl
  rintro σ' H' ⟨rfl,_⟩
  rw [List.take_of_length_le (by (first|lia|omega))]
  have s6:=zF hjl (.lst ((((plainP pr).map lineW).map (Txt.join " ")).map V.str))
  have ejl:upd H5 jl (.lst ((((plainP pr).map lineW).map (Txt.join " ")).map V.str)) jl=some (.lst ((((plainP pr).map lineW).map (Txt.join " ")).map V.str)):=zC
  generalize upd H5 jl (.lst ((((plainP pr).map lineW).map (Txt.join " ")).map V.str))=H6 at *
  have szl:∀ t∈((plainP pr).map lineW).map (Txt.join " "),t.length<=6300:=fun t ht=>by
   obtain ⟨ls,hls,rfl⟩ := List.mem_map.mp ht
   have h1:=join_size (z := " ") (c:=32) qZ ls
   have h2:=sum_le (fun w:Str=>w.length+1) 62 ls fun w hw'=>Nat.succ_le_succ (wdp ls hls w hw').sh
   have:=shp ls hls
   (first|lia|omega)
  have lT:(((plainP pr).map lineW).map (Txt.join " ")).length=pr.length:=by rw [List.length_map,hpl4]
  have e1:("\n" : Str).length=1:=rfl
  have sm1:=sum_le (fun w:Str=>w.length) 6300 _ szl
  have sm2:=sum_le (fun w:Str=>w.length+1) 6301 _ fun t ht=>Nat.succ_le_succ (szl t ht)
  have js:=join_size (z := "\n") (c:=10) nl_one (((plainP pr).map lineW).map (Txt.join " "))
  have ew:=join_lines wdp
  have flw:((plainP pr).map lineW).flatten.length<=100:=by
   have h1:=plain_len ph pr.length
   rw [List.take_of_length_le (Nat.le_refl _)] at h1
   exact h1
  have tok:TextOk (Txt.join "\n" (((plainP pr).map lineW).map (Txt.join " "))):=textOk_words (by (first|lia|omega)) ew (fun w hw=>by
   obtain ⟨ls,m1,m2⟩ := List.mem_flatten.mp hw
   exact wdp ls m1 w m2) (by (first|lia|omega))
  refine ⟨_,jl,_,rfl,rfl,.of ejl,(by rw [e1]; (first|lia|omega)),_,rfl,.inl ⟨_,rfl,tok,?_⟩⟩
  rw [ew,lines_flat,prog_read (plain_prog ph)]
  intro H7 s7
  refine ⟨rfl,_,rfl,iteF ?_⟩
  have s57:=s6.trans s7
  have D7:=D4.pen.same (s5.trans s57)
  have hna7:NmsAt H7 na (namesP pr):=by
   obtain ⟨vs,e,pp⟩ := hna
   exact ⟨vs,(s5.trans s57) _ _ e,Paired.imp (fun v x z=>z.tups fun b xs e=>(s5.trans s57) _ _ e) pp⟩
  have eus7:=s57 _ _ eus
  have pus7:Paired (LnAt H7) us ((plainP pr).map lineW):=Paired.imp (fun v ws z=>z.same s57) pus
  have el7:=(s5.trans s57) _ _ el
  have pl7:Paired (LnAt H7) lv (pr.map lineW):=Paired.imp (fun v ws z=>z.same (s5.trans s57)) pl
  have sH7:=s4.trans (s5.trans s57)
  clear s6 s7 s57 s5 el pl hpl eus pus hjl tok js sm1 sm2 szl ejl D4 D2 pa1 esh
  have lnP:∀ {H':Hp} {mm:Int} {vs:List V} {lss:List (List Str)},Penned3 st mm H7 H'->Paired (LnAt H7) vs lss->Paired (LnAt H') vs lss:=fun P p=>Paired.imp (fun v ws z=>by
   obtain ⟨b,rfl,eb⟩ := z
   exact ⟨b,rfl,P.keep _ _ (pen_strs D7 eb) eb⟩) p
  have nli:=pen_lns D7 el7 pl7
  have npla:=pen_lns D7 eus7 pus7
  try dsimp only [gName,List.set]
  refine ⟨8,rfl,by decide,by decide,kU (lo:=0) (n:=8) (fun j σ' H'=>(∃ v7 v8 v9,σ'=[some (.ref a),some (.int (0+(i:Int))),some (.ref st),some (.ref na),some (.ref sh),some (.ref li),some (.ref pla),v7,v8,v9,none,none,none])/\Penned3 st (120000+20 * j) H7 H') ⟨⟨_,_,_,rfl⟩,(D7.refl).mono (by (first|lia|omega))⟩ ?_ ?_⟩
  ·rintro j σ' H8 hj ⟨⟨v7,v8,v9,rfl⟩,P8⟩
   refine ⟨_,rfl,_,rfl,_,rfl,st,na,pla,120000+20 * j,pr,rfl,P8.pen,by (first|lia|omega),qV hna7 D7 P8,⟨us,P8.keep _ _ npla eus7,lnP P8 pus7⟩,ph,fun p2 wa ws n H9 P9 ep ewa er wd wl => ?_⟩
   refine ⟨p2,_,rfl,.of ep,rfl,_,_,rfl,_,_,rfl,rfl,?_⟩
   obtain ⟨tk,sz⟩ := textOk_join wd (by (first|lia|omega))
   refine ⟨rfl,_,rfl,_,wa,_,rfl,rfl,.of ewa,sz,_,rfl,.inl ⟨_,rfl,tk,?_⟩⟩
   rw [join_words wd,er]
   intro x d H10 s10 ex ed
   refine ⟨_,rfl,x,d,_,rfl,ex,ed,fun H11 s11=>⟨_,rfl,iteF ⟨⟨_,_,_,rfl⟩,?_⟩⟩⟩
   exact ((P8.trans P9).trans (P9.pen.more (s10.trans s11))).mono (by (first|lia|omega))
  ·rintro σ' H8 ⟨⟨v7,v8,v9,rfl⟩,P8⟩
   have el8:=P8.keep _ _ nli el7
   have pl8:=lnP P8 pl7
   have hna8:=qV hna7 D7 P8
   obtain ⟨x0,epr⟩ : ∃ x0,pr[0]? = some x0:=⟨pr[0],List.getElem?_eq_getElem p0⟩
   have okx:=pg.ok.all x0 (List.mem_of_getElem? epr)
   have par0:=ph.first x0 epr
   have fx:=pg.few x0 (List.mem_of_getElem? epr)
   have b12:=okx.hd.bx.few
   have tk1:(pr.map lineW).take 1=[lineW x0]:=by
    rw [<- List.map_take]
    cases pr with
    | nil=>cases epr
    | cons y r=>cases epr; rfl
   have pt:=Paired.take 1 pl8
   rw [tk1] at pt
   obtain ⟨as,eas,pas⟩ := lines_refs pt
   have llx:(lineW x0).length=4+x0.1.2.1.length+x0.2.1.length:=by
    unfold lineW
    simp only [List.length_cons,List.length_append,List.length_take,List.length_drop]
    (first|lia|omega)
   obtain ⟨nv,env,pnv⟩ := id hna8
   have lnv:=Paired.len pnv
   have lnp:(namesP pr).length=pr.length:=by unfold namesP; exact List.length_map ..
   have en0:(namesP pr)[0]? = some (x0.1.1,x0.1.2.1):=by unfold namesP; rw [List.getElem?_map,epr]; rfl
   obtain ⟨t0,b0,ev0,et0,eb0⟩ := Paired.get pnv 0 _ _ (List.getElem?_eq_getElem (by (first|lia|omega))) en0
   have eb0:H8 b0=some (.tup (x0.1.2.1.map V.str)):=eb0
   have et0:H8 t0=some (.tup [.str x0.1.1,.ref b0]):=et0
   try dsimp only [gName,List.set]
   refine ⟨_,rfl,_,rfl,li,_,rfl,.of el8,fun c1 hc1 => ?_⟩
   rw [show cutV lv none (some 1)=lv.take 1 from qR 1]
   have g1:=zF hc1 (.lst (lv.take 1))
   refine ⟨small (show 0<=1000 by decide),fun z1 hz1 => ?_⟩
   have g2:=g1.trans (zF hz1 (.lst []))
   refine ⟨c1,z1,as,[(lineW x0).map V.str],rfl,by rw [<- eas]; exact (zF hz1 _) _ _ zC,Paired.imp (fun a ys e=>g2 _ _ e) pas,zC,by simp only [List.flatten_cons,List.flatten_nil,List.append_nil,List.length_map]; exact small (by (first|lia|omega)),(fun z=>by cases z),fun sa hsa => ?_⟩
   have efl:[(lineW x0).map V.str].flatten=(lineW x0).map V.str:=by simp
   rw [efl]
   have g3:=g2.trans (zF hsa (.lst ((lineW x0).map V.str)))
   have esa:upd (upd (upd H8 c1 (.lst (lv.take 1))) z1 (.lst [])) sa (.lst ((lineW x0).map V.str)) sa=some (.lst ((lineW x0).map V.str)):=zC
   generalize upd (upd (upd H8 c1 (.lst (lv.take 1))) z1 (.lst [])) sa (.lst ((lineW x0).map V.str))=H9 at *
   have P9:=P8.trans (P8.pen.more g3)
   refine ⟨_,rfl,_,rfl,na,_,_,_,rfl,rfl,.of (g3 _ _ env),kX (Int.le_refl 0) (List.getElem?_eq_getElem (by (first|lia|omega))),?_⟩
   rw [show nv[(0:Int).toNat]'(by show 0<nv.length; (first|lia|omega))=V.ref t0 from ev0]
   refine ⟨t0,_,_,_,rfl,rfl,.of (g3 _ _ et0),rfl,b0,_,rfl,.inr (.of (g3 _ _ eb0)),_,_,rfl,rfl,?_⟩
   refine ⟨st,_,_,rfl,?_,?_,?_,P9.pen,fun r H10 r0 r1 D10 => ?_⟩
   ·rw [List.length_map]; (first|lia|omega)
   ·rw [List.length_map]; (first|lia|omega)
   ·(first|lia|omega)
   rw [List.length_map] at r1
   have esa10:=D10.keep _ _ (pen_strs P9.pen esa) esa
   obtain ⟨rn,rfl⟩ : ∃ rn:Nat,r=(rn:Int):=⟨r.toNat,by (first|lia|omega)⟩
   refine ⟨_,_,rfl,rfl,_,rfl,sa,_,rfl,.of esa10,fun wa hwa => ?_⟩
   have ec:cutV ((lineW x0).map V.str) none (some (1+(rn:Int)))=((lineW x0).take (1+rn)).map V.str:=by
    rw [List.map_take]
    exact qR (1+rn)
   rw [ec]
   have P10:=P9.trans D10
   have P11:=P10.trans (P10.pen.new hwa (.lst (((lineW x0).take (1+rn)).map V.str)))
   have ewa:upd H10 wa (.lst (((lineW x0).take (1+rn)).map V.str)) wa=some (.lst (((lineW x0).take (1+rn)).map V.str)):=zC
   generalize upd H10 wa (.lst (((lineW x0).take (1+rn)).map V.str))=H11 at *
   have wdc:∀ w∈(lineW x0).take (1+rn),WdT w:=fun w hw=>lineW_wd okx w (List.mem_of_mem_take hw)
   have lcut:((lineW x0).take (1+rn)).length=1+rn:=by rw [List.length_take]; (first|lia|omega)
   obtain ⟨tk,sz⟩ := textOk_join wdc (by (first|lia|omega))
   have ecut:=read_cut okx par0 (c:=1+rn) (by (first|lia|omega)) (by (first|lia|omega))
   try dsimp only [gName,List.set]
   refine ⟨rfl,_,rfl,_,wa,_,rfl,rfl,.of ewa,sz,_,rfl,.inl ⟨_,rfl,tk,?_⟩⟩
   rw [join_words wdc,ecut]
   intro x d H12 s12 ex ed
   refine ⟨_,rfl,wa,_,rfl,.inl (.of (s12 _ _ ewa)),x,d,((1+rn:Nat):Int),?_,ex,ed,fun H13 s13=>⟨_,rfl,iteF ⟨⟨_,_,_,_,_,_,_,_,_,rfl⟩,fun b o e => ?_⟩⟩⟩
   ·rw [List.length_map,lcut]; rfl
   ·have:=sH7 _ _ e
    exact s13 _ _ (s12 _ _ (P11.keep _ _ (fun z=>by rw [z,hstH] at e; cases e) this))
 ·rintro σ' H1 ⟨⟨v1,v2,v3,v4,v5,v6,v7,v8,v9,rfl⟩,s1⟩
  try dsimp only [gName,List.set]
  refine ⟨rfl,fun l H2 s2 L2 => ?_⟩
  obtain ⟨us,eus,lus,aus⟩ := L2
  refine ⟨l,rfl,⟨_,.of eus⟩,for_list (xs:=us) (fun i σ' H'=>(∃ v1 v2 v3 v4 v5 v6 v7 v8 v9 v10 v11,σ'=[some (.ref a),v1,v2,v3,v4,v5,v6,v7,v8,v9,v10,v11,none])/\Same H2 H') ⟨⟨_,_,_,_,_,_,_,_,_,_,_,rfl⟩,Same.refl _⟩ (fun i σ' H' _ ⟨_,g⟩ => .of (g _ _ eus)) ?_ ?_⟩
  ·rintro i v σ' H3 hv ⟨⟨v1,v2,v3,v4,v5,v6,v7,v8,v9,v10,v11,rfl⟩,s3⟩
   obtain ⟨t,x,o,rfl,et,tr⟩ := (aus v (List.mem_of_getElem? hv)).same s3
   have tok:=txR_ok tr
   obtain ⟨_,tr⟩ := tr
   refine ⟨t,_,rfl,.of et,rfl,_,_,rfl,_,_,rfl,rfl,?_⟩
   try dsimp only [gName,List.set]
   refine ⟨_,rfl,_,rfl,.inl ⟨x,rfl,tok,?_⟩⟩
   rcases tr with ⟨rfl,er⟩ | ⟨n,rfl,er⟩
   ·cases e:readR (wordsT x) with
    | error m=>rw [e] at er; cases er
    | ok s =>
     intro H4 s4
     refine ⟨_,rfl,rfl,_,rfl,iteT ⟨_,rfl,rfl,_,rfl,iteF ?_⟩⟩
     exact ⟨_,rfl,rfl,_,rfl,iteF ⟨⟨_,_,_,_,_,_,_,_,_,_,_,rfl⟩,s3.trans s4⟩⟩
   ·cases e:readR (wordsT x) with
    | ok s=>rw [e] at er; cases er
    | error m =>
     rw [e] at er
     cases er
     intro y d H4 s4 ey ed
     refine ⟨_,rfl,rfl,_,rfl,iteF ?_⟩
     refine ⟨_,rfl,rfl,_,rfl,iteT ⟨_,rfl,_,rfl,y,d,_,rfl,ey,ed,fun H5 s5=>⟨_,rfl,iteF ⟨⟨_,_,_,_,_,_,_,_,_,_,_,rfl⟩,s3.trans (s4.trans s5)⟩⟩⟩⟩
  ·rintro σ' H3 ⟨⟨v1,v2,v3,v4,v5,v6,v7,v8,v9,v10,v11,rfl⟩,s3⟩
   try dsimp only [gName,List.set]
   refine ⟨small (show 0<=1000 by decide),fun t1 ht1=>⟨small (show 1<=1000 by decide),fun t2 ht2=>⟨small (show 1<=1000 by decide),fun t3 ht3 t4 ht4=>⟨small (show 7<=1000 by decide),fun tl htl => ?_⟩⟩⟩⟩
   have g1:=zF ht1 (.lst [])
   have g2:=zF ht2 (.lst [.str "fun"])
   have g3:=zF ht3 (.tup [.str "fun"])
   have g4:=zF ht4 (.dK [])
   have g5:=zF htl (.lst [.non,.int 7,.bl true,.ref t1,.ref t2,.ref t3,.ref t4])
   have f1:=(g2.trans (g3.trans (g4.trans g5))) _ _ (zC (H:=H3) (a:=t1) (o:=.lst []))
   have f2:=(g3.trans (g4.trans g5)) _ _ (zC (H:=upd H3 t1 (.lst [])) (a:=t2) (o:=.lst [.str "fun"]))
   have f3:=(g4.trans g5) _ _ (zC (H:=upd (upd H3 t1 (.lst [])) t2 (.lst [.str "fun"])) (a:=t3) (o:=.tup [.str "fun"]))
   have f4:=g5 _ _ (zC (H:=upd (upd (upd H3 t1 (.lst [])) t2 (.lst [.str "fun"])) t3 (.tup [.str "fun"])) (a:=t4) (o:=.dK []))
   have f5:upd (upd (upd (upd (upd H3 t1 (.lst [])) t2 (.lst [.str "fun"])) t3 (.tup [.str "fun"])) t4 (.dK [])) tl (.lst [.non,.int 7,.bl true,.ref t1,.ref t2,.ref t3,.ref t4]) tl=some (.lst [.non,.int 7,.bl true,.ref t1,.ref t2,.ref t3,.ref t4]):=zC
   have gA:=g1.trans (g2.trans (g3.trans (g4.trans g5)))
   show ∃ a_1,V.ref tl=V.ref a_1/\_
   generalize upd (upd (upd (upd (upd H3 t1 (.lst [])) t2 (.lst [.str "fun"])) t3 (.tup [.str "fun"])) t4 (.dK [])) tl (.lst [.non,.int 7,.bl true,.ref t1,.ref t2,.ref t3,.ref t4])=H4 at *
   clear g1 g2 g3 g4 g5 ht1 ht2 ht3 ht4 htl
   refine ⟨tl,rfl,⟨_,.of f5⟩,for_list (xs:=[.non,.int 7,.bl true,.ref t1,.ref t2,.ref t3,.ref t4]) (fun i σ' H'=>(∃ v1 v2 v3 v4 v5 v6 v7 v8 v9 v10 v11 v12,σ'=[some (.ref a),v1,v2,v3,v4,v5,v6,v7,v8,v9,v10,v11,v12])/\Same H4 H') ⟨⟨_,_,_,_,_,_,_,_,_,_,_,_,rfl⟩,Same.refl _⟩ (fun i σ' H' _ ⟨_,g⟩ => .of (g _ _ f5)) ?_ ?_⟩
   ·rintro i v σ' H5 hv ⟨⟨v1,v2,v3,v4,v5,v6,v7,v8,v9,v10,v11,v12,rfl⟩,s5⟩
    have nt:NoTxt K H5 v:=by
     refine kn ?_
     have:=List.mem_of_getElem? hv
     rcases List.mem_cons.mp this with z | this
     ·exact .inl z
     rcases List.mem_cons.mp this with z | this
     ·exact .inr (.inl ⟨_,z⟩)
     rcases List.mem_cons.mp this with z | this
     ·exact .inr (.inr (.inl ⟨_,z⟩))
     rcases List.mem_cons.mp this with z | this
     ·exact .inr (.inr (.inr (.inl ⟨_,_,z,.inl (s5 _ _ f1)⟩)))
     rcases List.mem_cons.mp this with z | this
     ·exact .inr (.inr (.inr (.inl ⟨_,_,z,.inl (s5 _ _ f2)⟩)))
     rcases List.mem_cons.mp this with z | this
     ·exact .inr (.inr (.inr (.inl ⟨_,_,z,.inr (s5 _ _ f3)⟩)))
     ·exact .inr (.inr (.inr (.inr ⟨_,_,List.mem_singleton.mp this,s5 _ _ f4⟩)))
    try dsimp only [gName,List.set]
    refine ⟨_,rfl,v,rfl,.inr ⟨nt,fun x d H6 s6 ex ed => ?_⟩⟩
    exact ⟨x,d,_,rfl,ex,ed,fun H7 s7=>⟨_,rfl,iteF ⟨⟨_,_,_,_,_,_,_,_,_,_,_,_,rfl⟩,s5.trans (s6.trans s7)⟩⟩⟩
   ·rintro σ' H5 ⟨⟨v1,v2,v3,v4,v5,v6,v7,v8,v9,v10,v11,v12,rfl⟩,s5⟩
    have k1:TxR "" (.int ((0:Nat):Int)):=kA (by decide +kernel)
    have k2:TxR " \n " (.int ((0:Nat):Int)):=kA (by decide +kernel)
    have z1:readR (wordsT "") = .error 0:=errR_eq (by rw [jR]; decide +kernel)
    have z2:readR (wordsT " \n ") = .error 0:=errR_eq (by rw [jR]; decide +kernel)
    refine ⟨_,rfl,.inl ⟨_,rfl,txR_ok k1,?_⟩⟩
    rw [z1]
    intro x d H6 s6 ex ed
    refine ⟨x,d,_,rfl,ex,ed,fun H7 s7=>⟨_,rfl,iteT ?_⟩⟩
    refine ⟨_,rfl,.inl ⟨_,rfl,txR_ok k2,?_⟩⟩
    rw [z2]
    intro x d H6 s6 ex ed
    exact ⟨x,d,_,rfl,ex,ed,fun H7 s7=>q H7⟩

end
section
variable {P:Program} {w:World} {K:PySem.W.Frag} {mg:Str->Option Value} {base:Heap} {f:Addr} {fd:FuncData} {aP aW aH CT CR:Addr}
set_option maxHeartbeats 4000000

theorem fn_never {k:Nat} {ps:List Str} {CX:CXT}:FnOk P w K mg base CX k f fd ps (fun _ _ _ _=>False) :=
 ⟨fun _ _ _ _ h=>h.elim,fun _ _ _ _ _ _ _ _ _ _ _ _ _ h=>h.elim⟩
theorem ok_nodesR (T:Txt K mg aP aW aH CT CR) (F:Fun K "read_node" "read_node" jD f fd) (CNoText:CalX P w K mg base 1 "NoText" CT ["self", "at"] (spInit1 CT)) (Ctake_kind:Cal P w K mg base (CXE P w) 4 "take_kind" ["reading", "boxes"] (spKindR CR CT))
  (Ctake_own:Cal P w K mg base (CXE P w) 6 "take_own" ["reading", "kind", "boxes"] (spOwnR CR CT)) (Cparts_due:Cal P w K mg base (CXE P w) 2 "parts_due" ["kind", "numbers", "heads"] spDueW) (hm:mg "read_node" = some (.ref f)) (hk:PySem.W.keepIn K (.ref f)=true) (hb:Binds K fd ["reading", "boxes", "deep"] []) :
  ∀ d,d<=10->FnOk P w K mg base (CXE P w) (6+d+1) f fd ["reading", "boxes", "deep"] (spNodeR CR CT d)
 | 0,h=>ok_nodeR 0 h T F CNoText Ctake_kind Ctake_own Cparts_due ⟨⟨_,_,fn_never,hm,hk,hb⟩⟩
 | d+1,h=>ok_nodeR (d+1) h T F CNoText Ctake_kind Ctake_own Cparts_due ⟨⟨_,_,ok_nodesR T F CNoText Ctake_kind Ctake_own Cparts_due hm hk hb d (by (first|lia|omega)),hm,hk,hb⟩⟩
theorem ok_shapesL (T:TxtL K mg) (F:Fun K "_law_shape" "_law_shape" xT f fd) (C_law_draw:Cal P w K mg base (CXE P w) 1 "_law_draw" ["_law_pen_here", "_law_many"] spDraw3) (C_law_words:Cal P w K mg base (CXE P w) 1 "_law_words" [] spWordsL)
  (C_law_number:Cal P w K mg base (CXE P w) 2 "_law_number" ["_law_pen_here", "_law_is_far"] spNumberL) (hm:mg "_law_shape" = some (.ref f)) (hk:PySem.W.keepIn K (.ref f)=true) (hb:Binds K fd ["_law_pen_here", "_law_heads_here", "_law_boxes", "_law_left", "_law_deep"] []) :
  ∀ d,FnOk P w K mg base (CXE P w) (2+d+1) f fd ["_law_pen_here", "_law_heads_here", "_law_boxes", "_law_left", "_law_deep"] (spShapeL d)
 | 0=>ok_shapeL 0 T F C_law_draw C_law_words C_law_number ⟨⟨_,_,fn_never,hm,hk,hb⟩⟩
 | d+1=>ok_shapeL (d+1) T F C_law_draw C_law_words C_law_number ⟨⟨_,_,ok_shapesL T F C_law_draw C_law_words C_law_number hm hk hb d,hm,hk,hb⟩⟩

theorem knT_no (k1:PySem.W.kitOne K (.type "NoneType") (.type "str")=some false) (k2:PySem.W.kitOne K (.type "int") (.type "str")=some false) (k3:PySem.W.kitOne K (.type "bool") (.type "str")=some false) (k4:PySem.W.kitOne K (.type "list") (.type "str")=some false) (k5:PySem.W.kitOne K (.type "tuple") (.type "str")=some false) (k6:PySem.W.kitOne K (.type "dict") (.type "str")=some false) :
  ∀ {H:Hp} {v:V},KnT K H v->NoTxt K H v:=fun {H v} h=>by
 rcases h with rfl | ⟨i,rfl⟩ | ⟨b,rfl⟩ | ⟨a,xs,rfl,e | e⟩ | ⟨a,kvs,rfl,e⟩
 ·exact ⟨_,.non,k1⟩
 ·exact ⟨_,.int i,k2⟩
 ·exact ⟨_,.bl b,k3⟩
 ·exact ⟨_,.lst e,k4⟩
 ·exact ⟨_,.tup e,k5⟩
 ·exact ⟨_,.dK e,k6⟩

end
set_option maxHeartbeats 4000000


theorem ln0 {α:Type} {us:List α} (h:us.length=0):us=[]:=match us,h with | [],_=>rfl
theorem ln1 {α:Type} {us:List α} (h:us.length=1):∃ a0,us=[a0]:=match us,h with | [a0],_=>⟨a0,rfl⟩
theorem ln2 {α:Type} {us:List α} (h:us.length=2):∃ a0 a1,us=[a0,a1]:=match us,h with | [a0,a1],_=>⟨a0,a1,rfl⟩
theorem ln3 {α:Type} {us:List α} (h:us.length=3):∃ a0 a1 a2,us=[a0,a1,a2]:=match us,h with | [a0,a1,a2],_=>⟨a0,a1,a2,rfl⟩
theorem ln4 {α:Type} {us:List α} (h:us.length=4):∃ a0 a1 a2 a3,us=[a0,a1,a2,a3]:=match us,h with | [a0,a1,a2,a3],_=>⟨a0,a1,a2,a3,rfl⟩
theorem ln5 {α:Type} {us:List α} (h:us.length=5):∃ a0 a1 a2 a3 a4,us=[a0,a1,a2,a3,a4]:=match us,h with | [a0,a1,a2,a3,a4],_=>⟨a0,a1,a2,a3,a4,rfl⟩
theorem all_mk {l:PySem.W.OpenLaw} {w:World} {K:PySem.W.Frag} {h:Heap} {mg:Str->Option Value} {fa f0 f1 f2 f3 f4 f5 f6 f7 f8 f9 f10 f11 f12 f13 f14 f15 f16 f17 f18 f19 f20 f21 f22 f23 f24 f25 f26 f27 f28 f29 f30 f31 f32 f33 f34 f35 f36 f37 f38 f39 f40:Addr} {nmN qN nmC qC:Str} {NN cChain nsC:Addr} {bsN subN bsC mroC subC:List Value} {snN snC:List Str} {abN hdC abC delC:Bool} {colN colC:Option Bool} {ddN ddC ddD:Option Addr} {k0N k1N k2N k3N k5N:Option Value} {ccC ccD:Value} {slC slD:Array (Option Value)} {esD:Array DictEntry} {nD:Nat} {cNoText cReading aP aW aH:Addr} {tNUMBER tGET tSET tALL tPICK tLOOP tCALL tFAIL tMOST_FUNCTIONS tMOST_PARAMS tMOST_BOXES tMOST_DEEP tMOST_MANY tLEAST_ALL tLEAST_PICK tMOST_LETTERS tMOST_FIGURES tLETTERS tFIGURES:Tok} {tWORDS0 tWORDS1 tWORDS2 tWORDS3 tWORDS4 tWORDS5 tWORDS6 tWORDS7 tWORDS8 tWORDS9 tWORDS10 tWORDS11 tWORDS12 tWORDS13 tWORDS14 tWORDS15 tWORDS16 tWORDS17:Tok} {nWORDS:Nat} {sWORDS:Array (Option Value)} {tHEAD_WORDS0 tHEAD_WORDS1 tHEAD_WORDS2:Tok} {nHEAD_WORDS:Nat} {sHEAD_WORDS:Array (Option Value)} {tPARTS0 tPARTS1 tPARTS2 tPARTS3 tPARTS4 tPARTS5 tPARTS6 tPARTS7 tPARTS8 tPARTS9 tPARTS10 tPARTS11 tPARTS12:Tok} {nPARTS:Nat} {sPARTS:Array (Option Value)} {cNoSheet cNoCode cNoRow cNoName cChainError:Addr}  (X:K.In h) (G:h.Ns mainGlobals mg) (hfa:mg "law" = some (.ref fa))
  {od0 an0 od1 an1 od2 an2 od3 an3 od4 an4 od5 an5 od6 an6 od7 an7 od8 an8 od9 an9 od10 an10 od11 an11 od12 an12 od13 an13 od14 an14 od15 an15 od16 an16 od17 an17 od18 an18 od19 an19 od20 an20 od21 an21 od22 an22 od23 an23 od24 an24 od25 an25 od26 an26 od27 an27 od28 an28 od29 an29 od30 an30 od31 an31 od32 an32 od33 an33 od34 an34 od35 an35 od36 an36 od37 an37 od38 an38 od39 an39 od40 an40:Option Addr} {sl0 sl1 sl2 sl3 sl4 sl5 sl6 sl7 sl8 sl9 sl10 sl11 sl12 sl13 sl14 sl15 sl16 sl17 sl18 sl19 sl20 sl21 sl22 sl23 sl24 sl25 sl26 sl27 sl28 sl29 sl30 sl31 sl32 sl33 sl34 sl35 sl36 sl37 sl38 sl39 sl40:Array (Option Value)} {oc0 kV0 dc0 pm0 cd0 ct0 oc1 kV1 dc1 pm1 cd1 ct1 oc2 kV2 dc2 pm2 cd2 ct2 oc3 kV3 dc3 pm3 cd3 ct3 oc4 kV4 dc4 pm4 cd4 ct4 oc5 kV5 dc5 pm5 cd5 ct5 oc6 kV6 dc6 pm6 cd6 ct6 oc7 kV7 dc7 pm7 cd7 ct7 oc8 kV8 dc8 pm8 cd8 ct8 oc9 kV9 dc9 pm9 cd9 ct9 oc10 kV10 dc10 pm10 cd10 ct10 oc11 kV11 dc11 pm11 cd11 ct11 oc12 kV12 dc12 pm12 cd12 ct12 oc13 kV13 dc13 pm13 cd13 ct13 oc14 kV14 dc14 pm14 cd14 ct14 oc15 kV15 dc15 pm15 cd15 ct15 oc16 kV16 dc16 pm16 cd16 ct16 oc17 kV17 dc17 pm17 cd17 ct17 oc18 kV18 dc18 pm18 cd18 ct18 oc19 kV19 dc19 pm19 cd19 ct19 oc20 kV20 dc20 pm20 cd20 ct20 oc21 kV21 dc21 pm21 cd21 ct21 oc22 kV22 dc22 pm22 cd22 ct22 oc23 kV23 dc23 pm23 cd23 ct23 oc24 kV24 dc24 pm24 cd24 ct24 oc25 kV25 dc25 pm25 cd25 ct25 oc26 kV26 dc26 pm26 cd26 ct26 oc27 kV27 dc27 pm27 cd27 ct27 oc28 kV28 dc28 pm28 cd28 ct28 oc29 kV29 dc29 pm29 cd29 ct29 oc30 kV30 dc30 pm30 cd30 ct30 oc31 kV31 dc31 pm31 cd31 ct31 oc32 kV32 dc32 pm32 cd32 ct32 oc33 kV33 dc33 pm33 cd33 ct33 oc34 kV34 dc34 pm34 cd34 ct34 oc35 kV35 dc35 pm35 cd35 ct35 oc36 kV36 dc36 pm36 cd36 ct36 oc37 kV37 dc37 pm37 cd37 ct37 oc38 kV38 dc38 pm38 cd38 ct38 oc39 kV39 dc39 pm39 cd39 ct39 oc40 kV40 dc40 pm40 cd40 ct40:Value}
  (c_NoText:PySem.W.nsIn K mainGlobals "NoText" = some (some (.ref cNoText)))
  (c_Reading:PySem.W.nsIn K mainGlobals "Reading" = some (some (.ref cReading)))
  (c_NoSheet:PySem.W.nsIn K mainGlobals "NoSheet" = some (some (.ref cNoSheet)))
  (c_NoCode:PySem.W.nsIn K mainGlobals "NoCode" = some (some (.ref cNoCode)))
  (c_NoRow:PySem.W.nsIn K mainGlobals "NoRow" = some (some (.ref cNoRow)))
  (c_NoName:PySem.W.nsIn K mainGlobals "NoName" = some (some (.ref cNoName)))
  (c_ChainError:PySem.W.nsIn K mainGlobals "ChainError" = some (some (.ref cChainError)))
  (a0:PySem.W.findIn K (.ref cNoText) "__init__" = some (some (.ref f0))) (l0:K.lookup f0=some ⟨oc0,od0,.func (PySem.W.fnOf "__init__" "NoText.__init__" (defArgs yU) (defBody yU) (defScope yU) .none kV0 dc0 pm0 an0 cd0 ct0),sl0⟩) (c0:PySem.W.codeIn K cd0 "NoText.__init__" = true) (k0:PySem.W.keepIn K (.ref f0)=true)
  (a1:PySem.W.nsIn K mainGlobals "parts_of" = some (some (.ref f1))) (l1:K.lookup f1=some ⟨oc1,od1,.func (PySem.W.fnOf "parts_of" "parts_of" (defArgs kO) (defBody kO) (defScope kO) .none kV1 dc1 pm1 an1 cd1 ct1),sl1⟩) (c1:PySem.W.codeIn K cd1 "parts_of" = true) (k1:PySem.W.keepIn K (.ref f1)=true)
  (a2:PySem.W.nsIn K mainGlobals "kind_of" = some (some (.ref f2))) (l2:K.lookup f2=some ⟨oc2,od2,.func (PySem.W.fnOf "kind_of" "kind_of" (defArgs qO) (defBody qO) (defScope qO) .none kV2 dc2 pm2 an2 cd2 ct2),sl2⟩) (c2:PySem.W.codeIn K cd2 "kind_of" = true) (k2:PySem.W.keepIn K (.ref f2)=true)
  (a3:PySem.W.nsIn K mainGlobals "parts_due" = some (some (.ref f3))) (l3:K.lookup f3=some ⟨oc3,od3,.func (PySem.W.fnOf "parts_due" "parts_due" (defArgs jU) (defBody jU) (defScope jU) .none kV3 dc3 pm3 an3 cd3 ct3),sl3⟩) (c3:PySem.W.codeIn K cd3 "parts_due" = true) (k3:PySem.W.keepIn K (.ref f3)=true)
  (a4:PySem.W.nsIn K mainGlobals "words_of" = some (some (.ref f4))) (l4:K.lookup f4=some ⟨oc4,od4,.func (PySem.W.fnOf "words_of" "words_of" (defArgs jQ) (defBody jQ) (defScope jQ) .none kV4 dc4 pm4 an4 cd4 ct4),sl4⟩) (c4:PySem.W.codeIn K cd4 "words_of" = true) (k4:PySem.W.keepIn K (.ref f4)=true)
  (a5:PySem.W.nsIn K mainGlobals "is_written_in" = some (some (.ref f5))) (l5:K.lookup f5=some ⟨oc5,od5,.func (PySem.W.fnOf "is_written_in" "is_written_in" (defArgs xH) (defBody xH) (defScope xH) .none kV5 dc5 pm5 an5 cd5 ct5),sl5⟩) (c5:PySem.W.codeIn K cd5 "is_written_in" = true) (k5:PySem.W.keepIn K (.ref f5)=true)
  (a6:PySem.W.nsIn K mainGlobals "is_name" = some (some (.ref f6))) (l6:K.lookup f6=some ⟨oc6,od6,.func (PySem.W.fnOf "is_name" "is_name" (defArgs qP) (defBody qP) (defScope qP) .none kV6 dc6 pm6 an6 cd6 ct6),sl6⟩) (c6:PySem.W.codeIn K cd6 "is_name" = true) (k6:PySem.W.keepIn K (.ref f6)=true)
  (a7:PySem.W.nsIn K mainGlobals "is_number_of" = some (some (.ref f7))) (l7:K.lookup f7=some ⟨oc7,od7,.func (PySem.W.fnOf "is_number_of" "is_number_of" (defArgs xQ) (defBody xQ) (defScope xQ) .none kV7 dc7 pm7 an7 cd7 ct7),sl7⟩) (c7:PySem.W.codeIn K cd7 "is_number_of" = true) (k7:PySem.W.keepIn K (.ref f7)=true)
  (a8:PySem.W.nsIn K mainGlobals "is_number" = some (some (.ref f8))) (l8:K.lookup f8=some ⟨oc8,od8,.func (PySem.W.fnOf "is_number" "is_number" (defArgs jV) (defBody jV) (defScope jV) .none kV8 dc8 pm8 an8 cd8 ct8),sl8⟩) (c8:PySem.W.codeIn K cd8 "is_number" = true) (k8:PySem.W.keepIn K (.ref f8)=true)
  (a9:PySem.W.findIn K (.ref cReading) "__init__" = some (some (.ref f9))) (l9:K.lookup f9=some ⟨oc9,od9,.func (PySem.W.fnOf "__init__" "Reading.__init__" (defArgs yR) (defBody yR) (defScope yR) .none kV9 dc9 pm9 an9 cd9 ct9),sl9⟩) (c9:PySem.W.codeIn K cd9 "Reading.__init__" = true) (k9:PySem.W.keepIn K (.ref f9)=true)
  (a10:PySem.W.nsIn K mainGlobals "number_names" = some (some (.ref f10))) (l10:K.lookup f10=some ⟨oc10,od10,.func (PySem.W.fnOf "number_names" "number_names" (defArgs xP) (defBody xP) (defScope xP) .none kV10 dc10 pm10 an10 cd10 ct10),sl10⟩) (c10:PySem.W.codeIn K cd10 "number_names" = true) (k10:PySem.W.keepIn K (.ref f10)=true)
  (a11:PySem.W.nsIn K mainGlobals "count_params" = some (some (.ref f11))) (l11:K.lookup f11=some ⟨oc11,od11,.func (PySem.W.fnOf "count_params" "count_params" (defArgs xR) (defBody xR) (defScope xR) .none kV11 dc11 pm11 an11 cd11 ct11),sl11⟩) (c11:PySem.W.codeIn K cd11 "count_params" = true) (k11:PySem.W.keepIn K (.ref f11)=true)
  (a12:PySem.W.nsIn K mainGlobals "due" = some (some (.ref f12))) (l12:K.lookup f12=some ⟨oc12,od12,.func (PySem.W.fnOf "due" "due" (defArgs s_due) (defBody s_due) (defScope s_due) .none kV12 dc12 pm12 an12 cd12 ct12),sl12⟩) (c12:PySem.W.codeIn K cd12 "due" = true) (k12:PySem.W.keepIn K (.ref f12)=true)
  (a13:PySem.W.nsIn K mainGlobals "take_new_name" = some (some (.ref f13))) (l13:K.lookup f13=some ⟨oc13,od13,.func (PySem.W.fnOf "take_new_name" "take_new_name" (defArgs xG) (defBody xG) (defScope xG) .none kV13 dc13 pm13 an13 cd13 ct13),sl13⟩) (c13:PySem.W.codeIn K cd13 "take_new_name" = true) (k13:PySem.W.keepIn K (.ref f13)=true)
  (a14:PySem.W.nsIn K mainGlobals "take_boxes" = some (some (.ref f14))) (l14:K.lookup f14=some ⟨oc14,od14,.func (PySem.W.fnOf "take_boxes" "take_boxes" (defArgs jH) (defBody jH) (defScope jH) .none kV14 dc14 pm14 an14 cd14 ct14),sl14⟩) (c14:PySem.W.codeIn K cd14 "take_boxes" = true) (k14:PySem.W.keepIn K (.ref f14)=true)
  (a15:PySem.W.nsIn K mainGlobals "take_box" = some (some (.ref f15))) (l15:K.lookup f15=some ⟨oc15,od15,.func (PySem.W.fnOf "take_box" "take_box" (defArgs kL) (defBody kL) (defScope kL) .none kV15 dc15 pm15 an15 cd15 ct15),sl15⟩) (c15:PySem.W.codeIn K cd15 "take_box" = true) (k15:PySem.W.keepIn K (.ref f15)=true)
  (a16:PySem.W.nsIn K mainGlobals "take_number" = some (some (.ref f16))) (l16:K.lookup f16=some ⟨oc16,od16,.func (PySem.W.fnOf "take_number" "take_number" (defArgs xW) (defBody xW) (defScope xW) .none kV16 dc16 pm16 an16 cd16 ct16),sl16⟩) (c16:PySem.W.codeIn K cd16 "take_number" = true) (k16:PySem.W.keepIn K (.ref f16)=true)
  (a17:PySem.W.nsIn K mainGlobals "take_many" = some (some (.ref f17))) (l17:K.lookup f17=some ⟨oc17,od17,.func (PySem.W.fnOf "take_many" "take_many" (defArgs jS) (defBody jS) (defScope jS) .none kV17 dc17 pm17 an17 cd17 ct17),sl17⟩) (c17:PySem.W.codeIn K cd17 "take_many" = true) (k17:PySem.W.keepIn K (.ref f17)=true)
  (a18:PySem.W.nsIn K mainGlobals "take_called" = some (some (.ref f18))) (l18:K.lookup f18=some ⟨oc18,od18,.func (PySem.W.fnOf "take_called" "take_called" (defArgs xX) (defBody xX) (defScope xX) .none kV18 dc18 pm18 an18 cd18 ct18),sl18⟩) (c18:PySem.W.codeIn K cd18 "take_called" = true) (k18:PySem.W.keepIn K (.ref f18)=true)
  (a19:PySem.W.nsIn K mainGlobals "take_own" = some (some (.ref f19))) (l19:K.lookup f19=some ⟨oc19,od19,.func (PySem.W.fnOf "take_own" "take_own" (defArgs kK) (defBody kK) (defScope kK) .none kV19 dc19 pm19 an19 cd19 ct19),sl19⟩) (c19:PySem.W.codeIn K cd19 "take_own" = true) (k19:PySem.W.keepIn K (.ref f19)=true)
  (a20:PySem.W.nsIn K mainGlobals "take_kind" = some (some (.ref f20))) (l20:K.lookup f20=some ⟨oc20,od20,.func (PySem.W.fnOf "take_kind" "take_kind" (defArgs jT) (defBody jT) (defScope jT) .none kV20 dc20 pm20 an20 cd20 ct20),sl20⟩) (c20:PySem.W.codeIn K cd20 "take_kind" = true) (k20:PySem.W.keepIn K (.ref f20)=true)
  (a21:PySem.W.nsIn K mainGlobals "read_node" = some (some (.ref f21))) (l21:K.lookup f21=some ⟨oc21,od21,.func (PySem.W.fnOf "read_node" "read_node" (defArgs jD) (defBody jD) (defScope jD) .none kV21 dc21 pm21 an21 cd21 ct21),sl21⟩) (c21:PySem.W.codeIn K cd21 "read_node" = true) (k21:PySem.W.keepIn K (.ref f21)=true)
  (a22:PySem.W.nsIn K mainGlobals "read_function" = some (some (.ref f22))) (l22:K.lookup f22=some ⟨oc22,od22,.func (PySem.W.fnOf "read_function" "read_function" (defArgs yW) (defBody yW) (defScope yW) .none kV22 dc22 pm22 an22 cd22 ct22),sl22⟩) (c22:PySem.W.codeIn K cd22 "read_function" = true) (k22:PySem.W.keepIn K (.ref f22)=true)
  (a23:PySem.W.nsIn K mainGlobals "read_text" = some (some (.ref f23))) (l23:K.lookup f23=some ⟨oc23,od23,.func (PySem.W.fnOf "read_text" "read_text" (defArgs jC) (defBody jC) (defScope jC) .none kV23 dc23 pm23 an23 cd23 ct23),sl23⟩) (c23:PySem.W.codeIn K cd23 "read_text" = true) (k23:PySem.W.keepIn K (.ref f23)=true)
  (a24:PySem.W.nsIn K mainGlobals "_law_pen" = some (some (.ref f24))) (l24:K.lookup f24=some ⟨oc24,od24,.func (PySem.W.fnOf "_law_pen" "_law_pen" (defArgs kP) (defBody kP) (defScope kP) .none kV24 dc24 pm24 an24 cd24 ct24),sl24⟩) (c24:PySem.W.codeIn K cd24 "_law_pen" = true) (k24:PySem.W.keepIn K (.ref f24)=true)
  (a25:PySem.W.nsIn K mainGlobals "_law_draw" = some (some (.ref f25))) (l25:K.lookup f25=some ⟨oc25,od25,.func (PySem.W.fnOf "_law_draw" "_law_draw" (defArgs jX) (defBody jX) (defScope jX) .none kV25 dc25 pm25 an25 cd25 ct25),sl25⟩) (c25:PySem.W.codeIn K cd25 "_law_draw" = true) (k25:PySem.W.keepIn K (.ref f25)=true)
  (a26:PySem.W.nsIn K mainGlobals "_law_words" = some (some (.ref f26))) (l26:K.lookup f26=some ⟨oc26,od26,.func (PySem.W.fnOf "_law_words" "_law_words" (defArgs jI) (defBody jI) (defScope jI) .none kV26 dc26 pm26 an26 cd26 ct26),sl26⟩) (c26:PySem.W.codeIn K cd26 "_law_words" = true) (k26:PySem.W.keepIn K (.ref f26)=true)
  (a27:PySem.W.nsIn K mainGlobals "_law_name" = some (some (.ref f27))) (l27:K.lookup f27=some ⟨oc27,od27,.func (PySem.W.fnOf "_law_name" "_law_name" (defArgs jE) (defBody jE) (defScope jE) .none kV27 dc27 pm27 an27 cd27 ct27),sl27⟩) (c27:PySem.W.codeIn K cd27 "_law_name" = true) (k27:PySem.W.keepIn K (.ref f27)=true)
  (a28:PySem.W.nsIn K mainGlobals "_law_heads" = some (some (.ref f28))) (l28:K.lookup f28=some ⟨oc28,od28,.func (PySem.W.fnOf "_law_heads" "_law_heads" (defArgs jK) (defBody jK) (defScope jK) .none kV28 dc28 pm28 an28 cd28 ct28),sl28⟩) (c28:PySem.W.codeIn K cd28 "_law_heads" = true) (k28:PySem.W.keepIn K (.ref f28)=true)
  (a29:PySem.W.nsIn K mainGlobals "_law_number" = some (some (.ref f29))) (l29:K.lookup f29=some ⟨oc29,od29,.func (PySem.W.fnOf "_law_number" "_law_number" (defArgs xZ) (defBody xZ) (defScope xZ) .none kV29 dc29 pm29 an29 cd29 ct29),sl29⟩) (c29:PySem.W.codeIn K cd29 "_law_number" = true) (k29:PySem.W.keepIn K (.ref f29)=true)
  (a30:PySem.W.nsIn K mainGlobals "_law_shape" = some (some (.ref f30))) (l30:K.lookup f30=some ⟨oc30,od30,.func (PySem.W.fnOf "_law_shape" "_law_shape" (defArgs xT) (defBody xT) (defScope xT) .none kV30 dc30 pm30 an30 cd30 ct30),sl30⟩) (c30:PySem.W.codeIn K cd30 "_law_shape" = true) (k30:PySem.W.keepIn K (.ref f30)=true)
  (a31:PySem.W.nsIn K mainGlobals "_law_program" = some (some (.ref f31))) (l31:K.lookup f31=some ⟨oc31,od31,.func (PySem.W.fnOf "_law_program" "_law_program" (defArgs xB) (defBody xB) (defScope xB) .none kV31 dc31 pm31 an31 cd31 ct31),sl31⟩) (c31:PySem.W.codeIn K cd31 "_law_program" = true) (k31:PySem.W.keepIn K (.ref f31)=true)
  (a32:PySem.W.nsIn K mainGlobals "_law_right" = some (some (.ref f32))) (l32:K.lookup f32=some ⟨oc32,od32,.func (PySem.W.fnOf "_law_right" "_law_right" (defArgs jJ) (defBody jJ) (defScope jJ) .none kV32 dc32 pm32 an32 cd32 ct32),sl32⟩) (c32:PySem.W.codeIn K cd32 "_law_right" = true) (k32:PySem.W.keepIn K (.ref f32)=true)
  (a33:PySem.W.nsIn K mainGlobals "_law_caught" = some (some (.ref f33))) (l33:K.lookup f33=some ⟨oc33,od33,.func (PySem.W.fnOf "_law_caught" "_law_caught" (defArgs jA) (defBody jA) (defScope jA) .none kV33 dc33 pm33 an33 cd33 ct33),sl33⟩) (c33:PySem.W.codeIn K cd33 "_law_caught" = true) (k33:PySem.W.keepIn K (.ref f33)=true)
  (a34:PySem.W.nsIn K mainGlobals "_law_bad_names" = some (some (.ref f34))) (l34:K.lookup f34=some ⟨oc34,od34,.func (PySem.W.fnOf "_law_bad_names" "_law_bad_names" (defArgs xA) (defBody xA) (defScope xA) .none kV34 dc34 pm34 an34 cd34 ct34),sl34⟩) (c34:PySem.W.codeIn K cd34 "_law_bad_names" = true) (k34:PySem.W.keepIn K (.ref f34)=true)
  (a35:PySem.W.nsIn K mainGlobals "_law_bad_heads" = some (some (.ref f35))) (l35:K.lookup f35=some ⟨oc35,od35,.func (PySem.W.fnOf "_law_bad_heads" "_law_bad_heads" (defArgs yO) (defBody yO) (defScope yO) .none kV35 dc35 pm35 an35 cd35 ct35),sl35⟩) (c35:PySem.W.codeIn K cd35 "_law_bad_heads" = true) (k35:PySem.W.keepIn K (.ref f35)=true)
  (a36:PySem.W.nsIn K mainGlobals "_law_bad_bodies" = some (some (.ref f36))) (l36:K.lookup f36=some ⟨oc36,od36,.func (PySem.W.fnOf "_law_bad_bodies" "_law_bad_bodies" (defArgs yL) (defBody yL) (defScope yL) .none kV36 dc36 pm36 an36 cd36 ct36),sl36⟩) (c36:PySem.W.codeIn K cd36 "_law_bad_bodies" = true) (k36:PySem.W.keepIn K (.ref f36)=true)
  (a37:PySem.W.nsIn K mainGlobals "_law_texts" = some (some (.ref f37))) (l37:K.lookup f37=some ⟨oc37,od37,.func (PySem.W.fnOf "_law_texts" "_law_texts" (defArgs xS) (defBody xS) (defScope xS) .none kV37 dc37 pm37 an37 cd37 ct37),sl37⟩) (c37:PySem.W.codeIn K cd37 "_law_texts" = true) (k37:PySem.W.keepIn K (.ref f37)=true)
  (a38:PySem.W.nsIn K mainGlobals "_law_spoilt" = some (some (.ref f38))) (l38:K.lookup f38=some ⟨oc38,od38,.func (PySem.W.fnOf "_law_spoilt" "_law_spoilt" (defArgs xY) (defBody xY) (defScope xY) .none kV38 dc38 pm38 an38 cd38 ct38),sl38⟩) (c38:PySem.W.codeIn K cd38 "_law_spoilt" = true) (k38:PySem.W.keepIn K (.ref f38)=true)
  (a39:PySem.W.nsIn K mainGlobals "_law_lone" = some (some (.ref f39))) (l39:K.lookup f39=some ⟨oc39,od39,.func (PySem.W.fnOf "_law_lone" "_law_lone" (defArgs jW) (defBody jW) (defScope jW) .none kV39 dc39 pm39 an39 cd39 ct39),sl39⟩) (c39:PySem.W.codeIn K cd39 "_law_lone" = true) (k39:PySem.W.keepIn K (.ref f39)=true)
  (a40:PySem.W.nsIn K mainGlobals "law" = some (some (.ref f40))) (l40:K.lookup f40=some ⟨oc40,od40,.func (PySem.W.fnOf "law" "law" (defArgs s_law) (defBody s_law) (defScope s_law) .none kV40 dc40 pm40 an40 cd40 ct40),sl40⟩) (c40:PySem.W.codeIn K cd40 "law" = true) (k40:PySem.W.keepIn K (.ref f40)=true)
  (z_len:PySem.W.nsIn K mainGlobals "len" = some none)
  (z_range:PySem.W.nsIn K mainGlobals "range" = some none)
  (z_int:PySem.W.nsIn K mainGlobals "int" = some none)
  (z_tuple:PySem.W.nsIn K mainGlobals "tuple" = some none)
  (z_str:PySem.W.nsIn K mainGlobals "str" = some none)
  (z_isinstance:PySem.W.nsIn K mainGlobals "isinstance" = some none)
  (z_all:PySem.W.nsIn K mainGlobals "all" = some none)
  (z_list:PySem.W.nsIn K mainGlobals "list" = some none)
  (z_bool:PySem.W.nsIn K mainGlobals "bool" = some none)
  (z_sum:PySem.W.nsIn K mainGlobals "sum" = some none)
  (z_ValueError:PySem.W.nsIn K mainGlobals "ValueError" = some none)
  (i_NUMBER:PySem.W.nsIn K mainGlobals "NUMBER" = some (some (.int 0 tNUMBER)))
  (i_GET:PySem.W.nsIn K mainGlobals "GET" = some (some (.int 1 tGET)))
  (i_SET:PySem.W.nsIn K mainGlobals "SET" = some (some (.int 2 tSET)))
  (i_ALL:PySem.W.nsIn K mainGlobals "ALL" = some (some (.int 3 tALL)))
  (i_PICK:PySem.W.nsIn K mainGlobals "PICK" = some (some (.int 4 tPICK)))
  (i_LOOP:PySem.W.nsIn K mainGlobals "LOOP" = some (some (.int 5 tLOOP)))
  (i_CALL:PySem.W.nsIn K mainGlobals "CALL" = some (some (.int 6 tCALL)))
  (i_FAIL:PySem.W.nsIn K mainGlobals "FAIL" = some (some (.int 7 tFAIL)))
  (i_MOST_FUNCTIONS:PySem.W.nsIn K mainGlobals "MOST_FUNCTIONS" = some (some (.int 16 tMOST_FUNCTIONS)))
  (i_MOST_PARAMS:PySem.W.nsIn K mainGlobals "MOST_PARAMS" = some (some (.int 4 tMOST_PARAMS)))
  (i_MOST_BOXES:PySem.W.nsIn K mainGlobals "MOST_BOXES" = some (some (.int 12 tMOST_BOXES)))
  (i_MOST_DEEP:PySem.W.nsIn K mainGlobals "MOST_DEEP" = some (some (.int 10 tMOST_DEEP)))
  (i_MOST_MANY:PySem.W.nsIn K mainGlobals "MOST_MANY" = some (some (.int 12 tMOST_MANY)))
  (i_LEAST_ALL:PySem.W.nsIn K mainGlobals "LEAST_ALL" = some (some (.int 1 tLEAST_ALL)))
  (i_LEAST_PICK:PySem.W.nsIn K mainGlobals "LEAST_PICK" = some (some (.int 2 tLEAST_PICK)))
  (i_MOST_LETTERS:PySem.W.nsIn K mainGlobals "MOST_LETTERS" = some (some (.int 8 tMOST_LETTERS)))
  (i_MOST_FIGURES:PySem.W.nsIn K mainGlobals "MOST_FIGURES" = some (some (.int 60 tMOST_FIGURES)))
  (s_LETTERS:PySem.W.nsIn K mainGlobals "LETTERS" = some (some (.str "abcdefghijklmnopqrstuvwxyz" tLETTERS)))
  (s_FIGURES:PySem.W.nsIn K mainGlobals "FIGURES" = some (some (.str "0123456789" tFIGURES)))
  (g_WORDS:PySem.W.nsIn K mainGlobals "WORDS" = some (some (.ref aW)))
  (o_WORDS:K.lookup aW=some ⟨.type "tuple",none,.seq #[.str "set" tWORDS0,.str "all" tWORDS1,.str "pick" tWORDS2,.str "loop" tWORDS3,.str "call" tWORDS4,.str "fail" tWORDS5,.str "add" tWORDS6,.str "sub" tWORDS7,.str "mul" tWORDS8,.str "quo" tWORDS9,.str "rest" tWORDS10,.str "less" tWORDS11,.str "same" tWORDS12,.str "push" tWORDS13,.str "at" tWORDS14,.str "put" tWORDS15,.str "size" tWORDS16,.str "new" tWORDS17] nWORDS,sWORDS⟩)
  (g_HEAD_WORDS:PySem.W.nsIn K mainGlobals "HEAD_WORDS" = some (some (.ref aH)))
  (o_HEAD_WORDS:K.lookup aH=some ⟨.type "tuple",none,.seq #[.str "fun" tHEAD_WORDS0,.str "with" tHEAD_WORDS1,.str "is" tHEAD_WORDS2] nHEAD_WORDS,sHEAD_WORDS⟩)
  (g_PARTS:PySem.W.nsIn K mainGlobals "PARTS" = some (some (.ref aP)))
  (o_PARTS:K.lookup aP=some ⟨.type "tuple",none,.seq #[.int 1 tPARTS0,.int 2 tPARTS1,.int 2 tPARTS2,.int 2 tPARTS3,.int 2 tPARTS4,.int 2 tPARTS5,.int 2 tPARTS6,.int 2 tPARTS7,.int 2 tPARTS8,.int 2 tPARTS9,.int 3 tPARTS10,.int 1 tPARTS11,.int 0 tPARTS12] nPARTS,sPARTS⟩)
  (u_bool:PySem.W.subIn K (.type "int") (.type "bool")=some false)
  (fn_Reading___init__:PySem.W.isFn K (.ref f9)=true)
  (R_makes:PySem.W.makesIn K cReading=true)
  (R_kp:PySem.W.keepIn K (.ref cReading)=true)
  (R_pg:PySem.W.plainGet K cReading Str.empty=true)
  (R_hd:PySem.W.hasDictIn K cReading=true)
  (R_po:PySem.W.plainOver K cReading=true)
  (R_sa:PySem.W.findIn K (.ref cReading) "__setattr__" = some (some (.builtin "object.__setattr__")))
  (R_words:PySem.W.findIn K (.ref cReading) "words" = some none)
  (R_at:PySem.W.findIn K (.ref cReading) "at" = some none)
  (R_names:PySem.W.findIn K (.ref cReading) "names" = some none)
  (R_heads:PySem.W.findIn K (.ref cReading) "heads" = some none)
  (R_bodies:PySem.W.findIn K (.ref cReading) "bodies" = some none)
  (R_numbered:PySem.W.findIn K (.ref cReading) "numbered" = some none)
  (R_counted:PySem.W.findIn K (.ref cReading) "counted" = some none)
  (xN:K.lookup cNoText=some (excClassObj nmN qN cNoText NN bsN (.ref cChain :: bmValue) true snN subN abN colN ddN k0N k1N k2N k3N k5N "ValueError.__new__"))
  (xC:K.lookup cChain=some ⟨ccC,ddC,.cls ⟨nmC,bsC,mroC,nsC,qC,hdC,snC,subC,abC,colC,delC⟩,slC⟩)
  (xD:K.lookup nsC=some ⟨ccD,ddD,.dict esD nD,slD⟩)
  (xF:PySem.W.nsIn K nsC "__init__" = some none)
  (xkp:PySem.W.keepIn K (.ref cNoText)=true)
  (xty:PySem.W.typeIn K (.ref f0)=some (.type "function"))
  (xobj:PySem.W.mroIn K cNoText (.type "object")=some true)
  (xbase:PySem.W.mroIn K cNoText (.type "BaseException")=some true)
  (xsa:PySem.W.findIn K (.ref cNoText) "__setattr__" = some (some (.builtin "object.__setattr__")))
  (xga:PySem.W.findIn K (.ref cNoText) "__getattribute__" = some (some (.builtin "BaseException.__getattribute__")))
  (xnh:PySem.W.findIn K (.ref cNoText) "__getattr__" = some none)
  (xat:PySem.W.findIn K (.ref cNoText) "at" = some none)
  (xE:(esD.toList.all fun e=>match e.key with | .str _ _=>true | _=>false)=true)
  (v_NoneType:PySem.W.subIn K (.type "NoneType") (.type "str")=some false)
  (v_int:PySem.W.subIn K (.type "int") (.type "str")=some false)
  (v_bool:PySem.W.subIn K (.type "bool") (.type "str")=some false)
  (v_list:PySem.W.subIn K (.type "list") (.type "str")=some false)
  (v_tuple:PySem.W.subIn K (.type "tuple") (.type "str")=some false)
  (v_dict:PySem.W.subIn K (.type "dict") (.type "str")=some false)
  (ty_NoSheet:PySem.W.typeIn K (.ref cNoSheet)=some (.type "type"))
  (cl_NoSheet:PySem.W.isClsIn K cNoSheet=true)
  (su_NoSheet:PySem.W.subIn K (.ref cNoText) (.ref cNoSheet)=some false)
  (ty_NoCode:PySem.W.typeIn K (.ref cNoCode)=some (.type "type"))
  (cl_NoCode:PySem.W.isClsIn K cNoCode=true)
  (su_NoCode:PySem.W.subIn K (.ref cNoText) (.ref cNoCode)=some false)
  (ty_NoRow:PySem.W.typeIn K (.ref cNoRow)=some (.type "type"))
  (cl_NoRow:PySem.W.isClsIn K cNoRow=true)
  (su_NoRow:PySem.W.subIn K (.ref cNoText) (.ref cNoRow)=some false)
  (ty_NoName:PySem.W.typeIn K (.ref cNoName)=some (.type "type"))
  (cl_NoName:PySem.W.isClsIn K cNoName=true)
  (su_NoName:PySem.W.subIn K (.ref cNoText) (.ref cNoName)=some false)
  (ty_ChainError:PySem.W.typeIn K (.ref cChainError)=some (.type "type"))
  (cl_ChainError:PySem.W.isClsIn K cChainError=true)
  (su_ChainError:PySem.W.subIn K (.ref cNoText) (.ref cChainError)=some true)
  (ty_NoText:PySem.W.typeIn K (.ref cNoText)=some (.type "type"))
  (cl_NoText:PySem.W.isClsIn K cNoText=true)
  (su_NoText:PySem.W.subIn K (.ref cNoText) (.ref cNoText)=some true)
  (xb_ChainError:PySem.W.subIn K (.ref cChainError) (.type "BaseException")=some true)
  (ve_:PySem.W.subIn K (.ref cNoText) (.type "ValueError")=some true)
  (yha:PySem.W.findIn K (.ref cNoText) "__class__" = some (some (.builtin "object.__class__")))
  (yhn:PySem.W.specialIn K (.builtin "object.__class__") "__get__" = some (some (.builtin "getset_descriptor.__get__")))
  (ytk:PySem.W.takesIn K (.builtin "object.__class__")=some true)
  : ∃ fd:FuncData,(∀ (s:Shared) (v:Value),BindsTo s fd ⟨[v],[]⟩ [("_law_script",v)])/\∀ base:Heap,K.In base->base.Ns mainGlobals mg->FnOk l.prog w K mg base (CXE l.prog w) 21 fa fd ["_law_script"] (spLaw K):=by
 have e:=hfa.symm.trans (PySem.W.mg_of X G a40)
 cases e
 have F0:=yF (st:=yU) l0 c0 k0
 have b0:=F0.binds (ps:=["self", "at"]) fun _ _ _ _ _ _ us hl=>by obtain ⟨_,_,rfl⟩ := ln2 hl; rfl
 have F1:=yF (st:=kO) l1 c1 k1
 have b1:=F1.binds (ps:=["kind"]) fun _ _ _ _ _ _ us hl=>by obtain ⟨_,rfl⟩ := ln1 hl; rfl
 have m1:=PySem.W.mg_of X G a1
 have F2:=yF (st:=qO) l2 c2 k2
 have b2:=F2.binds (ps:=["word"]) fun _ _ _ _ _ _ us hl=>by obtain ⟨_,rfl⟩ := ln1 hl; rfl
 have m2:=PySem.W.mg_of X G a2
 have F3:=yF (st:=jU) l3 c3 k3
 have b3:=F3.binds (ps:=["kind", "numbers", "heads"]) fun _ _ _ _ _ _ us hl=>by obtain ⟨_,_,_,rfl⟩ := ln3 hl; rfl
 have m3:=PySem.W.mg_of X G a3
 have F4:=yF (st:=jQ) l4 c4 k4
 have b4:=F4.binds (ps:=["text"]) fun _ _ _ _ _ _ us hl=>by obtain ⟨_,rfl⟩ := ln1 hl; rfl
 have m4:=PySem.W.mg_of X G a4
 have F5:=yF (st:=xH) l5 c5 k5
 have b5:=F5.binds (ps:=["word", "signs"]) fun _ _ _ _ _ _ us hl=>by obtain ⟨_,_,rfl⟩ := ln2 hl; rfl
 have m5:=PySem.W.mg_of X G a5
 have F6:=yF (st:=qP) l6 c6 k6
 have b6:=F6.binds (ps:=["word"]) fun _ _ _ _ _ _ us hl=>by obtain ⟨_,rfl⟩ := ln1 hl; rfl
 have m6:=PySem.W.mg_of X G a6
 have F7:=yF (st:=xQ) l7 c7 k7
 have b7:=F7.binds (ps:=["word", "most_figures"]) fun _ _ _ _ _ _ us hl=>by obtain ⟨_,_,rfl⟩ := ln2 hl; rfl
 have m7:=PySem.W.mg_of X G a7
 have F8:=yF (st:=jV) l8 c8 k8
 have b8:=F8.binds (ps:=["word"]) fun _ _ _ _ _ _ us hl=>by obtain ⟨_,rfl⟩ := ln1 hl; rfl
 have m8:=PySem.W.mg_of X G a8
 have F9:=yF (st:=yR) l9 c9 k9
 have b9:=F9.binds (ps:=["self", "words"]) fun _ _ _ _ _ _ us hl=>by obtain ⟨_,_,rfl⟩ := ln2 hl; rfl
 have F10:=yF (st:=xP) l10 c10 k10
 have b10:=F10.binds (ps:=["words"]) fun _ _ _ _ _ _ us hl=>by obtain ⟨_,rfl⟩ := ln1 hl; rfl
 have m10:=PySem.W.mg_of X G a10
 have F11:=yF (st:=xR) l11 c11 k11
 have b11:=F11.binds (ps:=["words"]) fun _ _ _ _ _ _ us hl=>by obtain ⟨_,rfl⟩ := ln1 hl; rfl
 have m11:=PySem.W.mg_of X G a11
 have F12:=yF (st:=s_due) l12 c12 k12
 have b12:=F12.binds (ps:=["reading"]) fun _ _ _ _ _ _ us hl=>by obtain ⟨_,rfl⟩ := ln1 hl; rfl
 have m12:=PySem.W.mg_of X G a12
 have F13:=yF (st:=xG) l13 c13 k13
 have b13:=F13.binds (ps:=["reading", "there"]) fun _ _ _ _ _ _ us hl=>by obtain ⟨_,_,rfl⟩ := ln2 hl; rfl
 have m13:=PySem.W.mg_of X G a13
 have F14:=yF (st:=jH) l14 c14 k14
 have b14:=F14.binds (ps:=["reading", "boxes", "most", "last"]) fun _ _ _ _ _ _ us hl=>by obtain ⟨_,_,_,_,rfl⟩ := ln4 hl; rfl
 have m14:=PySem.W.mg_of X G a14
 have F15:=yF (st:=kL) l15 c15 k15
 have b15:=F15.binds (ps:=["reading", "boxes"]) fun _ _ _ _ _ _ us hl=>by obtain ⟨_,_,rfl⟩ := ln2 hl; rfl
 have m15:=PySem.W.mg_of X G a15
 have F16:=yF (st:=xW) l16 c16 k16
 have b16:=F16.binds (ps:=["reading"]) fun _ _ _ _ _ _ us hl=>by obtain ⟨_,rfl⟩ := ln1 hl; rfl
 have m16:=PySem.W.mg_of X G a16
 have F17:=yF (st:=jS) l17 c17 k17
 have b17:=F17.binds (ps:=["reading", "least"]) fun _ _ _ _ _ _ us hl=>by obtain ⟨_,_,rfl⟩ := ln2 hl; rfl
 have m17:=PySem.W.mg_of X G a17
 have F18:=yF (st:=xX) l18 c18 k18
 have b18:=F18.binds (ps:=["reading"]) fun _ _ _ _ _ _ us hl=>by obtain ⟨_,rfl⟩ := ln1 hl; rfl
 have m18:=PySem.W.mg_of X G a18
 have F19:=yF (st:=kK) l19 c19 k19
 have b19:=F19.binds (ps:=["reading", "kind", "boxes"]) fun _ _ _ _ _ _ us hl=>by obtain ⟨_,_,_,rfl⟩ := ln3 hl; rfl
 have m19:=PySem.W.mg_of X G a19
 have F20:=yF (st:=jT) l20 c20 k20
 have b20:=F20.binds (ps:=["reading", "boxes"]) fun _ _ _ _ _ _ us hl=>by obtain ⟨_,_,rfl⟩ := ln2 hl; rfl
 have m20:=PySem.W.mg_of X G a20
 have F21:=yF (st:=jD) l21 c21 k21
 have b21:=F21.binds (ps:=["reading", "boxes", "deep"]) fun _ _ _ _ _ _ us hl=>by obtain ⟨_,_,_,rfl⟩ := ln3 hl; rfl
 have m21:=PySem.W.mg_of X G a21
 have F22:=yF (st:=yW) l22 c22 k22
 have b22:=F22.binds (ps:=["reading"]) fun _ _ _ _ _ _ us hl=>by obtain ⟨_,rfl⟩ := ln1 hl; rfl
 have m22:=PySem.W.mg_of X G a22
 have F23:=yF (st:=jC) l23 c23 k23
 have b23:=F23.binds (ps:=["text"]) fun _ _ _ _ _ _ us hl=>by obtain ⟨_,rfl⟩ := ln1 hl; rfl
 have m23:=PySem.W.mg_of X G a23
 have F24:=yF (st:=kP) l24 c24 k24
 have b24:=F24.binds (ps:=["_law_script", "_law_k"]) fun _ _ _ _ _ _ us hl=>by obtain ⟨_,_,rfl⟩ := ln2 hl; rfl
 have m24:=PySem.W.mg_of X G a24
 have F25:=yF (st:=jX) l25 c25 k25
 have b25:=F25.binds (ps:=["_law_pen_here", "_law_many"]) fun _ _ _ _ _ _ us hl=>by obtain ⟨_,_,rfl⟩ := ln2 hl; rfl
 have m25:=PySem.W.mg_of X G a25
 have F26:=yF (st:=jI) l26 c26 k26
 have b26:=F26.binds (ps:=[]) fun _ _ _ _ _ _ us hl=>by obtain ⟨rfl⟩ := ln0 hl; rfl
 have m26:=PySem.W.mg_of X G a26
 have F27:=yF (st:=jE) l27 c27 k27
 have b27:=F27.binds (ps:=["_law_pen_here", "_law_taken"]) fun _ _ _ _ _ _ us hl=>by obtain ⟨_,_,rfl⟩ := ln2 hl; rfl
 have m27:=PySem.W.mg_of X G a27
 have F28:=yF (st:=jK) l28 c28 k28
 have b28:=F28.binds (ps:=["_law_pen_here", "_law_most"]) fun _ _ _ _ _ _ us hl=>by obtain ⟨_,_,rfl⟩ := ln2 hl; rfl
 have m28:=PySem.W.mg_of X G a28
 have F29:=yF (st:=xZ) l29 c29 k29
 have b29:=F29.binds (ps:=["_law_pen_here", "_law_is_far"]) fun _ _ _ _ _ _ us hl=>by obtain ⟨_,_,rfl⟩ := ln2 hl; rfl
 have m29:=PySem.W.mg_of X G a29
 have F30:=yF (st:=xT) l30 c30 k30
 have b30:=F30.binds (ps:=["_law_pen_here", "_law_heads_here", "_law_boxes", "_law_left", "_law_deep"]) fun _ _ _ _ _ _ us hl=>by obtain ⟨_,_,_,_,_,rfl⟩ := ln5 hl; rfl
 have m30:=PySem.W.mg_of X G a30
 have F31:=yF (st:=xB) l31 c31 k31
 have b31:=F31.binds (ps:=["_law_pen_here", "_law_most", "_law_room"]) fun _ _ _ _ _ _ us hl=>by obtain ⟨_,_,_,rfl⟩ := ln3 hl; rfl
 have m31:=PySem.W.mg_of X G a31
 have F32:=yF (st:=jJ) l32 c32 k32
 have b32:=F32.binds (ps:=["_law_e", "_law_at"]) fun _ _ _ _ _ _ us hl=>by obtain ⟨_,_,rfl⟩ := ln2 hl; rfl
 have m32:=PySem.W.mg_of X G a32
 have F33:=yF (st:=jA) l33 c33 k33
 have b33:=F33.binds (ps:=["_law_text"]) fun _ _ _ _ _ _ us hl=>by obtain ⟨_,rfl⟩ := ln1 hl; rfl
 have m33:=PySem.W.mg_of X G a33
 have F34:=yF (st:=xA) l34 c34 k34
 have b34:=F34.binds (ps:=[]) fun _ _ _ _ _ _ us hl=>by obtain ⟨rfl⟩ := ln0 hl; rfl
 have m34:=PySem.W.mg_of X G a34
 have F35:=yF (st:=yO) l35 c35 k35
 have b35:=F35.binds (ps:=["_law_pen_here", "_law_names", "_law_number_here"]) fun _ _ _ _ _ _ us hl=>by obtain ⟨_,_,_,rfl⟩ := ln3 hl; rfl
 have m35:=PySem.W.mg_of X G a35
 have F36:=yF (st:=yL) l36 c36 k36
 have b36:=F36.binds (ps:=["_law_pen_here", "_law_names"]) fun _ _ _ _ _ _ us hl=>by obtain ⟨_,_,rfl⟩ := ln2 hl; rfl
 have m36:=PySem.W.mg_of X G a36
 have F37:=yF (st:=xS) l37 c37 k37
 have b37:=F37.binds (ps:=[]) fun _ _ _ _ _ _ us hl=>by obtain ⟨rfl⟩ := ln0 hl; rfl
 have m37:=PySem.W.mg_of X G a37
 have F38:=yF (st:=xY) l38 c38 k38
 have b38:=F38.binds (ps:=["_law_pen_here", "_law_names", "_law_lines"]) fun _ _ _ _ _ _ us hl=>by obtain ⟨_,_,_,rfl⟩ := ln3 hl; rfl
 have m38:=PySem.W.mg_of X G a38
 have F39:=yF (st:=jW) l39 c39 k39
 have b39:=F39.binds (ps:=["_law_names", "_law_lines"]) fun _ _ _ _ _ _ us hl=>by obtain ⟨_,_,rfl⟩ := ln2 hl; rfl
 have m39:=PySem.W.mg_of X G a39
 have F40:=yF (st:=s_law) l40 c40 k40
 refine ⟨PySem.W.fnOf "law" "law" (defArgs s_law) (defBody s_law) (defScope s_law) .none kV40 dc40 pm40 an40 cd40 ct40,fun s v => .of_eq rfl,fun base _ _ => ?_⟩
 have TS:TxtS K mg:=⟨PySem.W.mg_none_of X G z_len,⟨_,PySem.W.mg_of X G s_FIGURES⟩,⟨_,PySem.W.mg_of X G i_MOST_FIGURES⟩⟩
 have T:Txt K mg aP aW aH cNoText cReading:=⟨PySem.W.mg_none_of X G z_len,PySem.W.mg_none_of X G z_range,PySem.W.mg_none_of X G z_int,PySem.W.mg_none_of X G z_tuple,PySem.W.mg_none_of X G z_str,PySem.W.mg_none_of X G z_isinstance,⟨_,PySem.W.mg_of X G i_NUMBER⟩,⟨_,PySem.W.mg_of X G i_GET⟩,⟨_,PySem.W.mg_of X G i_SET⟩,⟨_,PySem.W.mg_of X G i_ALL⟩,⟨_,PySem.W.mg_of X G i_PICK⟩,⟨_,PySem.W.mg_of X G i_LOOP⟩,⟨_,PySem.W.mg_of X G i_CALL⟩,⟨_,PySem.W.mg_of X G i_FAIL⟩,⟨_,PySem.W.mg_of X G i_MOST_FUNCTIONS⟩,⟨_,PySem.W.mg_of X G i_MOST_PARAMS⟩,⟨_,PySem.W.mg_of X G i_MOST_BOXES⟩,⟨_,PySem.W.mg_of X G i_MOST_DEEP⟩,⟨_,PySem.W.mg_of X G i_MOST_MANY⟩,⟨_,PySem.W.mg_of X G i_LEAST_ALL⟩,⟨_,PySem.W.mg_of X G i_LEAST_PICK⟩,⟨_,PySem.W.mg_of X G i_MOST_LETTERS⟩,⟨_,PySem.W.mg_of X G i_MOST_FIGURES⟩,⟨_,PySem.W.mg_of X G s_LETTERS⟩,⟨_,PySem.W.mg_of X G s_FIGURES⟩,PySem.W.mg_of X G g_WORDS,PySem.W.mg_of X G g_HEAD_WORDS,PySem.W.mg_of X G g_PARTS,fun H=>sqT_of (xs:=[V.str "set",V.str "all",V.str "pick",V.str "loop",V.str "call",V.str "fail",V.str "add",V.str "sub",V.str "mul",V.str "quo",V.str "rest",V.str "less",V.str "same",V.str "push",V.str "at",V.str "put",V.str "size",V.str "new"]) o_WORDS (small (show 18<=1000 by decide)) (.cons ⟨_,rfl⟩ (.cons ⟨_,rfl⟩ (.cons ⟨_,rfl⟩ (.cons ⟨_,rfl⟩ (.cons ⟨_,rfl⟩ (.cons ⟨_,rfl⟩ (.cons ⟨_,rfl⟩ (.cons ⟨_,rfl⟩ (.cons ⟨_,rfl⟩ (.cons ⟨_,rfl⟩ (.cons ⟨_,rfl⟩ (.cons ⟨_,rfl⟩ (.cons ⟨_,rfl⟩ (.cons ⟨_,rfl⟩ (.cons ⟨_,rfl⟩ (.cons ⟨_,rfl⟩ (.cons ⟨_,rfl⟩ (.cons ⟨_,rfl⟩ (.nil))))))))))))))))))) H,⟨_,o_WORDS,rfl,rfl⟩,fun H=>sqT_of (xs:=[V.str "fun",V.str "with",V.str "is"]) o_HEAD_WORDS (small (show 3<=1000 by decide)) (.cons ⟨_,rfl⟩ (.cons ⟨_,rfl⟩ (.cons ⟨_,rfl⟩ (.nil)))) H,fun H=>sqT_of (xs:=[V.int 1,V.int 2,V.int 2,V.int 2,V.int 2,V.int 2,V.int 2,V.int 2,V.int 2,V.int 2,V.int 3,V.int 1,V.int 0]) o_PARTS (small (show 13<=1000 by decide)) (.cons ⟨_,rfl⟩ (.cons ⟨_,rfl⟩ (.cons ⟨_,rfl⟩ (.cons ⟨_,rfl⟩ (.cons ⟨_,rfl⟩ (.cons ⟨_,rfl⟩ (.cons ⟨_,rfl⟩ (.cons ⟨_,rfl⟩ (.cons ⟨_,rfl⟩ (.cons ⟨_,rfl⟩ (.cons ⟨_,rfl⟩ (.cons ⟨_,rfl⟩ (.cons ⟨_,rfl⟩ (.nil)))))))))))))) H,kit_self,⟨exc_cd xN,xobj,xbase,xsa,xga,xnh⟩,xat,⟨R_pg,R_hd,R_po,R_sa⟩,R_words,R_at,R_names,R_heads,R_bodies,R_numbered,R_counted⟩
 have TL:TxtL K mg:=⟨PySem.W.mg_none_of X G z_len,PySem.W.mg_none_of X G z_range,PySem.W.mg_none_of X G z_int,PySem.W.mg_none_of X G z_str,PySem.W.mg_none_of X G z_all,PySem.W.mg_none_of X G z_list,PySem.W.mg_none_of X G z_bool,PySem.W.mg_none_of X G z_tuple,PySem.W.mg_none_of X G z_isinstance,kit_self,kit_self,kit_self,vC u_bool⟩
 have TLS:TxtLS K mg:=⟨TL,PySem.W.mg_none_of X G z_sum⟩
 have TE:TxtE K mg cNoSheet cNoText cNoCode cNoName cNoRow cChainError:=⟨PySem.W.mg_none_of X G z_isinstance,PySem.W.mg_none_of X G z_int,PySem.W.mg_none_of X G z_bool,PySem.W.mg_none_of X G z_ValueError,PySem.W.mg_of X G c_NoSheet,PySem.W.mg_of X G c_NoText,PySem.W.mg_of X G c_NoCode,PySem.W.mg_of X G c_NoName,PySem.W.mg_of X G c_NoRow,PySem.W.mg_of X G c_ChainError,T.exc,⟨yha,yhn,ytk⟩,⟨su_ChainError,ty_ChainError,cl_ChainError,xb_ChainError⟩,xat,kit_ref su_NoText ty_NoText cl_NoText su_NoText,kit_ref su_NoCode ty_NoCode cl_NoCode su_NoText,kit_ref su_NoName ty_NoName cl_NoName su_NoText,kit_ref su_NoRow ty_NoRow cl_NoRow su_NoText,kit_ref su_NoSheet ty_NoSheet cl_NoSheet su_NoText,vC ve_ rfl,kit_self,vC u_bool⟩
 have X0:CalX l.prog w K mg base 1 "NoText" cNoText _ _:=⟨⟨_,_,ExMk.ofValue ⟨_,_,_,_,_,_,_,_,_,_,_,_,_,_,_,_,xN,exc_tail xC rfl (ns_ok xD xE) xF⟩ a0 xty xkp T.exc,ok_init1 T F0,PySem.W.mg_of X G c_NoText,b0⟩⟩
 have C1:Cal l.prog w K mg base (CXE l.prog w) 1 "parts_of" _ _:=⟨⟨_,_,ok_partsW T F1,m1,k1,b1⟩⟩
 have C2:Cal l.prog w K mg base (CXE l.prog w) 1 "kind_of" _ _:=⟨⟨_,_,ok_kind_of T F2,m2,k2,b2⟩⟩
 have C3:Cal l.prog w K mg base (CXE l.prog w) 2 "parts_due" _ _:=⟨⟨_,_,ok_dueW T F3 C1,m3,k3,b3⟩⟩
 have C4:Cal l.prog w K mg base (CXE l.prog w) 1 "words_of" _ _:=⟨⟨_,_,ok_words_of F4,m4,k4,b4⟩⟩
 have C5:Cal l.prog w K mg base (CXE l.prog w) 1 "is_written_in" _ _:=⟨⟨_,_,ok_written_in F5,m5,k5,b5⟩⟩
 have C6:Cal l.prog w K mg base (CXE l.prog w) 2 "is_name" _ _:=⟨⟨_,_,ok_is_name T F6 C5,m6,k6,b6⟩⟩
 have C7:Cal l.prog w K mg base (CXE l.prog w) 2 "is_number_of" _ _:=⟨⟨_,_,ok_number_of TS F7 C5,m7,k7,b7⟩⟩
 have C8:Cal l.prog w K mg base (CXE l.prog w) 3 "is_number" _ _:=⟨⟨_,_,ok_number TS F8 C7,m8,k8,b8⟩⟩
 have C10:Cal l.prog w K mg base (CXE l.prog w) 1 "number_names" _ _:=⟨⟨_,_,ok_numNames T F10,m10,k10,b10⟩⟩
 have C11:Cal l.prog w K mg base (CXE l.prog w) 1 "count_params" _ _:=⟨⟨_,_,ok_count T F11,m11,k11,b11⟩⟩
 have D9:CalK l.prog w K mg base (CXE l.prog w) 2 "Reading" cReading _ _:=⟨⟨_,_,⟨R_makes,a9,fn_Reading___init__,R_kp⟩,ok_initR T F9 C10 C11,PySem.W.mg_of X G c_Reading,b9⟩⟩
 have C12:Cal l.prog w K mg base (CXE l.prog w) 3 "due" _ _:=⟨⟨_,_,ok_dueR T F12 X0,m12,k12,b12⟩⟩
 have C13:Cal l.prog w K mg base (CXE l.prog w) 4 "take_new_name" _ _:=⟨⟨_,_,ok_newR T F13 X0 C12 C6,m13,k13,b13⟩⟩
 have C14:Cal l.prog w K mg base (CXE l.prog w) 5 "take_boxes" _ _:=⟨⟨_,_,ok_boxesR T F14 X0 C12 C13,m14,k14,b14⟩⟩
 have C15:Cal l.prog w K mg base (CXE l.prog w) 4 "take_box" _ _:=⟨⟨_,_,ok_boxR T F15 X0 C12,m15,k15,b15⟩⟩
 have C16:Cal l.prog w K mg base (CXE l.prog w) 4 "take_number" _ _:=⟨⟨_,_,ok_numR T F16 X0 C12 C8,m16,k16,b16⟩⟩
 have C17:Cal l.prog w K mg base (CXE l.prog w) 5 "take_many" _ _:=⟨⟨_,_,ok_manyR T F17 X0 C16,m17,k17,b17⟩⟩
 have C18:Cal l.prog w K mg base (CXE l.prog w) 4 "take_called" _ _:=⟨⟨_,_,ok_calledR T F18 X0 C12 C6,m18,k18,b18⟩⟩
 have C19:Cal l.prog w K mg base (CXE l.prog w) 6 "take_own" _ _:=⟨⟨_,_,ok_ownR T F19 C15 C16 C17 C18,m19,k19,b19⟩⟩
 have C20:Cal l.prog w K mg base (CXE l.prog w) 4 "take_kind" _ _:=⟨⟨_,_,ok_kindR T F20 X0 C12 C8 C2,m20,k20,b20⟩⟩
 have C21:Cal l.prog w K mg base (CXE l.prog w) 17 "read_node" _ (spNodeR cReading cNoText 10):=⟨⟨_,_,ok_nodesR T F21 X0 C20 C19 C3 m21 k21 b21 10 (Nat.le_refl _),m21,k21,b21⟩⟩
 have C22:Cal l.prog w K mg base (CXE l.prog w) 18 "read_function" _ _:=⟨⟨_,_,ok_funR T F22 X0 C12 C13 C14 C21,m22,k22,b22⟩⟩
 have C23:Cal l.prog w K mg base (CXE l.prog w) 19 "read_text" _ (spReadA K cNoText):=⟨⟨_,_,FnOk.both (ok_readT T F23 X0 C4 D9 C22) (ok_readA T F23 X0 C4 D9 C22),m23,k23,b23⟩⟩
 have C24:Cal l.prog w K mg base (CXE l.prog w) 1 "_law_pen" _ _:=⟨⟨_,_,ok_pen3 TL F24,m24,k24,b24⟩⟩
 have C25:Cal l.prog w K mg base (CXE l.prog w) 1 "_law_draw" _ _:=⟨⟨_,_,ok_draw3 F25,m25,k25,b25⟩⟩
 have C26:Cal l.prog w K mg base (CXE l.prog w) 1 "_law_words" _ _:=⟨⟨_,_,ok_wordsL F26,m26,k26,b26⟩⟩
 have C27:Cal l.prog w K mg base (CXE l.prog w) 2 "_law_name" _ _:=⟨⟨_,_,ok_nameL TL F27 C25 C26,m27,k27,b27⟩⟩
 have C28:Cal l.prog w K mg base (CXE l.prog w) 3 "_law_heads" _ _:=⟨⟨_,_,ok_headsL3 TL F28 C25 C27,m28,k28,b28⟩⟩
 have C29:Cal l.prog w K mg base (CXE l.prog w) 2 "_law_number" _ _:=⟨⟨_,_,ok_numberL F29 C25,m29,k29,b29⟩⟩
 have C30:Cal l.prog w K mg base (CXE l.prog w) 13 "_law_shape" _ (spShapeL 10):=⟨⟨_,_,ok_shapesL TL F30 C25 C26 C29 m30 k30 b30 10,m30,k30,b30⟩⟩
 have C31:Cal l.prog w K mg base (CXE l.prog w) 14 "_law_program" _ _:=⟨⟨_,_,ok_progL TL F31 C28 C30,m31,k31,b31⟩⟩
 have C32:Cal l.prog w K mg base (CXE l.prog w) 1 "_law_right" _ _:=⟨⟨_,_,ok_rightE TE F32,m32,k32,b32⟩⟩
 have C33:Cal l.prog w K mg base (CXE l.prog w) 20 "_law_caught" _ _:=⟨⟨_,_,ok_caught TE F33 C23,m33,k33,b33⟩⟩
 have C34:Cal l.prog w K mg base (CXE l.prog w) 1 "_law_bad_names" _ _:=⟨⟨_,_,ok_badNames F34,m34,k34,b34⟩⟩
 have C35:Cal l.prog w K mg base (CXE l.prog w) 2 "_law_bad_heads" _ _:=⟨⟨_,_,ok_badHeads TL F35 C25 C34,m35,k35,b35⟩⟩
 have C36:Cal l.prog w K mg base (CXE l.prog w) 2 "_law_bad_bodies" _ _:=⟨⟨_,_,ok_badBodies TL F36 C25,m36,k36,b36⟩⟩
 have C37:Cal l.prog w K mg base (CXE l.prog w) 1 "_law_texts" _ _:=⟨⟨_,_,ok_texts F37,m37,k37,b37⟩⟩
 have C38:Cal l.prog w K mg base (CXE l.prog w) 3 "_law_spoilt" _ _:=⟨⟨_,_,ok_spoilt TLS F38 C25 C35 C36,m38,k38,b38⟩⟩
 have C39:Cal l.prog w K mg base (CXE l.prog w) 1 "_law_lone" _ _:=⟨⟨_,_,ok_lone F39,m39,k39,b39⟩⟩
 exact ok_law11 TLS (knT_no (vC v_NoneType) (vC v_int) (vC v_bool) (vC v_list) (vC v_tuple) (vC v_dict)) F40 C24 C25 C31 C39 C38 C37 C33 C32
theorem walk {l:PySem.W.OpenLaw} {q:Program} {loose:List Str} {XP:(Str->Option Value)->Heap->Prop} {YP:World->Heap->Prop} {d:DefRec} {K:Params->PySem.W.Frag} (hn:l.most=some 63) (hdf:d.params.defaults=[])
  (hY:∀ (w:World) (h:Heap),YP w h->(K w.params).In h)
  (F:∀ (w:World) (mg:Str->Option Value) (fa:Addr) (h:Heap),(K w.params).In h->h.Ns mainGlobals mg->mg d.name=some (.ref fa) ->
   ∃ fd:FuncData,(∀ (s:Shared) (u:Value),BindsTo s fd ⟨[u],[]⟩ [("_law_script",u)])/\∀ base:Heap,(K w.params).In base->base.Ns mainGlobals mg->FnOk l.prog w (K w.params) mg base (CXE l.prog w) 21 fa fd ["_law_script"] (spLaw (K w.params))) :
  PySem.W.WalkO q loose XP YP l.row.toRowW d [] (fun f vs=>PySem.call f vs) :=
 L2.walk_of (n:=63) (k:=21) (x := "_law_script") (CX:=fun w=>(CXE l.prog w)) (sp:=fun w=>spLaw (K w.params)) hn (by decide) hdf ⟨rfl,by decide,by decide⟩ hY F (fun _ _ a ns hl hO hS=>⟨a,ns,rfl,Scr.of hO hS,hl,fun _=>rfl⟩) (fun _ _ _ _ _=>cxe_none)
end OcL
namespace OcP
open PySem
set_option compiler.extract_closed false
def B:=PySem.Challenge.pw_ownchain_k11_words_that_cannot_stand.main.body
def s0:Stmt:=let_mvar% ?s:=(_:Stmt); let_mvar% ?f:=(fun (_:B[0]? = some ?s) => ?s); ?f rfl
def s1:Stmt:=let_mvar% ?s:=(_:Stmt); let_mvar% ?f:=(fun (_:B[1]? = some ?s) => ?s); ?f rfl
def s2:Stmt:=let_mvar% ?s:=(_:Stmt); let_mvar% ?f:=(fun (_:B[2]? = some ?s) => ?s); ?f rfl
def s3:Stmt:=let_mvar% ?s:=(_:Stmt); let_mvar% ?f:=(fun (_:B[3]? = some ?s) => ?s); ?f rfl
def s4:Stmt:=let_mvar% ?s:=(_:Stmt); let_mvar% ?f:=(fun (_:B[4]? = some ?s) => ?s); ?f rfl
def s5:Stmt:=let_mvar% ?s:=(_:Stmt); let_mvar% ?f:=(fun (_:B[5]? = some ?s) => ?s); ?f rfl
def s6:Stmt:=let_mvar% ?s:=(_:Stmt); let_mvar% ?f:=(fun (_:B[6]? = some ?s) => ?s); ?f rfl
def s7:Stmt:=let_mvar% ?s:=(_:Stmt); let_mvar% ?f:=(fun (_:B[7]? = some ?s) => ?s); ?f rfl
def s8:Stmt:=let_mvar% ?s:=(_:Stmt); let_mvar% ?f:=(fun (_:B[8]? = some ?s) => ?s); ?f rfl
def s9:Stmt:=let_mvar% ?s:=(_:Stmt); let_mvar% ?f:=(fun (_:B[9]? = some ?s) => ?s); ?f rfl
def s10:Stmt:=let_mvar% ?s:=(_:Stmt); let_mvar% ?f:=(fun (_:B[10]? = some ?s) => ?s); ?f rfl
def s11:Stmt:=let_mvar% ?s:=(_:Stmt); let_mvar% ?f:=(fun (_:B[11]? = some ?s) => ?s); ?f rfl
def s12:Stmt:=let_mvar% ?s:=(_:Stmt); let_mvar% ?f:=(fun (_:B[12]? = some ?s) => ?s); ?f rfl
def s13:Stmt:=let_mvar% ?s:=(_:Stmt); let_mvar% ?f:=(fun (_:B[13]? = some ?s) => ?s); ?f rfl
def s14:Stmt:=let_mvar% ?s:=(_:Stmt); let_mvar% ?f:=(fun (_:B[14]? = some ?s) => ?s); ?f rfl
def s15:Stmt:=let_mvar% ?s:=(_:Stmt); let_mvar% ?f:=(fun (_:B[15]? = some ?s) => ?s); ?f rfl
def s16:Stmt:=let_mvar% ?s:=(_:Stmt); let_mvar% ?f:=(fun (_:B[16]? = some ?s) => ?s); ?f rfl
def s17:Stmt:=let_mvar% ?s:=(_:Stmt); let_mvar% ?f:=(fun (_:B[17]? = some ?s) => ?s); ?f rfl
def s18:Stmt:=let_mvar% ?s:=(_:Stmt); let_mvar% ?f:=(fun (_:B[18]? = some ?s) => ?s); ?f rfl
def s19:Stmt:=let_mvar% ?s:=(_:Stmt); let_mvar% ?f:=(fun (_:B[19]? = some ?s) => ?s); ?f rfl
def s20:Stmt:=let_mvar% ?s:=(_:Stmt); let_mvar% ?f:=(fun (_:B[20]? = some ?s) => ?s); ?f rfl
def s21:Stmt:=let_mvar% ?s:=(_:Stmt); let_mvar% ?f:=(fun (_:B[21]? = some ?s) => ?s); ?f rfl
def s22:Stmt:=let_mvar% ?s:=(_:Stmt); let_mvar% ?f:=(fun (_:B[22]? = some ?s) => ?s); ?f rfl
def s23:Stmt:=let_mvar% ?s:=(_:Stmt); let_mvar% ?f:=(fun (_:B[23]? = some ?s) => ?s); ?f rfl
def s24:Stmt:=let_mvar% ?s:=(_:Stmt); let_mvar% ?f:=(fun (_:B[24]? = some ?s) => ?s); ?f rfl
def s25:Stmt:=let_mvar% ?s:=(_:Stmt); let_mvar% ?f:=(fun (_:B[25]? = some ?s) => ?s); ?f rfl
def s26:Stmt:=let_mvar% ?s:=(_:Stmt); let_mvar% ?f:=(fun (_:B[26]? = some ?s) => ?s); ?f rfl
def s27:Stmt:=let_mvar% ?s:=(_:Stmt); let_mvar% ?f:=(fun (_:B[27]? = some ?s) => ?s); ?f rfl
def s28:Stmt:=let_mvar% ?s:=(_:Stmt); let_mvar% ?f:=(fun (_:B[28]? = some ?s) => ?s); ?f rfl
def s29:Stmt:=let_mvar% ?s:=(_:Stmt); let_mvar% ?f:=(fun (_:B[29]? = some ?s) => ?s); ?f rfl
def s30:Stmt:=let_mvar% ?s:=(_:Stmt); let_mvar% ?f:=(fun (_:B[30]? = some ?s) => ?s); ?f rfl
def s31:Stmt:=let_mvar% ?s:=(_:Stmt); let_mvar% ?f:=(fun (_:B[31]? = some ?s) => ?s); ?f rfl
def s32:Stmt:=let_mvar% ?s:=(_:Stmt); let_mvar% ?f:=(fun (_:B[32]? = some ?s) => ?s); ?f rfl
def s33:Stmt:=let_mvar% ?s:=(_:Stmt); let_mvar% ?f:=(fun (_:B[33]? = some ?s) => ?s); ?f rfl
def s34:Stmt:=let_mvar% ?s:=(_:Stmt); let_mvar% ?f:=(fun (_:B[34]? = some ?s) => ?s); ?f rfl
def s35:Stmt:=let_mvar% ?s:=(_:Stmt); let_mvar% ?f:=(fun (_:B[35]? = some ?s) => ?s); ?f rfl
def s36:Stmt:=let_mvar% ?s:=(_:Stmt); let_mvar% ?f:=(fun (_:B[36]? = some ?s) => ?s); ?f rfl
def s37:Stmt:=let_mvar% ?s:=(_:Stmt); let_mvar% ?f:=(fun (_:B[37]? = some ?s) => ?s); ?f rfl
def s38:Stmt:=let_mvar% ?s:=(_:Stmt); let_mvar% ?f:=(fun (_:B[38]? = some ?s) => ?s); ?f rfl
def s39:Stmt:=let_mvar% ?s:=(_:Stmt); let_mvar% ?f:=(fun (_:B[39]? = some ?s) => ?s); ?f rfl
def s40:Stmt:=let_mvar% ?s:=(_:Stmt); let_mvar% ?f:=(fun (_:B[40]? = some ?s) => ?s); ?f rfl
def s41:Stmt:=let_mvar% ?s:=(_:Stmt); let_mvar% ?f:=(fun (_:B[41]? = some ?s) => ?s); ?f rfl
def s42:Stmt:=let_mvar% ?s:=(_:Stmt); let_mvar% ?f:=(fun (_:B[42]? = some ?s) => ?s); ?f rfl
def s43:Stmt:=let_mvar% ?s:=(_:Stmt); let_mvar% ?f:=(fun (_:B[43]? = some ?s) => ?s); ?f rfl
def s44:Stmt:=let_mvar% ?s:=(_:Stmt); let_mvar% ?f:=(fun (_:B[44]? = some ?s) => ?s); ?f rfl
def s45:Stmt:=let_mvar% ?s:=(_:Stmt); let_mvar% ?f:=(fun (_:B[45]? = some ?s) => ?s); ?f rfl
def s46:Stmt:=let_mvar% ?s:=(_:Stmt); let_mvar% ?f:=(fun (_:B[46]? = some ?s) => ?s); ?f rfl
def s47:Stmt:=let_mvar% ?s:=(_:Stmt); let_mvar% ?f:=(fun (_:B[47]? = some ?s) => ?s); ?f rfl
def s48:Stmt:=let_mvar% ?s:=(_:Stmt); let_mvar% ?f:=(fun (_:B[48]? = some ?s) => ?s); ?f rfl
def s49:Stmt:=let_mvar% ?s:=(_:Stmt); let_mvar% ?f:=(fun (_:B[49]? = some ?s) => ?s); ?f rfl
def s50:Stmt:=let_mvar% ?s:=(_:Stmt); let_mvar% ?f:=(fun (_:B[50]? = some ?s) => ?s); ?f rfl
def s51:Stmt:=let_mvar% ?s:=(_:Stmt); let_mvar% ?f:=(fun (_:B[51]? = some ?s) => ?s); ?f rfl
def s52:Stmt:=let_mvar% ?s:=(_:Stmt); let_mvar% ?f:=(fun (_:B[52]? = some ?s) => ?s); ?f rfl
def s53:Stmt:=let_mvar% ?s:=(_:Stmt); let_mvar% ?f:=(fun (_:B[53]? = some ?s) => ?s); ?f rfl
def s54:Stmt:=let_mvar% ?s:=(_:Stmt); let_mvar% ?f:=(fun (_:B[54]? = some ?s) => ?s); ?f rfl
def s55:Stmt:=let_mvar% ?s:=(_:Stmt); let_mvar% ?f:=(fun (_:B[55]? = some ?s) => ?s); ?f rfl
def s56:Stmt:=let_mvar% ?s:=(_:Stmt); let_mvar% ?f:=(fun (_:B[56]? = some ?s) => ?s); ?f rfl
def s57:Stmt:=let_mvar% ?s:=(_:Stmt); let_mvar% ?f:=(fun (_:B[57]? = some ?s) => ?s); ?f rfl
def s58:Stmt:=let_mvar% ?s:=(_:Stmt); let_mvar% ?f:=(fun (_:B[58]? = some ?s) => ?s); ?f rfl
def s59:Stmt:=let_mvar% ?s:=(_:Stmt); let_mvar% ?f:=(fun (_:B[59]? = some ?s) => ?s); ?f rfl
def s60:Stmt:=let_mvar% ?s:=(_:Stmt); let_mvar% ?f:=(fun (_:B[60]? = some ?s) => ?s); ?f rfl
def s61:Stmt:=let_mvar% ?s:=(_:Stmt); let_mvar% ?f:=(fun (_:B[61]? = some ?s) => ?s); ?f rfl
def s62:Stmt:=let_mvar% ?s:=(_:Stmt); let_mvar% ?f:=(fun (_:B[62]? = some ?s) => ?s); ?f rfl
def s63:Stmt:=let_mvar% ?s:=(_:Stmt); let_mvar% ?f:=(fun (_:B[63]? = some ?s) => ?s); ?f rfl
def s64:Stmt:=let_mvar% ?s:=(_:Stmt); let_mvar% ?f:=(fun (_:B[64]? = some ?s) => ?s); ?f rfl
def s65:Stmt:=let_mvar% ?s:=(_:Stmt); let_mvar% ?f:=(fun (_:B[65]? = some ?s) => ?s); ?f rfl
def s66:Stmt:=let_mvar% ?s:=(_:Stmt); let_mvar% ?f:=(fun (_:B[66]? = some ?s) => ?s); ?f rfl
def s67:Stmt:=let_mvar% ?s:=(_:Stmt); let_mvar% ?f:=(fun (_:B[67]? = some ?s) => ?s); ?f rfl
def s68:Stmt:=let_mvar% ?s:=(_:Stmt); let_mvar% ?f:=(fun (_:B[68]? = some ?s) => ?s); ?f rfl
def s69:Stmt:=let_mvar% ?s:=(_:Stmt); let_mvar% ?f:=(fun (_:B[69]? = some ?s) => ?s); ?f rfl
def s70:Stmt:=let_mvar% ?s:=(_:Stmt); let_mvar% ?f:=(fun (_:B[70]? = some ?s) => ?s); ?f rfl
def s71:Stmt:=let_mvar% ?s:=(_:Stmt); let_mvar% ?f:=(fun (_:B[71]? = some ?s) => ?s); ?f rfl
def s72:Stmt:=let_mvar% ?s:=(_:Stmt); let_mvar% ?f:=(fun (_:B[72]? = some ?s) => ?s); ?f rfl
def sc:Scope:={ kind:=ScopeKind.module,names:=[ (Str.ofString "__name__",NameKind.local),(Str.ofString "ChainError",NameKind.local),(Str.ofString "ValueError",NameKind.globalImplicit),(Str.ofString "NoSheet",NameKind.local),(Str.ofString "NoText",NameKind.local),(Str.ofString "NoCode",NameKind.local),(Str.ofString "NoRow",NameKind.local),(Str.ofString "NoName",NameKind.local),(Str.ofString "NUMBER",NameKind.local),(Str.ofString "GET",NameKind.local),(Str.ofString "SET",NameKind.local),(Str.ofString "ALL",NameKind.local),(Str.ofString "PICK",NameKind.local),(Str.ofString "LOOP",NameKind.local),(Str.ofString "CALL",NameKind.local),(Str.ofString "FAIL",NameKind.local),(Str.ofString "WORDS",NameKind.local),(Str.ofString "PARTS",NameKind.local),(Str.ofString "parts_of",NameKind.local),(Str.ofString "kind_of",NameKind.local),(Str.ofString "MOST_FUNCTIONS",NameKind.local),(Str.ofString "MOST_PARAMS",NameKind.local),(Str.ofString "MOST_BOXES",NameKind.local),(Str.ofString "MOST_DEEP",NameKind.local),(Str.ofString "MOST_MANY",NameKind.local),(Str.ofString "LEAST_ALL",NameKind.local),(Str.ofString "LEAST_PICK",NameKind.local),(Str.ofString "parts_due",NameKind.local),(Str.ofString "LETTERS",NameKind.local),(Str.ofString "FIGURES",NameKind.local),(Str.ofString "MOST_LETTERS",NameKind.local),(Str.ofString "MOST_FIGURES",NameKind.local),(Str.ofString "HEAD_WORDS",NameKind.local),(Str.ofString "words_of",NameKind.local),(Str.ofString "is_written_in",NameKind.local),(Str.ofString "is_name",NameKind.local),(Str.ofString "is_number_of",NameKind.local),(Str.ofString "is_number",NameKind.local),(Str.ofString "Reading",NameKind.local),(Str.ofString "number_names",NameKind.local),(Str.ofString "count_params",NameKind.local),(Str.ofString "due",NameKind.local),(Str.ofString "take_new_name",NameKind.local),(Str.ofString "take_boxes",NameKind.local),(Str.ofString "take_box",NameKind.local),(Str.ofString "take_number",NameKind.local),(Str.ofString "take_many",NameKind.local),(Str.ofString "take_called",NameKind.local),(Str.ofString "take_own",NameKind.local),(Str.ofString "take_kind",NameKind.local),(Str.ofString "read_node",NameKind.local),(Str.ofString "read_function",NameKind.local),(Str.ofString "read_text",NameKind.local),(Str.ofString "_law_pen",NameKind.local),(Str.ofString "_law_draw",NameKind.local),(Str.ofString "_law_words",NameKind.local),(Str.ofString "_law_name",NameKind.local),(Str.ofString "_law_heads",NameKind.local),(Str.ofString "_law_number",NameKind.local),(Str.ofString "_law_shape",NameKind.local),(Str.ofString "_law_program",NameKind.local),(Str.ofString "_law_right",NameKind.local),(Str.ofString "_law_caught",NameKind.local),(Str.ofString "_law_bad_names",NameKind.local),(Str.ofString "_law_bad_heads",NameKind.local),(Str.ofString "_law_bad_bodies",NameKind.local),(Str.ofString "_law_texts",NameKind.local),(Str.ofString "_law_spoilt",NameKind.local),(Str.ofString "_law_lone",NameKind.local),(Str.ofString "law",NameKind.local)],isGenerator:=false,isCoroutine:=false,more:=[]:Scope }
def gi:Given:={ argv:=[],stdin:=[],environ:=(some [([76,67,95,65,76,76],[67,46,85,84,70,45,56])]):PySem.Given }
def fi:Str := "/claim/cut.py"
def pw:Program:={ main:={ body:=[s0,s1,s2,s3,s4,s5,s6,s7,s8,s9,s10,s11,s12,s13,s14,s15,s16,s17,s18,s19,s20,s21,s22,s23,s24,s25,s26,s27,s28,s29,s30,s31,s32,s33,s34,s35,s36,s37,s38,s39,s40,s41,s42,s43,s44,s45,s46,s47,s48,s49,s50,s51,s52,s53,s54,s55,s56,s57,s58,s59,s60,s61,s62,s63,s64,s65,s66,s67,s68,s69,s70,s71,s72],scope:=sc,futureAnnotations:=false,file:=fi,more:=[] },modules:=[],parses:=[],absent:=[],harvested:=[],given:=gi }
def rw:PySem.W.OpenLaw:={ prog:=pw,name:=(PySem.Str.ofString "law"),about:=[(PySem.Str.ofString "read_text")],foot:=17,most:=some 63,bound:=none,writes:=false }
theorem rw_eq:PySem.Challenge.rw_ownchain_k11_words_that_cannot_stand=rw:=rfl
end OcP

namespace PySem.W.Fast
 def tw17571144057399852557:=() def tw5119513012282313492:=() def tw14807333204200353489:=() def tw16298587599488601168:=() def tw13207379214936184456:=() def tw5164056489660348951:=() def tw13405344573268788134:=() def tw17844568908301626069:=()
 def tw4720064133329348241:=() def tw9308672557010468010:=() def tw5619365655032494303:=() def tw12969288113182972751:=() def tw8517525351370531991:=() def tw18362441552483540459:=() def tw865457638276969568:=() def tw4006795466268721372:=()
 def tw13227282946405152675:=() def tw4947894334430146966:=() def tw7437007421355729921:=() def tw15785093346576323213:=() def tw2122656772985257829:=() def tw15942858303920066173:=() def tw1954005082201902024:=() def tw16688863603441222634:=()
 def tw12020789019608937279:=() def tw1156027394319096959:=() def tw13988220117011445415:=() def tw3468768050397130939:=() def tw11146304748088035672:=() def tw10653408530232124564:=() def tw8585510818740389318:=() def tw14602999306552450275:=()
 def tw11800944896211648681:=() def tw9936922058258053613:=() def tw11672481431608574737:=() def tw4014878471384722540:=() def tw3920997821775281638:=() def tw16347481194663501346:=() def tw3652656877503815116:=() def tw5001241818784140273:=()
 def tw8602839633547709273:=() def tw2396930627959044580:=() def tw12496827410621145727:=() def tw8653483834259937693:=() def tw17162066590325433670:=() def tw13290483940840312723:=() def tw10847894398677678363:=() def tw402125754407498501:=()
 def tw18420627715751799313:=() def tw8237230346269958121:=() def tw5862592174016072086:=() def tw7738827928332093686:=() def tw16963008670994588232:=() def tw4714182422048715414:=() def tw11403410345578014231:=() def tw14704793036040141793:=()
 def tw6787218340040759817:=() def tw16888593058568188060:=() def tw13399647812841350580:=() def tw16399254984425615527:=() def tw6563306617723742454:=() def tw11024050801483369755:=() def tw2612896049888408208:=() def tw13526785710771871837:=()
 def tw10205140682668769088:=() def tw10095337595990552896:=() def tw17104124975606821286:=() def tw4944585713639741320:=() def tw4941189317912831124:=() def tw12176191046148130060:=() def tw13219403207040317349:=() def tw7652729101455586768:=()
 def tw8456720137423223570:=() def tw13038965017176307591:=() def tw12015773985720800746:=() def tw15393935615573832441:=() def tw3516889478997157118:=() def tw18075057216627889812:=() def tw16215185338289937625:=() def tw13480357529775523088:=()
 def tw5113820797604914247:=() def tw2162847697159562953:=() def tw457638862556293037:=() def tw10274860457105008197:=() def tw18440504548487265333:=() def tw16284187273308516880:=() def tw7783305655949750717:=() def tw16473651211758337296:=()
 def tw1474487113587421041:=() def tw6891756189836540559:=() def tw11774751992721890279:=() def tw18309674617500921921:=() def tw12100349916138334898:=() def tw17797187836229063853:=() def tw13136225080532346149:=() def tw12806075830522204888:=()
 def tw10294146121251703901:=() def tw3746591881212308966:=() def tw16933693785663539079:=() def tw16572118443856833920:=() def tw11011007720429048600:=() def tw4562137382643900803:=() def tw9843536557161553984:=() def tw5503695235424456103:=()
 def tw17719990304008588371:=() def tw5851048716591837458:=() def tw14065522167707770620:=() def tw10690406915522758226:=() def tw7306307373613571812:=() def tw16554574518126143086:=() def tw18180371601467633941:=() def tw14435793716130363177:=()
 def tw8702116616446581585:=() def tw5508953710589214721:=() def tw17046441261587886289:=() def tw2982420724672693443:=() def tw2169561010235352985:=() def tw18021074360244386876:=() def tw6475021976210341726:=() def tw3204784541549258456:=()
 def tw14622768431169789763:=() def tw17870024905098702261:=() def tw16508804276001255239:=() def tw13765661486876519122:=() def tw1157995654896446320:=() def tw2551660406522307534:=() def tw3117740872196028225:=() def tw15946119678962427526:=()
 def tw8964693762296542033:=() def tw14816487799940685690:=() def tw11572165628471021681:=() def tw12595244617310841441:=() def tw17305869295612152203:=() def tw8877479616830226796:=() def tw9113173738749278664:=() def tw6198732662570149989:=()
 def tw657690105889049752:=() def tw5046266579921654875:=() def tw109675178909106790:=() def tw319259741799994071:=() def tw3215258914770711601:=() def tw17245072874349558429:=() def tw819806894896905390:=() def tw15753257602933265573:=()
 def tw10385508423995109751:=() def tw8802054855318682225:=() def tw156784963686658399:=() def tw84166716052394742:=() def tw9151093252023916496:=() def tw737783255858740046:=() def tw6460138481645445917:=() def tw1040549067459302838:=()
 def tw3411060573923502409:=() def tw8640334424117600073:=() def tw7817403981709673795:=() def tw12084909078869321371:=() def tw6121163914760068881:=() def tw17512940013190464272:=() def tw6419282017608250171:=() def tw16137092360694771064:=()
 def tw9974716271345630513:=() def tw2191685268910374586:=() def tw425935196707019133:=() def tw5979071577841314274:=() def tw3404874350552962789:=() def tw11997488529719640328:=() def tw11051895856736269369:=() def tw14290705788053995204:=()
 def tw8290953376149069739:=() def tw3011479009226204993:=() def tw4252349895835224593:=() def tw6584294270285493097:=() def tw16596674691984791465:=() def tw15057610526144787656:=() def tw7523855965125238494:=() def tw9741407313775640703:=()
 def tw5580339421321945243:=() def tw17052029395225748586:=() def tw1582361744971757596:=() def tw7789538730660325629:=() def tw17390195696644914879:=() def tw6692315155899474777:=() def tw14569010541954517760:=() def tw2010041801220342146:=()
 def tw7940040985644193905:=() def tw16650054302597947324:=() def tw4837448281847554284:=() def tw2291674798767459227:=() def tw5421943568361283986:=() def tw10293845142339894756:=() def tw15977865269213283560:=() def tw3089578950203060986:=()
 def tw12893831183675964358:=() def tw10993095156085481148:=() def tw4780287401407178423:=() def tw1855123662333009263:=() def tw10434733344595381586:=() def tw1763895669276120750:=() def tw4035015422580141298:=() def tw3646179332093153975:=()
 def tw1875403070004108321:=() def tw4991750026579388213:=() def tw10456299034511953821:=() def tw14823351758056472979:=() def tw2808964630674040706:=() def tw15845036003451152603:=() def tw6784126891683811063:=()
end PySem.W.Fast
open PySem PySem.W PyProof.Rows
set_option maxRecDepth 100000 in
set_option maxHeartbeats 0 in
theorem PySem.Challenge.cw_ownchain_k11_words_that_cannot_stand_holds : PySem.Challenge.rw_ownchain_k11_words_that_cannot_stand.Holds := by
 rw [OcP.rw_eq]
 w_on; o_law; z_head; (case hw=>w_witness2)
 k_fill
 refine L2.walkX_of (fun P=>rfl) ?_
 refine OcL.walk (l:=OcP.rw) rfl rfl (fun w h Y=>Y) ?F
 case F =>
  intro w mg fa h KX G hmg
  refine' OcL.all_mk KX G hmg ?c_NoText ?c_Reading ?c_NoSheet ?c_NoCode ?c_NoRow ?c_NoName ?c_ChainError ?a0 ?l0 ?c0 ?k0 ?a1 ?l1 ?c1 ?k1 ?a2 ?l2 ?c2 ?k2 ?a3 ?l3 ?c3 ?k3 ?a4 ?l4 ?c4 ?k4 ?a5 ?l5 ?c5 ?k5 ?a6 ?l6 ?c6 ?k6 ?a7 ?l7 ?c7 ?k7 ?a8 ?l8 ?c8 ?k8 ?a9 ?l9 ?c9 ?k9 ?a10 ?l10 ?c10 ?k10 ?a11 ?l11 ?c11 ?k11 ?a12 ?l12 ?c12 ?k12 ?a13 ?l13 ?c13 ?k13 ?a14 ?l14 ?c14 ?k14 ?a15 ?l15 ?c15 ?k15 ?a16 ?l16 ?c16 ?k16 ?a17 ?l17 ?c17 ?k17 ?a18 ?l18 ?c18 ?k18 ?a19 ?l19 ?c19 ?k19 ?a20 ?l20 ?c20 ?k20 ?a21 ?l21 ?c21 ?k21 ?a22 ?l22 ?c22 ?k22 ?a23 ?l23 ?c23 ?k23 ?a24 ?l24 ?c24 ?k24 ?a25 ?l25 ?c25 ?k25 ?a26 ?l26 ?c26 ?k26 ?a27 ?l27 ?c27 ?k27 ?a28 ?l28 ?c28 ?k28 ?a29 ?l29 ?c29 ?k29 ?a30 ?l30 ?c30 ?k30 ?a31 ?l31 ?c31 ?k31 ?a32 ?l32 ?c32 ?k32 ?a33 ?l33 ?c33 ?k33 ?a34 ?l34 ?c34 ?k34 ?a35 ?l35 ?c35 ?k35 ?a36 ?l36 ?c36 ?k36 ?a37 ?l37 ?c37 ?k37 ?a38 ?l38 ?c38 ?k38 ?a39 ?l39 ?c39 ?k39 ?a40 ?l40 ?c40 ?k40 ?z_len ?z_range ?z_int ?z_tuple ?z_str ?z_isinstance ?z_all ?z_list ?z_bool ?z_sum ?z_ValueError ?i_NUMBER ?i_GET ?i_SET ?i_ALL ?i_PICK ?i_LOOP ?i_CALL ?i_FAIL ?i_MOST_FUNCTIONS ?i_MOST_PARAMS ?i_MOST_BOXES ?i_MOST_DEEP ?i_MOST_MANY ?i_LEAST_ALL ?i_LEAST_PICK ?i_MOST_LETTERS ?i_MOST_FIGURES ?s_LETTERS ?s_FIGURES ?g_WORDS ?o_WORDS ?g_HEAD_WORDS ?o_HEAD_WORDS ?g_PARTS ?o_PARTS ?u_bool ?fn_Reading___init__ ?R_makes ?R_kp ?R_pg ?R_hd ?R_po ?R_sa ?R_words ?R_at ?R_names ?R_heads ?R_bodies ?R_numbered ?R_counted ?xN ?xC ?xD ?xF ?xkp ?xty ?xobj ?xbase ?xsa ?xga ?xnh ?xat ?xE ?v_NoneType ?v_int ?v_bool ?v_list ?v_tuple ?v_dict ?ty_NoSheet ?cl_NoSheet ?su_NoSheet ?ty_NoCode ?cl_NoCode ?su_NoCode ?ty_NoRow ?cl_NoRow ?su_NoRow ?ty_NoName ?cl_NoName ?su_NoName ?ty_ChainError ?cl_ChainError ?su_ChainError ?ty_NoText ?cl_NoText ?su_NoText ?xb_ChainError ?ve_ ?yha ?yhn ?ytk
  (case c_NoText=>k_is)
  (case c_Reading=>k_is)
  (case c_NoSheet=>k_is)
  (case c_NoCode=>k_is)
  (case c_NoRow=>k_is)
  (case c_NoName=>k_is)
  (case c_ChainError=>k_is)
  (case a0=>k_is)
  (case l0=>k_is)
  (case c0=>k_is)
  (case k0=>k_is)
  (case a1=>k_is)
  (case l1=>k_is)
  (case c1=>k_is)
  (case k1=>k_is)
  (case a2=>k_is)
  (case l2=>k_is)
  (case c2=>k_is)
  (case k2=>k_is)
  (case a3=>k_is)
  (case l3=>k_is)
  (case c3=>k_is)
  (case k3=>k_is)
  (case a4=>k_is)
  (case l4=>k_is)
  (case c4=>k_is)
  (case k4=>k_is)
  (case a5=>k_is)
  (case l5=>k_is)
  (case c5=>k_is)
  (case k5=>k_is)
  (case a6=>k_is)
  (case l6=>k_is)
  (case c6=>k_is)
  (case k6=>k_is)
  (case a7=>k_is)
  (case l7=>k_is)
  (case c7=>k_is)
  (case k7=>k_is)
  (case a8=>k_is)
  (case l8=>k_is)
  (case c8=>k_is)
  (case k8=>k_is)
  (case a9=>k_is)
  (case l9=>k_is)
  (case c9=>k_is)
  (case k9=>k_is)
  (case a10=>k_is)
  (case l10=>k_is)
  (case c10=>k_is)
  (case k10=>k_is)
  (case a11=>k_is)
  (case l11=>k_is)
  (case c11=>k_is)
  (case k11=>k_is)
  (case a12=>k_is)
  (case l12=>k_is)
  (case c12=>k_is)
  (case k12=>k_is)
  (case a13=>k_is)
  (case l13=>k_is)
  (case c13=>k_is)
  (case k13=>k_is)
  (case a14=>k_is)
  (case l14=>k_is)
  (case c14=>k_is)
  (case k14=>k_is)
  (case a15=>k_is)
  (case l15=>k_is)
  (case c15=>k_is)
  (case k15=>k_is)
  (case a16=>k_is)
  (case l16=>k_is)
  (case c16=>k_is)
  (case k16=>k_is)
  (case a17=>k_is)
  (case l17=>k_is)
  (case c17=>k_is)
  (case k17=>k_is)
  (case a18=>k_is)
  (case l18=>k_is)
  (case c18=>k_is)
  (case k18=>k_is)
  (case a19=>k_is)
  (case l19=>k_is)
  (case c19=>k_is)
  (case k19=>k_is)
  (case a20=>k_is)
  (case l20=>k_is)
  (case c20=>k_is)
  (case k20=>k_is)
  (case a21=>k_is)
  (case l21=>k_is)
  (case c21=>k_is)
  (case k21=>k_is)
  (case a22=>k_is)
  (case l22=>k_is)
  (case c22=>k_is)
  (case k22=>k_is)
  (case a23=>k_is)
  (case l23=>k_is)
  (case c23=>k_is)
  (case k23=>k_is)
  (case a24=>k_is)
  (case l24=>k_is)
  (case c24=>k_is)
  (case k24=>k_is)
  (case a25=>k_is)
  (case l25=>k_is)
  (case c25=>k_is)
  (case k25=>k_is)
  (case a26=>k_is)
  (case l26=>k_is)
  (case c26=>k_is)
  (case k26=>k_is)
  (case a27=>k_is)
  (case l27=>k_is)
  (case c27=>k_is)
  (case k27=>k_is)
  (case a28=>k_is)
  (case l28=>k_is)
  (case c28=>k_is)
  (case k28=>k_is)
  (case a29=>k_is)
  (case l29=>k_is)
  (case c29=>k_is)
  (case k29=>k_is)
  (case a30=>k_is)
  (case l30=>k_is)
  (case c30=>k_is)
  (case k30=>k_is)
  (case a31=>k_is)
  (case l31=>k_is)
  (case c31=>k_is)
  (case k31=>k_is)
  (case a32=>k_is)
  (case l32=>k_is)
  (case c32=>k_is)
  (case k32=>k_is)
  (case a33=>k_is)
  (case l33=>k_is)
  (case c33=>k_is)
  (case k33=>k_is)
  (case a34=>k_is)
  (case l34=>k_is)
  (case c34=>k_is)
  (case k34=>k_is)
  (case a35=>k_is)
  (case l35=>k_is)
  (case c35=>k_is)
  (case k35=>k_is)
  (case a36=>k_is)
  (case l36=>k_is)
  (case c36=>k_is)
  (case k36=>k_is)
  (case a37=>k_is)
  (case l37=>k_is)
  (case c37=>k_is)
  (case k37=>k_is)
  (case a38=>k_is)
  (case l38=>k_is)
  (case c38=>k_is)
  (case k38=>k_is)
  (case a39=>k_is)
  (case l39=>k_is)
  (case c39=>k_is)
  (case k39=>k_is)
  (case a40=>k_is)
  (case l40=>k_is)
  (case c40=>k_is)
  (case k40=>k_is)
  (case z_len=>k_is)
  (case z_range=>k_is)
  (case z_int=>k_is)
  (case z_tuple=>k_is)
  (case z_str=>k_is)
  (case z_isinstance=>k_is)
  (case z_all=>k_is)
  (case z_list=>k_is)
  (case z_bool=>k_is)
  (case z_sum=>k_is)
  (case z_ValueError=>k_is)
  (case i_NUMBER=>k_is)
  (case i_GET=>k_is)
  (case i_SET=>k_is)
  (case i_ALL=>k_is)
  (case i_PICK=>k_is)
  (case i_LOOP=>k_is)
  (case i_CALL=>k_is)
  (case i_FAIL=>k_is)
  (case i_MOST_FUNCTIONS=>k_is)
  (case i_MOST_PARAMS=>k_is)
  (case i_MOST_BOXES=>k_is)
  (case i_MOST_DEEP=>k_is)
  (case i_MOST_MANY=>k_is)
  (case i_LEAST_ALL=>k_is)
  (case i_LEAST_PICK=>k_is)
  (case i_MOST_LETTERS=>k_is)
  (case i_MOST_FIGURES=>k_is)
  (case s_LETTERS=>k_is)
  (case s_FIGURES=>k_is)
  (case g_WORDS=>k_is)
  (case o_WORDS=>k_is)
  (case g_HEAD_WORDS=>k_is)
  (case o_HEAD_WORDS=>k_is)
  (case g_PARTS=>k_is)
  (case o_PARTS=>k_is)
  (case u_bool=>k_is)
  (case fn_Reading___init__=>k_is)
  (case R_makes=>k_is)
  (case R_kp=>k_is)
  (case R_pg=>k_is)
  (case R_hd=>k_is)
  (case R_po=>k_is)
  (case R_sa=>k_is)
  (case R_words=>k_is)
  (case R_at=>k_is)
  (case R_names=>k_is)
  (case R_heads=>k_is)
  (case R_bodies=>k_is)
  (case R_numbered=>k_is)
  (case R_counted=>k_is)
  (case xN=>k_is)
  (case xC=>k_is)
  (case xD=>k_is)
  (case xF=>k_is)
  (case xkp=>k_is)
  (case xty=>k_is)
  (case xobj=>k_is)
  (case xbase=>k_is)
  (case xsa=>k_is)
  (case xga=>k_is)
  (case xnh=>k_is)
  (case xat=>k_is)
  (case xE=>rfl)
  (case v_NoneType=>k_is)
  (case v_int=>k_is)
  (case v_bool=>k_is)
  (case v_list=>k_is)
  (case v_tuple=>k_is)
  (case v_dict=>k_is)
  (case ty_NoSheet=>k_is)
  (case cl_NoSheet=>k_is)
  (case su_NoSheet=>k_is)
  (case ty_NoCode=>k_is)
  (case cl_NoCode=>k_is)
  (case su_NoCode=>k_is)
  (case ty_NoRow=>k_is)
  (case cl_NoRow=>k_is)
  (case su_NoRow=>k_is)
  (case ty_NoName=>k_is)
  (case cl_NoName=>k_is)
  (case su_NoName=>k_is)
  (case ty_ChainError=>k_is)
  (case cl_ChainError=>k_is)
  (case su_ChainError=>k_is)
  (case ty_NoText=>k_is)
  (case cl_NoText=>k_is)
  (case su_NoText=>k_is)
  (case xb_ChainError=>k_is)
  (case ve_=>k_is)
  (case yha=>k_is)
  (case yhn=>k_is)
  (case ytk=>k_is)
