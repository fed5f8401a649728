import PyProof.Rows.All
import PyProof.SumAny
import PyProof.DictList
import PyProof.AttrMissHeap
import PyProof.TupleIter
import PyProof.ZipIter
import PyProof.AutoSeq1
import PyProof.LayNew
import PyProof.EnumFor
import PyProof.EnumStmt
import PyProof.EnumMake
import PyProof.Rows.TupAdd
import PyProof.ExcClass2
import PyProof.ConsumeWalk
import KE.KRevSl
import KE.KRevIter
import Wide.All
import OpenK.AllK
import Wide.FinOn
import Lean
import PyProof.EqAt
import PyProof.EqKinds
import PyProof.TupleCall
import PyProof.NeKinds
import PySem.Challenge.RW_ownchain_k44_own_text
set_option maxHeartbeats 4000000
set_option genInjectivity false
set_option genSizeOfSpec false
set_option Elab.async false
set_option linter.all false
set_option maxRecDepth 100000
namespace L2
open PySem PySem.Spec PyProof.Rows
abbrev zA:=@PySem.wpAny_bind
abbrev zC:=@List.length_append
abbrev zD:=@PySem.Heap.get?_push_of_some
abbrev zF:=@List.length_map
abbrev zG:=@List.getElem?_eq_getElem
abbrev zH:=@if_neg
abbrev zJ:=@List.length_cons
abbrev zL:=@PySem.wpAny_pure
abbrev zM:=@List.mem_cons_self
abbrev zN:=@List.mem_cons_of_mem
abbrev zO:=@of_decide_eq_true
abbrev zP:=@Nat.le_refl
abbrev zR:=@if_pos
abbrev zU:=@List.mem_of_getElem?
abbrev zV:=@List.size_toArray
abbrev zW:=@List.getElem?_map
abbrev zX:=@PySem.Heap.lt_size
abbrev zZ:=@Bool.false_ne_true
abbrev yA:=@decide_eq_true
abbrev yB:=@PySem.F.plainAttrs_list
abbrev yC:=@PySem.Heap.get?_push_size
abbrev yD:=@decide_eq_false
abbrev yG:=@Nat.lt_of_lt_of_le
abbrev yI:=@Array.length_toList
abbrev yJ:=@Nat.le_trans
abbrev yK:=@PySem.F.type_list_append
abbrev yL:=@PySem.F.slot_list_append
abbrev yM:=@List.map_cons
abbrev yP:=@Bool.and_eq_true
abbrev yT:=@List.append_assoc
abbrev yX:=@List.length_take
abbrev yY:=@List.append_nil
abbrev yZ:=@PySem.Heap.get?_update_other
abbrev xA:=@Nat.zero_le
abbrev xB:=@List.mem_append_right
abbrev xG:=@PySem.wpAny_field
abbrev xH:=@List.map_append
abbrev xK:=@PySem.W.mg_none_of
abbrev xM:=@congrArg
abbrev xP:=@Option.some.inj
abbrev xR:=@Nat.ne_of_lt
abbrev xV:=@PySem.wpAny_callSpecial?_slot
abbrev xW:=@List.getD_eq_getElem?_getD
abbrev xX:=@PySem.wpAny_newObj_type
abbrev xY:=@List.drop_eq_getElem_cons
abbrev jB:=@List.nil_append
abbrev jD:=@PySem.Heap.get?_update_self
abbrev jH:=@Bool.and_eq_true_iff
abbrev jI:=@PySem.W.kia_one
abbrev jJ:=@Nat.lt_irrefl
abbrev jK:=@List.length_drop
abbrev jL:=@List.cons_append
abbrev jQ:=@PySem.Obj.data_mapFields
abbrev jR:=@PySem.wpAny_call_entry
abbrev jT:=@PyProof.Rows.callWith_type1
abbrev jZ:=@PyProof.Rows.slot_tuple_getitem
abbrev kC:=@Nat.lt_of_le_of_lt
abbrev kE:=@List.mem_of_mem_take
abbrev kF:=@List.getElem?_set_ne
abbrev kH:=@PySem.wpAny_truthy_bool
abbrev kI:=@Int.toNat_natCast
abbrev kJ:=@PySem.wpAny_mono
abbrev kK:=@PySem.PassesOwn.never
abbrev kM:=@PySem.mem_of_lookup
abbrev kO:=@List.take_of_length_le
abbrev kP:=@PySem.Calls.callWith_builtin
abbrev kR:=@beq_self_eq_true
abbrev kS:=@Nat.lt_succ_self
abbrev kU:=@PySem.wpAny_setField_rec
abbrev kW:=@PySem.wpAny_setField
abbrev kX:=@PySem.wpAny_seqItems
abbrev kY:=@PySem.wpAny_Call_Name_kw
abbrev kZ:=@of_decide_eq_false
abbrev qA:=@PySem.F.slot_tuple_iterator_next
abbrev qD:=@PySem.StrLaws.glued_eq_join
abbrev qE:=@PySem.Obj.isFreed_of_fields
abbrev qF:=@List.lookup_cons_self
abbrev qG:=@List.getElem?_eq_none
abbrev qJ:=@PySem.wpAny_passesOwn
abbrev qK:=@List.length_nil
abbrev qP:=@List.mem_of_mem_drop
abbrev qQ:=@List.map_map
abbrev qW:=@PySem.wpAny_holding
abbrev qX:=@PySem.call_meets
abbrev wC:=@List.take_length
abbrev wD:=@List.all_eq_true
abbrev wF:=@PySem.wpAny_of_eq
abbrev wL:=@PySem.F.plainAttrs_str
abbrev wM:=@Nat.ne_of_gt
abbrev wN:=@List.getElem?_set_self
abbrev wO:=@Int.emod_lt_of_pos
abbrev wP:=@PySem.Calls.spliced_cons
abbrev wU:=@List.forIn_cons
abbrev wV:=@List.find?_cons
abbrev wW:=@Int.emod_nonneg
abbrev wX:=@Bool.or_eq_true
abbrev vB:=@PySem.builtinLookup_eq_fast
abbrev vE:=@List.reverse_cons
abbrev vK:=@List.mem_append_left
abbrev vL:=@List.getElem?_append_right
abbrev vM:=@PySem.Heap.size_push
abbrev vN:=@PySem.Calls.evalArgs_plain
abbrev vT:=@List.lookup_cons
abbrev vU:=@List.getElem?_zip_eq_some
abbrev vV:=@Array.getElem?_eq_getElem
abbrev uB:=@List.length_reverse
abbrev uC:=@PySem.Heap.SameBut.update
abbrev uK:=@PySem.wpAny_comprehension_free
abbrev uL:=@PySem.wpAny_attempt
abbrev uM:=@PySem.AutoSeq1.wpAny_loadPart'
abbrev uQ:=@PySem.wpAny_execs_nil
abbrev uX:=@PySem.wpAny_rule
abbrev uY:=@PySem.typeIs_str
abbrev uZ:=@PySem.W.callWith_K
abbrev Ab:=@PySem.sizeLine_eq
abbrev Ac:=@PySem.Paired.snoc
abbrev Ah:=@PySem.wpAny_loadPart_at
abbrev Ai:=@PySem.wpAny_Call_method_late
abbrev Aj:=@PySem.isSubtype_type
abbrev Ak:=@PySem.codeAny_mono
abbrev Al:=@PySem.W.cellsFrom_some
abbrev Am:=@Nat.lt_trans
abbrev An:=@List.take_succ
abbrev Ao:=@List.drop_eq_nil_of_le
abbrev Aq:=@PySem.plainObj_wpAny_Assign_Attribute
abbrev Av:=@List.length_replicate
abbrev Aw:=@List.getElem?_zipWith
abbrev Ax:=@Array.getElem?_toList
abbrev AI:=@PySem.wpAny_standAt
abbrev AQ:=@PySem.wpAny_updateSeq_pair
abbrev AR:=@List.getElem?_of_mem
abbrev AZ:=@PySem.wpAny_specialOf
abbrev Ba:=@PySem.typeLookup_type
abbrev Bb:=@PySem.F.slot_dict_setdefault
abbrev Bc:=@Nat.min_eq_left
abbrev Bd:=@List.of_mem_zip
abbrev Be:=@PySem.F.slot_zip_next
abbrev Bg:=@PySem.F.args_tuple_iterator_next_1
abbrev Bh:=@Bool.eq_iff_iff
abbrev Bl:=@ne_true_of_eq_false
abbrev Bm:=@PySem.W.plainGet_of
abbrev Bn:=@List.filterMap_cons
abbrev Bu:=@Nat.le_of_lt
abbrev Bv:=@PySem.F.entry_tuple_iterator_next
abbrev BL:=@PySem.StrLaws.join_split
abbrev BM:=@PySem.F.args_str_split_2
abbrev BN:=@PySem.Calls.Constant_str
abbrev BO:=@Bool.false_eq_true
abbrev BR:=@List.getElem?_append_left
abbrev CA:=@PySem.wpAny_pyIter_list
abbrev CB:=@PySem.Within.cons
abbrev CC:=@PySem.Obj.cls_mapFields
abbrev CF:=@List.flatten_cons
abbrev CG:=@List.flatMap_cons
abbrev CH:=@PySem.F.entry_str_split
abbrev CI:=@PySem.Calls.spliced_nil
abbrev CZ:=@PySem.wpAny_onRaise
abbrev Da:=@Nat.add_assoc
abbrev Du:=@PySem.wpAny_lookBehind
abbrev Dv:=@PySem.wpAny_isInstance
abbrev Dw:=@PySem.wpAny_execs_cons
abbrev Dx:=@PySem.pastItsLine_dict
abbrev Dy:=@Option.bind_some
abbrev Dz:=@List.getElem?_replicate
abbrev DA:=@List.getElem?_cons_succ
abbrev DB:=@PySem.F.slot_str_split
abbrev DC:=@Array.any_toList
abbrev Dp:=Sum Int Str
def Js:Dp->Value->Bool
 | .inl k,v=>Value.isInt k v
 | .inr x,v=>Value.isStrOf x v
def XJ (w:World):Dp->Int
 | .inl k=>hashInt k
 | .inr x=>hashStr w x
theorem qO: ∀{k:Dp} {v:Value},Js k v=true->(∃i t,k=Sum.inl i/\v=Value.int i t)\/(∃x t,k=Sum.inr x/\v=Value.str x t)
 | .inl i,v,h=>by
  obtain⟨t,e⟩:=Value.isInt_shape (k:=i) (v:=v) h;exact .inl ⟨i,t,rfl,e⟩
 | .inr x,v,h=>by
  obtain⟨t,e⟩:=Value.isStrOf_shape (x:=x) (v:=v) h;exact .inr ⟨x,t,rfl,e⟩
theorem PH (i:Int)(t:Tok):Js (.inl i) (.int i t)=true:=by simp[Js,Value.isInt]
theorem PF (x:Str)(t:Tok):Js (.inr x) (.str x t)=true:=by simp[Js,Value.isStrOf]
theorem Vm (a b:Int):decide ((Sum.inl a:Dp)=Sum.inl b)=(a==b):=by
 by_cases e:a=b
 ·subst e;simp
 ·have h: ¬(Sum.inl a:Dp)=Sum.inl b:=λq=>e (Sum.inl.inj q);rw[yD h];exact(beq_eq_false_iff_ne.mpr e).symm
theorem Vj (a b:Str):decide ((Sum.inr a:Dp)=Sum.inr b)=decide (a=b):=by
 by_cases e:a=b
 ·subst e;simp
 ·have h: ¬(Sum.inr a:Dp)=Sum.inr b:=λq=>e (Sum.inr.inj q);rw[yD h,yD e]
theorem Vl (a:Int)(b:Str):decide ((Sum.inl a:Dp)=Sum.inr b)=false:=yD (λq=>nomatch q)
theorem Vk (a:Str)(b:Int):decide ((Sum.inr a:Dp)=Sum.inl b)=false:=yD (λq=>nomatch q)
def vD (prog:Program)(w:World):PySem.KeyKind prog w Dp where
 is:=Js
 hash:=XJ w
 inj:=λv a b ha hb=>by
  rcases qO ha with⟨i,t,rfl,rfl⟩|⟨x,t,rfl,rfl⟩
  ·rcases qO hb with⟨j,u,rfl,e⟩|⟨y,u,rfl,e⟩
   ·injection e with e1 _;rw[e1]
   ·exact nomatch e
  ·rcases qO hb with⟨j,u,rfl,e⟩|⟨y,u,rfl,e⟩
   ·exact nomatch e
   ·injection e with e1 _;rw[e1]
 byValue:=λk v h=>by
  rcases qO h with⟨i,t,rfl,rfl⟩|⟨x,t,rfl,rfl⟩<;>rfl
 pyHash:=λhv h=>by
  rcases qO hv with⟨i,t,rfl,rfl⟩|⟨x,t,rfl,rfl⟩
  ·exact wpAny_pyHash_int h
  ·exact wpAny_pyHash_str h
 eqBool:=λhu hv h=>by
  rcases qO hu with⟨i,t,rfl,rfl⟩|⟨x,t,rfl,rfl⟩
  ·rcases qO hv with⟨j,u,rfl,rfl⟩|⟨y,u,rfl,rfl⟩
   ·rw[Vm]at h;exact wpAny_eqBool_int h
   ·rw[Vl]at h;exact SeqAt.EqAt.int_str i t y u _ _ _ _ h
  ·rcases qO hv with⟨j,u,rfl,rfl⟩|⟨y,u,rfl,rfl⟩
   ·rw[Vk]at h;exact SeqAt.EqAt.str_int x t j u _ _ _ _ h
   ·rw[Vj]at h;exact wpAny_eqBool_str h
 «strs»:=λk x t v h=>by
  rcases qO h with⟨i,u,rfl,e⟩|⟨y,u,rfl,e⟩
  ·exact nomatch e
  ·injection e with e1 _
   subst e1;cases v<;>rfl
theorem LY (prog:Program)(w:World)(i:Int)(t:Tok):(vD prog w).is (.inl i) (.int i t)=true:=PH i t
theorem LX (prog:Program)(w:World)(x:Str)(t:Tok):(vD prog w).is (.inr x) (.str x t)=true:=PF x t
inductive V where
 |non|bl (b:Bool)|int (i:Int)|str (x:Str)|byt (b:Array UInt8)|flt (b:UInt64)|ref (a:Addr)|ty (n:String)
 deriving DecidableEq
def jM:V->Value->Prop
 | .non,u=>u=Value.none
 | .bl b,u=>u=Value.bool b
 | .int i,u=> ∃t,u=Value.int i t
 | .str x,u=> ∃t,u=Value.str x t
 | .byt b,u=> ∃t,u=Value.bytes b t
 | .flt b,u=> ∃t,u=Value.float b t
 | .ref a,u=>u=Value.ref a
 | .ty n,u=>u=Value.type n
abbrev xT:List V->List Value->Prop:=Paired jM
theorem xT.length {xs:List V}{us:List Value}(r:xT xs us):xs.length=us.length:=Paired.length r
theorem xT.get: ∀{xs:List V} {us:List Value} {i:Nat} {x:V},xT xs us->xs[i]? =some x-> ∃u,us[i]? =some u/\jM x u
 |_,_,_,_,.nil,e=>by simp at e
 |_,_,0,_,.cons r _,e=>by simp at e;subst e;exact⟨_,rfl,r⟩
 |_,_,i+1,x,.cons _ t,e=>by
  obtain⟨u,h1,h2⟩:=xT.get (i:=i) (x:=x) t (by simpa using e);exact⟨u,by simpa using h1,h2⟩
theorem xT.set {x:V}{u:Value}(r:jM x u): ∀{xs:List V} {us:List Value} (i:Nat),xT xs us->xT (xs.set i x) (us.set i u)
 |_,_,_,.nil=>.nil
 |_,_,0,.cons _ t=>.cons r t
 |_,_,i+1,.cons q t=>.cons q (xT.set r i t)
theorem xT.append: ∀{xs ys:List V} {us ws:List Value},xT xs us->xT ys ws->xT (xs++ys) (us++ws)
 |_,_,_,_,.nil,s=>s
 |_,_,_,_,.cons r t,s=>.cons r (xT.append t s)
theorem xT.take: ∀{xs:List V} {us:List Value} (n:Nat),xT xs us->xT (xs.take n) (us.take n)
 |_,_,0,_=>.nil
 |_,_,_+1,.nil=>.nil
 |_,_,n+1,.cons r t=>.cons r (xT.take n t)
theorem xT.drop: ∀{xs:List V} {us:List Value} (n:Nat),xT xs us->xT (xs.drop n) (us.drop n)
 |_,_,0,r=>r
 |_,_,_+1,.nil=>.nil
 |_,_,n+1,.cons _ t=>xT.drop n t
def BP:Option V->Option Value->Prop
 |some v,some u=>jM v u
 |none,none=>True
 |_,_=>False
def KV {κ:Type}:List (κ×V)->List (κ×Value)->Prop:=Paired fun(p:κ×V) (q:κ×Value)=>p.1=q.1/\jM p.2 q.2
def kV:Dp->V
 | .inl i=>.int i
 | .inr x=>.str x
inductive HO where
 |lst (xs:List V)
 |tup (xs:List V)
 |dK (kvs:List (Dp×V))|dT (kvs:List (List Dp×V))
 |set (S:Int->Bool) (n:Nat)
 |ins (C dx:Addr) (fs:List (Str×V))
 |own (x:Addr)
 |xd (fs:List (Str×V))
 |met (f x:Addr)
 |rng (lo hi:Int)
 |frz (o:Obj) (u:HO)
 |tbl (ps:Array Value)
 |ext (φ:Heap->Prop)
abbrev Hp:=Addr->Option HO
def upd (H:Hp)(a:Addr)(o:HO):Hp:=λb=>if b=a then some o else H b
theorem zK {H:Hp}{a:Addr}{o:HO}:upd H a o a=some o:=by unfold upd;rw[zR rfl]
theorem zT {H:Hp}{a b:Addr}{o:HO}(h:b≠a):upd H a o b=H b:=by unfold upd;rw[zH h]
theorem FW {H:Hp}{a:Addr}{o u:HO}:upd (upd H a o) a u=upd H a u:=by
 funext b;unfold upd;split<;>rfl
theorem zS {H:Hp}{a b:Addr}{o:HO}(h:H a=some o)(h':H b=none):a≠b:=by
 intro e;subst e;rw[h]at h';cases h'
section
variable (P:Program)(w:World)
def kL (H:Hp)(h:Heap)(a:Addr):HO->Prop
 | .lst xs=>xs.length<=sizeLine/\ ∃(its:List Value) (n:Nat),xT xs its/\h.get? a=some {cls:=.type "list",data:=.seq its.toArray n}
 | .tup xs=>xs.length<=sizeLine/\ ∃its:List Value,xT xs its/\IsTup h a its.toArray
 | .dK kvs=>kvs.length<=sizeLine/\(a==sysModules)=false/\ ∃vs,KV kvs vs/\h.DictOf (vD P w) a vs
 | .dT kvs=>kvs.length<=sizeLine/\(a==sysModules)=false/\ ∃xs:List (List Dp×Addr×Value),
   Paired (fun(p:List Dp×V) (q:List Dp×Addr×Value)=>p.1=q.1/\H q.2.1=some (.tup (p.1.map kV))/\jM p.2 q.2.2) kvs xs/\
   ∃o es ep,h.get? a=some o/\o.ExactDict/\o.data=.dict es ep/\es.toList=xs.map (entryOfKey (tupleKind (vD P w)))/\(xs.map (·.1)).Nodup
 | .set S n=>h.SetOf (intKind P w) a S n
 | .ins C dx fs=>H dx=some (.own a)/\fs.length<=1000/\dx≠a/\h.get? a=some (PySem.W.instObj C dx)/\
   ∃mA,h.Ns1 dx mA/\(∀f,BP (fs.lookup f) (mA f))/\PySem.Within mA (fs.map (·.1))
 | .own _=> ∃o,h.get? a=some o
 | .xd fs=> ∃mA,h.Ns1 a mA/\ ∀f,BP (fs.lookup f) (mA f)
 | .rng lo hi=> ∃t u v,h.get? a=some {cls:=.type "range",data:=.fields #[.int lo t,.int hi u,.int 1 v]}
 | .frz o u=>h.get? a=some o/\kL H h a u
 | .tbl ps=>h.get? a=some {cls:=.none,data:=.fields ps}
 | .met f x=>h.get? a=some (PySem.W.methodObj (.ref f) (.ref x))
 | .ext φ=>φ h/\(∃o,h.get? a=some o)/\ ∀h1 h2:Heap,φ h1->(∀o,h1.get? a=some o->h2.get? a=some o)->φ h2
def Fj (H:Hp)(h:Heap):Prop:= ∀a o,H a=some o->kL P w H h a o
end
section
variable {P:Program}{w:World}{H H':Hp}{h h':Heap}{a:Addr}{o:HO}
theorem kL.lt (x:kL P w H h a o):a<h.objs.size:=by
 cases o with
 |lst xs=>obtain⟨_,_,_,_,e⟩:=x;exact zX e
 |tup xs=>obtain⟨_,_,_,p⟩:=x;exact p.lt
 |dK kvs=>obtain⟨_,_,_,_,o,_,_,e,_⟩:=x;exact zX e
 |dT kvs=>obtain⟨_,_,_,_,o,_,_,e,_⟩:=x;exact zX e
 |set S n=>obtain⟨o,_,_,_,e,_⟩:=x;exact zX e
 |ins C dx fs=>obtain⟨_,_,_,e,_⟩:=x;exact zX e
 |own y=>obtain⟨_,e⟩:=x;exact zX e
 |xd fs=>obtain⟨_,⟨_,_,_,e,_⟩,_⟩:=x;exact zX e
 |rng lo hi=>obtain⟨_,_,_,e⟩:=x;exact zX e
 |frz ob u=>obtain⟨e,_⟩:=x;exact zX e
 |tbl ps=>exact zX (show h.get? a=some _ from x)
 |met f y=>exact zX (show h.get? a=some _ from x)
 |ext φ=>obtain⟨_,⟨_,e⟩,_⟩:=x;exact zX e
theorem Paired.mapP {α β:Type}{F G:α->β->Prop}: ∀{l₁:List α} {l₂:List β},Paired F l₁ l₂->(∀a b,F a b->G a b)->Paired G l₁ l₂
 |_,_,.nil,_=>.nil
 |_,_,.cons r t,f=>.cons (f _ _ r) (Paired.mapP t f)
theorem kL.stay (x:kL P w H h a o)(k: ∀b u,(b=a\/H b=some (.own a))->h.get? b=some u->h'.get? b=some u)
  (ho: ∀b,H b=some (.own a)->H' b=some (.own a)) (ht: ∀b xs,H b=some (.tup xs)->H' b=some (.tup xs)):kL P w H' h' a o:=by
 induction o with
 |lst xs=>obtain⟨z,its,n,r,e⟩:=x;exact⟨z,its,n,r,k _ _ (.inl rfl) e⟩
 |tup xs=>obtain⟨z,its,r,ob,e,c⟩:=x;exact⟨z,its,r,ob,k _ _ (.inl rfl) e,c⟩
 |dK kvs=>obtain⟨z,y,vs,r,ob,es,ep,e,c⟩:=x;exact⟨z,y,vs,r,ob,es,ep,k _ _ (.inl rfl) e,c⟩
 |dT kvs=>
  obtain⟨z,y,xs,r,ob,es,ep,e,c⟩:=x;exact⟨z,y,xs,Paired.mapP r λp q z=>⟨z.1,ht _ _ z.2.1,z.2.2⟩,ob,es,ep,k _ _ (.inl rfl) e,c⟩
 |set S n=>obtain⟨ob,es,ep,t,e,c⟩:=x;exact⟨ob,es,ep,t,k _ _ (.inl rfl) e,c⟩
 |ins C dx fs=>
  obtain⟨d,z,ne,e,mA,⟨od,es,ep,e2,c⟩,r⟩:=x;exact⟨ho _ d,z,ne,k _ _ (.inl rfl) e,mA,⟨od,es,ep,k _ _ (.inr d) e2,c⟩,r⟩
 |own y=>obtain⟨ob,e⟩:=x;exact⟨ob,k _ _ (.inl rfl) e⟩
 |xd fs=>obtain⟨mA,⟨od,es,ep,e,c⟩,r⟩:=x;exact⟨mA,⟨od,es,ep,k _ _ (.inl rfl) e,c⟩,r⟩
 |rng lo hi=>obtain⟨t,u,v,e⟩:=x;exact⟨t,u,v,k _ _ (.inl rfl) e⟩
 |frz ob u ih=>obtain⟨e,q⟩:=x;exact⟨k _ _ (.inl rfl) e,ih q⟩
 |tbl ps=>
  have e:h.get? a=some {cls:=.none,data:=.fields ps}:=x;show h'.get? a=some {cls:=.none,data:=.fields ps};exact k a _ (.inl rfl) e
 |met f y=>
  have e:h.get? a=some (PySem.W.methodObj (.ref f) (.ref y)):=x;show h'.get? a=some (PySem.W.methodObj (.ref f) (.ref y));exact k a _ (.inl rfl) e
 |ext φ=>obtain⟨p,⟨o,e⟩,st⟩:=x;exact⟨st _ _ p λo q=>k _ _ (.inl rfl) q,⟨o,k _ _ (.inl rfl) e⟩,st⟩
theorem Fj.lt (x:Fj P w H h)(e:H a=some o):a<h.objs.size:=(x a o e).lt
theorem Fj.fresh (x:Fj P w H h)(e:h.objs.size<=a):H a=none:=by
 cases q:H a with
 |none=>rfl
 |some u=>exact absurd (yG (x.lt q) e) (jJ _)
theorem Fj.kept (x:Fj P w H h)(k: ∀b u,h.get? b=some u->h'.get? b=some u):Fj P w H h':=λa o e=>
 (x a o e).stay (λb u _ q=>k b u q) (λ_ q=>q) λ_ _ q=>q
theorem Fj.laid (x:Fj P w H h)(k: ∀b u,h.get? b=some u->h'.get? b=some u)(hp:h.objs.size<=a)(new:kL P w (upd H a o) h' a o):Fj P w (upd H a o) h':=λb u e=>by
 have hn:=x.fresh hp
 by_cases hb:b=a
 ·subst hb;rw[zK]at e;cases e;exact new
 ·rw[zT hb]at e;exact(x b u e).stay (λc v _ q=>k c v q) (λc q=>by rw[zT (zS q hn)];exact q) λc xs q=>by rw[zT (zS q hn)];exact q
end
def Rd (H:Hp)(a:Addr)(u:HO):Prop:=H a=some u\/ ∃o,H a=some (.frz o u)
theorem Rd.ok {P:Program}{w:World}{H:Hp}{h:Heap}{a:Addr}{u:HO}(r:Rd H a u)(x:Fj P w H h):kL P w H h a u:=by
 rcases r with r|⟨o,r⟩
 ·exact x a u r
 ·obtain⟨_,q⟩:=x a _ r;exact q
def WK:Option HO->Prop
 |some (.lst _)=>True
 |some (.dK _)=>True
 |some (.dT _)=>True
 |some (.set _ _)=>True
 |some (.ins _ _ _)=>True
 |some (.ext _)=>True
 |_=>False
section
variable {P:Program}{w:World}{H:Hp}{h h':Heap}{x e:Addr}{o':HO}
theorem Fj.write (ok:Fj P w H h)(mu:WK (H x))(he:e=x\/H e=some (.own x))(k: ∀b u,b≠e->h.get? b=some u->h'.get? b=some u)(heo: ∃u,h'.get? e=some u)
  (new:kL P w (upd H x o') h' x o'):Fj P w (upd H x o') h':=λb u q=>by
 have nown: ∀c y,H c=some (.own y)->c≠x:=λc y r z=>by subst z;rw[r]at mu;exact mu
 have ntup: ∀c xs,H c=some (.tup xs)->c≠x:=λc xs r z=>by subst z;rw[r]at mu;exact mu
 by_cases hb:b=x
 ·subst hb;rw[zK]at q;cases q;exact new
 ·rw[zT hb]at q
  by_cases hbe:b=e
  ·have q':H b=some (.own x):=by
    rcases he with z|z
    ·exact absurd (hbe.trans z) hb
    ·rw[hbe];exact z
   rw[q]at q';cases q';obtain⟨v,hv⟩:=heo;exact⟨v,by rw[hbe];exact hv⟩
  ·refine(ok b u q).stay (λc v hc r=>k c v ?_ r) (λc r=>by rw[zT (nown c b r)];exact r) λc xs r=>by rw[zT (ntup c xs r)];exact r
   rcases hc with rfl|hc
   ·exact hbe
   ·rintro rfl
    rcases he with z|z
    ·exact nown c b hc z
    ·rw[hc]at z;cases z;exact hb rfl
end
structure Un (fs ex:List Addr)(H H':Hp)(h h':Heap):Prop where
 keep: ∀b o,h.get? b=some o->H b=none->b∉fs->b∉ex->h'.get? b=some o
 slot: ∀b o,h.get? b=some o->H b=none->b∈fs->b∉ex-> ∃sl,h'.get? b=some {o with slots:=sl}
 free: ∀b o,h.get? b=some o->H b=none->b∉ex->H' b=none
 there: ∀b o,h.get? b=some o->b∉ex-> ∃o',h'.get? b=some o'
 tups: ∀b xs,H b=some (.tup xs)->H' b=some (.tup xs)
 frzs: ∀b o u,H b=some (.frz o u)->H' b=some (.frz o u)
 tbls: ∀b ps,H b=some (.tbl ps)-> ∃more,H' b=some (.tbl (ps++more))
section
variable {fs fs' ex ex':List Addr}{H H1 H2:Hp}{h h1 h2 h':Heap}{a x e:Addr}{o:HO}
theorem Un.any (u:Un fs ex H H1 h h1){b:Addr}{ob:Obj}(q:h.get? b=some ob)(n:H b=none)(hx:b∉ex): ∃sl,h1.get? b=some {ob with slots:=sl}:=by
 by_cases hb:b∈fs
 ·exact u.slot b ob q n hb hx
 ·exact⟨ob.slots,u.keep b ob q n hb hx⟩
theorem Un.kept (k: ∀b u,h.get? b=some u->h'.get? b=some u):Un fs ex H H h h':=
 ⟨λb ob q _ _ _=>k b ob q,λb ob q _ _ _=>⟨ob.slots,k b ob q⟩,λ_ _ _ n _=>n,λb ob q _=>⟨ob,k b ob q⟩,λ_ _ q=>q,λ_ _ _ q=>q,λ_ ps q=>⟨#[],by rw[q];simp⟩⟩
theorem Un.refl:Un fs ex H H h h:=Un.kept λ_ _ q=>q
theorem Un.laid (k: ∀b u,h.get? b=some u->h'.get? b=some u)(hp:h.objs.size<=a)(hn:H a=none):Un fs ex H (upd H a o) h h' where
 keep:=λb u q _ _ _=>k b u q
 slot:=λb u q _ _ _=>⟨u.slots,k b u q⟩
 free:=λb u q n _=>by rw[zT (xR (yG (zX q) hp))];exact n
 there:=λb u q _=>⟨u,k b u q⟩
 tups:=λb xs q=>by rw[zT (zS q hn)];exact q
 frzs:=λb u xs q=>by rw[zT (zS q hn)];exact q
 tbls:=λb ps q=>⟨#[],by rw[zT (zS q hn),q];simp⟩
theorem Un.write (mu:WK (H x))(he:e=x\/H e=some (.own x))(k: ∀b u,b≠e->h.get? b=some u->h'.get? b=some u)(heo: ∃u,h'.get? e=some u):Un fs ex H (upd H x o) h h':=by
 have hx: ∀b,H b=none->b≠x:=λb n z=>by subst z;rw[n]at mu;exact mu
 have hb: ∀b,H b=none->b≠e:=λb n z=>by
  subst z
  rcases he with r|r
  ·exact hx b n r
  ·rw[n]at r;cases r
 have hm: ∀b u,H b=some u-> ¬WK (some u)->b≠x:=λb u q nm z=>by subst z;rw[q]at mu;exact nm mu
 refine⟨λb u q n _ _=>k b u (hb b n) q,λb u q n _ _=>⟨u.slots,k b u (hb b n) q⟩,λb u q n _=>by rw[zT (hx b n)];exact n,λb u q _=>?_,
  λb xs q=>by rw[zT (hm b _ q λz=>z)];exact q,λb u xs q=>by rw[zT (hm b _ q λz=>z)];exact q,λb ps q=>⟨#[],by rw[zT (hm b _ q λz=>z),q];simp⟩⟩
 by_cases hbe:b=e
 ·subst hbe;exact heo
 ·exact⟨u,k b u hbe q⟩
end
def Xe (h:Heap)(H:Hp):List Addr:=(List.range h.objs.size).filter λa=>(H a).isSome
def Kz (h:Heap)(H:Hp):Heap:=PySem.W.hideAll h (Xe h H)
theorem PM (h:Heap)(H:Hp):(Kz h H).objs.size =h.objs.size:=PySem.W.hideAll_size _ _
theorem RD {h:Heap}{H:Hp}{b:Addr}{o:Obj}(e:h.get? b=some o)(n:H b=none):(Kz h H).get? b=some o:=
 PySem.W.hideAll_get _ e λhm=>by
  have q:(H b).isSome =true:=(List.mem_filter.mp hm).2;rw[n]at q;simp at q
theorem Ti {h:Heap}{H:Hp}{b:Addr}{o:Obj}(e:(Kz h H).get? b=some o):h.get? b=some o/\H b=none:=by
 have e':h.get? b=some o:=PySem.W.of_hideAll (Xe h H) e;refine⟨e',?_⟩;cases q:H b with
 |none=>rfl
 |some x=>
  have hm:b∈Xe h H:=List.mem_filter.mpr ⟨List.mem_range.mpr (zX e'),by simp[q]⟩;have z:(Kz h H).get? b=none:=PySem.W.hideAll_none (Xe h H) hm;rw[z]at e;cases e
def TC (g h:Heap)(L:Addr):List (Addr×Obj):=(List.range h.objs.size).filterMap λa=>if a=L\/(g.get? a).isSome =true then none else(h.get? a).map λo=>(a,o)
def rest (g h:Heap)(L d:Addr):List (Addr×Obj):=(TC g h L).filter λp=>decide (p.1≠d)
structure Mod (K:PySem.W.Frag)(mg:Str->Option Value)(base:Heap):Prop where
 kin:K.In base
 glob:base.Ns mainGlobals mg
 blt: ∃mb,base.Ns builtinsNs mb/\ ∀x:Str,x≠"__name__"->mb x=bootBuiltins x
 nolimit:base.NoLimit
structure Cx where
 prog:Program
 w:World
 K:PySem.W.Frag
 mg:Str->Option Value
 base:Heap
 A:Around
 N:List Str
 s₀:Shared
 H₀:Hp
 env:Env
 outer:List Env
 stack:List Env
 ex:List Addr
 fn:Str->Bool
 calm:Bool
 pn:List (Addr×Obj)
 xe:Value->Shared->Prop
def frs (l:List Env):List Addr:=l.filterMap (·.frame)
abbrev Cx.fs (X:Cx):List Addr:=frs X.outer
def Xl (sc:Scope)(x:Str):Prop:=sc.names.lookup x=some .local\/sc.names.lookup x=some .cell\/sc.names.lookup x=some .free
def WN (sc:Scope)(x:Str):Prop:=sc.names.lookup x=some .local\/sc.names.lookup x=some .cell
def Look (env:Env)(h:Heap)(m:Str->Option Value)(x:Str)(u:Value):Prop:=
 (env.kindOf x=some .local/\m x=some u)\/((env.kindOf x=some .cell\/env.kindOf x=some .free)/\ ∃c,env.cells.lookup x=some c/\h.IsCell c (some u))
structure Cx.Ok (X:Cx):Prop where
 mod:Mod X.K X.mg X.base
 kind:X.env.scope.kind=.function
 glob:X.env.globals=mainGlobals
 blt:X.env.builtins=builtinsNs
 above:X.s₀.heap.objs.size<=X.env.locals
 inj: ∀x y c,X.env.cells.lookup x=some c->X.env.cells.lookup y=some c->x=y
 has: ∀x,(X.env.kindOf x=some .cell\/X.env.kindOf x=some .free)-> ∃c,X.env.cells.lookup x=some c
 cab: ∀x c,X.fn x=true->X.env.cells.lookup x=some c->X.s₀.heap.objs.size<=c
 hd:X.calm=true->X.A.handled=none
 frames:X.A.frames=some X.stack
 stk:X.stack=X.outer\/(X.stack=X.env::X.outer/\X.env.frame=some X.env.locals)
 exf: ∀b∈X.ex,b≠X.env.locals/\ ∀x c,X.env.cells.lookup x=some c->c≠b
 bs: ∀b o,X.base.get? b=some o->X.s₀.heap.get? b=some o/\X.H₀ b=none
 bsz:X.base.objs.size<=X.s₀.heap.objs.size
 noex: ∀b o,X.base.get? b=some o->b∉X.ex
 exfs: ∀b∈X.ex,b∉X.fs
 funs:X.s₀.heap.FunFrames X.base X.outer
 frf: ∀b∈X.fs,X.H₀ b=none
structure yV (X:Cx)(pins:List (Addr×Obj))(σ:List (Option V))(H:Hp)(s:Shared):Prop where
 ok:X.Ok
 os:s.os=X.s₀.os
 bare:AllBare s.gens
 base:Un X.fs X.ex X.H₀ H X.s₀.heap s.heap
 loc: ∃m,s.heap.Ns X.env.locals m/\ ∀(i:Nat) (x:Str) (v:V),X.N[i]? =some x->σ[i]? =some (some v)->Xl X.env.scope x-> ∃u,jM v u/\Look X.env s.heap m x u
 cell: ∀x c,X.env.cells.lookup x=some c-> ∃v,s.heap.IsCell c v
 free:H X.env.locals=none
 freeC: ∀x c,X.env.cells.lookup x=some c->H c=none
 pin: ∀p∈X.pn++pins,s.heap.get? p.1=some p.2/\H p.1=none/\p.1≠X.env.locals/\p.1∉X.fs/\ ∀v,p.2.data≠ .cell v
 hok:Fj X.prog X.w H s.heap
 len:σ.length=X.N.length
section
variable {X:Cx}{pins:List (Addr×Obj)}{σ:List (Option V)}{H H':Hp}{s:Shared}{h':Heap}
theorem Cx.Ok.nofr (ok:X.Ok){b:Addr}{o:Obj}(e:X.base.get? b=some o):b∉X.fs:=λhb=>by
 have:=(ok.funs.mem hb).1;rw[e]at this;cases this
theorem yV.bs (I:yV X pins σ H s): ∀b o,X.base.get? b=some o->s.heap.get? b=some o/\H b=none:=λb o e=>
 ⟨I.base.keep b o (I.ok.bs b o e).1 (I.ok.bs b o e).2 (I.ok.nofr e) (I.ok.noex b o e),I.base.free b o (I.ok.bs b o e).1 (I.ok.bs b o e).2 (I.ok.noex b o e)⟩
theorem yV.bk (I:yV X pins σ H s): ∀b o,X.base.get? b=some o->s.heap.get? b=some o:=λb o e=>(I.bs b o e).1
theorem yV.mod (I:yV X pins σ H s):Mod X.K X.mg X.base:=I.ok.mod
theorem yV.kIn (I:yV X pins σ H s):X.K.In s.heap:=I.ok.mod.kin.keeps I.bk
theorem yV.lt (I:yV X pins σ H s):X.env.locals<s.heap.objs.size:=let⟨_,hn,_⟩:=I.loc;hn.lt
theorem yV.sz (I:yV X pins σ H s):X.s₀.heap.objs.size<=s.heap.objs.size:=yJ I.ok.above (Bu I.lt)
theorem yV.nofs (I:yV X pins σ H s){a:Addr}(h:s.heap.objs.size<=a):a∉X.fs:=λhb=>by
 obtain⟨_,o,ho,_⟩:=I.ok.funs.mem hb;exact absurd (yG (zX ho) (yJ I.sz h)) (jJ _)
theorem yV.cne (I:yV X pins σ H s): ∀x c,X.env.cells.lookup x=some c->c≠X.env.locals:=λx c e z=>by
 obtain⟨v,o,ho,hd⟩:=I.cell x c e;obtain⟨m,⟨o',es,ep,ho',hd',_⟩,_⟩:=I.loc;rw[z,ho']at ho;cases ho;rw[hd']at hd;cases hd
theorem yV.funs (I:yV X pins σ H s):s.heap.FunFrames X.base X.outer:=by
 have all: ∀(l:List Env),(∀b∈frs l,b∈X.fs)->X.s₀.heap.FunFrames X.base l->s.heap.FunFrames X.base l:=by
  intro l
  induction l with
  |nil=>intro _ _;trivial
  |cons env r ih=>
   intro hs hl;obtain⟨hk,⟨L,o,hf,hn,ho,hd⟩,hr⟩:=hl;have hL:L∈X.fs:=hs L (by unfold frs;rw[Bn,hf];exact zM);obtain⟨sl,e⟩:=I.base.slot L o ho (I.ok.frf L hL) hL λz=>I.ok.exfs L z hL;exact⟨hk,⟨L,_,hf,hn,e,hd⟩,ih (λb hb=>hs b (by unfold frs;rw[Bn,hf];exact zN _ hb)) hr⟩
 exact all X.outer (λ_ hb=>hb) I.ok.funs
theorem yV.stack (I:yV X pins σ H s):s.heap.FunFrames X.base X.stack:=by
 rcases I.ok.stk with e|⟨e,hf⟩
 ·rw[e];exact I.funs
 ·rw[e];obtain⟨m,hn,_⟩:=I.loc;refine .cons (by rw[I.ok.kind];decide) hf hn ?_ I.funs;exact Heap.get?_none_of_le (yJ I.ok.bsz I.ok.above)
theorem yV.stkSub (I:yV X pins σ H s): ∀b∈frs X.stack,b∈X.env.locals::X.fs:=λb hb=>by
 rcases I.ok.stk with e|⟨e,hf⟩
 ·rw[e]at hb;exact zN _ hb
 ·rw[e]at hb;unfold frs at hb;rw[Bn,hf]at hb;exact hb
theorem yV.stkFree (I:yV X pins σ H s): ∀b∈frs X.stack,H b=none:=λb hb=>by
 rcases List.mem_cons.mp (I.stkSub b hb)with e|hb
 ·rw[e];exact I.free
 ·obtain⟨_,o,ho,_⟩:=I.ok.funs.mem hb;exact I.base.free b o ho (I.ok.frf b hb) λz=>I.ok.exfs b z hb
theorem yV.step {g':Array GenState}{t':Nat}{d':Drawn}{ch:List Addr}(I:yV X pins σ H s)
  (hch: ∀b∈ch,(b∈X.ex\/X.s₀.heap.objs.size<=b)/\b≠X.env.locals/\(∀x c,X.env.cells.lookup x=some c->c≠b)/\ ∀p∈X.pn++pins,p.1≠b)
  (keep: ∀b o,b≠X.env.locals->b∉X.fs->b∉ch->s.heap.get? b=some o->H b=none->h'.get? b=some o)
  (slot: ∀b o,b≠X.env.locals->b∈X.fs->b∉ch->s.heap.get? b=some o->H b=none-> ∃sl,h'.get? b=some {o with slots:=sl}) (free: ∀b o,b∉ch->s.heap.get? b=some o->H b=none->H' b=none)
  (there: ∀b o,b∉ch->s.heap.get? b=some o-> ∃o',h'.get? b=some o')
  (tups: ∀b xs,H b=some (.tup xs)->H' b=some (.tup xs)) (frzs: ∀b o u,H b=some (.frz o u)->H' b=some (.frz o u)) (tbls: ∀b ps,H b=some (.tbl ps)-> ∃more,H' b=some (.tbl (ps++more)))
  (ns: ∀m,s.heap.Ns X.env.locals m->h'.Ns X.env.locals m) (hok:Fj X.prog X.w H' h') (hg:AllBare g'):
  yV X pins σ H' {s with heap:=h',gens:=g',drawn:=d',toks:=t'}:=by
 have neL: ∀b o,X.s₀.heap.get? b=some o->b≠X.env.locals:=λb o e=>xR (yG (zX e) I.ok.above);have neC: ∀b o,X.s₀.heap.get? b=some o->b∉X.ex->b∉ch:=λb o e hx hb=>by
  rcases(hch b hb).1 with z|z
  ·exact hx z
  ·exact absurd (yG (zX e) z) (jJ _)
 have cellK: ∀x c,X.env.cells.lookup x=some c-> ∀v,s.heap.IsCell c v->h'.IsCell c v:=λx c e v ⟨o,ho,hd⟩=>by
  have nch:c∉ch:=λz=>(hch c z).2.2.1 x c e rfl
  by_cases hc:c∈X.fs
  ·obtain⟨sl,q⟩:=slot c o (I.cne x c e) hc nch ho (I.freeC x c e);exact⟨_,q,hd⟩
  ·exact⟨o,keep c o (I.cne x c e) hc nch ho (I.freeC x c e),hd⟩
 refine⟨I.ok,I.os,hg,⟨λb o e n hb hx=>?_,λb o e n hb hx=>?_,λb o e n hx=>?_,λb o e hx=>?_,λb xs e=>tups b xs (I.base.tups b xs e),λb o xs e=>frzs b o xs (I.base.frzs b o xs e),λb ps e=>?_⟩,?_,λx c e=>?_,?_,λx c e=>?_,λp hp=>?_,hok,I.len⟩
 ·exact keep b o (neL b o e) hb (neC b o e hx) (I.base.keep b o e n hb hx) (I.base.free b o e n hx)
 ·obtain⟨sl,e1⟩:=I.base.slot b o e n hb hx;obtain⟨sl',e2⟩:=slot b _ (neL b o e) hb (neC b o e hx) e1 (I.base.free b o e n hx);exact⟨sl',e2⟩
 ·obtain⟨o',e1⟩:=I.base.there b o e hx;exact free b o' (neC b o e hx) e1 (I.base.free b o e n hx)
 ·obtain⟨o',e1⟩:=I.base.there b o e hx;exact there b o' (neC b o e hx) e1
 ·obtain⟨m1,e1⟩:=I.base.tbls b ps e;obtain⟨m2,e2⟩:=tbls b _ e1;exact⟨m1++m2,by rw[e2,Array.append_assoc]⟩
 ·obtain⟨m,hn,hl⟩:=I.loc;refine⟨m,ns m hn,λi x v e1 e2 e3=>?_⟩;obtain⟨u,r,l⟩:=hl i x v e1 e2 e3;refine⟨u,r,?_⟩
  rcases l with l|⟨k,c,e,z⟩
  ·exact .inl l
  ·exact .inr ⟨k,c,e,cellK x c e _ z⟩
 ·obtain⟨v,z⟩:=I.cell x c e;exact⟨v,cellK x c e v z⟩
 ·obtain⟨m,⟨o,_,_,ho,_⟩,_⟩:=I.loc;exact free _ o (λz=>(hch _ z).2.1 rfl) ho I.free
 ·obtain⟨v,o,ho,hd⟩:=I.cell x c e;exact free c o (λz=>(hch c z).2.2.1 x c e rfl) ho (I.freeC x c e)
 ·obtain⟨e,n,ne,nf,d⟩:=I.pin p hp;have nch:p.1∉ch:=λz=>(hch p.1 z).2.2.2 p hp rfl;exact⟨keep p.1 p.2 ne nf nch e n,free p.1 p.2 nch e n,ne,nf,d⟩
theorem yV.un {t':Nat}(I:yV X pins σ H s)(u:Un X.fs [] H H' s.heap h')(hok:Fj X.prog X.w H' h'):yV X pins σ H' {s with heap:=h',toks:=t'}:=by
 obtain⟨m,⟨o,es,ep,ho,r⟩,_⟩:=id I.loc;obtain⟨sl,hL⟩:=u.any ho I.free (by simp);exact I.step (g':=s.gens) (d':=s.drawn) (ch:=[]) (λ_ z=>nomatch z) (λb o _ hb _ e n=>u.keep b o e n hb (by simp)) (λb o _ hb _ e n=>u.slot b o e n hb (by simp)) (λb o _ e n=>u.free b o e n (by simp)) (λb o _ e=>u.there b o e (by simp)) u.tups u.frzs u.tbls (λm' hm=>by
  obtain⟨o',es',ep',ho',r'⟩:=hm;rw[ho]at ho';cases ho';exact⟨_,es',ep',hL,r'⟩) hok I.bare
theorem yV.call {g':Array GenState}{t':Nat}{d':Drawn}{ch:List Addr}(I:yV X pins σ H s)(u:Un (frs X.stack) ch H H' s.heap h')(hok:Fj X.prog X.w H' h')(hg:AllBare g')
  (hch: ∀b∈ch,(b∈X.ex\/X.s₀.heap.objs.size<=b)/\b≠X.env.locals/\(∀x c,X.env.cells.lookup x=some c->c≠b)/\ ∀p∈X.pn++pins,p.1≠b):
  yV X pins σ H' {s with heap:=h',gens:=g',drawn:=d',toks:=t'}:=by
 obtain⟨m,⟨o,es,ep,ho,r⟩,_⟩:=id I.loc;obtain⟨sl,hL⟩:=u.any ho I.free λz=>(hch _ z).2.1 rfl;exact I.step (ch:=ch) hch (λb o hL hb hc e n=>u.keep b o e n (λz=>(List.mem_cons.mp (I.stkSub b z)).elim hL hb) hc) (λb o _ _ hc e n=>u.any e n hc) (λb o hc e n=>u.free b o e n hc) (λb o hc e=>u.there b o e hc) u.tups u.frzs u.tbls (λm' hm=>by
  obtain⟨o',es',ep',ho',r'⟩:=hm;rw[ho]at ho';cases ho';exact⟨_,es',ep',hL,r'⟩) hok hg
theorem yV.turned {t':Nat}{it:Addr}(I:yV X pins σ H s)(k: ∀b o,b≠it->s.heap.get? b=some o->h'.get? b=some o)(hn:H it=none)(hL:it≠X.env.locals)
  (h1:it∈X.ex\/X.s₀.heap.objs.size<=it) (h2: ∀x c,X.env.cells.lookup x=some c->c≠it) (h3: ∀p∈X.pn++pins,p.1≠it):yV X pins σ H {s with heap:=h',toks:=t'}:=by
 have nit: ∀b u,H b=some u->b≠it:=λb u e z=>by rw[z,hn]at e;cases e
 refine I.step (g':=s.gens) (d':=s.drawn) (ch:=[it]) (λb hb=>?_) (λb o _ _ hc e _=>k b o (λz=>hc (by simp[z])) e) (λb o _ _ hc e _=>⟨o.slots,k b o (λz=>hc (by simp[z])) e⟩) (λ_ _ _ _ n=>n)
  (λb o hc e=>⟨o,k b o (λz=>hc (by simp[z])) e⟩) (λ_ _ e=>e) (λ_ _ _ e=>e) (λb ps e=>⟨#[],by rw[e];simp⟩) (λm hm=>?_) (λb u e=>?_) I.bare
 ·have e:b=it:=by simpa using hb
  subst e;exact⟨h1,hL,h2,h3⟩
 ·obtain⟨o,es,ep,ho,r⟩:=hm;exact⟨o,es,ep,k _ o (Ne.symm hL) ho,r⟩
 ·refine(I.hok b u e).stay (λc v hc q=>k c v ?_ q) (λ_ q=>q) λ_ _ q=>q
  rcases hc with z|z
  ·rw[z];exact nit b u e
  ·exact nit c _ z
theorem yV.tok (I:yV X pins σ H s)(t:Nat):yV X pins σ H {s with toks:=t}:=I.un (h':=s.heap) (t':=t) Un.refl I.hok
theorem yV.kept {t':Nat}(I:yV X pins σ H s)(k: ∀b u,s.heap.get? b=some u->h'.get? b=some u):yV X pins σ H {s with heap:=h',toks:=t'}:=I.un (Un.kept k) (I.hok.kept k)
theorem yV.laid {a:Addr}{o:HO}{t':Nat}(I:yV X pins σ H s)(k: ∀b u,s.heap.get? b=some u->h'.get? b=some u)(hp:s.heap.objs.size<=a)(new:kL X.prog X.w (upd H a o) h' a o):
  yV X pins σ (upd H a o) {s with heap:=h',toks:=t'}:=I.un (Un.laid k hp (I.hok.fresh hp)) (I.hok.laid k hp new)
theorem yV.write {x e:Addr}{o:HO}{t':Nat}(I:yV X pins σ H s)(mu:WK (H x))(he:e=x\/H e=some (.own x))(k: ∀b u,b≠e->s.heap.get? b=some u->h'.get? b=some u)(heo: ∃u,h'.get? e=some u)
  (new:kL X.prog X.w (upd H x o) h' x o):yV X pins σ (upd H x o) {s with heap:=h',toks:=t'}:=I.un (Un.write mu he k heo) (I.hok.write mu he k heo new)
theorem yV.pins_of {pins':List (Addr×Obj)}(I:yV X pins σ H s)(h: ∀p∈pins',s.heap.get? p.1=some p.2/\H p.1=none/\p.1≠X.env.locals/\p.1∉X.fs/\ ∀v,p.2.data≠ .cell v):yV X pins' σ H s:=
 ⟨I.ok,I.os,I.bare,I.base,I.loc,I.cell,I.free,I.freeC,λp hp=>(List.mem_append.mp hp).elim (λz=>I.pin p (vK _ z)) (h p),I.hok,I.len⟩
theorem Im {N:List Str}(hN:N.Nodup){i j:Nat}{x:Str}(a:N[i]? =some x)(b:N[j]? =some x):i=j:=by
 obtain⟨h1,e1⟩:=List.getElem?_eq_some_iff.mp a;obtain⟨h2,e2⟩:=List.getElem?_eq_some_iff.mp b;exact(List.getElem_inj hN).mp (e1.trans e2.symm)
theorem Ja {M:Model}{A:Around}{E:Value->Shared->Prop}{i:Nat}{x:Str}{v:V}{u:Value}{Q:Unit->Shared->Prop}(I:yV X pins σ H s)(hN:X.N.Nodup)(hi:X.N[i]? =some x)(hx:WN X.env.scope x)(r:jM v u)
  (h: ∀s',yV X pins (σ.set i (some v)) H s'->(∃a,Heap.SameBut a s.heap s'.heap/\(a=X.env.locals\/X.env.cells.lookup x=some a))->Q () s') (hf:X.fn x=true\/X.env.scope.names.lookup x=some .local:=by first|exact .inl rfl|exact .inr rfl|assumption):wpAny M A (storeName X.env x u) Q E s:=by
 obtain⟨m,hn,hl⟩:=id I.loc;have hcls:(X.env.scope.kind== .class || (X.env.scope.kind== .module&&X.env.locals !=X.env.globals))=false:=by rw[I.ok.kind];rfl
 have hiσ:i<σ.length:=by rw[I.len];exact(List.getElem?_eq_some_iff.mp hi).1
 have cne:=I.cne;have tracked: ∀{a:Addr} {h':Heap},(∃o,s.heap.get? a=some o/\H a=none)->Heap.SameBut a s.heap h'->Fj X.prog X.w H h':=fun{a h'} ha hs b ob e=>by
  obtain⟨_,_,hfree⟩:=ha;refine(I.hok b ob e).stay (λc w' hc q=>(hs.2 c ?_).trans q) (λ_ q=>q) λ_ _ q=>q;rintro rfl
  rcases hc with rfl|hc
  ·rw[hfree]at e;cases e
  ·rw[hfree]at hc;cases hc
 rcases hx with hk|hk
 ·refine wpAny_storeName_local hk hn (λh' hn' hs=>?_) hcls;obtain⟨oL,_,_,hoL,_⟩:=id hn;refine h _ ⟨I.ok,I.os,I.bare,⟨λb o e n hb hx=>?_,λb o e n hb hx=>?_,I.base.free,λb o e hx=>?_,I.base.tups,I.base.frzs,I.base.tbls⟩,⟨_,hn',λj y v' e1 e2 e3=>?_⟩,λy c e=>?_,I.free,I.freeC,λp hp=>?_,tracked ⟨oL,hoL,I.free⟩ hs,by simpa using I.len⟩ ⟨_,hs,.inl rfl⟩
  ·exact(hs.2 b (xR (yG (zX e) I.ok.above))).trans (I.base.keep b o e n hb hx)
  ·obtain⟨sl,e1⟩:=I.base.slot b o e n hb hx;exact⟨sl,(hs.2 b (xR (yG (zX e) I.ok.above))).trans e1⟩
  ·obtain⟨o',e1⟩:=I.base.there b o e hx;exact⟨o',(hs.2 b (xR (yG (zX e) I.ok.above))).trans e1⟩
  ·by_cases hj:j=i
   ·subst hj;rw[hi]at e1;cases e1;rw[wN hiσ]at e2;cases e2;exact⟨u,r,.inl ⟨hk,by simp⟩⟩
   ·rw[kF (Ne.symm hj)]at e2;obtain⟨u',r',q⟩:=hl j y v' e1 e2 e3;refine⟨u',r',?_⟩
    rcases q with⟨k,e⟩|⟨k,c,e,z⟩
    ·refine .inl ⟨k,?_⟩;have:y≠x:=λe=>hj (Im hN e1 (e▸hi))
     simp[this,e]
    ·exact .inr ⟨k,c,e,z.sameBut hs (cne y c e)⟩
  ·obtain⟨w',z⟩:=I.cell y c e;exact⟨w',z.sameBut hs (cne y c e)⟩
  ·obtain⟨e,n,ne,nf,d⟩:=I.pin p hp;exact⟨(hs.2 p.1 ne).trans e,n,ne,nf,d⟩
 ·have hfn:X.fn x=true:=by
   rcases hf with z|z
   ·exact z
   ·rw[z]at hk;cases hk
  obtain⟨c,hc⟩:=I.ok.has x (.inl hk);obtain⟨w',z⟩:=I.cell x c hc;refine wpAny_storeName_cell I.ok.kind hk hc z (λh' hc' hs=>?_);obtain⟨oc,hoc,hocd⟩:=id z;refine h {s with heap:=h'} ⟨I.ok,I.os,I.bare,⟨λb o e n hb hx=>?_,λb o e n hb hx=>?_,I.base.free,λb o e hx=>?_,I.base.tups,I.base.frzs,I.base.tbls⟩,⟨m,hn.sameBut hs (Ne.symm (cne x c hc)),λj y v' e1 e2 e3=>?_⟩,λy c' e=>?_,I.free,I.freeC,λp hp=>?_,tracked ⟨oc,hoc,I.freeC x c hc⟩ hs,by simpa using I.len⟩ ⟨c,hs,.inr hc⟩
  ·exact(hs.2 b (xR (yG (zX e) (I.ok.cab x c hfn hc)))).trans (I.base.keep b o e n hb hx)
  ·obtain⟨sl,e1⟩:=I.base.slot b o e n hb hx;exact⟨sl,(hs.2 b (xR (yG (zX e) (I.ok.cab x c hfn hc)))).trans e1⟩
  ·obtain⟨o',e1⟩:=I.base.there b o e hx;exact⟨o',(hs.2 b (xR (yG (zX e) (I.ok.cab x c hfn hc)))).trans e1⟩
  ·by_cases hj:j=i
   ·subst hj;rw[hi]at e1;cases e1;rw[wN hiσ]at e2;cases e2;exact⟨u,r,.inr ⟨.inl hk,c,hc,hc'⟩⟩
   ·rw[kF (Ne.symm hj)]at e2;obtain⟨u',r',q⟩:=hl j y v' e1 e2 e3;refine⟨u',r',?_⟩
    rcases q with q|⟨k,c',e,z'⟩
    ·exact .inl q
    ·refine .inr ⟨k,c',e,z'.sameBut hs ?_⟩;rintro rfl;exact hj (Im hN e1 (I.ok.inj _ _ _ e hc▸hi))
  ·by_cases hcc:c'=c
   ·subst hcc;exact⟨_,hc'⟩
   ·obtain⟨w2,z2⟩:=I.cell y c' e;exact⟨w2,z2.sameBut hs hcc⟩
  ·obtain⟨e,n,ne,nf,d⟩:=I.pin p hp;refine⟨(hs.2 p.1 ?_).trans e,n,ne,nf,d⟩;intro q;rw[q,hoc]at e;have q':oc=p.2:=xP e;exact d w' (by rw[<-q'];exact hocd)
theorem FY {M:Model}{A:Around}{E:Value->Shared->Prop}{i:Nat}{x:Str}{v:V}{u:Value}{Q:Unit->Shared->Prop}(I:yV X pins σ H s)(hN:X.N.Nodup)(hi:X.N[i]? =some x)(hx:WN X.env.scope x)(r:jM v u)
  (h: ∀s',yV X pins (σ.set i (some v)) H s'->Q () s') (hf:X.fn x=true\/X.env.scope.names.lookup x=some .local:=by first|exact .inl rfl|exact .inr rfl|assumption):wpAny M A (storeName X.env x u) Q E s:=
 Ja I hN hi hx r (λs' I' _=>h s' I') hf
theorem yV.call' {s':Shared}{ch:List Addr}(I:yV X pins σ H s)(ho:s'.os=s.os)(u:Un (frs X.stack) ch H H' s.heap s'.heap)(hok:Fj X.prog X.w H' s'.heap)(hg:AllBare s'.gens)
  (hch: ∀b∈ch,(b∈X.ex\/X.s₀.heap.objs.size<=b)/\b≠X.env.locals/\(∀x c,X.env.cells.lookup x=some c->c≠b)/\ ∀p∈X.pn++pins,p.1≠b):yV X pins σ H' s':=by
 obtain⟨h',g',d',t',o'⟩:=s';have e:o'=s.os:=ho;subst e;exact I.call (g':=g') (t':=t') (d':=d') u hok hg hch
end
abbrev XK:=Value->Option Addr->Hp->Prop
abbrev St:=List (Option V)
abbrev VK:=V->Hp->Prop
abbrev TE:=St->Hp->VK->Prop
abbrev TT:=St->Hp->(Bool->Hp->Prop)->Prop
abbrev TA:=St->Hp->(List V->Hp->Prop)->Prop
structure Eg where
 nx:St->Hp->Prop
 rt:VK
 bk:St->Hp->Prop:=λ_ _=>False
 ct:St->Hp->Prop:=λ_ _=>False
abbrev TS:=Eg->St->Hp->Prop
def EP (X:Cx)(pins:List (Addr×Obj))(σ:St)(Q:VK)(u:Value)(s':Shared):Prop:= ∃v H',yV X pins σ H' s'/\jM v u/\Q v H'
def TP (X:Cx)(pins:List (Addr×Obj))(σ:St)(Q:Bool->Hp->Prop)(b:Bool)(s':Shared):Prop:= ∃H',yV X pins σ H' s'/\Q b H'
def AP (X:Cx)(pins:List (Addr×Obj))(σ:St)(Q:List V->Hp->Prop)(us:List Value)(s':Shared):Prop:= ∃vs H',yV X pins σ H' s'/\xT vs us/\Q vs H'
def SP (X:Cx)(pins:List (Addr×Obj))(D:Eg)(f:Flow)(s':Shared):Prop:=
 match f with
 | .next=> ∃σ' H',yV X pins σ' H' s'/\D.nx σ' H'
 | .brk=> ∃σ' H',yV X pins σ' H' s'/\D.bk σ' H'
 | .cont=> ∃σ' H',yV X pins σ' H' s'/\D.ct σ' H'
 | .ret u=> ∃v σ' H',yV X pins σ' H' s'/\jM v u/\D.rt v H'
structure PE (X:Cx)(e:Expr)(t:TE):Prop where
 go: ∀(pins:List (Addr×Obj)) (s:Shared) (σ:St) (H:Hp) (Q:VK),yV X pins σ H s->t σ H Q->wpAny (model X.prog X.w) X.A (eval e X.env) (EP X pins σ Q) X.xe s
instance {X:Cx}{e:Expr}{t:TE}:CoeFun (PE X e t) (λ_=> ∀(pins:List (Addr×Obj)) (s:Shared) (σ:St) (H:Hp) (Q:VK),yV X pins σ H s->t σ H Q->wpAny (model X.prog X.w) X.A (eval e X.env) (EP X pins σ Q) X.xe s):=⟨PE.go⟩
structure PT (X:Cx)(e:Expr)(t:TT):Prop where
 go: ∀(pins:List (Addr×Obj)) (s:Shared) (σ:St) (H:Hp) (Q:Bool->Hp->Prop),yV X pins σ H s->t σ H Q->wpAny (model X.prog X.w) X.A (isTrue e X.env (eval e X.env)) (TP X pins σ Q) X.xe s
instance {X:Cx}{e:Expr}{t:TT}:CoeFun (PT X e t) (λ_=> ∀(pins:List (Addr×Obj)) (s:Shared) (σ:St) (H:Hp) (Q:Bool->Hp->Prop),yV X pins σ H s->t σ H Q->wpAny (model X.prog X.w) X.A (isTrue e X.env (eval e X.env)) (TP X pins σ Q) X.xe s):=⟨PT.go⟩
structure PW (X:Cx)(e:Expr)(t:TT):Prop where
 go: ∀(whole:Sem Value) (pins:List (Addr×Obj)) (s:Shared) (σ:St) (H:Hp) (Q:Bool->Hp->Prop),yV X pins σ H s->t σ H Q->wpAny (model X.prog X.w) X.A (isTrue e X.env whole) (TP X pins σ Q) X.xe s
instance {X:Cx}{e:Expr}{t:TT}:CoeFun (PW X e t) (λ_=> ∀(whole:Sem Value) (pins:List (Addr×Obj)) (s:Shared) (σ:St) (H:Hp) (Q:Bool->Hp->Prop),yV X pins σ H s->t σ H Q->wpAny (model X.prog X.w) X.A (isTrue e X.env whole) (TP X pins σ Q) X.xe s):=⟨PW.go⟩
theorem PW.pt {X:Cx}{e:Expr}{t:TT}(h:PW X e t):PT X e t:=⟨h _⟩
structure PA (X:Cx)(es:List Expr)(t:TA):Prop where
 go: ∀(pos:Pos) (pins:List (Addr×Obj)) (s:Shared) (σ:St) (H:Hp) (Q:List V->Hp->Prop),yV X pins σ H s->t σ H Q->wpAny (model X.prog X.w) X.A (spliced (backTo pos (starEach es X.env))) (AP X pins σ Q) X.xe s
instance {X:Cx}{es:List Expr}{t:TA}:CoeFun (PA X es t) (λ_=> ∀(pos:Pos) (pins:List (Addr×Obj)) (s:Shared) (σ:St) (H:Hp) (Q:List V->Hp->Prop),yV X pins σ H s->t σ H Q->wpAny (model X.prog X.w) X.A (spliced (backTo pos (starEach es X.env))) (AP X pins σ Q) X.xe s):=⟨PA.go⟩
structure PS (X:Cx)(st:Stmt)(t:TS):Prop where
 go: ∀(pins:List (Addr×Obj)) (s:Shared) (σ:St) (H:Hp) (D:Eg),yV X pins σ H s->t D σ H->wpAny (model X.prog X.w) X.A (exec st X.env) (SP X pins D) X.xe s
instance {X:Cx}{st:Stmt}{t:TS}:CoeFun (PS X st t) (λ_=> ∀(pins:List (Addr×Obj)) (s:Shared) (σ:St) (H:Hp) (D:Eg),yV X pins σ H s->t D σ H->wpAny (model X.prog X.w) X.A (exec st X.env) (SP X pins D) X.xe s):=⟨PS.go⟩
structure JK (X:Cx)(st:List Stmt)(t:TS):Prop where
 go: ∀(pins:List (Addr×Obj)) (s:Shared) (σ:St) (H:Hp) (D:Eg),yV X pins σ H s->t D σ H->wpAny (model X.prog X.w) X.A (execs st X.env) (SP X pins D) X.xe s
instance {X:Cx}{st:List Stmt}{t:TS}:CoeFun (JK X st t) (λ_=> ∀(pins:List (Addr×Obj)) (s:Shared) (σ:St) (H:Hp) (D:Eg),yV X pins σ H s->t D σ H->wpAny (model X.prog X.w) X.A (execs st X.env) (SP X pins D) X.xe s):=⟨JK.go⟩
theorem kB {α:Type}{t:Sem α}{Q Q':α->Shared->Prop}{M:Model}{A:Around}{E:Value->Shared->Prop}{s:Shared}(h:wpAny M A t Q E s)(hQ: ∀a s,Q a s->Q' a s):wpAny M A t Q' E s:=kJ h hQ λ_ _ x=>x
section
variable {X:Cx}
inductive CJ (i:Nat) (σ:St) (H:Hp) (Q:VK):Prop
 |mk (v:_) (h0:σ[i]? =some (some v)) (h1:Q v H):CJ i σ H Q
def tC (v:V):TE:=λ_ H Q=>Q v H
theorem UR {i:Nat}{x:Str}{pos:Pos}(hN:X.N[i]? =some x)(hv:Xl X.env.scope x)(hd:(x==("__debug__":Str))=false:=by decide)(hcd:(x==("__classdict__":Str))=false:=by decide):PE X (.Name x pos) (CJ i):=by
 refine⟨?_⟩;intro pins s σ H Q I h;obtain⟨v,e,h⟩:=h;obtain⟨m,hn,hl⟩:=I.loc;obtain⟨u,r,l⟩:=hl i x v hN e hv;have fin:EP X pins σ Q u s:=⟨v,H,I,r,h⟩
 rcases l with⟨hk,hm⟩|⟨hk,c,hc,hcell⟩
 ·exact wpAny_Name (wpAny_loadName_local I.ok.kind hk hn hm fin) hd
 ·rcases hk with hk|hk
  ·exact wpAny_Name (wpAny_loadName_cell I.ok.kind hk hc hcell fin) hd
  ·exact wpAny_Name (wpAny_loadName_free I.ok.kind hk hc hcell fin hcd) hd
theorem yE {i j pos}:PE X (.Constant (.int i) j pos) (tC (.int i)):=⟨λ_ _ _ H _ I h=>wpAny_Constant_int ⟨.int i,H,I.tok _,⟨_,rfl⟩,h⟩⟩
theorem Hd {b j pos}:PE X (.Constant (.bool b) j pos) (tC (.bl b)):=⟨λ_ _ _ H _ I h=>Constant_bool ⟨.bl b,H,I,rfl,h⟩⟩
theorem Kn {j pos}:PE X (.Constant .none j pos) (tC .non):=⟨λ_ _ _ H _ I h=>Constant_none ⟨.non,H,I,rfl,h⟩⟩
theorem qR {x j pos}:PE X (.Constant (.str x) j pos) (tC (.str x)):=⟨λ_ _ _ H _ I h=>BN ⟨.str x,H,I.tok _,⟨_,rfl⟩,h⟩⟩
def Gl (X:Cx)(x:Str):Prop:=X.env.kindOf x=some .globalImplicit
theorem EZ {E:Value->Shared->Prop}{pins:List (Addr×Obj)}{s:Shared}{σ:St}{H:Hp}{x:Str}{u:Value}{pos:Pos}{Q:Value->Shared->Prop}(I:yV X pins σ H s)(hg:Gl X x)(hm:X.mg x=some u)(h:Q u s)
  (hd:(x==("__debug__":Str))=false:=by decide):wpAny (model X.prog X.w) X.A (eval (.Name x pos) X.env) Q E s:=
 Calls.Name_function_global I.ok.kind hg (Calls.loadGlobal_global (by rw[I.ok.glob];exact I.mod.glob.keeps I.bk) hm h) hd
theorem FL {E:Value->Shared->Prop}{pins:List (Addr×Obj)}{s:Shared}{σ:St}{H:Hp}{x:Str}{u:Value}{pos:Pos}{Q:Value->Shared->Prop}(I:yV X pins σ H s)(hg:Gl X x)(hm:X.mg x=none)(hv:bootBuiltins x=some u)(h:Q u s)
  (hn:x≠"__name__":=by decide) (hd:(x==("__debug__":Str))=false:=by decide):wpAny (model X.prog X.w) X.A (eval (.Name x pos) X.env) Q E s:=by
 obtain⟨mb,h1,h2⟩:=I.mod.blt;exact Calls.Name_function_global I.ok.kind hg (Calls.loadGlobal_builtin (by rw[I.ok.glob];exact I.mod.glob.keeps I.bk) hm (by rw[I.ok.blt];exact h1.keeps I.bk) ((h2 x hn).trans hv) h) hd
theorem Ko {x:Str}{v:V}{u:Value}{pos:Pos}(hg:Gl X x)(hm:X.mg x=some u)(r:jM v u)(hd:(x==("__debug__":Str))=false:=by decide):PE X (.Name x pos) (tC v):=⟨λ_ _ _ H _ I h=>EZ I hg hm ⟨v,H,I,r,h⟩ hd⟩
theorem DQ {x:Str}{v:V}{u:Value}{pos:Pos}(hg:Gl X x)(hm:X.mg x=none)(hv:bootBuiltins x=some u)(r:jM v u)(hn:x≠"__name__":=by decide)(hd:(x==("__debug__":Str))=false:=by decide):PE X (.Name x pos) (tC v):=⟨λ_ _ _ H _ I h=>FL I hg hm hv ⟨v,H,I,r,h⟩ hn hd⟩
variable {a b:Expr}{ta tb:TE}{pos:Pos}
structure PC (X:Cx)(op:CmpOp)(a b:Expr)(t:TE):Prop where
 go: ∀(pins:List (Addr×Obj)) (s:Shared) (σ:St) (H:Hp) (Q:VK),yV X pins σ H s->t σ H Q->
  wpAny (model X.prog X.w) X.A (eval a X.env) (λv s₁=>wpAny (model X.prog X.w) X.A (eval b X.env) (λu s₂=>wpAny (model X.prog X.w) X.A (compareOp op v u) (EP X pins σ Q) X.xe s₂) X.xe s₁) X.xe s
instance {X:Cx}{op:CmpOp}{a b:Expr}{t:TE}:CoeFun (PC X op a b t) (λ_=> ∀(pins:List (Addr×Obj)) (s:Shared) (σ:St) (H:Hp) (Q:VK),yV X pins σ H s->t σ H Q->
  wpAny (model X.prog X.w) X.A (eval a X.env) (λv s₁=>wpAny (model X.prog X.w) X.A (eval b X.env) (λu s₂=>wpAny (model X.prog X.w) X.A (compareOp op v u) (EP X pins σ Q) X.xe s₂) X.xe s₁) X.xe s):=⟨PC.go⟩
theorem Rp (b:Expr){op:CmpOp}(h:op≠ .In)(h2:op≠ .NotIn):behindInMarks op b=false:=by
 have e1:(op==CmpOp.In)=false:=by cases op<;>first|rfl|exact absurd rfl h
 have e2:(op==CmpOp.NotIn)=false:=by cases op<;>first|rfl|exact absurd rfl h2
 cases b<;>simp[behindInMarks,e1,e2]
def tB (t:TE):TT:=λσ H Q=>t σ H λx H1=> ∃c,x=.bl c/\Q c H1
theorem UJ {op:CmpOp}{t:TE}(h:PC X op a b t)(h1:behindInMarks op b=false:=by first|exact Rp _ (by decide) (by decide)|rfl):PT X (.Compare a [op] [b] pos) (tB t):=by
 refine⟨?_⟩;intro pins s σ H Q I hw;refine wpAny_isTrue_Compare1 (kB (h pins s σ H _ I hw) λv s1 h1=>kB h1 λu s2 h2=>kB h2 λc s3 ⟨x,H1,I1,r1,q1⟩=>?_) h1;obtain⟨d,rfl,q⟩:=q1;cases r1;exact kH ⟨H1,I1,q⟩
theorem AB {e:Expr}{t:TE}(h:PE X e t)(he: ∀whole,isTrue e X.env whole=(do let v<-whole;standAt e.pos;holding [v] (truthy v)):=by intro _;rfl):PT X e (tB t):=by
 refine⟨?_⟩;intro pins s σ H Q I hw;refine isTrue_plain (kB (h pins s σ H _ I hw) λv s1 ⟨x,H1,I1,r1,q1⟩=>?_) (he _);obtain⟨d,rfl,q⟩:=q1;cases r1;exact kH ⟨H1,I1,q⟩
variable {tA tB':TT}{rest:List Expr}
def XC (t u:TT):TT:=λσ H Q=>t σ H λc H1=>if c=true then u σ H1 Q else Q false H1
def Yj (t u:TT):TT:=λσ H Q=>t σ H λc H1=>if c=true then Q true H1 else u σ H1 Q
def Xv (t:TT):TT:=λσ H Q=>t σ H λc H1=>Q (!c) H1
theorem SB (ha:PT X a tA):PW X (.BoolOp .And [a] pos) tA:=by
 refine⟨?_⟩;intro wh pins s σ H Q I h;refine isTrue_and (kB (ha pins s σ H Q I h) λc s1 e=>?_);cases c with
 |true=>exact isTrue_and_nil e
 |false=>exact e
theorem vX (ha:PT X a tA):PW X (.BoolOp .Or [a] pos) tA:=by
 refine⟨?_⟩;intro wh pins s σ H Q I h;refine isTrue_or (kB (ha pins s σ H Q I h) λc s1 e=>?_);cases c with
 |false=>exact isTrue_or_nil e
 |true=>exact e
theorem UI (ha:PT X a tA)(hb:PW X (.BoolOp .And (b::rest) pos) tB'):PW X (.BoolOp .And (a::b::rest) pos) (XC tA tB'):=by
 refine⟨?_⟩;intro wh pins s σ H Q I h;refine isTrue_and (kB (ha pins s σ H _ I h) λc s1 hzz=>?_);obtain⟨H1,I1,q1⟩:=hzz;cases c with
 |true=>exact hb wh pins s1 σ H1 Q I1 q1
 |false=>exact⟨H1,I1,q1⟩
theorem uD (ha:PT X a tA)(hb:PW X (.BoolOp .Or (b::rest) pos) tB'):PW X (.BoolOp .Or (a::b::rest) pos) (Yj tA tB'):=by
 refine⟨?_⟩;intro wh pins s σ H Q I h;refine isTrue_or (kB (ha pins s σ H _ I h) λc s1 hzz=>?_);obtain⟨H1,I1,q1⟩:=hzz;cases c with
 |true=>exact⟨H1,I1,q1⟩
 |false=>exact hb wh pins s1 σ H1 Q I1 q1
theorem CS (ha:PT X a tA):PT X (.UnaryOp .Not a pos) (Xv tA):=by
 refine⟨?_⟩;intro pins s σ H Q I h;exact isTrue_not (ha pins s σ H (λc H1=>Q (!c) H1) I h)
def VY (ta tb:TE):TE:=λσ H Q=>ta σ H λx H1=> ∃c,x=.bl c/\if c=true then tb σ H1 Q else Q (.bl false) H1
def Xu (ta tb:TE):TE:=λσ H Q=>ta σ H λx H1=> ∃c,x=.bl c/\if c=true then Q (.bl true) H1 else tb σ H1 Q
def VT (ta:TE):TE:=λσ H Q=>ta σ H λx H1=> ∃c,x=.bl c/\Q (.bl (!c)) H1
theorem Km {op}{t:TE}(h:PE X a t):PE X (.BoolOp op [a] pos) t:=⟨λpins s σ H Q I hw=>BoolOp_one (h pins s σ H Q I hw)⟩
theorem Kp (ha:PE X a ta)(hb:PE X (.BoolOp .And (b::rest) pos) tb):PE X (.BoolOp .And (a::b::rest) pos) (VY ta tb):=by
 refine⟨?_⟩;intro pins s σ H Q I h;refine BoolOp_and (kB (ha pins s σ H _ I h) λv s1 hzz=>?_);obtain⟨x,H1,I1,r1,q1⟩:=hzz;obtain⟨c,rfl,q1⟩:=q1;cases r1;refine kH ?_;cases c with
 |true=>exact hb pins s1 σ H1 Q I1 q1
 |false=>exact⟨.bl false,H1,I1,rfl,q1⟩
theorem Wm (ha:PE X a ta)(hb:PE X (.BoolOp .Or (b::rest) pos) tb):PE X (.BoolOp .Or (a::b::rest) pos) (Xu ta tb):=by
 refine⟨?_⟩;intro pins s σ H Q I h;refine BoolOp_or (kB (ha pins s σ H _ I h) λv s1 hzz=>?_);obtain⟨x,H1,I1,r1,q1⟩:=hzz;obtain⟨c,rfl,q1⟩:=q1;cases r1;refine kH ?_;cases c with
 |false=>exact hb pins s1 σ H1 Q I1 q1
 |true=>exact⟨.bl true,H1,I1,rfl,q1⟩
theorem US (ha:PE X a ta):PE X (.UnaryOp .Not a pos) (VT ta):=by
 refine⟨?_⟩;intro pins s σ H Q I h;refine UnaryOp_ (kB (ha pins s σ H _ I h) λv s1 hzz=>?_);obtain⟨x,H1,I1,r1,q1⟩:=hzz;obtain⟨c,rfl,q1⟩:=q1;cases r1;exact not_of (kH ⟨.bl (!c),H1,I1,rfl,q1⟩)
def Yk (t:TT)(ta tb:TE):TE:=λσ H Q=>t σ H λc H1=>if c=true then ta σ H1 Q else tb σ H1 Q
theorem QP {c:Expr}(hc:PT X c tA)(ha:PE X a ta)(hb:PE X b tb):PE X (.IfExp c a b pos) (Yk tA ta tb):=by
 refine⟨?_⟩;intro pins s σ H Q I h;refine wpAny_IfExp (kB (hc pins s σ H _ I h) λd s1 hzz=>?_);obtain⟨H1,I1,q1⟩:=hzz;cases d with
 |true=>exact ha pins s1 σ H1 Q I1 q1
 |false=>exact hb pins s1 σ H1 Q I1 q1
end
def Ef (K:PySem.W.Frag)(H:Hp)(a:Addr)(xs:List V):Prop:=
 Rd H a (.lst xs)\/
  ∃(o:Obj) (its:Array Value) (n:Nat),K.lookup a=some o/\o.cls=.type "list"/\o.dict=none/\o.data=.seq its n/\its.size<=sizeLine/\xT xs its.toList
def DX (K:PySem.W.Frag)(H:Hp)(a:Addr)(xs:List V):Prop:=
 Rd H a (.tup xs)\/
  ∃(o:Obj) (its:Array Value) (n:Nat),K.lookup a=some o/\o.cls=.type "tuple"/\o.data=.seq its n/\its.size<=sizeLine/\xT xs its.toList
def XS:Value->Option V
 | .none=>some .non
 | .bool b=>some (.bl b)
 | .int i _=>some (.int i)
 | .str x _=>some (.str x)
 | .bytes b _=>some (.byt b)
 | .float b _=>some (.flt b)
 | .ref a=>some (.ref a)
 | .type n=>some (.ty n)
 |_=>none
theorem jM.abs {x:V}{u:Value}(r:jM x u):XS u=some x:=by
 cases x with
 |non=>cases r;rfl
 |bl _=>cases r;rfl
 |int _=>obtain⟨t,rfl⟩:=r;rfl
 |str _=>obtain⟨t,rfl⟩:=r;rfl
 |byt _=>obtain⟨t,rfl⟩:=r;rfl
 |flt _=>obtain⟨t,rfl⟩:=r;rfl
 |ref _=>cases r;rfl
 |ty _=>cases r;rfl
theorem jM.inj {x y:V}{u:Value}(r:jM x u)(q:jM y u):x=y:=xP (r.abs.symm.trans q.abs)
theorem xT.inj: ∀{xs ys:List V} {us:List Value},xT xs us->xT ys us->xs=ys
 |_,_,_,.nil,.nil=>rfl
 |_,_,_,.cons r t,.cons r' t'=>by rw[r.inj r',xT.inj t t']
section
variable {X:Cx}{pins:List (Addr×Obj)}{σ:St}{H:Hp}{s:Shared}{a:Addr}{xs ys:List V}
theorem Ef.of {K:PySem.W.Frag}(h:H a=some (.lst xs)):Ef K H a xs:=.inl (.inl h)
theorem DX.of {K:PySem.W.Frag}(h:H a=some (.tup xs)):DX K H a xs:=.inl (.inl h)
theorem yV.list (I:yV X pins σ H s)(h:Ef X.K H a xs): ∃its:List Value,xT xs its/\PlainL s.heap a its.toArray/\xs.length<=sizeLine:=by
 rcases h with h|⟨o,its,n,hk,hc,hd,hs,hz,r⟩
 ·obtain⟨z,its,n,r,e⟩:=h.ok I.hok;exact⟨its,r,⟨_,n,e,rfl,rfl,rfl⟩,z⟩
 ·refine⟨its.toList,r,⟨o,n,I.kIn a o hk,hc,hd,by simpa using hs⟩,?_⟩;have e:=r.length;simp only[yI]at e;lia
theorem yV.tuple (I:yV X pins σ H s)(h:DX X.K H a xs): ∃its:List Value,xT xs its/\IsTup s.heap a its.toArray/\xs.length<=sizeLine:=by
 rcases h with h|⟨o,its,n,hk,hc,hs,hz,r⟩
 ·obtain⟨z,its,r,p⟩:=h.ok I.hok;exact⟨its,r,p,z⟩
 ·refine⟨its.toList,r,⟨o,I.kIn a o hk,hc,n,by simpa using hs⟩,?_⟩;have e:=r.length;simp only[yI]at e;lia
theorem yV.list_inj (I:yV X pins σ H s)(h:Ef X.K H a xs)(h':Ef X.K H a ys):xs=ys:=by
 obtain⟨its,r,⟨o,n,e,_,_,d⟩,_⟩:=I.list h;obtain⟨its',r',⟨o',n',e',_,_,d'⟩,_⟩:=I.list h';rw[e]at e';cases e';rw[d]at d';injection d' with d1 _
 have:its=its':=by simpa using xM Array.toList d1
 subst this;exact r.inj r'
theorem yV.tuple_inj (I:yV X pins σ H s)(h:DX X.K H a xs)(h':DX X.K H a ys):xs=ys:=by
 obtain⟨its,r,⟨o,e,_,n,d⟩,_⟩:=I.tuple h;obtain⟨its',r',⟨o',e',_,n',d'⟩,_⟩:=I.tuple h';rw[e]at e';cases e';rw[d]at d';injection d' with d1 _
 have:its=its':=by simpa using xM Array.toList d1
 subst this;exact r.inj r'
end
abbrev Cx.wish (X:Cx)(E:Value->Shared->Prop):Cx:={X with xe:=E}
abbrev Cx.nox (X:Cx):Cx:=X.wish λ_ _=>False
theorem Cx.Ok.wish {X:Cx}(ok:X.Ok)(E:Value->Shared->Prop):(X.wish E).Ok:=
 ⟨ok.mod,ok.kind,ok.glob,ok.blt,ok.above,ok.inj,ok.has,ok.cab,ok.hd,ok.frames,ok.stk,ok.exf,ok.bs,ok.bsz,ok.noex,ok.exfs,ok.funs,ok.frf⟩
theorem Cx.Ok.unwish {X:Cx}{E:Value->Shared->Prop}(ok:(X.wish E).Ok):X.Ok:=
 ⟨ok.mod,ok.kind,ok.glob,ok.blt,ok.above,ok.inj,ok.has,ok.cab,ok.hd,ok.frames,ok.stk,ok.exf,ok.bs,ok.bsz,ok.noex,ok.exfs,ok.funs,ok.frf⟩
section
variable {X:Cx}{pins:List (Addr×Obj)}{σ:St}{H:Hp}{s:Shared}{E:Value->Shared->Prop}
theorem yV.wish (I:yV X pins σ H s)(E:Value->Shared->Prop):yV (X.wish E) pins σ H s:=⟨I.ok.wish E,I.os,I.bare,I.base,I.loc,I.cell,I.free,I.freeC,I.pin,I.hok,I.len⟩
theorem yV.unwish (I:yV (X.wish E) pins σ H s):yV X pins σ H s:=⟨I.ok.unwish,I.os,I.bare,I.base,I.loc,I.cell,I.free,I.freeC,I.pin,I.hok,I.len⟩
theorem SP.unwish {D:Eg}{f:Flow}{s':Shared}(h:SP (X.wish E) pins D f s'):SP X pins D f s':=by
 cases f with
 |next=>obtain⟨σ',H',I,q⟩:=h;exact⟨σ',H',I.unwish,q⟩
 |brk=>obtain⟨σ',H',I,q⟩:=h;exact⟨σ',H',I.unwish,q⟩
 |cont=>obtain⟨σ',H',I,q⟩:=h;exact⟨σ',H',I.unwish,q⟩
 |ret u=>obtain⟨v,σ',H',I,r,q⟩:=h;exact⟨v,σ',H',I.unwish,r,q⟩
theorem JK.nox {st:List Stmt}{t:TS}(h:JK X.nox st t):JK X st t:=⟨λpins s σ H D I hw=>
 kJ (h pins s σ H D (I.wish _) hw) (λ_ _ q=>q.unwish) λ_ _ z=>False.elim z⟩
end
section
variable {X:Cx}{st:Stmt}{rest:List Stmt}{t u:TS}{e:Expr}{te:TE}{pos:Pos}
def TR:TS:=λD σ H=>D.nx σ H
def OV (t u:TS):TS:=λD σ H=>t {D with nx:=u D} σ H
theorem yR:JK X [] TR:=⟨λ_ _ σ H _ I h=>uQ ⟨σ,H,I,h⟩⟩
theorem zE (h1:PS X st t)(h2:JK X rest u):JK X (st::rest) (OV t u):=by
 refine⟨?_⟩;intro pins s σ H D I h;refine Dw (kB (h1 pins s σ H {D with nx:=u D} I h) λf s1 q=>?_);cases f with
 |next=>
  obtain⟨σ',H',I',q⟩:=q;exact h2 pins s1 σ' H' D I' q
 |ret v=>exact q
 |brk=>exact q
 |cont=>exact q
theorem zQ (h1:PS X st t):JK X [st] t:=by
 refine⟨?_⟩;intro pins s σ H D I h;refine Dw (kB (h1 pins s σ H D I h) λf s1 q=>?_);cases f with
 |next=>exact uQ q
 |ret v=>exact q
 |brk=>exact q
 |cont=>exact q
theorem yV.quiet {pins:List (Addr×Obj)}{σ:St}{H:Hp}{s:Shared}(I:yV X pins σ H s):interactive X.env=false:=by simp[interactive,I.ok.kind]
def VV (te:TE):TS:=λD σ H=>te σ H λ_ H1=>D.nx σ H1
theorem jO (he:PE X e te)(hs:swapsWith e none pos.line X.env=pure false:=by rfl):PS X (.Expr e pos) (VV te):=by
 refine⟨?_⟩;intro pins s σ H D I h;exact wpAny_Expr_any (kB (he pins s σ H _ I h) λv s1 ⟨x,H1,I1,r1,q1⟩=>⟨σ,H1,I1,q1⟩) I.quiet hs
def Qw (te:TE):TS:=λD σ H=>te σ H D.rt
theorem yO (he:PE X e te):PS X (.Return (some e) pos) (Qw te):=by
 refine⟨?_⟩;intro pins s σ H D I h;exact wpAny_Return_some (kB (he pins s σ H _ I h) λv s1 ⟨x,H1,I1,r1,q1⟩=>⟨x,σ,H1,I1,r1,q1⟩)
def VU (c:TT)(t u:TS):TS:=λD σ H=>c σ H λb H1=>if b=true then t D σ H1 else u D σ H1
theorem xS {c:Expr}{a b:List Stmt}{tc:TT}(hc:PT X c tc)(ha:JK X a t)(hb:JK X b u):PS X (.If c a b pos) (VU tc t u):=by
 refine⟨?_⟩;intro pins s σ H D I h;refine wpAny_If (kB (hc pins s σ H _ I h) λd s1 hzz=>?_);obtain⟨H1,I1,q1⟩:=hzz;cases d with
 |true=>exact ha pins s1 σ H1 D I1 q1
 |false=>exact hb pins s1 σ H1 D I1 q1
end
abbrev TG:=V->St->Hp->(St->Hp->Prop)->Prop
abbrev VL:=List V->St->Hp->(St->Hp->Prop)->Prop
structure PG (X:Cx)(target:Expr)(t:TG):Prop where
 go: ∀(pins:List (Addr×Obj)) (s:Shared) (σ:St) (H:Hp) (v:V) (u:Value) (Q:St->Hp->Prop),yV X pins σ H s->jM v u->t v σ H Q->
  wpAny (model X.prog X.w) X.A (assign target X.env u) (λ_ s'=> ∃σ' H',yV X pins σ' H' s'/\Q σ' H') X.xe s
instance {X:Cx}{target:Expr}{t:TG}:CoeFun (PG X target t) (λ_=> ∀(pins:List (Addr×Obj)) (s:Shared) (σ:St) (H:Hp) (v:V) (u:Value) (Q:St->Hp->Prop),yV X pins σ H s->jM v u->t v σ H Q->
  wpAny (model X.prog X.w) X.A (assign target X.env u) (λ_ s'=> ∃σ' H',yV X pins σ' H' s'/\Q σ' H') X.xe s):=⟨PG.go⟩
structure VM (X:Cx)(ts:List Expr)(t:VL):Prop where
 go: ∀(pins:List (Addr×Obj)) (s:Shared) (σ:St) (H:Hp) (vs:List V) (us:List Value) (Q:St->Hp->Prop),yV X pins σ H s->xT vs us->t vs σ H Q->
  wpAny (model X.prog X.w) X.A (assignInOrder ((assignEach ts X.env).map (·.2)) us) (λ_ s'=> ∃σ' H',yV X pins σ' H' s'/\Q σ' H') X.xe s
instance {X:Cx}{ts:List Expr}{t:VL}:CoeFun (VM X ts t) (λ_=> ∀(pins:List (Addr×Obj)) (s:Shared) (σ:St) (H:Hp) (vs:List V) (us:List Value) (Q:St->Hp->Prop),yV X pins σ H s->xT vs us->t vs σ H Q->
  wpAny (model X.prog X.w) X.A (assignInOrder ((assignEach ts X.env).map (·.2)) us) (λ_ s'=> ∃σ' H',yV X pins σ' H' s'/\Q σ' H') X.xe s):=⟨VM.go⟩
abbrev VC:=V->V->V->Hp->(Hp->Prop)->Prop
def WG (X:Cx)(t:VC):Prop:=
 ∀(pins:List (Addr×Obj)) (s:Shared) (σ:St) (H:Hp) (o i v:V) (ov iv u:Value) (Q:Hp->Prop),yV X pins σ H s->jM o ov->jM i iv->jM v u->t o i v H Q->
  wpAny (model X.prog X.w) X.A (setItem ov iv u) (λ_ s'=> ∃H',yV X pins σ H' s'/\Q H') X.xe s
abbrev Xm:=V->V->Hp->VK->Prop
def Yc (X:Cx)(op:Operator)(t:Xm):Prop:=
 ∀(pins:List (Addr×Obj)) (s:Shared) (σ:St) (H:Hp) (x y:V) (v u:Value) (Q:VK),yV X pins σ H s->jM x v->jM y u->t x y H Q->
  wpAny (model X.prog X.w) X.A (inplaceOp op v u) (EP X pins σ Q) X.xe s
section
variable {X:Cx}{pos:Pos}
def Mf (i:Nat):TG:=λv σ H Q=>Q (σ.set i (some v)) H
theorem jP {i:Nat}{x:Str}(hN:X.N.Nodup)(hi:X.N[i]? =some x)(hx:WN X.env.scope x)(hf:X.fn x=true\/X.env.scope.names.lookup x=some .local:=by first|exact .inl rfl|exact .inr rfl|assumption):PG X (.Name x pos) (Mf i):=by
 refine⟨?_⟩;intro pins s σ H v u Q I r h;exact wpAny_assign_Name (FY I hN hi hx r (λs' I'=>⟨_,H,I',h⟩) hf)
inductive Wy (vs:List V) (σ:St) (H:Hp) (Q:St->Hp->Prop):Prop
 |mk (h0:vs=[]) (h1:Q σ H):Wy vs σ H Q
inductive Um (t:TG) (u:VL) (vs:List V) (σ:St) (H:Hp) (Q:St->Hp->Prop):Prop
 |mk (v r:_) (h0:vs=v::r) (h1:t v σ H λσ' H'=>u r σ' H' Q):Um t u vs σ H Q
theorem ET:VM X [] Wy:=by
 refine⟨?_⟩;intro pins s σ H vs us Q I r h;obtain⟨e,h⟩:=h;subst e;cases r;exact assignInOrder_nil ⟨σ,H,I,h⟩
theorem kT {e:Expr}{es:List Expr}{t:TG}{u:VL}(h1:PG X e t)(h2:VM X es u)
  (hs:(assignEach (e::es) X.env).map (·.2)=assign e X.env::(assignEach es X.env).map (·.2):=by rfl):VM X (e::es) (Um t u):=by
 refine⟨?_⟩;intro pins s σ H vs us Q I r h;obtain⟨v,vr,e1,h⟩:=h;subst e1;cases r with
 |cons r rr=>
  rw[hs];refine assignInOrder_cons (kB (h1 pins s σ H _ _ _ I r h) λ_ s1 hzz=>?_);obtain⟨σ1,H1,I1,q1⟩:=hzz;exact h2 pins s1 σ1 H1 _ _ Q I1 rr q1
inductive Wx (K:PySem.W.Frag) (n:Nat) (t:VL) (v:V) (σ:St) (H:Hp) (Q:St->Hp->Prop):Prop
 |mk (a xs:_) (h0:v=.ref a) (h1:DX K H a xs) (h2:xs.length=n) (h3:t xs σ H Q):Wx K n t v σ H Q
theorem GL {es:List Expr}{k:Nat}{t:VL}{n:Nat}(hc:X.calm=true)(h:VM X es t)
  (hn:(assignEach es X.env).length =n:=by rfl) (hst:(assignEach es X.env).findIdx? (·.1)=none:=by rfl):PG X (.Tuple es k pos) (Wx X.K n t):=by
 refine⟨?_⟩;intro pins s σ H v u Q I r hw;obtain⟨a,xs,e1,hq,hl,hw⟩:=hw;subst e1;cases r;obtain⟨its,rv,ht,hz⟩:=I.tuple hq;refine assign_Tuple_tuple (I.ok.hd hc) ht (by simp[hn,<-hl,rv.length]) hst λh' hx=>?_;have I1:yV X pins σ H {s with heap:=h'}:=I.kept (t':=s.toks) λb o e=>hx b o (xR (zX e)) e;exact h pins _ σ H xs _ Q I1 (by simpa using rv) hw
def Tm (to ti:TE)(t:VC):TG:=λv σ H Q=>to σ H λo H1=>ti σ H1 λi H2=>t o i v H2 λH3=>Q σ H3
theorem Nl {o i:Expr}{to ti:TE}{t:VC}(ho:PE X o to)(hi:PE X i ti)(hs:WG X t)
  (ha: ∀v,assign (.Subscript o i pos) X.env v=(do
   let ov<-holding [v] (eval o X.env)
   let iv<-holding [v,ov] (eval i X.env)
   standAt pos
   holding [v,ov,iv] (setItem ov iv v)
   release [v,ov,iv] []):=by intro _;rfl):PG X (.Subscript o i pos) (Tm to ti t):=by
 refine⟨?_⟩;intro pins s σ H v u Q I r h;rw[ha];refine zA (qW (kB (ho pins s σ H _ I h) λov s1 hzz=>?_));obtain⟨x,H1,I1,r1,q1⟩:=hzz;refine zA (qW (kB (hi pins s1 σ H1 _ I1 q1) λiv s2 hzz=>?_));obtain⟨y,H2,I2,r2,q2⟩:=hzz;refine zA (AI (zA (qW (kB (hs pins s2 σ H2 x y v ov iv u _ I2 r1 r2 r q2) λ_ s3 hzz=>?_))));obtain⟨H3,I3,q3⟩:=hzz;exact wpAny_release ⟨σ,H3,I3,q3⟩
def MR (te:TE)(g:TG):TS:=λD σ H=>te σ H λx H1=>g x σ H1 D.nx
theorem GK {tg e:Expr}{te:TE}{g:TG}(he:PE X e te)(hg:PG X tg g)(hs:swapsWithSole [tg] e pos.line X.env=pure false:=by rfl)(hw:swappedStores [tg] e X.env=pure none:=by rfl)
  (h1:(assignEach [tg] X.env).map (·.2)=[assign tg X.env]:=by rfl):PS X (.Assign [tg] e pos) (MR te g):=by
 refine⟨?_⟩;intro pins s σ H D I h;refine wpAny_Assign_stores (kB (he pins s σ H _ I h) λv s1 ⟨x,H1,I1,r1,q1⟩=>?_) hs hw;rw[h1];exact kB (hg pins s1 σ H1 x v _ I1 r1 q1) λ_ s2 q=>q
theorem xI {i:Nat}{x:Str}{e:Expr}{te:TE}{pos':Pos}(hN:X.N.Nodup)(hi:X.N[i]? =some x)(hx:WN X.env.scope x)(he:PE X e te)(hs:swapsWith e (some (.Name x pos')) pos.line X.env=pure false:=by rfl)(hf:X.fn x=true\/X.env.scope.names.lookup x=some .local:=by first|exact .inl rfl|exact .inr rfl|assumption):
  PS X (.Assign [.Name x pos'] e pos) (MR te (Mf i)):=by
 refine⟨?_⟩;intro pins s σ H D I h;refine wpAny_Assign_Name (kB (he pins s σ H _ I h) λv s1 ⟨y,H1,I1,r1,q1⟩=>?_) hs;exact FY I1 hN hi hx r1 (λs2 I2=>⟨_,H1,I2,q1⟩) hf
def XB (i:Nat)(te:TE)(ti:Xm):TS:=λD σ H=> ∃x,σ[i]? =some (some x)/\te σ H λy H1=>ti x y H1 λz H2=>D.nx (σ.set i (some z)) H2
theorem UL {i:Nat}{x:Str}{e:Expr}{te:TE}{op:Operator}{ti:Xm}{pos':Pos}(hN:X.N.Nodup)(hi:X.N[i]? =some x)(hx:WN X.env.scope x)(he:PE X e te)(ho:Yc X op ti)(hf:X.fn x=true\/X.env.scope.names.lookup x=some .local:=by first|exact .inl rfl|exact .inr rfl|assumption):
  PS X (.AugAssign (.Name x pos') op e pos) (XB i te ti):=by
 refine⟨?_⟩;intro pins s σ H D I h;obtain⟨v,e1,h⟩:=h;obtain⟨m,hn,hl⟩:=I.loc;have vis:Xl X.env.scope x:=by rcases hx with k|k;exact .inl k;exact .inr (.inl k)
 obtain⟨u,r,l⟩:=hl i x v hi e1 vis;refine wpAny_AugAssign_Name ?_;have go:wpAny (model X.prog X.w) X.A (eval e X.env) (λw s₂=>wpAny (model X.prog X.w) X.A (inplaceOp op u w) (λr s₃=>wpAny (model X.prog X.w) X.A (storeName X.env x r) (λ_=>SP X pins D .next) X.xe s₃) X.xe s₂) X.xe s:=by
  refine kB (he pins s σ H _ I h) λw s1 hzz=>?_;obtain⟨y,H1,I1,r1,q1⟩:=hzz;refine kB (ho pins s1 σ H1 v y u w _ I1 r r1 q1) λz s2 hzz=>?_;obtain⟨zv,H2,I2,r2,q2⟩:=hzz;exact FY I2 hN hi hx r2 (λs3 I3=>⟨_,H2,I3,q2⟩) hf
 rcases l with⟨hk,hm⟩|⟨hk,c,hc,hcell⟩
 ·exact wpAny_loadName_local I.ok.kind hk hn hm go
 ·rcases hk with hk|hk
  ·exact wpAny_loadName_cell I.ok.kind hk hc hcell go
  ·rcases hx with k|k
   ·have:X.env.scope.names.lookup x=some .free:=hk;rw[k]at this;cases this
   ·have:X.env.scope.names.lookup x=some .free:=hk;rw[k]at this;cases this
def ZE (f:Int->Int->Int):Xm:=λx y H Q=> ∃i j,x=.int i/\y=.int j/\Q (.int (f i j)) H
theorem Vq:Yc X .Add (ZE λi j=>i+j):=by
 intro pins s σ H x y v u Q I r1 r2 h;obtain⟨i,j,e1,e2,q⟩:=h;subst e1;subst e2;obtain⟨t,rfl⟩:=r1;obtain⟨t',rfl⟩:=r2;exact iadd_int ⟨.int _,H,I.tok _,⟨_,rfl⟩,q⟩
def Uy (c:TT)(tb:TS):TS:=λD σ H=> ∃W:Nat->St->Hp->Prop,(∃m,W m σ H)/\ ∀m σ H,W m σ H->
 c σ H λb H1=>if b=true then ∃N:St->Hp->Prop,(∀σ' H',N σ' H'-> ∃m',m'<m/\W m' σ' H')/\tb {D with nx:=N,ct:=N,bk:=D.nx} σ H1 else D.nx σ H1
theorem Ic {c:Expr}{body:List Stmt}{tc:TT}{tb:TS}(hp:PassesOwn (model X.prog X.w) X.A X.env X.xe)(hc:PT X c tc)(hb:JK X body tb):PS X (.While c body [] pos) (Uy tc tb):=by
 refine⟨?_⟩;intro pins s σ H D I h;obtain⟨W,⟨m0,w0⟩,turn⟩:=h;refine wpAny_While (codeAny_whileLoop (λn s'=> ∃σ' H',yV X pins σ' H' s'/\W n σ' H') ?_ m0 ⟨σ,H,I,w0⟩);rintro n s1 ⟨σ1,H1,I1,w1⟩;refine qJ hp (kB (hc pins s1 σ1 H1 _ I1 (turn n σ1 H1 w1)) λb s2 hzz=>?_);obtain⟨H2,I2,q2⟩:=hzz;cases b with
 |true=>
  obtain⟨N,hN,q2⟩:=q2;rw[zR rfl];refine qJ hp (kB (hb pins s2 σ1 H2 _ I2 q2) λf s3 q3=>?_);cases f with
  |next=>
   obtain⟨σ3,H3,I3,n3⟩:=q3;obtain⟨m',hm,w3⟩:=hN σ3 H3 n3;exact⟨m',hm,σ3,H3,I3,w3⟩
  |cont=>
   obtain⟨σ3,H3,I3,n3⟩:=q3;obtain⟨m',hm,w3⟩:=hN σ3 H3 n3;exact⟨m',hm,σ3,H3,I3,w3⟩
  |brk=>exact q3
  |ret v=>exact q3
 |false=>
  rw[zH zZ];exact uQ ⟨σ1,H2,I2,q2⟩
end
structure It where
 go:Nat->Hp->Prop
 yld:Nat->Hp->V->Hp->Prop
 stop:Nat->Hp->Prop
def IU (X:Cx)(pins:List (Addr×Obj))(H:Hp)(b:Addr):Prop:=
 H b=none/\b≠X.env.locals/\b∉X.fs/\(b∈X.ex\/X.s₀.heap.objs.size<=b)/\(∀x c,X.env.cells.lookup x=some c->c≠b)/\ ∀p∈X.pn++pins,p.1≠b
theorem yV.fpOk {X:Cx}{pins:List (Addr×Obj)}{σ:St}{H H':Hp}{s:Shared}{b:Addr}(I:yV X pins σ H s)(hb:s.heap.objs.size<=b)(hn:H' b=none):IU X pins H' b:=by
 refine⟨hn,wM (yG I.lt hb),I.nofs hb,.inr (yJ I.sz hb),λx c e z=>?_,λp hp z=>?_⟩
 ·obtain⟨v,q⟩:=I.cell x c e;exact absurd (yG q.lt (by rw[z];exact hb)) (jJ _)
 ·exact absurd (yG (zX (I.pin p hp).1) (by rw[z];exact hb)) (jJ _)
structure KO (P:Program)(w:World)(K:PySem.W.Frag)(tg:Expr)(J:It)(fp:List Addr)(it:Addr)(tn:Nat->Heap->Prop):Prop where
 mem:it∈fp
 obj: ∀i h,tn i h-> ∀b∈fp,∃o,h.get? b=some o/\ ∀v,o.data≠ .cell v
 keep: ∀i h h',tn i h->(∀b∈fp,∀o,h.get? b=some o->h'.get? b=some o)->tn i h'
 item: ∀(X:Cx),X.prog=P->X.w=w->X.K=K->X.calm=true-> ∀(i:Nat) (pins:List (Addr×Obj)) (s:Shared) (σ:St) (H:Hp) (E:Value->Shared->Prop),yV X pins σ H s->(∀b∈fp,IU X pins H b)->tn i s.heap->J.go i H->
  wpAny (model P w) X.A (pyNext (.ref it)) (λr s1=> ∃u,r=some u/\
   wpAny (model P w) X.A (letOwnedTupleGo tg (.ref it) u) (λ_ s2=> ∃x H',yV X pins σ H' s2/\jM x u/\J.yld i H x H'/\tn (i+1) s2.heap/\ ∀b∈fp,H' b=none) E s1) E s
 done: ∀(X:Cx),X.prog=P->X.w=w->X.K=K->X.calm=true-> ∀(i:Nat) (pins:List (Addr×Obj)) (s:Shared) (σ:St) (H:Hp) (E:Value->Shared->Prop),yV X pins σ H s->(∀b∈fp,IU X pins H b)->tn i s.heap->J.stop i H->
  wpAny (model P w) X.A (pyNext (.ref it)) (λr s1=>r=none/\yV X pins σ H s1) E s
 self: ∀(A:Around) (i:Nat) (s:Shared) (Q:Value->Shared->Prop) (E:Value->Shared->Prop),tn i s.heap->Q (.ref it) s->wpAny (model P w) A (pyIter (.ref it)) Q E s
abbrev TI:=St->Hp->(It->Hp->Prop)->Prop
def Xo (X:Cx)(pins:List (Addr×Obj))(σ:St)(tg:Expr)(R:It->Hp->Prop)(itv:Value)(s2:Shared):Prop:=
 ∃(it:Addr) (fp:List Addr) (tn:Nat->Heap->Prop) (J:It) (H':Hp),itv=.ref it/\yV X pins σ H' s2/\KO X.prog X.w X.K tg J fp it tn/\tn 0 s2.heap/\(∀b∈fp,IU X pins H' b)/\R J H'
structure PI (X:Cx)(tg iter:Expr)(wi:TI):Prop where
 go: ∀(pins:List (Addr×Obj)) (s:Shared) (σ:St) (H:Hp) (R:It->Hp->Prop),yV X pins σ H s->wi σ H R->
  wpAny (model X.prog X.w) X.A (eval iter X.env) (λv s1=>wpAny (model X.prog X.w) X.A (pyIter v) (Xo X pins σ tg R) X.xe s1) X.xe s
instance {X:Cx}{tg iter:Expr}{wi:TI}:CoeFun (PI X tg iter wi) (λ_=> ∀(pins:List (Addr×Obj)) (s:Shared) (σ:St) (H:Hp) (R:It->Hp->Prop),yV X pins σ H s->wi σ H R->
  wpAny (model X.prog X.w) X.A (eval iter X.env) (λv s1=>wpAny (model X.prog X.w) X.A (pyIter v) (Xo X pins σ tg R) X.xe s1) X.xe s):=⟨PI.go⟩
theorem Ix {M : Model} {A : Around} {E : Value -> Shared -> Prop} {s : Shared} {tg : Expr} {it : Addr} {u : Value} {o : Obj} {n : String} {vs : Array Value} {Q : Unit -> Shared -> Prop} (ho : s.heap.get? it = some o) (hc : o.cls = .type n) (hd : o.data = .fields vs)
    (hn : ["enumerate", "zip", "dict_itemiterator", "dict_reverseitemiterator", "odict_iterator", "itertools.zip_longest", "itertools.pairwise"].contains n = false) (hQ : Q () s) : wpAny M A (letOwnedTupleGo tg (.ref it) u) Q E s := by
  unfold letOwnedTupleGo;cases tg <;> first
    | exact zL hQ
    | (cases u <;> first
        | exact zL hQ
        | (refine zA (wpAny_load ho ?_)
           rw [hc, hd];show wpAny M A (if (["enumerate", "zip", "dict_itemiterator", "dict_reverseitemiterator", "odict_iterator", "itertools.zip_longest", "itertools.pairwise"].contains n && vs[0]? == some (rawInt _)) = true then _ else _) Q E s;rw [zH (by intro h; rw [hn, Bool.false_and] at h; cases h)];exact zL hQ))
def VO (K:PySem.W.Frag)(a:Addr):It:=
 ⟨λi H=> ∃xs x,Ef K H a xs/\xs[i]? =some x,λi H x H'=>H'=H/\ ∀xs,Ef K H a xs->xs[i]? =some x,λi H=> ∃xs,Ef K H a xs/\xs.length<=i⟩
def WR (K:PySem.W.Frag)(a:Addr):It:=
 ⟨λi H=> ∃xs x,DX K H a xs/\xs[i]? =some x,λi H x H'=>H'=H/\ ∀xs,DX K H a xs->xs[i]? =some x,λi H=> ∃xs,DX K H a xs/\xs.length<=i⟩
def VG (lo:Int)(n:Nat):It:=⟨λi _=>i<n,λi H x H'=>H'=H/\x=.int (lo+i),λi _=>n<=i⟩
theorem IZ {P:Program}{w:World}{K:PySem.W.Frag}{tg:Expr}(a it:Addr):KO P w K tg (VO K a) [it] it (λi h=>h.IsListIter it a i) where
 mem:=by simp
 obj:=λi h st b hb=>by
  have e:b=it:=by simpa using hb
  subst e;obtain⟨o,e,c,d⟩:=st;exact⟨o,e,λv z=>by rw[d]at z;cases z⟩
 keep:=λi h h' st k=>st.at λo e=>k it (by simp) o e
 item:=by
  intro X hP hw hK hc i pins s σ H E I hf st hg;subst hP hw hK;obtain⟨xs,x,hq,hx⟩:=hg;obtain⟨its,rv,p,hz⟩:=I.list hq;obtain⟨u,hu,ru⟩:=rv.get hx;obtain⟨f0,f1,f2,f3,f4,f5⟩:=hf it (by simp);refine wpAny_pyNext_list_item st p.isList (x:=u) (by simpa using hu) λh' st' sb=>?_;have I1:yV X pins σ H {s with heap:=h'}:=I.turned (t':=s.toks) (λb o hb e=>(sb.2 b hb).trans e) f0 f1 f3 f4 f5;obtain⟨o,e,c,d⟩:=id st';exact⟨u,rfl,Ix (s:={s with heap:=h'}) e c d (by decide) ⟨x,H,I1,ru,⟨rfl,λys hy=>by rw[I.list_inj hy hq];exact hx⟩,st',λb hb=>(hf b hb).1⟩⟩
 done:=by
  intro X hP hw hK hc i pins s σ H E I hf st hg;subst hP hw hK;obtain⟨xs,hq,hx⟩:=hg;obtain⟨its,rv,p,hz⟩:=I.list hq;obtain⟨f0,f1,f2,f3,f4,f5⟩:=hf it (by simp);have hl:=rv.length;exact wpAny_pyNext_list_end (I.ok.hd hc) st p.isList (by simp;lia) λh' eb=>⟨rfl,I.turned (t':=s.toks) (λb o hb e=>eb b o hb e) f0 f1 f3 f4 f5⟩
 self:=λ_ _ _ _ _ st h=>wpAny_pyIter_listiter st h
theorem MO {P:Program}{w:World}{K:PySem.W.Frag}{tg:Expr}(a it:Addr):KO P w K tg (WR K a) [it] it (λi h=>h.IsTupleIter it a i) where
 mem:=by simp
 obj:=λi h st b hb=>by
  have e:b=it:=by simpa using hb
  subst e;obtain⟨o,e,c,d⟩:=st;exact⟨o,e,λv z=>by rw[d]at z;cases z⟩
 keep:=λi h h' st k=>st.at λo e=>k it (by simp) o e
 item:=by
  intro X hP hw hK hc i pins s σ H E I hf st hg;subst hP hw hK;obtain⟨xs,x,hq,hx⟩:=hg;obtain⟨its,rv,p,hz⟩:=I.tuple hq;obtain⟨u,hu,ru⟩:=rv.get hx;obtain⟨f0,f1,f2,f3,f4,f5⟩:=hf it (by simp);refine wpAny_pyNext_tuple_item st (show s.heap.IsTuple a its.toArray from p) (x:=u) (by simpa using hu) λh' st' sb=>?_;have I1:yV X pins σ H {s with heap:=h'}:=I.turned (t':=s.toks) (λb o hb e=>(sb.2 b hb).trans e) f0 f1 f3 f4 f5;obtain⟨o,e,c,d⟩:=id st';exact⟨u,rfl,Ix (s:={s with heap:=h'}) e c d (by decide) ⟨x,H,I1,ru,⟨rfl,λys hy=>by rw[I.tuple_inj hy hq];exact hx⟩,st',λb hb=>(hf b hb).1⟩⟩
 done:=by
  intro X hP hw hK hc i pins s σ H E I hf st hg;subst hP hw hK;obtain⟨xs,hq,hx⟩:=hg;obtain⟨its,rv,p,hz⟩:=I.tuple hq;obtain⟨f0,f1,f2,f3,f4,f5⟩:=hf it (by simp);have hl:=rv.length;exact wpAny_pyNext_tuple_end (I.ok.hd hc) st (show s.heap.IsTuple a its.toArray from p) (by simp;lia) λh' eb=>⟨rfl,I.turned (t':=s.toks) (λb o hb e=>eb b o hb e) f0 f1 f3 f4 f5⟩
 self:=λ_ _ _ _ _ st h=>wpAny_pyIter_tupleiter st h
theorem MP {P:Program}{w:World}{K:PySem.W.Frag}{tg:Expr}(it:Addr)(lo:Int)(n:Nat):KO P w K tg (VG lo n) [it] it (λi h=>IsRangeIter h it (lo+(i:Nat)*1) ((n:Int)-(i:Nat)) 1) where
 mem:=by simp
 obj:=λi h st b hb=>by
  have e:b=it:=by simpa using hb
  subst e;exact⟨_,st,λv z=>by
   have z':Data.fields _=Data.cell v:=z;cases z'⟩
 keep:=λi h h' st k=>k it (by simp) _ st
 item:=by
  intro X hP hw hK hc i pins s σ H E I hf st hg;subst hP hw hK;obtain⟨f0,f1,f2,f3,f4,f5⟩:=hf it (by simp);have W:=Walks.range (prog:=X.prog) (w:=X.w) (I.ok.hd hc) it lo 1 n;refine W.item i s _ _ hg st λv h' tk hv st' kk=>?_;obtain⟨t,rfl⟩:=hv;have I1:yV X pins σ H {s with heap:=h',toks:=tk}:=I.turned (λb o hb e=>kk b o (by simpa using hb) e) f0 f1 f3 f4 f5;refine⟨_,rfl,Ix (s:={s with heap:=h',toks:=tk}) (n:="range_iterator") st' rfl rfl (by decide) ⟨.int (lo+i),H,I1,⟨t,?_⟩,⟨rfl,rfl⟩,st',λb hb=>(hf b hb).1⟩⟩;rw[Int.mul_one]
 done:=by
  intro X hP hw hK hc i pins s σ H E I hf st hg;subst hP hw hK;obtain⟨f0,f1,f2,f3,f4,f5⟩:=hf it (by simp);exact wpAny_pyNext_range_end (I.ok.hd hc) st (by have:n<=i:=hg;lia) λh' eb=>⟨rfl,I.turned (t':=s.toks) (λb o hb e=>eb b o hb e) f0 f1 f3 f4 f5⟩
 self:=λ_ _ _ _ _ st h=>wpAny_pyIter_rangeiter st h
section
variable {X:Cx}{tg:Expr}
inductive RB (K:PySem.W.Frag) (x:V) (H1:Hp) (R:It->Hp->Prop):Prop
 |mk (a:_) (h0:x=.ref a) (h1:(∃xs,Ef K H1 a xs)) (h2:R (VO K a) H1):RB K x H1 R
def Uk (K:PySem.W.Frag)(tl:TE):TI:=λσ H R=>tl σ H λx H1=>RB K x H1 R
inductive Uh (K:PySem.W.Frag) (x:V) (H1:Hp) (R:It->Hp->Prop):Prop
 |mk (a:_) (h0:x=.ref a) (h1:(∃xs,DX K H1 a xs)) (h2:R (WR K a) H1):Uh K x H1 R
def XM (K:PySem.W.Frag)(tl:TE):TI:=λσ H R=>tl σ H λx H1=>Uh K x H1 R
theorem Kl {l:Expr}{tl:TE}(hl:PE X l tl):PI X tg l (Uk X.K tl):=by
 refine⟨?_⟩;intro pins s σ H R I h;refine kB (hl pins s σ H _ I h) λv s1 hzz=>?_;obtain⟨x,H1,I1,r1,q1⟩:=hzz;obtain⟨a,e,⟨xs,hq⟩,q⟩:=q1;subst e;cases r1;obtain⟨its,rv,p,hz⟩:=I1.list hq;refine CA p.isList ?_;refine⟨s1.heap.objs.size,[s1.heap.objs.size],_,_,H1,rfl,I1.kept (t':=s1.toks) λb o e=>zD _ e,IZ a _,⟨_,yC _ rfl,rfl,rfl⟩,λb hb=>?_,q⟩;have e:b=s1.heap.objs.size:=by simpa using hb
 subst e;exact I1.fpOk (zP _) (I1.hok.fresh (zP _))
theorem UO {l:Expr}{tl:TE}(hl:PE X l tl):PI X tg l (XM X.K tl):=by
 refine⟨?_⟩;intro pins s σ H R I h;refine kB (hl pins s σ H _ I h) λv s1 hzz=>?_;obtain⟨x,H1,I1,r1,q1⟩:=hzz;obtain⟨a,e,⟨xs,hq⟩,q⟩:=q1;subst e;cases r1;obtain⟨its,rv,p,hz⟩:=I1.tuple hq;refine wpAny_pyIter_tuple (show s1.heap.IsTuple a its.toArray from p) ?_;refine⟨s1.heap.objs.size,[s1.heap.objs.size],_,_,H1,rfl,I1.kept (t':=s1.toks) λb o e=>zD _ e,MO a _,⟨_,yC _ rfl,rfl,rfl⟩,λb hb=>?_,q⟩;have e:b=s1.heap.objs.size:=by simpa using hb
 subst e;exact I1.fpOk (zP _) (I1.hok.fresh (zP _))
theorem QF {pins:List (Addr×Obj)}{σ:St}{H:Hp}{s:Shared}{R:It->Hp->Prop}{E:Value->Shared->Prop}{lo hi:Int}{t u v:Tok}{tk:Nat}(I:yV X pins σ H s)(h1: -(2^62)<=lo)(h2:lo<2^62)(h3: -(2^62)<=hi)(h4:hi<2^62)
  (q:R (VG lo (hi-lo).toNat) H):wpAny (model X.prog X.w) X.A (pyIter (.ref s.heap.objs.size)) (Xo X pins σ tg R) E {s with heap:=s.heap.push {cls:=.type "range",data:=.fields #[.int lo t,.int hi u,.int 1 v]},toks:=tk}:=by
 refine wpAny_pyIter_range (IsRange.new ..) (small_one h1 h2 h3 h4) ?_;have I1:yV X pins σ H {s with heap:=s.heap.push {cls:=.type "range",data:=.fields #[.int lo t,.int hi u,.int 1 v]},toks:=tk}:=I.kept λb o e=>zD _ e;refine⟨(s.heap.push {cls:=.type "range",data:=.fields #[.int lo t,.int hi u,.int 1 v]}).objs.size,[(s.heap.push {cls:=.type "range",data:=.fields #[.int lo t,.int hi u,.int 1 v]}).objs.size],_,_,H,rfl,
  I1.kept (t':=tk) λb o e=>zD _ e,MP _ lo (hi-lo).toNat,?_,λb hb=>?_,q⟩
 ·have e1:lo+((0:Nat):Int)*1=lo:=by simp
  have e2:(((hi-lo).toNat:Nat):Int)-((0:Nat):Int)=Builtin.Range.rangeSize lo hi 1:=by rw[rangeSize_one];split<;>lia
  show IsRangeIter _ _ (lo+((0:Nat):Int)*1) ((((hi-lo).toNat:Nat):Int)-((0:Nat):Int)) 1;rw[e1,e2];exact yC _ rfl
 ·have e:b=(s.heap.push {cls:=.type "range",data:=.fields #[.int lo t,.int hi u,.int 1 v]}).objs.size:=by simpa using hb
  subst e;exact I1.fpOk (zP _) (I1.hok.fresh (zP _))
inductive Rz (vs:List V) (H1:Hp) (R:It->Hp->Prop):Prop
 |mk (j:Int) (h0:vs=[.int j]) (h1: -(2^62)<=j) (h2:j<2^62) (h3:R (VG 0 j.toNat) H1):Rz vs H1 R
def Wu (ta:TA):TI:=λσ H R=>ta σ H λvs H1=>Rz vs H1 R
theorem Di {a:Expr}{ta:TA}{p pos:Pos}(hg:Gl X "range")(hm:X.mg "range"=none)(ha:PA X [a] ta)(hs:starEach [a] X.env=[(false,eval a X.env)]:=by rfl):PI X tg (.Call (.Name "range" p) [a] [] pos) (Wu ta):=by
 refine⟨?_⟩;intro pins s σ H R I h;refine Call_ (FL I hg hm boot_range (jT (kB (ha pos pins s σ H _ I h) λus s1 ⟨vs,H1,I1,r1,q1⟩=>?_) hs rfl));obtain⟨j,e,q1,q2,q⟩:=q1;subst e;cases r1 with
 |cons r rr=>
  cases rr;obtain⟨t,rfl⟩:=r;exact call_range_1 (QF I1 (by lia) (by lia) q1 q2 (by simpa using q))
def Xx (wi:TI)(g:TG)(tb:TS):TS:=λD σ H=>wi σ H λJ H1=> ∃W:Nat->Nat->St->Hp->Prop,(∃m,W 0 m σ H1)/\ ∀i m σ H,W i m σ H->
 (J.stop i H/\D.nx σ H)\/(J.go i H/\ ∃N:St->Hp->Prop,(∀σ' H',N σ' H'-> ∃m',m'<m/\W (i+1) m' σ' H')/\ ∀x H',J.yld i H x H'->g x σ H' λσ2 H2=>tb {D with nx:=N,ct:=N,bk:=D.nx} σ2 H2)
def Ig (fp:List Addr)(h:Heap):List (Addr×Obj):=fp.filterMap λb=>(h.get? b).map λo=>(b,o)
theorem DT {fp:List Addr}{h:Heap}{b:Addr}{o:Obj}(hb:b∈fp)(e:h.get? b=some o):(b,o)∈Ig fp h:=List.mem_filterMap.mpr ⟨b,hb,by rw[e];rfl⟩
theorem Pr {fp:List Addr}{h:Heap}{p:Addr×Obj}(hp:p∈Ig fp h):p.1∈fp/\h.get? p.1=some p.2:=by
 obtain⟨b,hb,e⟩:=List.mem_filterMap.mp hp;cases q:h.get? b with
 |none=>rw[q]at e;cases e
 |some o=>
  rw[q]at e;have e':(b,o)=p:=xP e;subst e';exact⟨hb,q⟩
theorem yV.pinned {pins:List (Addr×Obj)}{σ:St}{H:Hp}{s:Shared}{fp:List Addr}(I:yV X pins σ H s)(hf: ∀b∈fp,IU X pins H b)(ho: ∀b∈fp,∃o,s.heap.get? b=some o/\ ∀v,o.data≠ .cell v):yV X (pins++Ig fp s.heap) σ H s:=
 I.pins_of λp hp=>(List.mem_append.mp hp).elim (λz=>I.pin p (xB _ z)) λz=>by
  obtain⟨hb,e⟩:=Pr z;obtain⟨f0,f1,f2,_⟩:=hf p.1 hb;obtain⟨o,e',d⟩:=ho p.1 hb;rw[e]at e';cases e';exact⟨e,f0,f1,f2,d⟩
theorem yV.unpinned {pins pl:List (Addr×Obj)}{σ:St}{H:Hp}{s:Shared}(I:yV X (pins++pl) σ H s):yV X pins σ H s:=I.pins_of λp hp=>I.pin p (xB _ (vK _ hp))
theorem BA {iter:Expr}{body:List Stmt}{wi:TI}{g:TG}{tb:TS}{pos:Pos}(hp:PassesOwn (model X.prog X.w) X.A X.env X.xe)(hc:X.calm=true)(hi:PI X tg iter wi)(hg:PG X tg g)(hb:JK X body tb)
  (hs: ∀x,foldedSetIterable iter X.env x=pure x:=by intro _;rfl):PS X (.For tg iter body [] pos) (Xx wi g tb):=by
 refine⟨?_⟩;intro pins s σ H D I h;refine wpAny_For (kB (hi pins s σ H _ I h) λv s1 h1=>kB h1 λitv s2 h2=>?_) hs;obtain⟨it,fp,tn,J,H2,e,I2,T,st2,f2,W,⟨m0,w0⟩,turn⟩:=h2;subst e;have stat: ∀{H':Hp},(∀b∈fp,H' b=none)-> ∀b∈fp,IU X pins H' b:=λhn b hb=>⟨hn b hb,(f2 b hb).2⟩;refine codeAny_forLoop_any (λn s'=> ∃i σ' H',yV X pins σ' H' s'/\tn i s'.heap/\(∀b∈fp,H' b=none)/\W i n σ' H') ?_ m0 ⟨0,σ,H2,I2,st2,λb hb=>(f2 b hb).1,w0⟩;rintro n s3 ⟨i,σ3,H3,I3,st3,fr3,w3⟩
 rcases turn i n σ3 H3 w3 with⟨stop,qn⟩|⟨go,N,hN,step⟩
 ·refine qJ hp (kB (T.done X rfl rfl rfl hc i pins s3 σ3 H3 X.xe I3 (stat fr3) st3 stop) λr s4 hzz=>?_);obtain⟨hr,I4⟩:=hzz;subst hr;exact uQ ⟨σ3,H3,I4,qn⟩
 ·refine qJ hp (kB (T.item X rfl rfl rfl hc i pins s3 σ3 H3 X.xe I3 (stat fr3) st3 go) λr s4 hzz=>?_);obtain⟨u,hr,h4⟩:=hzz;subst hr;refine qJ hp (kB h4 λ_ s5 hzz=>?_);obtain⟨x,H5,I5,r5,y5,st5,fr5⟩:=hzz;have I5':=I5.pinned (stat fr5) (T.obj _ _ st5);refine qJ hp (kB (hg _ s5 σ3 H5 x u _ I5' r5 (step x H5 y5)) λ_ s6 hzz=>?_);obtain⟨σ6,H6,I6,q6⟩:=hzz;refine qJ hp (kB (hb _ s6 σ6 H6 _ I6 q6) λf s7 q7=>?_);have again: ∀{σ7:St} {H7:Hp},yV X (pins++Ig fp s5.heap) σ7 H7 s7->N σ7 H7-> ∃m,m<n/\ ∃i σ' H',yV X pins σ' H' s7/\tn i s7.heap/\(∀b∈fp,H' b=none)/\W i m σ' H':=fun{σ7 H7} I7 n7=>by
   obtain⟨m',hm,w7⟩:=hN σ7 H7 n7;refine⟨m',hm,i+1,σ7,H7,I7.unpinned,T.keep _ _ _ st5 λb hb o e=>(I7.pin (b,o) (xB _ (xB _ (DT hb e)))).1,λb hb=>?_,w7⟩;obtain⟨o,e,d⟩:=T.obj _ _ st5 b hb;exact(I7.pin (b,o) (xB _ (xB _ (DT hb e)))).2.1
  cases f with
  |next=>obtain⟨σ7,H7,I7,n7⟩:=q7;exact again I7 n7
  |cont=>obtain⟨σ7,H7,I7,n7⟩:=q7;exact again I7 n7
  |brk=>obtain⟨σ7,H7,I7,q7⟩:=q7;exact⟨σ7,H7,I7.unpinned,q7⟩
  |ret v=>obtain⟨x7,σ7,H7,I7,r7,q7⟩:=q7;exact⟨x7,σ7,H7,I7.unpinned,r7,q7⟩
end
theorem Mh {K:PySem.W.Frag}{a:Addr}{xs:List V}{g:TG}{tb:TS}{D:Eg}{σ:St}{H:Hp}(Pv:Nat->St->Hp->Prop)(h0:Pv 0 σ H)(hl: ∀i σ H,i<=xs.length->Pv i σ H->Ef K H a xs)
  (hs: ∀i x σ H,xs[i]? =some x->Pv i σ H->g x σ H λσ2 H2=>tb {D with nx:=Pv (i+1),ct:=Pv (i+1),bk:=D.nx} σ2 H2) (hd: ∀σ H,Pv xs.length σ H->D.nx σ H):
  ∃W:Nat->Nat->St->Hp->Prop,(∃m,W 0 m σ H)/\ ∀i m σ H,W i m σ H->
   ((VO K a).stop i H/\D.nx σ H)\/((VO K a).go i H/\ ∃N:St->Hp->Prop,(∀σ' H',N σ' H'-> ∃m',m'<m/\W (i+1) m' σ' H')/\ ∀x H',(VO K a).yld i H x H'->g x σ H' λσ2 H2=>tb {D with nx:=N,ct:=N,bk:=D.nx} σ2 H2):=by
 refine⟨λi m σ H=>m=xs.length-i/\i<=xs.length/\Pv i σ H,⟨xs.length,by simp,xA _,h0⟩,?_⟩;rintro i m σ H ⟨rfl,hi,p⟩;have q:=hl i σ H hi p
 by_cases hlt:i<xs.length
 ·refine .inr ⟨⟨xs,xs[i],q,by simp[hlt]⟩,Pv (i+1),λσ' H' p'=>⟨xs.length-(i+1),by lia,rfl,hlt,p'⟩,λx H' y=>?_⟩;obtain⟨e,y⟩:=y;subst e;exact hs i x σ _ (y xs q) p
 ·have e:i=xs.length:=by lia
  subst e;exact .inl ⟨⟨xs,q,zP _⟩,hd σ H p⟩
theorem Tp {K:PySem.W.Frag}{a:Addr}{xs:List V}{g:TG}{tb:TS}{D:Eg}{σ:St}{H:Hp}(Pv:Nat->St->Hp->Prop)(h0:Pv 0 σ H)(hl: ∀i σ H,i<=xs.length->Pv i σ H->DX K H a xs)
  (hs: ∀i x σ H,xs[i]? =some x->Pv i σ H->g x σ H λσ2 H2=>tb {D with nx:=Pv (i+1),ct:=Pv (i+1),bk:=D.nx} σ2 H2) (hd: ∀σ H,Pv xs.length σ H->D.nx σ H):
  ∃W:Nat->Nat->St->Hp->Prop,(∃m,W 0 m σ H)/\ ∀i m σ H,W i m σ H->
   ((WR K a).stop i H/\D.nx σ H)\/((WR K a).go i H/\ ∃N:St->Hp->Prop,(∀σ' H',N σ' H'-> ∃m',m'<m/\W (i+1) m' σ' H')/\ ∀x H',(WR K a).yld i H x H'->g x σ H' λσ2 H2=>tb {D with nx:=N,ct:=N,bk:=D.nx} σ2 H2):=by
 refine⟨λi m σ H=>m=xs.length-i/\i<=xs.length/\Pv i σ H,⟨xs.length,by simp,xA _,h0⟩,?_⟩;rintro i m σ H ⟨rfl,hi,p⟩;have q:=hl i σ H hi p
 by_cases hlt:i<xs.length
 ·refine .inr ⟨⟨xs,xs[i],q,by simp[hlt]⟩,Pv (i+1),λσ' H' p'=>⟨xs.length-(i+1),by lia,rfl,hlt,p'⟩,λx H' y=>?_⟩;obtain⟨e,y⟩:=y;subst e;exact hs i x σ _ (y xs q) p
 ·have e:i=xs.length:=by lia
  subst e;exact .inl ⟨⟨xs,q,zP _⟩,hd σ H p⟩
theorem Fb {lo:Int}{n:Nat}{g:TG}{tb:TS}{D:Eg}{σ:St}{H:Hp}(Pv:Nat->St->Hp->Prop)(h0:Pv 0 σ H)
  (hs: ∀i σ H,i<n->Pv i σ H->g (.int (lo+i)) σ H λσ2 H2=>tb {D with nx:=Pv (i+1),ct:=Pv (i+1),bk:=D.nx} σ2 H2) (hd: ∀σ H,Pv n σ H->D.nx σ H):
  ∃W:Nat->Nat->St->Hp->Prop,(∃m,W 0 m σ H)/\ ∀i m σ H,W i m σ H->
   ((VG lo n).stop i H/\D.nx σ H)\/((VG lo n).go i H/\ ∃N:St->Hp->Prop,(∀σ' H',N σ' H'-> ∃m',m'<m/\W (i+1) m' σ' H')/\ ∀x H',(VG lo n).yld i H x H'->g x σ H' λσ2 H2=>tb {D with nx:=N,ct:=N,bk:=D.nx} σ2 H2):=by
 refine⟨λi m σ H=>m=n-i/\i<=n/\Pv i σ H,⟨n,by simp,xA _,h0⟩,?_⟩;rintro i m σ H ⟨rfl,hi,p⟩
 by_cases hlt:i<n
 ·refine .inr ⟨hlt,Pv (i+1),λσ' H' p'=>⟨n-(i+1),by lia,rfl,hlt,p'⟩,λx H' y=>?_⟩;obtain⟨e,y⟩:=y;subst e y;exact hs i σ _ hlt p
 ·have e:i=n:=by lia
  subst e;exact .inl ⟨zP _,hd σ H p⟩
abbrev R2:=V->V->Hp->VK->Prop
def HI (X:Cx)(f:Value->Value->Sem Value)(r:R2):Prop:=
 ∀(pins:List (Addr×Obj)) (s:Shared) (σ:St) (H:Hp) (x y:V) (v u:Value) (Q:VK),yV X pins σ H s->jM x v->jM y u->r x y H Q->
  wpAny (model X.prog X.w) X.A (f v u) (EP X pins σ Q) X.xe s
def XT (X:Cx)(f:Value->Sem Value)(r:V->Hp->VK->Prop):Prop:=
 ∀(pins:List (Addr×Obj)) (s:Shared) (σ:St) (H:Hp) (x:V) (v:Value) (Q:VK),yV X pins σ H s->jM x v->r x H Q->
  wpAny (model X.prog X.w) X.A (f v) (EP X pins σ Q) X.xe s
def EL (X:Cx)(f:Value)(r:List V->Hp->VK->Prop):Prop:=
 ∀(pins:List (Addr×Obj)) (s:Shared) (σ:St) (H:Hp) (xs:List V) (us:List Value) (Q:VK),yV X pins σ H s->xT xs us->r xs H Q->
  wpAny (model X.prog X.w) X.A (call f us) (EP X pins σ Q) X.xe s
def XU (X:Cx)(r:V->Hp->(Bool->Hp->Prop)->Prop):Prop:=
 ∀(pins:List (Addr×Obj)) (s:Shared) (σ:St) (H:Hp) (x:V) (v:Value) (Q:Bool->Hp->Prop),yV X pins σ H s->jM x v->r x H Q->
  wpAny (model X.prog X.w) X.A (truthy v) (TP X pins σ Q) X.xe s
def MQ (r:R2)(ta tb:TE):TE:=λσ H Q=>ta σ H λx H1=>tb σ H1 λy H2=>r x y H2 Q
def Yh (r:V->Hp->VK->Prop)(ta:TE):TE:=λσ H Q=>ta σ H λx H1=>r x H1 Q
inductive rI (C:Int->Int->Prop) (g:Int->Int->V) (x:V) (y:V) (H:Hp) (Q:VK):Prop
 |mk (i j:_) (h0:x=.int i) (h1:y=.int j) (h2:C i j) (h3:Q (g i j) H):rI C g x y H Q
inductive SA (g:Int->Int->V) (x:V) (y:V) (H:Hp) (Q:VK):Prop
 |mk (i j:_) (h0:x=.int i) (h1:y=.int j) (h2:Q (g i j) H):SA g x y H Q
inductive rU (g:Int->V) (x:V) (H:Hp) (Q:VK):Prop
 |mk (i:_) (h0:x=.int i) (h1:Q (g i) H):rU g x H Q
section
variable {X:Cx}{a b c:Expr}{ta tb tc:TE}{pos:Pos}
theorem Vx (ha:PE X a ta)(hb:PE X b tb){pins:List (Addr×Obj)}{s:Shared}{σ:St}{H:Hp}{R:V->V->Hp->Prop}(I:yV X pins σ H s)
  (h:ta σ H λx H1=>tb σ H1 λy H2=>R x y H2) {Q:Value->Shared->Prop} {f:Value->Value->Sem Value}
  (hf: ∀v u s2 x y H2,yV X pins σ H2 s2->jM x v->jM y u->R x y H2->wpAny (model X.prog X.w) X.A (f v u) Q X.xe s2):
  wpAny (model X.prog X.w) X.A (eval a X.env) (λv s₁=>wpAny (model X.prog X.w) X.A (eval b X.env) (λu s₂=>wpAny (model X.prog X.w) X.A (f v u) Q X.xe s₂) X.xe s₁) X.xe s:=by
 refine kB (ha pins s σ H _ I h) λv s1 hzz=>?_;obtain⟨x,H1,I1,r1,q1⟩:=hzz;refine kB (hb pins s1 σ H1 _ I1 q1) λu s2 hzz=>?_;obtain⟨y,H2,I2,r2,q2⟩:=hzz;exact hf v u s2 x y H2 I2 r1 r2 q2
theorem xZ {op:Operator}{r:R2}(ho:HI X (binaryOp op) r)(ha:PE X a ta)(hb:PE X b tb):PE X (.BinOp a op b pos) (MQ r ta tb):=by
 refine⟨?_⟩;intro pins s σ H Q I h;exact wpAny_BinOp (Vx ha hb I h λv u s2 x y H2 I2 rx ry q=>ho pins s2 σ H2 x y v u Q I2 rx ry q)
theorem Uc {op:UnaryOp}{r:V->Hp->VK->Prop}(ho:XT X (unaryOp op) r)(ha:PE X a ta):PE X (.UnaryOp op a pos) (Yh r ta):=by
 refine⟨?_⟩;intro pins s σ H Q I h;exact UnaryOp_ (kB (ha pins s σ H _ I h) λv s1 ⟨x,H1,I1,r1,q1⟩=>ho pins s1 σ H1 x v Q I1 r1 q1)
theorem Xh {f:Value->Value->Sem Value}{C:Int->Int->Prop}{g:Int->Int->Int}
  (rule: ∀(i j:Int) (t u:Tok) (s:Shared) (Q:Value->Shared->Prop) (E:Value->Shared->Prop),C i j->Q (.int (g i j) s.toks) {s with toks:=s.toks+1}->wpAny (model X.prog X.w) X.A (f (.int i t) (.int j u)) Q E s):
  HI X f (rI C λi j=>.int (g i j)):=by
 intro pins s σ H x y v u Q I rx ry h;obtain⟨i,j,rfl,rfl,hc,q⟩:=h;obtain⟨t,rfl⟩:=rx;obtain⟨t',rfl⟩:=ry;exact rule i j t t' s _ _ hc ⟨.int (g i j),H,I.tok _,⟨_,rfl⟩,q⟩
theorem Wn {f:Value->Value->Sem Value}{g:Int->Int->Int}
  (rule: ∀(i j:Int) (t u:Tok) (s:Shared) (Q:Value->Shared->Prop) (E:Value->Shared->Prop),Q (.int (g i j) s.toks) {s with toks:=s.toks+1}->wpAny (model X.prog X.w) X.A (f (.int i t) (.int j u)) Q E s):
  HI X f (SA λi j=>.int (g i j)):=by
 intro pins s σ H x y v u Q I rx ry h;obtain⟨i,j,rfl,rfl,q⟩:=h;obtain⟨t,rfl⟩:=rx;obtain⟨t',rfl⟩:=ry;exact rule i j t t' s _ _ ⟨.int (g i j),H,I.tok _,⟨_,rfl⟩,q⟩
theorem Va {f:Value->Value->Sem Value}{g:Int->Int->Bool}
  (rule: ∀(i j:Int) (t u:Tok) (s:Shared) (Q:Value->Shared->Prop) (E:Value->Shared->Prop),Q (.bool (g i j)) s->wpAny (model X.prog X.w) X.A (f (.int i t) (.int j u)) Q E s):
  HI X f (SA λi j=>.bl (g i j)):=by
 intro pins s σ H x y v u Q I rx ry h;obtain⟨i,j,rfl,rfl,q⟩:=h;obtain⟨t,rfl⟩:=rx;obtain⟨t',rfl⟩:=ry;exact rule i j t t' s _ _ ⟨.bl (g i j),H,I,rfl,q⟩
def WY (i j:Int):Prop:=0<=j/\j<=1000000/\i.natAbs<2^64
def VJ (i j:Int):Prop:=(-(2^64)<i/\i<2^64)\/(-(2^64)<j/\j<2^64)
theorem VJ.ok {i j:Int}(h:VJ i j):IntMulOk i j:=by
 rcases h with⟨h1,h2⟩|⟨h1,h2⟩
 ·exact .of_left (intBits_le_64 h1 h2)
 ·exact .of_right (intBits_le_64 h1 h2)
theorem uV:HI X (binaryOp .Add) (SA λi j=>.int (i+j)):=Wn λ_ _ _ _ _ _ _ q=>add_int q
theorem DR:HI X (binaryOp .Sub) (SA λi j=>.int (i-j)):=Wn λ_ _ _ _ _ _ _ q=>sub_int q
theorem Ey:HI X (binaryOp .Mult) (rI VJ λi j=>.int (i*j)):=Xh λ_ _ _ _ _ _ _ hc q=>mul_int q hc.ok
theorem Ez:HI X (binaryOp .Mod) (rI (λ_ j=>0<j) λi j=>.int (i % j)):=Xh λi j _ _ _ _ _ hc q=>by
 have h1:(0:Int)<j:=hc;exact mod_int' (by lia) (by rw[Int.fmod_eq_emod_of_nonneg i (by lia)];exact q)
theorem No:HI X (binaryOp .Pow) (rI WY λi j=>.int (i^j.toNat)):=Xh λ_ _ _ _ _ _ _ hc q=>pow_int_small hc.1 hc.2.1 hc.2.2 q
theorem Yg {f:Value->Sem Value}{g:Int->Int}
  (rule: ∀(i:Int) (t:Tok) (s:Shared) (Q:Value->Shared->Prop) (E:Value->Shared->Prop),Q (.int (g i) s.toks) {s with toks:=s.toks+1}->wpAny (model X.prog X.w) X.A (f (.int i t)) Q E s):
  XT X f (rU λi=>.int (g i)):=by
 intro pins s σ H x v Q I rx h;obtain⟨i,rfl,q⟩:=h;obtain⟨t,rfl⟩:=rx;exact rule i t s _ _ ⟨.int (g i),H,I.tok _,⟨_,rfl⟩,q⟩
theorem Qq:XT X (unaryOp .USub) (rU λi=>.int (-i)):=Yg λ_ _ _ _ _ q=>neg_int q
end
def VZ:V->V->Bool
 | .non,.non=>true| .non,.int _=>true| .int _,.non=>true| .non,.bl _=>true| .bl _,.non=>true| .non,.str _=>true| .str _,.non=>true
 | .int _,.int _=>true| .bl _,.bl _=>true| .str _,.str _=>true| .byt _,.byt _=>true
 | .int _,.str _=>true| .str _,.int _=>true| .bl _,.str _=>true| .str _,.bl _=>true
 |_,_=>false
def ZC:R2:=λx y H Q=>VZ x y=true/\Q (.bl (decide (x=y))) H
def ZB:R2:=λx y H Q=>VZ x y=true/\Q (.bl (!decide (x=y))) H
theorem OH {i j:Int}:decide (V.int i=V.int j)=(i==j):=by
 rw[Bh]
 simp
 exact⟨λh=>by injection h,λh=>by rw[h]⟩
theorem RV {i j:Bool}:decide (V.bl i=V.bl j)=(i==j):=by
 rw[Bh]
 simp
 exact⟨λh=>by injection h,λh=>by rw[h]⟩
theorem OG {i j:Str}:decide (V.str i=V.str j)=(i==j):=by
 rw[Bh]
 simp
 exact⟨λh=>by injection h,λh=>by rw[h]⟩
theorem OI {i j:Array UInt8}:decide (V.byt i=V.byt j)=(i.toList==j.toList):=by
 rw[Bh];cases i;cases j
 simp
 exact⟨λh=>by injection h with h;injection h,λh=>by rw[h]⟩
section
variable {X:Cx}{a b c:Expr}{ta tb tc:TE}{pos:Pos}
theorem jN {pins:List (Addr×Obj)}{σ:St}{H:Hp}{s:Shared}{Q:VK}{k k':Bool}(I:yV X pins σ H s)(q:Q (.bl k) H)(e:k=k'):EP X pins σ Q (.bool k') s:=by
 subst e;exact⟨.bl k,H,I,rfl,q⟩
theorem jY:HI X (compareOp .Eq) ZC:=by
 intro pins s σ H x y v u Q I rx ry h;obtain⟨hs,q⟩:=h;cases x with
 |non=>
  cases rx;cases y with
  |non=>cases ry;exact PySem.EqNone.eq_none_none (jN I q (by simp))
  |bl j=>cases ry;exact PySem.EqNone.eq_none_bool (jN I q (by simp))
  |int j=>obtain⟨t',rfl⟩:=ry;exact PySem.EqNone.eq_none_int (jN I q (by simp))
  |str j=>obtain⟨t',rfl⟩:=ry;exact PySem.EqNone.eq_none_str (jN I q (by simp))
  |_=>exact absurd (show false=true from hs) zZ
 |bl i=>
  cases rx;cases y with
  |non=>cases ry;exact PySem.EqNone.eq_bool_none (jN I q (by simp))
  |bl j=>cases ry;exact eq_bool (jN I q RV)
  |str j=>obtain⟨t',rfl⟩:=ry;exact PySem.EqMixed.eq_bool_str (jN I q (by simp))
  |_=>exact absurd (show false=true from hs) zZ
 |int i=>
  obtain⟨t,rfl⟩:=rx;cases y with
  |non=>cases ry;exact PySem.EqNone.eq_int_none (jN I q (by simp))
  |int j=>obtain⟨t',rfl⟩:=ry;exact eq_int (jN I q OH)
  |str j=>obtain⟨t',rfl⟩:=ry;exact PySem.EqMixed.eq_int_str (jN I q (by simp))
  |_=>exact absurd (show false=true from hs) zZ
 |str i=>
  obtain⟨t,rfl⟩:=rx;cases y with
  |non=>cases ry;exact PySem.EqNone.eq_str_none (jN I q (by simp))
  |bl j=>cases ry;exact PySem.EqMixed.eq_str_bool (jN I q (by simp))
  |int j=>obtain⟨t',rfl⟩:=ry;exact PySem.EqMixed.eq_str_int (jN I q (by simp))
  |str j=>obtain⟨t',rfl⟩:=ry;exact eq_str (jN I q OG)
  |_=>exact absurd (show false=true from hs) zZ
 |byt i=>
  obtain⟨t,rfl⟩:=rx;cases y with
  |byt j=>obtain⟨t',rfl⟩:=ry;exact PySem.W.eq_bytes (jN I q OI)
  |_=>exact absurd (show false=true from hs) zZ
 |_=>cases y<;>exact absurd (show false=true from hs) zZ
theorem Ik:HI X (compareOp .NotEq) ZB:=by
 intro pins s σ H x y v u Q I rx ry h;obtain⟨hs,q⟩:=h;cases x with
 |non=>
  cases rx;cases y with
  |non=>cases ry;exact PySem.EqNone.ne_none_none (jN I q (by simp))
  |bl j=>cases ry;exact PySem.EqNone.ne_none_bool (jN I q (by simp))
  |int j=>obtain⟨t',rfl⟩:=ry;exact PySem.EqNone.ne_none_int (jN I q (by simp))
  |str j=>obtain⟨t',rfl⟩:=ry;exact PySem.EqNone.ne_none_str (jN I q (by simp))
  |_=>exact absurd (show false=true from hs) zZ
 |bl i=>
  cases rx;cases y with
  |non=>cases ry;exact PySem.EqNone.ne_bool_none (jN I q (by simp))
  |bl j=>cases ry;exact ne_bool (jN I q (xM not RV))
  |str j=>obtain⟨t',rfl⟩:=ry;exact PySem.EqMixed.ne_bool_str (jN I q (by simp))
  |_=>exact absurd (show false=true from hs) zZ
 |int i=>
  obtain⟨t,rfl⟩:=rx;cases y with
  |non=>cases ry;exact PySem.EqNone.ne_int_none (jN I q (by simp))
  |int j=>obtain⟨t',rfl⟩:=ry;exact ne_int (jN I q (xM not OH))
  |str j=>obtain⟨t',rfl⟩:=ry;exact PySem.EqMixed.ne_int_str (jN I q (by simp))
  |_=>exact absurd (show false=true from hs) zZ
 |str i=>
  obtain⟨t,rfl⟩:=rx;cases y with
  |non=>cases ry;exact PySem.EqNone.ne_str_none (jN I q (by simp))
  |bl j=>cases ry;exact PySem.EqMixed.ne_str_bool (jN I q (by simp))
  |int j=>obtain⟨t',rfl⟩:=ry;exact PySem.EqMixed.ne_str_int (jN I q (by simp))
  |str j=>obtain⟨t',rfl⟩:=ry;exact ne_str (jN I q (xM not OG))
  |_=>exact absurd (show false=true from hs) zZ
 |byt i=>
  obtain⟨t,rfl⟩:=rx;cases y with
  |byt j=>obtain⟨t',rfl⟩:=ry;exact PySem.W.ne_bytes (jN I q (xM not OI))
  |_=>exact absurd (show false=true from hs) zZ
 |_=>cases y<;>exact absurd (show false=true from hs) zZ
theorem Gj:HI X (compareOp .Lt) (SA λi j=>.bl (decide (i<j))):=Va λ_ _ _ _ _ _ _ q=>lt_int q
theorem Hf:HI X (compareOp .Gt) (SA λi j=>.bl (decide (j<i))):=Va λ_ _ _ _ _ _ _ q=>gt_int q
theorem Ud:HI X (compareOp .GtE) (SA λi j=>.bl (decide (j<=i))):=Va λ_ _ _ _ _ _ _ q=>ge_int q
theorem UZ:HI X (compareOp .Is) (λx y H Q=>y=.non/\Q (.bl (decide (x=.non))) H):=by
 intro pins s σ H x y v u Q I rx ry h;obtain⟨rfl,q⟩:=h;cases ry;refine is_none_gen (jN I q ?_);cases x<;>first
  |(cases rx;rfl)
  |(obtain⟨t,rfl⟩:=rx;rfl)
theorem SW:HI X (compareOp .IsNot) (λx y H Q=>y=.non/\Q (.bl (!decide (x=.non))) H):=by
 intro pins s σ H x y v u Q I rx ry h;obtain⟨rfl,q⟩:=h;cases ry;refine isnot_none_gen (jN I q ?_);cases x<;>first
  |(cases rx;rfl)
  |(obtain⟨t,rfl⟩:=rx;rfl)
theorem Kq:HI X (compareOp .NotIn) (λx y H Q=> ∃i j,x=.str i/\y=.str j/\Q (.bl (!(!(Builtin.Str.occurrences j i 0 j.length 1).isEmpty))) H):=by
 intro pins s σ H x y v u Q I rx ry h;obtain⟨i,j,rfl,rfl,q⟩:=h;obtain⟨t,rfl⟩:=rx;obtain⟨t',rfl⟩:=ry;exact notIn_str (jN I q rfl)
theorem yU (b:Expr){op:CmpOp}(h:op≠ .In:=by decide)(h2:op≠ .NotIn:=by decide):behindInMarks op b=false:=by
 have e1:(op==CmpOp.In)=false:=by cases op<;>first|rfl|exact absurd rfl h
 have e2:(op==CmpOp.NotIn)=false:=by cases op<;>first|rfl|exact absurd rfl h2
 cases b<;>simp[behindInMarks,e1,e2]
theorem EV {op:CmpOp}{r:R2}(ho:HI X (compareOp op) r)(ha:PE X a ta)(hb:PE X b tb)(hm:behindInMarks op b=false):PE X (.Compare a [op] [b] pos) (MQ r ta tb):=by
 refine⟨?_⟩;intro pins s σ H Q I h;exact wpAny_Compare1 (Vx ha hb I h λv u s2 x y H2 I2 rx ry q=>ho pins s2 σ H2 x y v u Q I2 rx ry q) hm
inductive Qv (x:V) (H':Hp) (Q:Bool->Hp->Prop):Prop
 |mk (k:_) (h0:x=.bl k) (h1:Q k H'):Qv x H' Q
def TQ (t:TE):TT:=λσ H Q=>t σ H λx H'=>Qv x H' Q
theorem yH {op:CmpOp}{r:R2}(ho:HI X (compareOp op) r)(ha:PE X a ta)(hb:PE X b tb)(hm:behindInMarks op b=false):PT X (.Compare a [op] [b] pos) (TQ (MQ r ta tb)):=by
 refine⟨?_⟩;intro pins s σ H Q I h;refine wpAny_isTrue_Compare1 (kB (ha pins s σ H _ I h) λv s1 ⟨x,H1,I1,r1,q1⟩=>kB (hb pins s1 σ H1 _ I1 q1) λu s2 ⟨y,H2,I2,r2,q2⟩=>
  kB (ho pins s2 σ H2 x y v u _ I2 r1 r2 q2) λc s3 ⟨z,H3,I3,r3,k,e,q3⟩=>?_) hm
 subst e;cases r3;exact kH ⟨H3,I3,q3⟩
def WD (K:PySem.W.Frag)(x:V)(H:Hp)(k:Bool):Prop:=
 match x with
 | .non=>k=false
 | .bl b=>k=b
 | .int i=>k=(i !=0)
 | .str y=>y.length<=sizeLine/\k=((y.length:Int)!=0)
 | .byt y=>y.size<=sizeLine/\k=((y.size:Int)!=0)
 | .ref p=>(∃xs,Ef K H p xs/\k=!xs.isEmpty)\/(∃xs,DX K H p xs/\k=!xs.isEmpty)\/ ∃kvs,H p=some (.dK kvs)/\k=!kvs.isEmpty
 |_=>False
theorem NI {κ:Type}{kvs:List (κ×V)}{vs:List (κ×Value)}(r:KV kvs vs):(!vs.isEmpty)=!kvs.isEmpty:=by
 cases r<;>rfl
theorem Iw {xs:List V}{its:List Value}(r:xT xs its):(!its.toArray.isEmpty)=!xs.isEmpty:=by
 cases r<;>simp
theorem CU:(sizeLine:Nat)<2^63:=by rw[Ab];decide
theorem Ux:XU X (λx H Q=> ∃k,WD X.K x H k/\Q k H):=by
 intro pins s σ H x v Q I rx h;obtain⟨k,e,q⟩:=h;have hl:=CU;have hs:sizeLine=16777216:=Ab;cases x with
 |non=>
  cases rx;have e':k=false:=e;subst e';exact truthy_none ⟨H,I,q⟩
 |bl b=>
  cases rx;have e':k=b:=e;subst e';exact kH ⟨H,I,q⟩
 |int i=>
  obtain⟨t,rfl⟩:=rx;have e':k=(i !=0):=e;subst e';exact PySem.P.truthy_int ⟨H,I,q⟩
 |str y=>
  obtain⟨t,rfl⟩:=rx;obtain⟨hy,e'⟩:y.length<=sizeLine/\k=((y.length:Int)!=0):=e;subst e';exact PySem.P.truthy_str (by lia) ⟨H,I.tok _,q⟩
 |byt y=>
  obtain⟨t,rfl⟩:=rx;obtain⟨hy,e'⟩:y.size<=sizeLine/\k=((y.size:Int)!=0):=e;subst e';exact PySem.W.truthy_bytes (by lia) ⟨H,I.tok _,q⟩
 |ref p=>
  cases rx;have e':(∃xs,Ef X.K H p xs/\k=!xs.isEmpty)\/(∃xs,DX X.K H p xs/\k=!xs.isEmpty)\/ ∃kvs,H p=some (.dK kvs)/\k=!kvs.isEmpty:=e
  rcases e' with⟨xs,hx,e'⟩|⟨xs,hx,e'⟩|⟨kvs,hx,e'⟩
  ·subst e';obtain⟨its,r,pl,hz⟩:=I.list hx;have hlen:=r.length;exact wpAny_truthy_list pl.isList (by simp only[zV];lia) ⟨H,I.tok _,by rw[Iw r];exact q⟩
  ·subst e';obtain⟨its,r,pl,hz⟩:=I.tuple hx;have hlen:=r.length;exact truthy_tuple pl (by simp only[zV];lia) ⟨H,I.tok _,by rw[Iw r];exact q⟩
  ·subst e';obtain⟨hz,hS,vs,r,m⟩:kvs.length<=sizeLine/\(p==sysModules)=false/\ ∃vs,KV kvs vs/\s.heap.DictOf (vD X.prog X.w) p vs:=I.hok p _ hx;have hlen:kvs.length=vs.length:=Paired.length r;exact wpAny_truthy_dict hS m (by lia) ⟨H,I.tok _,by rw[NI r];exact q⟩
 |_=>exact(show False from e).elim
theorem LF (ha:PE X a ta)(he: ∀whole,isTrue a X.env whole=(do let v<-whole;standAt a.pos;holding [v] (truthy v))):
  PT X a (λσ H Q=>ta σ H λx H'=> ∃k,WD X.K x H' k/\Q k H'):=by
 refine⟨?_⟩;intro pins s σ H Q I h;exact isTrue_plain (kB (ha pins s σ H _ I h) λv s1 ⟨x,H1,I1,r1,q1⟩=>Ux pins s1 σ H1 x v Q I1 r1 q1) (he _)
theorem HL {x:V}{us:List Value}(r:xT [x] us): ∃u,us=[u]/\jM x u:=by
 cases r with
 |cons r1 r2=>cases r2;exact⟨_,rfl,r1⟩
theorem Qp {x y:V}{us:List Value}(r:xT [x,y] us): ∃u w',us=[u,w']/\jM x u/\jM y w':=by
 cases r with
 |cons r1 r2=>
  cases r2 with
  |cons r3 r4=>cases r4;exact⟨_,_,rfl,r1,r3⟩
theorem MA:EL X (.builtin "abs") (λxs H Q=> ∃i,xs=[.int i]/\Q (.int (if i<0 then-i else i)) H):=by
 intro pins s σ H xs us Q I r h;obtain⟨i,rfl,q⟩:=h;obtain⟨u,rfl,t,rfl⟩:=HL r;exact call_abs_int λu tk=>⟨.int (if i<0 then-i else i),H,I.tok _,⟨_,rfl⟩,q⟩
theorem KK:EL X (.type "str") (λxs H Q=> ∃i,xs=[.int i]/\i.natAbs.log2<1920/\Q (.str (toString i)) H):=by
 intro pins s σ H xs us Q I r h;obtain⟨i,rfl,hz,q⟩:=h;obtain⟨u,rfl,t,rfl⟩:=HL r;exact PySem.P.str_of_int hz ⟨.str _,H,I.tok _,⟨_,rfl⟩,q⟩
end
structure NV (h:Heap)(x dx C:Addr)(mA:Str->Option Value):Prop where
 obj:h.get? x=some (PySem.W.instObj C dx)
 ns:h.Ns1 dx mA
 ne:dx≠x
theorem GN {h:Heap}{dx:Addr}{mA:Str->Option Value}(n:h.Ns1 dx mA): ∃od,h.get? dx=some od/\ ∀name,PySem.W.lookIn name od=some (mA name):=by
 obtain⟨o,es,ep,ho,hd,hk,_,hm⟩:=n;refine⟨o,ho,λname=>?_⟩;have e:=hm name;unfold nsFind findBy at e;rw[<-Array.find?_toList]at e;unfold PySem.W.lookIn;rw[hd];dsimp only;split
 ·rename_i y q;rw[q]at e;exact xM some e
 ·rename_i q;rw[q]at e;have a:es.toList.any (·.refKey)=false:=by
   rw[List.any_eq_false];intro y hy;obtain⟨z,t,hkey⟩:=hk y (Array.mem_toList_iff.mp hy)
   simp[DictEntry.refKey,hkey]
  have a': ¬es.toList.any (·.refKey)=true:=by rw[a];exact zZ
  rw[zH a'];exact xM some e
theorem NV.look {h:Heap}{x dx C:Addr}{mA:Str->Option Value}(I:NV h x dx C mA): ∃od,PySem.W.InstAt h x (PySem.W.instObj C dx) C (some od)/\ ∀name,PySem.W.lookIn name od=some (mA name):=
 let⟨od,ho,hl⟩:=GN I.ns
 ⟨od,⟨I.obj,rfl,rfl,ho⟩,hl⟩
section
variable {prog:Program}{w:World}{A:Around}{E:Value->Shared->Prop}{s:Shared}{K:PySem.W.Frag}{x dx C f:Addr}{mA:Str->Option Value}{name:Str}{v:Value}
theorem Tl {expr:Bool}{Q:Value->Shared->Prop}(X:K.In s.heap)(I:NV s.heap x dx C mA)(hg:PySem.W.plainGet K C name=true)(hh:PySem.W.hasDictIn K C=true)
  (ha:PySem.W.findIn K (.ref C) name=some none) (hv:mA name=some v) (hv':PySem.W.handedIn v=true) (h:Q v {s with toks:=s.toks+1}):
  wpAny (model prog w) A (getAttr (.ref x) name expr) Q E s:=by
 obtain⟨od,J,hl⟩:=I.look;exact PySem.W.get_value X J (Bm hg).1 (PySem.W.findObj_own hh ha rfl (by rw[hl,hv])) hv' h
theorem RF {pl:Sem Bool}{Q:Value×List Value->Shared->Prop}(X:K.In s.heap)(I:NV s.heap x dx C mA)(hg:PySem.W.plainGet K C name=true)
  (hf:PySem.W.findIn K (.ref C) name=some (some (.ref f))) (ht:PySem.W.isFn K (.ref f)=true) (hv:mA name=none) (h:Q (.ref f,[.ref x]) s):
  wpAny (model prog w) A (getMethod (.ref x) name pl) Q E s:=by
 obtain⟨od,J,hl⟩:=I.look;exact PySem.W.method_fn X J (Bm hg).1 (Bm hg).2 hf (beq_iff_eq.mp ht) (by show(PySem.W.lookIn name od).map (·.isSome)=some false;rw[hl,hv];rfl) h
theorem Sw {ns:List Str}{Q:Unit->Shared->Prop}(X:K.In s.heap)(I:NV s.heap x dx C mA)
  (hs:PySem.W.findIn K (.ref C) "__setattr__"=some (some (.builtin "object.__setattr__"))) (hp:PySem.W.plainOver K C=true) (ht:PySem.W.takerIn K C name=some none) (hh:PySem.W.hasDictIn K C=true)
  (hw:PySem.Within mA ns) (hsz:ns.length<=sizeLine)
  (h: ∀h',NV h' x dx C (λy=>if y=name then some v else mA y)->Heap.SameBut dx s.heap h'->Q () {s with heap:=h',toks:=s.toks+2}):
  wpAny (model prog w) A (setAttr (.ref x) name v) Q E s:=by
 obtain⟨od,J,hl⟩:=I.look;refine PySem.W.set_plain X J hs (PySem.W.osa_open (s:={s with toks:=s.toks+1}) (r:=none) X J hp ht λb=>?_);obtain⟨cd,hc,hd'⟩:=PySem.W.any_some hh;have hx:s.heap.get? x=some ⟨.ref C,some dx,.plain,#[]⟩:=I.obj;refine zA (zL (zA (zA (wpAny_loadPart hx (zA (PySem.W.Looks.here (s:={s with toks:=s.toks+1}) (PySem.W.looks_clsIn X hc) ?_))))));rw[hd'];refine zL (a:=some dx) (zA (zL (zA ?_)));refine wpAny_nsSet1 (s:={s with toks:=s.toks+1}) I.ns λh' hn2 hs2=>?_;obtain⟨oD,esD,epD,hoD,hdD,hcD⟩:=hn2.count (CB name v hw);refine zA (Du hoD (by rw[hdD];exact Dx (yJ hcD (by rw[zJ];lia))) ?_);exact zL (h _ ⟨(hs2.2 _ (Ne.symm I.ne)).trans I.obj,hn2,I.ne⟩ hs2)
theorem Rt {R:Result->Shared->Prop}{vs:List Value}{kw:List (Str×Value)}(X:K.In s.heap)(hm:PySem.W.makesIn K C=true)
  (hi:PySem.W.findIn K (.ref C) "__init__"=some (some (.ref f))) (hf:PySem.W.typeIn K (.ref f)=some (.type "function"))
  (h:codeAny (model prog w) (A.under (.builtin "type.__call__" ⟨.ref C::vs,kw⟩)) (.call (.ref f) ⟨.ref (s.heap.objs.size+1)::vs,kw⟩) (PySem.W.InitBack (s.heap.objs.size+1) R)
   {s with heap:=(s.heap.push PySem.W.emptyDict).push (PySem.W.instObj C s.heap.objs.size)}):
  codeAny (model prog w) A (.call (.ref C) ⟨vs,kw⟩) R s:=by
 obtain⟨hh,g,d,t,os⟩:=s;exact PySem.W.make_core (PySem.W.makes_of X hm) (PySem.W.looks_findIn X hi) (λself=>PySem.W.bind_fn X self hf) (.inl rfl) h
end
def DM (f:Str)(v:V):List (Str×V)->List (Str×V)
 |[]=>[(f,v)]
 |(g,x)::r=>if g=f then(g,v)::r else(g,x)::DM f v r
theorem EC (f g:Str)(v:V): ∀fs:List (Str×V),(DM f v fs).lookup g=if g=f then some v else fs.lookup g
 |[]=>by
  show List.lookup g [(f,v)]=_
  by_cases h:g=f
  ·have hb:(g==f)=true:=beq_iff_eq.mpr h;simp only[List.lookup,hb,zR h]
  ·have hb:(g==f)=false:=beq_eq_false_iff_ne.mpr h;simp only[List.lookup,hb,zH h]
 |(k,x)::r=>by
  have ih:=EC f g v r;rw[show DM f v ((k,x)::r)=(if k=f then(k,v)::r else(k,x)::DM f v r)from rfl]
  by_cases hk:k=f
  ·rw[zR hk]
   by_cases h:g=k
   ·have hb:(g==k)=true:=beq_iff_eq.mpr h;simp only[List.lookup,hb,zR (h.trans hk)]
   ·have hb:(g==k)=false:=beq_eq_false_iff_ne.mpr h;simp only[List.lookup,hb,zH (λe:g=f=>h (e.trans hk.symm))]
  ·rw[zH hk]
   by_cases h:g=k
   ·have hb:(g==k)=true:=beq_iff_eq.mpr h;simp only[List.lookup,hb,zH (λe:g=f=>hk (h.symm.trans e))]
   ·have hb:(g==k)=false:=beq_eq_false_iff_ne.mpr h;simp only[List.lookup,hb];exact ih
theorem Dl (f:Str)(v:V): ∀fs:List (Str×V),f∈(DM f v fs).map (·.1)/\ ∀g,g∈fs.map (·.1)->g∈(DM f v fs).map (·.1)
 |[]=>⟨by simp[DM],λg h=>by simp at h⟩
 |(k,x)::r=>by
  obtain⟨i1,i2⟩:=Dl f v r;rw[show DM f v ((k,x)::r)=(if k=f then(k,v)::r else(k,x)::DM f v r)from rfl]
  by_cases hk:k=f
  ·rw[zR hk];subst hk;exact⟨by simp,λg h=>by simpa using h⟩
  ·rw[zH hk];refine⟨?_,λg h=>?_⟩
   ·rw[yM];exact zN _ i1
   ·rw[yM]at h ⊢
    rcases List.mem_cons.mp h with e|e
    ·exact List.mem_cons.mpr (.inl e)
    ·exact zN _ (i2 g e)
theorem Hh (f:Str)(v:V): ∀fs:List (Str×V),(DM f v fs).length<=fs.length+1
 |[]=>by simp[DM]
 |(k,x)::r=>by
  have ih:=Hh f v r;rw[show DM f v ((k,x)::r)=(if k=f then(k,v)::r else(k,x)::DM f v r)from rfl]
  by_cases hk:k=f
  ·rw[zR hk,zJ,zJ];lia
  ·rw[zH hk,zJ,zJ];lia
theorem BP.some_of {v:V}{o:Option Value}(r:BP (some v) o): ∃u,o=some u/\jM v u:=by
 cases o with
 |none=>exact(show False from r).elim
 |some u=>exact⟨u,rfl,r⟩
theorem BP.none_of {o:Option Value}(r:BP none o):o=none:=by
 cases o with
 |none=>rfl
 |some u=>exact(show False from r).elim
theorem JA {v:V}{u:Value}(r:jM v u):PySem.W.handedIn u=true:=by
 cases v with
 |non=>cases(show u=Value.none from r);rfl
 |bl b=>cases(show u=Value.bool b from r);rfl
 |int i=>obtain⟨t,e⟩:=(show ∃t,u=Value.int i t from r);cases e;rfl
 |str x=>obtain⟨t,e⟩:=(show ∃t,u=Value.str x t from r);cases e;rfl
 |byt b=>obtain⟨t,e⟩:=(show ∃t,u=Value.bytes b t from r);cases e;rfl
 |flt b=>obtain⟨t,e⟩:=(show ∃t,u=Value.float b t from r);cases e;rfl
 |ref a=>cases(show u=Value.ref a from r);rfl
 |ty n=>cases(show u=Value.type n from r);rfl
section
variable {P:Program}{w:World}{H H':Hp}{h h':Heap}{a C dx:Addr}{fs fs':List (Str×V)}
theorem HF (hok:Fj P w H h)(e:H a=some (.ins C dx fs)): ∃mA,NV h a dx C mA/\(∀f,BP (fs.lookup f) (mA f))/\PySem.Within mA (fs.map (·.1))/\fs.length<=1000/\H dx=some (.own a):=by
 obtain⟨d,z,ne,ob,mA,n,r,q⟩:=(show kL P w H h a (.ins C dx fs)from hok a _ e);exact⟨mA,⟨ob,n,ne⟩,r,q,z,d⟩
end
structure OR (K:PySem.W.Frag)(C:Addr):Prop where
 pg:PySem.W.plainGet K C Str.empty=true
 hd:PySem.W.hasDictIn K C=true
 po:PySem.W.plainOver K C=true
 sa:PySem.W.findIn K (.ref C) "__setattr__"=some (some (.builtin "object.__setattr__"))
theorem OR.get {K:PySem.W.Frag}{C:Addr}(c:OR K C)(f:Str):PySem.W.plainGet K C f=true:=c.pg
def qV (K:PySem.W.Frag)(C:Addr)(f:Str):Prop:=PySem.W.findIn K (.ref C) f=some none
theorem qV.taker {K:PySem.W.Frag}{C:Addr}{f:Str}(n:qV K C f):PySem.W.takerIn K C f=some none:=by
 unfold PySem.W.takerIn;rw[show PySem.W.findIn K (.ref C) f=some none from n];rfl
structure TK (K:PySem.W.Frag)(C:Addr)(m:Str)(f:Addr):Prop where
 at_:PySem.W.findIn K (.ref C) m=some (some (.ref f))
 fn:PySem.W.isFn K (.ref f)=true
 kp:PySem.W.keepIn K (.ref f)=true
section
variable {X:Cx}{pins:List (Addr×Obj)}{σ:St}{H:Hp}{s:Shared}{a C dx:Addr}{fs:List (Str×V)}{f:Str}{v:V}{A:Around}{E:Value->Shared->Prop}
theorem Iz {b:Bool}{Q:Value->Shared->Prop}(I:yV X pins σ H s)(e:H a=some (.ins C dx fs))(c:OR X.K C)(n:qV X.K C f)(l:fs.lookup f=some v)
  (h: ∀u s',yV X pins σ H s'->jM v u->Q u s'):wpAny (model X.prog X.w) A (getAttr (.ref a) f b) Q E s:=by
 obtain⟨mA,O,r,_,_,_⟩:=HF I.hok e;obtain⟨u,hu,ru⟩:=BP.some_of (v:=v) (o:=mA f) (by rw[<-l];exact r f);exact Tl I.kIn O (c.get f) c.hd n hu (JA ru) (h u _ (I.tok _) ru)
theorem Iy {m:Str}{g:Addr}{pl:Sem Bool}{Q:Value×List Value->Shared->Prop}(I:yV X pins σ H s)(e:H a=some (.ins C dx fs))(c:OR X.K C)(k:TK X.K C m g)(l:fs.lookup m=none)
  (h:Q (.ref g,[.ref a]) s):wpAny (model X.prog X.w) A (getMethod (.ref a) m pl) Q E s:=by
 obtain⟨mA,O,r,_,_,_⟩:=HF I.hok e;have hn:mA m=none:=BP.none_of (by rw[<-l];exact r m);exact RF I.kIn O (c.get m) k.at_ k.fn hn h
theorem HY {y:V}{u:Value}{Q:Unit->Shared->Prop}(I:yV X pins σ H s)(e:H a=some (.ins C dx fs))(c:OR X.K C)(n:qV X.K C f)(hl:fs.length<1000)(ry:jM y u)
  (h: ∀s',yV X pins σ (upd H a (.ins C dx (DM f y fs))) s'->Q () s'):wpAny (model X.prog X.w) A (setAttr (.ref a) f u) Q E s:=by
 obtain⟨mA,O,r,wi,_,ho⟩:=HF I.hok e;have hz:(fs.map (·.1)).length<=sizeLine:=by rw[zF,Ab];lia
 refine Sw I.kIn O c.sa c.po n.taker c.hd wi hz λh' O' sb=>h _ ?_;have hd: ∃o,h'.get? dx=some o:=let⟨o,_,_,e',_⟩:=O'.ns;⟨o,e'⟩;refine I.write (x:=a) (e:=dx) (by rw[e];exact True.intro) (.inr ho) (λb q hb z=>(sb.2 b hb).trans z) hd ?_;refine⟨by rw[zT O.ne];exact ho,?_,O.ne,O'.obj,_,O'.ns,λg=>?_,λg hg=>?_⟩
 ·have:=Hh f y fs;lia
 ·show BP ((DM f y fs).lookup g) (if g=f then some u else mA g);rw[EC]
  by_cases q:g=f
  ·rw[zR q,zR q];exact ry
  ·rw[zH q,zH q];exact r g
 ·by_cases q:g=f
  ·rw[q];exact(Dl f y fs).1
  ·refine(Dl f y fs).2 g (wi g λz=>hg ?_);show(if g=f then some u else mA g)=none;rw[zH q];exact z
theorem yV.made (I:yV X pins σ H s):yV X pins σ (upd (upd H s.heap.objs.size (.own (s.heap.objs.size+1))) (s.heap.objs.size+1) (.ins C s.heap.objs.size []))
  {s with heap:=(s.heap.push PySem.W.emptyDict).push (PySem.W.instObj C s.heap.objs.size)}:=by
 have e1:(s.heap.push PySem.W.emptyDict).get? s.heap.objs.size=some PySem.W.emptyDict:=yC s.heap rfl;have e2:((s.heap.push PySem.W.emptyDict).push (PySem.W.instObj C s.heap.objs.size)).get? (s.heap.objs.size+1)=some (PySem.W.instObj C s.heap.objs.size):=by
  have:=yC (s.heap.push PySem.W.emptyDict) (o:=PySem.W.instObj C s.heap.objs.size) rfl
  rwa [vM]at this
 have e3:(s.heap.push PySem.W.emptyDict).Ns s.heap.objs.size (λ_=>none):=⟨PySem.W.emptyDict,#[],_,e1,rfl,(λe he=>absurd he (by simp)),λ_=>rfl⟩;have I1:=I.laid (a:=s.heap.objs.size) (o:=.own (s.heap.objs.size+1)) (h':=s.heap.push PySem.W.emptyDict) (t':=s.toks) (λb u q=>zD _ q) (zP _) ⟨_,e1⟩;refine I1.laid (a:=s.heap.objs.size+1) (o:=.ins C s.heap.objs.size []) (t':=s.toks) (λb u q=>zD _ q) (Nat.le_of_eq (vM _ _)) ?_;have ne:s.heap.objs.size≠s.heap.objs.size+1:=xR (kS _);refine⟨by rw[zT ne,zK],xA _,ne,e2,λ_=>none,(Heap.Ns1.of_empty e3).at λo q=>zD _ q,λ_=>True.intro,λy hy=>absurd rfl hy⟩
theorem OM {prog:Program}{w:World}{env:Env}{e:Expr}{f:Str}{pos:Pos}{s:Shared}{Q:Value->Shared->Prop}(hb:attributeBase e f env (eval e env)=eval e env)
  (h:wpAny (model prog w) A (eval e env) (λo s₁=>wpAny (model prog w) A (getAttr o f true) Q E s₁) E s):wpAny (model prog w) A (eval (.Attribute e f pos) env) Q E s:=
 Attribute_any_ h (by rw[arm_eval_Attribute,hb])
end
inductive TY (K:PySem.W.Frag) (f:Str) (x:V) (H1:Hp) (Q:VK):Prop
 |mk (a C dx fs v:_) (h0:x=.ref a) (h1:H1 a=some (.ins C dx fs)) (h2:OR K C) (h3:qV K C f) (h4:fs.lookup f=some v) (h5:Q v H1):TY K f x H1 Q
def Xy (K:PySem.W.Frag)(ta:TE)(f:Str):TE:=λσ H Q=>ta σ H λx H1=>TY K f x H1 Q
def XD (K:PySem.W.Frag)(ta tv:TE)(f:Str):TS:=λD σ H=>tv σ H λy H1=>ta σ H1 λx H2=> ∃a C dx fs,x=.ref a/\H2 a=some (.ins C dx fs)/\OR K C/\qV K C f/\fs.length<1000/\
 D.nx σ (upd H2 a (.ins C dx (DM f y fs)))
def WT (X:Cx)(op:Operator)(rd:V->V->Hp->VK->Prop):Prop:=
 ∀(pins:List (Addr×Obj)) (s:Shared) (σ:St) (H:Hp) (x y:V) (u v:Value) (Q:VK),yV X pins σ H s->jM x u->jM y v->rd x y H Q->wpAny (model X.prog X.w) X.A (inplaceOp op u v) (EP X pins σ Q) X.xe s
def Sx (K:PySem.W.Frag)(ta tv:TE)(rd:V->V->Hp->VK->Prop)(f:Str):TS:=λD σ H=>ta σ H λx H1=> ∃a C dx fs v,x=.ref a/\H1 a=some (.ins C dx fs)/\OR K C/\qV K C f/\fs.lookup f=some v/\
 tv σ H1 λy H2=>rd v y H2 λz H3=> ∃dx' fs',H3 a=some (.ins C dx' fs')/\fs'.length<1000/\D.nx σ (upd H3 a (.ins C dx' (DM f z fs')))
section
variable {X:Cx}{o e value:Expr}{f:Str}{pos pos' tpos:Pos}{ta tv:TE}
theorem xU (he:PE X e ta)(hb:attributeBase e f X.env (eval e X.env)=eval e X.env):PE X (.Attribute e f pos) (Xy X.K ta f):=by
 refine⟨?_⟩;intro pins s σ H Q I h;refine OM hb (kB (he pins s σ H _ I h) λu s1 hzz=>?_);obtain⟨x,H1,I1,rx,a,C,dx,fs,v,ex,ea,c,n,l,q⟩:=hzz;subst ex;obtain rfl:u=Value.ref a:=rx;exact Iz I1 ea c n l λu' s2 I2 ru=>⟨v,H1,I2,ru,q⟩
theorem DN (ha:PE X o ta)(hv:PE X value tv)(hs:swapsWith value (some (.Attribute o f pos')) pos.line X.env=pure false):PS X (.Assign [.Attribute o f pos'] value pos) (XD X.K ta tv f):=by
 refine⟨?_⟩;intro pins s σ H D I h;refine Aq (kB (hv pins s σ H _ I h) λu s1 ⟨y,H1,I1,ry,q⟩=>kB (ha pins s1 σ H1 _ I1 q) λov s2 ⟨x,H2,I2,rx,a,C,dx,fs,ex,ea,c,n,l,q2⟩=>?_) hs;subst ex;obtain rfl:ov=Value.ref a:=rx;exact HY I2 ea c n l ry λs3 I3=>⟨σ,_,I3,q2⟩
theorem Aa {op:Operator}{rd:V->V->Hp->VK->Prop}(ha:PE X o ta)(hv:PE X value tv)(hop:WT X op rd):PS X (.AugAssign (.Attribute o f tpos) op value pos) (Sx X.K ta tv rd f):=by
 refine⟨?_⟩;intro pins s σ H D I h;refine wpAny_AugAssign_AttributeAny (kB (ha pins s σ H _ I h) λov s1 hzz=>?_);obtain⟨x,H1,I1,rx,a,C,dx,fs,v,ex,ea,c,n,l,q⟩:=hzz;subst ex;obtain rfl:ov=Value.ref a:=rx;refine Iz I1 ea c n l λu s2 I2 ru=>kB (hv pins s2 σ H1 _ I2 q) λw3 s3 ⟨y,H2,I3,ry,q3⟩=>kB (hop pins s3 σ H2 v y u w3 _ I3 ru ry q3) λw4 s4 hzz=>?_;obtain⟨z,H3,I4,rz,dx',fs',ea',l',q4⟩:=hzz;exact HY I4 ea' c n l' rz λs5 I5=>⟨σ,_,I5,q4⟩
def XG:V->V->Hp->VK->Prop:=λx y H Q=> ∃i j,x=.int i/\y=.int j/\Q (.int (i+j)) H
theorem ED:WT X .Add XG:=by
 rintro pins s σ H x y u v Q I rx ry ⟨i,j,rfl,rfl,q⟩;obtain⟨t,rfl⟩:=(show ∃t,u=Value.int i t from rx);obtain⟨t',rfl⟩:=(show ∃t',v=Value.int j t' from ry);exact PyProof.Rows.iadd_int ⟨.int (i+j),H,I.tok _,⟨_,rfl⟩,q⟩
end
section
variable {X:Cx}{pins:List (Addr×Obj)}{σ:St}{H:Hp}{s:Shared}{A:Around}{E:Value->Shared->Prop}{Q:Value->Shared->Prop}{c:Value}{b:Bool}
inductive Gw (K:PySem.W.Frag) (H:Hp):V->Value->Prop where
 |non:Gw K H .non (.type "NoneType")
 |bl (x:Bool):Gw K H (.bl x) (.type "bool")
 |int (i:Int):Gw K H (.int i) (.type "int")
 |str (x:Str):Gw K H (.str x) (.type "str")
 |flt (x:UInt64):Gw K H (.flt x) (.type "float")
 |lst {a:Addr} {xs:List V} (e:H a=some (.lst xs)):Gw K H (.ref a) (.type "list")
 |frz {a:Addr} {o:Obj} {xs:List V} (e:H a=some (.frz o (.lst xs))):Gw K H (.ref a) (.type "list")
 |tup {a:Addr} {xs:List V} (e:H a=some (.tup xs)):Gw K H (.ref a) (.type "tuple")
 |dK {a:Addr} {kvs:List (Dp×V)} (e:H a=some (.dK kvs)):Gw K H (.ref a) (.type "dict")
 |dT {a:Addr} {kvs:List (List Dp×V)} (e:H a=some (.dT kvs)):Gw K H (.ref a) (.type "dict")
 |ins {a C dx:Addr} {fs:List (Str×V)} (e:H a=some (.ins C dx fs)) (cl:OR K C) (ha:PySem.W.findIn K (.ref C) "__class__"=some (some (.builtin "object.__class__")))
   (hn:PySem.W.specialIn K (.builtin "object.__class__") "__get__"=some (some (.builtin "getset_descriptor.__get__"))) (htk:PySem.W.takesIn K (.builtin "object.__class__")=some true)
   (hm:PySem.W.mroIn K C (.type "object")=some true):Gw K H (.ref a) (.ref C)
theorem Jw {x:V}{u t:Value}(I:yV X pins σ H s)(rx:jM x u)(ty:Gw X.K H x t)(e:PySem.W.kitOne X.K t c=some b)(h: ∀tk,Q (.bool b) {s with toks:=tk}):
  wpAny (model X.prog X.w) A (call (.builtin "isinstance") [u,c]) Q E s:=by
 cases ty with
 |non=>cases(show u=Value.none from rx);exact jI PySem.W.kitx_none I.kIn True.intro e (λz=>nomatch z) h
 |bl y=>cases(show u=Value.bool y from rx);exact jI PySem.W.kitx_bool I.kIn True.intro e (λz=>nomatch z) h
 |int i=>obtain⟨t,q⟩:=(show ∃t,u=Value.int i t from rx);cases q;exact jI PySem.W.kitx_int I.kIn True.intro e (λz=>nomatch z) h
 |str y=>obtain⟨t,q⟩:=(show ∃t,u=Value.str y t from rx);cases q;exact jI PySem.W.kitx_str I.kIn True.intro e (λz=>nomatch z) h
 |flt y=>obtain⟨t,q⟩:=(show ∃t,u=Value.float y t from rx);cases q;exact jI PySem.W.kitx_float I.kIn True.intro e (λz=>nomatch z) h
 |@lst a xs ea=>
  cases(show u=Value.ref a from rx);obtain⟨_,_,n,_,h1⟩:=(show kL X.prog X.w H s.heap a (.lst xs)from I.hok a _ ea);exact jI PySem.W.kitx_list I.kIn ⟨_,h1,rfl⟩ e (λz=>nomatch z) h
 |@frz a ob xs ea=>
  cases(show u=Value.ref a from rx);obtain⟨_,_,_,n,_,h1⟩:=(show kL X.prog X.w H s.heap a (.frz ob (.lst xs))from I.hok a _ ea);exact jI PySem.W.kitx_list I.kIn ⟨_,h1,rfl⟩ e (λz=>nomatch z) h
 |@tup a xs ea=>
  cases(show u=Value.ref a from rx);obtain⟨_,_,_,p⟩:=(show kL X.prog X.w H s.heap a (.tup xs)from I.hok a _ ea);obtain⟨o,h1,h2,_⟩:=p;exact jI PySem.W.kitx_tuple I.kIn ⟨o,h1,h2⟩ e (λz=>nomatch z) h
 |@dK a kvs ea=>
  cases(show u=Value.ref a from rx);obtain⟨_,_,vs,_,p⟩:=(show kL X.prog X.w H s.heap a (.dK kvs)from I.hok a _ ea);obtain⟨o,es,ep,h1,h2,_⟩:=p;exact jI PySem.W.kitx_dict I.kIn ⟨o,h1,h2.1⟩ e (λz=>nomatch z) h
 |@dT a kvs ea=>
  cases(show u=Value.ref a from rx);obtain⟨_,_,xs,_,o,es,ep,h1,h2,_⟩:=(show kL X.prog X.w H s.heap a (.dT kvs)from I.hok a _ ea);exact jI PySem.W.kitx_dict I.kIn ⟨o,h1,h2.1⟩ e (λz=>nomatch z) h
 |@ins a C dx fs ea cl ha hn htk hm=>
  cases(show u=Value.ref a from rx);obtain⟨mA,O,_⟩:=HF I.hok ea;obtain⟨od,J,_⟩:=O.look;exact jI (PySem.W.kitx_own (cl.get _) cl.hd ha hn htk hm) I.kIn J e (λz=>nomatch z) h
end
structure wK (k:Nat)(A:Around):Prop where
 hd:A.handled=none
 dp:A.depth+3*k+5<recursionLimit
 un:A.units+16*k+200<cLine
 gd:A.guards=some []
theorem wK.mono {j k:Nat}{A:Around}(r:wK k A)(h:j<=k):wK j A:=⟨r.hd,by have:=r.dp;lia,by have:=r.un;lia,r.gd⟩
theorem wK.deeper {k:Nat}{A:Around}(r:wK (k+1) A)(env:Env):wK k (A.deeper env):=
 ⟨r.hd,by have:=r.dp;show A.depth+1+3*k+5<_;lia,by have:=r.un;show A.units+3+16*k+200<_;lia,r.gd⟩
theorem NE {A:Around}{C:Addr}{us:List Value}{kw:List (Str×Value)}:(A.under (.builtin "type.__call__" ⟨.ref C::us,kw⟩)).depth =A.depth+1:=by
 first|rfl|simp[Around.under,Code.weight,Code.isCreation,Code.isGuard,Code.isCaller,Code.frames,Code.isFrame,guardIds]
theorem ND {A:Around}{C:Addr}{us:List Value}{kw:List (Str×Value)}:(A.under (.builtin "type.__call__" ⟨.ref C::us,kw⟩)).units =A.units+1:=by
 first|rfl|simp[Around.under,Code.cUnits,Code.frames,Code.isFrame]
theorem wK.make {k:Nat}{A:Around}(r:wK (k+1) A)(C:Addr)(us:List Value)(kw:List (Str×Value)):wK k (A.under (.builtin "type.__call__" ⟨.ref C::us,kw⟩)):=
 ⟨r.hd,by have:=r.dp;rw[NE];lia,by have:=r.un;rw[ND];lia,r.gd⟩
theorem wK.depth {k:Nat}{A:Around}(r:wK k A):A.depth<recursionLimit:=by have:=r.dp;lia
theorem wK.units {k:Nat}{A:Around}(r:wK k A):A.units+64<cLine:=by have:=r.un;lia
def Ln:TA:=λ_ H Q=>Q [] H
def Lo (ta:TE)(tr:TA):TA:=λσ H Q=>ta σ H λx H1=>tr σ H1 λxs H2=>Q (x::xs) H2
section
variable {X:Cx}{e:Expr}{es:List Expr}{te:TE}{t:TA}{pos:Pos}
theorem zI:PA X [] Ln:=⟨λ_ _ _ _ H Q I h=>CI ⟨[],H,I,.nil,h⟩⟩
theorem zB (ha:PE X e te)(hr:PA X es t)(hs:starEach (e::es) X.env=(false,eval e X.env)::starEach es X.env:=by rfl):PA X (e::es) (Lo te t):=by
 refine⟨?_⟩;intro pos pins s σ H Q I h;rw[hs];show wpAny _ _ (spliced ((false,eval e X.env)::backTo pos (starEach es X.env))) _ _ s;refine wP (kB (ha pins s σ H _ I h) λu s1 hzz=>?_);obtain⟨x,H1,I1,r1,q1⟩:=hzz;exact kB (hr pos pins s1 σ H1 _ I1 q1) λus s2 ⟨xs,H2,I2,r2,q2⟩=>⟨x::xs,H2,I2,.cons r1 r2,q2⟩
inductive Oc (xs:List V) (H1:Hp) (Q:VK):Prop
 |mk (h0:xs.length<=sizeLine) (h1: ∀p,H1 p=none->Q (.ref p) (upd H1 p (.tup xs))):Oc xs H1 Q
def Xs (t:TA):TE:=λσ H Q=>t σ H λxs H1=>Oc xs H1 Q
inductive TW (xs:List V) (H1:Hp) (Q:VK):Prop
 |mk (h0:xs.length<=sizeLine) (h1: ∀p,H1 p=none->Q (.ref p) (upd H1 p (.lst xs))):TW xs H1 Q
def Xw (t:TA):TE:=λσ H Q=>t σ H λxs H1=>TW xs H1 Q
theorem wA {x1}(h:PA X es t):PE X (.Tuple es x1 pos) (Xs t):=by
 refine⟨?_⟩;intro pins s σ H Q I hq;refine wpAny_Tuple_spliced (kB (h pos pins s σ H _ I hq) λus s1 ⟨xs,H1,I1,r,z,q⟩=>⟨by rw[<-r.length];exact z,?_⟩);have hf:H1 s1.heap.objs.size=none:=I1.hok.fresh (zP _);refine⟨.ref s1.heap.objs.size,upd H1 s1.heap.objs.size (.tup xs),I1.laid (t':=s1.toks) (λb u e=>zD _ e) (zP _) ?_,rfl,q _ hf⟩;exact⟨z,us,r,⟨_,yC _ rfl,rfl,_,rfl⟩⟩
theorem wJ (h:PA X es t):PE X (.List es pos) (Xw t):=by
 refine⟨?_⟩;intro pins s σ H Q I hq;refine wpAny_List_spliced (kB (h pos pins s σ H _ I hq) λus s1 ⟨xs,H1,I1,r,z,q⟩=>⟨by rw[<-r.length];exact z,?_⟩);have hf:H1 s1.heap.objs.size=none:=I1.hok.fresh (zP _);refine⟨.ref s1.heap.objs.size,upd H1 s1.heap.objs.size (.lst xs),I1.laid (t':=s1.toks) (λb u e=>zD _ e) (zP _) ?_,rfl,q _ hf⟩;exact⟨z,us,0,r,yC _ rfl⟩
end
abbrev Sp:=List V->Hp->VK->XK->Prop
abbrev Gy:=List Env->Hp->Shared->XK->Value->Shared->Prop
structure NY (P:Program)(w:World)(K:PySem.W.Frag)(mg:Str->Option Value)(base:Heap)(A:Around)(outer:List Env)(s:Shared)(H:Hp):Prop where
 frames:A.frames=some outer
 mod:Mod K mg base
 bs: ∀b o,base.get? b=some o->s.heap.get? b=some o/\H b=none
 bsz:base.objs.size<=s.heap.objs.size
 funs:s.heap.FunFrames base outer
 frf: ∀b∈frs outer,H b=none
 hok:Fj P w H s.heap
 bare:AllBare s.gens
def CE (outer:List Env)(P:Program)(w:World)(H:Hp)(s:Shared)(Q:VK)(u:Value)(s':Shared):Prop:=
 ∃v H',s'.os=s.os/\AllBare s'.gens/\Un (frs outer) [] H H' s.heap s'.heap/\Fj P w H' s'.heap/\jM v u/\Q v H'
def CR (CX:Gy)(outer:List Env)(P:Program)(w:World)(H:Hp)(s:Shared)(Q:VK)(E:XK)(r:Result)(s':Shared):Prop:=
 match r with
 | .ok (.ret u)=>CE outer P w H s Q u s'
 | .ok _=>False
 | .error e=>CX outer H s E e s'
structure Ap (P:Program)(w:World)(K:PySem.W.Frag)(mg:Str->Option Value)(base:Heap)(CX:Gy)(k:Nat)(f:Addr)(fd:FuncData)(ps:List Str)(sp:Sp):Prop where
 len: ∀vs H Q E,sp vs H Q E->vs.length=ps.length
 run: ∀(A:Around) (outer:List Env) (s:Shared) (H:Hp) (args:Args) (us:List Value) (vs:List V) (Q:VK) (E:XK),wK k A->NY P w K mg base A outer s H->BindsTo s fd args (ps.zip us)->xT vs us->sp vs H Q E->
  codeAny (model P w) A (.call (.ref f) args) (CR CX outer P w H s Q E) s
theorem NY.make {P:Program}{w:World}{K:PySem.W.Frag}{mg:Str->Option Value}{base:Heap}{A:Around}{outer:List Env}{s:Shared}{H:Hp}(e:NY P w K mg base A outer s H)(C:Addr)(us:List Value)(kw:List (Str×Value)):
  NY P w K mg base (A.under (.builtin "type.__call__" ⟨.ref C::us,kw⟩)) outer s H:=⟨by first|exact e.frames|(simpa[Around.under,Code.envs,Code.isFrame,pushEnvs]using e.frames),e.mod,e.bs,e.bsz,e.funs,e.frf,e.hok,e.bare⟩
section
variable {X:Cx}{pins:List (Addr×Obj)}{σ:St}{H:Hp}{s s':Shared}
theorem yV.env0 (I:yV X pins σ H s):NY X.prog X.w X.K X.mg X.base X.A X.stack s H:=
 ⟨I.ok.frames,I.ok.mod,I.bs,yJ I.ok.bsz I.sz,I.stack,I.stkFree,I.hok,I.bare⟩
theorem yV.after {Q:VK}{u:Value}(I:yV X pins σ H s)(h:CE X.stack X.prog X.w H s Q u s'):EP X pins σ Q u s':=by
 obtain⟨v,H',os,bare,un,hok,r,q⟩:=h;obtain⟨hh,g,d,t,os'⟩:=s';obtain rfl:os'=s.os:=os;exact⟨v,H',I.call (h':=hh) (g':=g) (d':=d) (t':=t) (ch:=[]) un hok bare (λb z=>absurd z (by simp)),r,q⟩
end
def Lp (sp:Sp)(dvs:List V)(E:XK)(t:TA):TE:=λσ H Q=>t σ H λvs H1=>sp (vs++dvs) H1 Q E
inductive Qy (C:Addr) (m:Str) (sp:Sp) (dvs:List V) (E:XK) (t:TA) (σ:St) (x:V) (H1:Hp) (Q:VK):Prop
 |mk (a dx fs:_) (h0:x=.ref a) (h1:H1 a=some (.ins C dx fs)) (h2:fs.lookup m=none) (h3:t σ H1 λvs H2=>sp (x::(vs++dvs)) H2 Q E):Qy C m sp dvs E t σ x H1 Q
def Od (C:Addr)(m:Str)(sp:Sp)(dvs:List V)(E:XK)(ta:TE)(t:TA):TE:=λσ H Q=>ta σ H λx H1=>Qy C m sp dvs E t σ x H1 Q
def TU (C:Addr)(sp:Sp)(dvs:List V)(E:XK)(t:TA):TE:=λσ H Q=>t σ H λvs H1=> ∀x dx,H1 x=none->H1 dx=none->dx≠x->
 sp (.ref x::(vs++dvs)) (upd (upd H1 dx (.own x)) x (.ins C dx [])) (λv H2=>v=.non/\Q (.ref x) H2) E
def wT (K:PySem.W.Frag)(fd:FuncData)(ps:List Str)(ds:List Value):Prop:=
 ∀(s:Shared) (us:List Value),K.In s.heap->(us++ds).length =ps.length->BindsTo s fd ⟨us,[]⟩ (ps.zip (us++ds))
theorem wT.all {K:PySem.W.Frag}{fd:FuncData}{ps:List Str}(h: ∀us:List Value,us.length=ps.length->bindArgs fd ⟨us,[]⟩=pure (ps.zip us)):wT K fd ps []:=λs us _ hl=>by
 rw[yY]at hl ⊢;exact .of_eq (h us hl)
def uW (CX:Gy)(X:Cx)(E:XK):Prop:= ∀(pins:List (Addr×Obj)) (σ:St) (H:Hp) (s:Shared) (e:Value) (s':Shared),yV X pins σ H s->CX X.stack H s E e s'->X.xe e s'
section
variable {X:Cx}{CX:Gy}{k:Nat}{f C:Addr}{fd:FuncData}{ps:List Str}{sp:Sp}{dvs:List V}{ds:List Value}{E:XK}{x m:Str}{p pos apos:Pos}{e o:Expr}{es:List Expr}{ta:TE}{t:TA}
theorem Kh {pins:List (Addr×Obj)}{σ:St}{H:Hp}{s:Shared}{Q:VK}{us:List Value}{vs:List V}(F:Ap X.prog X.w X.K X.mg X.base CX k f fd ps sp)(hr:wK k X.A)(hb:wT X.K fd ps ds)(hd:xT dvs ds)(hx:uW CX X E)
  (I:yV X pins σ H s) (r:xT vs us) (h:sp (vs++dvs) H Q E):wpAny (model X.prog X.w) X.A (call (.ref f) us) (EP X pins σ Q) X.xe s:=by
 have r2:xT (vs++dvs) (us++ds):=r.append hd;have hl:(us++ds).length =ps.length:=by rw[<-r2.length];exact F.len _ _ _ _ h
 refine wpAny_call (Ak (F.run X.A X.stack s H ⟨us,[]⟩ (us++ds) (vs++dvs) Q E hr I.env0 (hb s us I.kIn hl) r2 h) λr s' hq=>?_);cases r with
 |error e=>exact hx pins σ H s e s' I hq
 |ok fl=>
  cases fl with
  |ret u=>exact I.after hq
  |next=>exact False.elim hq
  |brk=>exact False.elim hq
  |cont=>exact False.elim hq
theorem SN (F:Ap X.prog X.w X.K X.mg X.base CX k f fd ps sp)(hr:wK k X.A)(hg:Gl X x)(hm:X.mg x=some (.ref f))(hk:PySem.W.keepIn X.K (.ref f)=true)(hb:wT X.K fd ps ds)(hd:xT dvs ds)(hx:uW CX X E)
  (ha:PA X (e::es) t) (hdb:(x==("__debug__":Str))=false:=by decide) (he:starEach (e::es) X.env=(false,eval e X.env)::starEach es X.env:=by rfl) (hpl:(backTo pos (starEach es X.env)).any (·.1)=false:=by rfl):
  PE X (.Call (.Name x p) (e::es) [] pos) (Lp sp dvs E t):=by
 refine⟨?_⟩;intro pins s σ H Q I h;refine kY (EZ I hg hm ?_ hdb);refine uZ (h₀:=X.base) I.ok.mod.kin hk (kB (ha pos pins s σ H _ I h) λus s1 ⟨vs,H1,I1,r,q⟩=>⟨I1.kIn,?_⟩) he hpl;exact Kh F hr hb hd hx I1 r q
theorem QT (F:Ap X.prog X.w X.K X.mg X.base CX k f fd ps sp)(hr:wK k X.A)(hg:Gl X x)(hm:X.mg x=some (.ref f))(hk:PySem.W.keepIn X.K (.ref f)=true)(hb:wT X.K fd ps ds)(hd:xT dvs ds)(hx:uW CX X E)
  (hdb:(x==("__debug__":Str))=false:=by decide):PE X (.Call (.Name x p) [] [] pos) (Lp sp dvs E Ln):=by
 refine⟨?_⟩;intro pins s σ H Q I h;refine kY (EZ I hg hm ?_ hdb);exact PySem.W.callWith_K0 I.kIn hk (Kh (us:=[]) F hr hb hd hx I .nil h)
theorem SH {pl:Sem Bool}(he:PE X o ta)(c:OR X.K C)(hm:TK X.K C m f)(F:Ap X.prog X.w X.K X.mg X.base CX k f fd ps sp)(hr:wK k X.A)(hb:wT X.K fd ps ds)(hd:xT dvs ds)(hx:uW CX X E)(ha:PA X (e::es) t)
  (hst:starEach (e::es) X.env=(false,eval e X.env)::starEach es X.env:=by rfl) (hpl:(backTo pos (starEach es X.env)).any (·.1)=false:=by rfl)
  (ht:eval (.Call (.Attribute o m apos) (e::es) [] pos) X.env=(do
   let ov<-eval o X.env
   standAt apos.atName
   let(f,first)<-holding [ov] (getMethod ov m pl)
   callWith pos f first (backTo pos (starEach (e::es) X.env)) (backToKw pos (keywordEach [] X.env))):=by rfl):
  PE X (.Call (.Attribute o m apos) (e::es) [] pos) (Od C m sp dvs E ta t):=by
 refine⟨?_⟩;intro pins s σ H Q I h;refine PySem.W.methodCall_KW (pl:=pl) (kB (he pins s σ H _ I h) λu s1 ⟨x,H1,I1,rx,a,dx,fs,ex,ea,l,q⟩=>?_) ht;subst ex;obtain rfl:u=Value.ref a:=rx;refine Iy I1 ea c hm l ?_;refine uZ (first:=[.ref a]) (h₀:=X.base) I.ok.mod.kin hm.kp (kB (ha pos pins s1 σ H1 _ I1 q) λus s2 ⟨vs,H2,I2,r,q2⟩=>⟨I2.kIn,?_⟩) hst hpl;exact Kh (us:=.ref a::us) (vs:=.ref a::vs) F hr hb hd hx I2 (.cons rfl r) q2
theorem QO {pl:Sem Bool}(he:PE X o ta)(c:OR X.K C)(hm:TK X.K C m f)(F:Ap X.prog X.w X.K X.mg X.base CX k f fd ps sp)(hr:wK k X.A)(hb:wT X.K fd ps ds)(hd:xT dvs ds)(hx:uW CX X E)
  (ht:eval (.Call (.Attribute o m apos) [] [] pos) X.env=(do
   let ov<-eval o X.env
   standAt apos.atName
   let(f,first)<-holding [ov] (getMethod ov m pl)
   callWith pos f first (backTo pos (starEach [] X.env)) (backToKw pos (keywordEach [] X.env))):=by rfl):
  PE X (.Call (.Attribute o m apos) [] [] pos) (Od C m sp dvs E ta Ln):=by
 refine⟨?_⟩;intro pins s σ H Q I h;refine PySem.W.methodCall_KW (pl:=pl) (kB (he pins s σ H _ I h) λu s1 ⟨x,H1,I1,rx,a,dx,fs,ex,ea,l,q⟩=>?_) ht;subst ex;obtain rfl:u=Value.ref a:=rx;refine Iy I1 ea c hm l ?_;exact PySem.W.callWith_K0 (first:=[.ref a]) I1.kIn hm.kp (Kh (us:=[.ref a]) (vs:=[.ref a]) F hr hb hd hx I1 (.cons rfl .nil) q)
structure Mk (K:PySem.W.Frag)(C f:Addr):Prop where
 makes:PySem.W.makesIn K C=true
 init:PySem.W.findIn K (.ref C) "__init__"=some (some (.ref f))
 fn:PySem.W.isFn K (.ref f)=true
 kp:PySem.W.keepIn K (.ref C)=true
theorem QE {pins:List (Addr×Obj)}{σ:St}{H:Hp}{s:Shared}{Q:VK}{us:List Value}{vs:List V}(M:Mk X.K C f)(F:Ap X.prog X.w X.K X.mg X.base CX k f fd ps sp)(hr:wK (k+1) X.A)(hb:wT X.K fd ps ds)(hd:xT dvs ds)
  (hx:uW CX X E) (I:yV X pins σ H s) (r:xT vs us)
  (h: ∀x dx,H x=none->H dx=none->dx≠x->sp (.ref x::(vs++dvs)) (upd (upd H dx (.own x)) x (.ins C dx [])) (λv H2=>v=.non/\Q (.ref x) H2) E):
  wpAny (model X.prog X.w) X.A (call (.ref C) us) (EP X pins σ Q) X.xe s:=by
 have hq:=h (s.heap.objs.size+1) s.heap.objs.size (I.hok.fresh (Nat.le_succ _)) (I.hok.fresh (zP _)) (xR (kS _));have I2:=yV.made (C:=C) I;have r2:xT (V.ref (s.heap.objs.size+1)::(vs++dvs)) (Value.ref (s.heap.objs.size+1)::(us++ds)):=.cons rfl (r.append hd);have hl:(Value.ref (s.heap.objs.size+1)::us++ds).length =ps.length:=by
  have e:=r2.length;rw[F.len _ _ _ _ hq]at e;exact e.symm
 refine wpAny_call (Rt (f:=f) I.kIn M.makes M.init (beq_iff_eq.mp M.fn) (Ak (F.run _ X.stack _ _ ⟨Value.ref (s.heap.objs.size+1)::us,[]⟩ (Value.ref (s.heap.objs.size+1)::(us++ds)) _ _ E (hr.make C us [])
  (I2.env0.make C us []) (hb _ (Value.ref (s.heap.objs.size+1)::us) I2.kIn hl) r2 hq) λr s' hq'=>?_))
 cases r with
 |error e=>exact hx pins σ _ _ e s' I2 hq'
 |ok fl=>
  cases fl with
  |ret u=>
   obtain⟨v,H',I3,rv,ev,q3⟩:=I2.after hq';subst ev;exact⟨rv,⟨V.ref (s.heap.objs.size+1),H',I3,rfl,q3⟩⟩
  |next=>exact False.elim hq'
  |brk=>exact False.elim hq'
  |cont=>exact False.elim hq'
theorem SJ (M:Mk X.K C f)(F:Ap X.prog X.w X.K X.mg X.base CX k f fd ps sp)(hr:wK (k+1) X.A)(hg:Gl X x)(hm:X.mg x=some (.ref C))(hb:wT X.K fd ps ds)(hd:xT dvs ds)(hx:uW CX X E)
  (ha:PA X (e::es) t) (hdb:(x==("__debug__":Str))=false:=by decide) (he:starEach (e::es) X.env=(false,eval e X.env)::starEach es X.env:=by rfl) (hpl:(backTo pos (starEach es X.env)).any (·.1)=false:=by rfl):
  PE X (.Call (.Name x p) (e::es) [] pos) (TU C sp dvs E t):=by
 refine⟨?_⟩;intro pins s σ H Q I h;refine kY (EZ I hg hm ?_ hdb);refine uZ (h₀:=X.base) I.ok.mod.kin M.kp (kB (ha pos pins s σ H _ I h) λus s1 ⟨vs,H1,I1,r,q⟩=>⟨I1.kIn,?_⟩) he hpl;exact QE M F hr hb hd hx I1 r q
end
structure PK (X:Cx)(kws:List Keyword)(t:TA):Prop where
 go: ∀(pos:Pos) (pins:List (Addr×Obj)) (s:Shared) (σ:St) (H:Hp) (Q:List V->Hp->Prop),yV X pins σ H s->t σ H Q->wpAny (model X.prog X.w) X.A (evalAll ((backToKw pos (keywordEach kws X.env)).map (·.2))) (AP X pins σ Q) X.xe s
instance {X:Cx}{kws:List Keyword}{t:TA}:CoeFun (PK X kws t) (λ_=> ∀(pos:Pos) (pins:List (Addr×Obj)) (s:Shared) (σ:St) (H:Hp) (Q:List V->Hp->Prop),yV X pins σ H s->t σ H Q->wpAny (model X.prog X.w) X.A (evalAll ((backToKw pos (keywordEach kws X.env)).map (·.2))) (AP X pins σ Q) X.xe s):=⟨PK.go⟩
structure yW (N P:List Str)(sc:Scope):Prop where
 kind:sc.kind=.function
 co:sc.isCoroutine=false
 gen:sc.isGenerator=false
 nd:N.Nodup
 pre:N.take P.length=P
 par: ∀x∈P,sc.names.lookup x=some .local\/sc.names.lookup x=some .cell
 nofree: ∀y∈sc.names,y.2≠ .free
theorem JG {kindOf:Str->Option NameKind}{x:Str}: ∀{binds:List (Str×Value)} {m:Str->Option Value},(∀v,(x,v)∉binds)->bindL kindOf binds m x=m x
 |[],_,_=>rfl
 |(n,v)::r,m,h=>by
  unfold bindL;rw[JG λw hw=>h w (zN _ hw)];split
  ·have:x≠n:=by rintro rfl;exact h v zM
   simp[this]
  ·rfl
theorem JI {kindOf:Str->Option NameKind}{x:Str}: ∀{binds:List (Str×Value)} {m:Str->Option Value},(∀v,(x,v)∉binds)->bindC kindOf binds m x=m x
 |[],_,_=>rfl
 |(n,v)::r,m,h=>by
  unfold bindC;rw[JI λw hw=>h w (zN _ hw)];split
  ·rfl
  ·have:x≠n:=by rintro rfl;exact h v zM
   simp[this]
theorem JH {kindOf:Str->Option NameKind}{x:Str}{v:Value}: ∀{P:List Str} {vs:List Value} {i:Nat} {m:Str->Option Value},P.Nodup->P[i]? =some x->vs[i]? =some v->kindOf x=some .local->
  bindL kindOf (P.zip vs) m x=some v
 |[],_,_,_,_,h,_,_=>by simp at h
 |_::_,[],_,_,_,_,h,_=>by simp at h
 |p::P,w::vs,0,m,nd,h1,h2,hk=>by
  simp at h1 h2;subst h1;subst h2
  show bindL kindOf ((p,w)::P.zip vs) m p=_;unfold bindL;rw[JG λv hv=>(List.nodup_cons.mp nd).1 (Bd hv).1,zR hk]
  simp
 |p::P,w::vs,i+1,m,nd,h1,h2,hk=>by
  show bindL kindOf ((p,w)::P.zip vs) m x=_;unfold bindL;exact JH (i:=i) (List.nodup_cons.mp nd).2 (by simpa using h1) (by simpa using h2) hk
theorem JJ {kindOf:Str->Option NameKind}{x:Str}{v:Value}: ∀{P:List Str} {vs:List Value} {i:Nat} {m:Str->Option Value},P.Nodup->P[i]? =some x->vs[i]? =some v->kindOf x≠some .local->
  bindC kindOf (P.zip vs) m x=some v
 |[],_,_,_,_,h,_,_=>by simp at h
 |_::_,[],_,_,_,_,h,_=>by simp at h
 |p::P,w::vs,0,m,nd,h1,h2,hk=>by
  simp at h1 h2;subst h1;subst h2
  show bindC kindOf ((p,w)::P.zip vs) m p=_;unfold bindC;rw[JI λv hv=>(List.nodup_cons.mp nd).1 (Bd hv).1,zH hk]
  simp
 |p::P,w::vs,i+1,m,nd,h1,h2,hk=>by
  show bindC kindOf ((p,w)::P.zip vs) m x=_;unfold bindC;exact JJ (i:=i) (List.nodup_cons.mp nd).2 (by simpa using h1) (by simpa using h2) hk
def BS (N:List Str)(vs:List V):St:=vs.map some++List.replicate (N.length-vs.length) none
def GO (CX:Gy)(P:Program)(w:World)(K:PySem.W.Frag)(mg:Str->Option Value)(base:Heap)(N:List Str)(qual:Str)(scope:Scope)(f:Addr)(cd:Value)(A:Around)(outer:List Env)(s:Shared)(H:Hp)(E:XK):Cx where
 prog:=P
 w:=w
 K:=K
 mg:=mg
 base:=base
 A:=A.deeper (envOfC qual scope s.heap.objs.size f cd)
 N:=N
 s₀:=s
 H₀:=H
 env:=envOfC qual scope s.heap.objs.size f cd
 outer:=outer
 stack:=envOfC qual scope s.heap.objs.size f cd::outer
 ex:=[]
 calm:=true
 fn:=λ_=>true
 pn:=[]
 xe:=λe s'=>wpAny (model P w) (A.deeper (envOfC qual scope s.heap.objs.size f cd)) (leaving (envOfC qual scope s.heap.objs.size f cd) e) (λ_ s''=>CX outer H s E e s'') (λe' s''=>CX outer H s E e' s'') s'
theorem Mz {sc:Scope}{n:Nat}{x:Str}(h:sc.names.lookup x=some .cell): ∃c,(cellsFrom n sc.names []).lookup x=some c:=by
 have q:=Al sc.names n [] (.inl h);exact Option.isSome_iff_exists.mp q
theorem Jx {CX:Gy}{P:Program}{w:World}{K:PySem.W.Frag}{mg:Str->Option Value}{base:Heap}{N ps:List Str}{qual:Str}{scope:Scope}{f:Addr}{cd:Value}{A:Around}{outer:List Env}{s s1:Shared}{H:Hp}{E:XK}{us:List Value}{vs:List V}
  (S:yW N ps scope) (hd:A.handled=none) (e0:NY P w K mg base A outer s H) (hl:vs.length=ps.length) (r:xT vs us)
  (x:InCallC s s.heap.objs.size (bindL (envOfC qual scope s.heap.objs.size f cd).kindOf (ps.zip us) λ_=>none) (cellsFrom (s.heap.objs.size+1) scope.names []) (bindC (envOfC qual scope s.heap.objs.size f cd).kindOf (ps.zip us) λ_=>none) s1):
  yV (GO CX P w K mg base N qual scope f cd A outer s H E) [] (BS N vs) H s1:=by
 have hpl:ps.length<=N.length:=by have:=xM List.length S.pre;rw[yX]at this;lia
 obtain⟨h1,tk,rfl,hk⟩:=x.done;have noA: ∀b:Addr,b∉(GO CX P w K mg base N qual scope f cd A outer s H E).ex:=λb z=>absurd (show b∈([]:List Addr)from z) (by simp);refine⟨⟨e0.mod,S.kind,rfl,rfl,zP _,λy z c h1 h2=>?_,λy hy=>?_,λy c _ h=>?_,λ_=>hd,Around.frames_deeper e0.frames,.inr ⟨rfl,rfl⟩,λb z=>absurd z (noA b),e0.bs,e0.bsz,λb _ _=>noA b,λb z=>absurd z (noA b),e0.funs,e0.frf⟩,
  rfl,e0.bare,Un.kept hk,⟨_,x.toInCall.ns,λi y v h1 h2 h3=>?_⟩,λy c h=>⟨_,x.cell y c h⟩,e0.hok.fresh (zP _),λy c h=>?_,λp hp=>absurd (show p∈([]:List (Addr×Obj))from hp) (by simp),e0.hok.kept hk,?_⟩
 ·exact name_of_addr x.apart (kM h1) (kM h2)
 ·have hy:scope.names.lookup y=some .cell\/scope.names.lookup y=some .free:=hy
  rcases hy with hy|hy
  ·exact Mz hy
  ·exact absurd rfl (S.nofree _ (kM hy))
 ·exact Bu (x.above y c (kM h))
 ·have hi:i<vs.length:=by
   unfold BS at h2
   by_cases hi:i<vs.length
   ·exact hi
   ·rw[vL (by simpa using hi)]at h2;rw[Dz]at h2;split at h2<;>cases h2
  have ha:vs[i]? =some v:=by
   unfold BS at h2;rw[BR (by simpa using hi),zW]at h2;cases e:vs[i]? with
   |none=>rw[e]at h2;cases h2
   |some a=>rw[e]at h2;cases h2;rfl
  obtain⟨u,hu,rv⟩:=r.get ha;have hp:ps[i]? =some y:=by
   rw[<-S.pre,List.getElem?_take_of_lt (by lia)];exact h1
  have ndP:ps.Nodup:=by rw[<-S.pre];exact S.nd.sublist (List.take_sublist _ _)
  refine⟨u,rv,?_⟩
  rcases S.par y (zU hp)with k|k
  ·exact .inl ⟨k,JH ndP hp hu k⟩
  ·obtain⟨c,e⟩:=Mz (n:=s.heap.objs.size+1) k;refine .inr ⟨.inl k,c,e,?_⟩;have q:=x.cell y c e;rw[JJ ndP hp hu (by show scope.names.lookup y≠_;rw[k];decide)]at q;exact q
 ·exact e0.hok.fresh (Bu (x.above y c (kM h)))
 ·unfold BS;show _=N.length;rw[zC,zF,Av];lia
theorem Uo {CX:Gy}{P:Program}{w:World}{K:PySem.W.Frag}{mg:Str->Option Value}{base:Heap}{k:Nat}{f:Addr}{name qual:Str}{params:Arguments}{body:List Stmt}{scope:Scope}{dV kV doc pm cdv ct oc:Value}{an od:Option Addr}
  {osl:Array (Option Value)} {N ps:List Str} {sp:Sp} (lk:K.lookup f=some ⟨oc,od,.func (PySem.W.fnOf name qual params body scope dV kV doc pm an cdv ct),osl⟩) (hcd:PySem.W.codeIn K cdv qual=true) (S:yW N ps scope)
  (len: ∀vs H Q E,sp vs H Q E->vs.length=ps.length)
  (hbody: ∀(A:Around) (outer:List Env) (s:Shared) (H:Hp) (vs:List V) (Q:VK) (E:XK),wK k (A.deeper (envOfC qual scope s.heap.objs.size f cdv))->sp vs H Q E->
   ∃t,JK (GO CX P w K mg base N qual scope f cdv A outer s H E) body t/\t {nx:=λ_ H'=>Q .non H',rt:=Q} (BS N vs) H):
  Ap P w K mg base CX (k+1) f (PySem.W.fnOf name qual params body scope dV kV doc pm an cdv ct) ps sp:=by
 refine⟨len,λA outer s H args us vs Q E hr e0 hb r hsp=>?_⟩;have hl:=len _ _ _ _ hsp;have KX:K.In s.heap:=e0.mod.kin.keeps λb o e=>(e0.bs b o e).1;have lim:s.heap.NoLimit:=e0.mod.nolimit.keeps λb o e=>(e0.bs b o e).1;have hkind: ∀y∈ps.zip us,scope.names.lookup y.1=some .local\/(scope.names.lookup y.1=some .cell/\((cellsFrom (s.heap.objs.size+1) scope.names []).lookup y.1).isSome =true):=fun⟨n,v⟩ hy=>by
  rcases S.par n (Bd hy).1 with q|q
  ·exact .inl q
  ·exact .inr ⟨q,Al _ _ _ (.inl q)⟩
 refine codeAny_call_function hr.depth (KX _ _ lk) rfl S.co S.gen rfl (PySem.W.codeRec_of KX hcd) (hb _ _ _ _ ?_);refine wpAny_newFunctionEnv_cells S.kind hkind λenv he s1 x=>?_;subst he;refine⟨lim.keeps x.toInCall.keep,codeAny_func ?_⟩;obtain⟨t,ht,hq⟩:=hbody A outer s H vs Q E (hr.deeper _) hsp;have I:yV (GO CX P w K mg base N qual scope f cdv A outer s H E) [] (BS N vs) H s1:=Jx S hr.hd e0 hl r x;refine kJ (ht [] s1 (BS N vs) H _ I hq) (λfl s' hs=>?_) λe s' hs=>hs;have fin: ∀{σ':St} {H':Hp} {v:V} {u:Value},yV (GO CX P w K mg base N qual scope f cdv A outer s H E) [] σ' H' s'->jM v u->Q v H'->CE outer P w H s Q u s':=
  fun{σ' H' v u} J rv q=>⟨v,H',J.os,J.bare,J.base,J.hok,rv,q⟩
 cases fl with
 |ret u=>
  obtain⟨v,σ',H',J,rv,q⟩:=hs;exact fin J rv q
 |next=>
  obtain⟨σ',H',J,q⟩:=hs;exact fin (v:=V.non) (u:=Value.none) J rfl q
 |brk=>
  obtain⟨_,_,_,q⟩:=hs;exact False.elim q
 |cont=>
  obtain⟨_,_,_,q⟩:=hs;exact False.elim q
section
variable {X:Cx}{x:Str}{p pos:Pos}{e:Expr}{es:List Expr}{t:TA}{id T:String}{r:List V->Hp->VK->Prop}
def Xf (r:List V->Hp->VK->Prop)(t:TA):TE:=λσ H Q=>t σ H λvs H1=>r vs H1 Q
theorem xL (hc:EL X (.builtin id) r)(hg:Gl X x)(hm:X.mg x=none)(hv:bootBuiltins x=some (.builtin id))(ha:PA X (e::es) t)(hn:x≠"__name__":=by decide)(hdb:(x==("__debug__":Str))=false:=by decide)
  (he:starEach (e::es) X.env=(false,eval e X.env)::starEach es X.env:=by rfl) (hpl:(backTo pos (starEach es X.env)).any (·.1)=false:=by rfl):PE X (.Call (.Name x p) (e::es) [] pos) (Xf r t):=by
 refine⟨?_⟩;intro pins s σ H Q I h;refine kY (FL I hg hm hv ?_ hn hdb);exact PyProof.Rows.callWith_builtin1 (kB (ha pos pins s σ H _ I h) λus s1 ⟨vs,H1,I1,r1,q1⟩=>hc pins s1 σ H1 vs us Q I1 r1 q1) he hpl
theorem vQ (hc:EL X (.type T) r)(hg:Gl X x)(hm:X.mg x=none)(hv:bootBuiltins x=some (.type T))(ha:PA X (e::es) t)(hn:x≠"__name__":=by decide)(hdb:(x==("__debug__":Str))=false:=by decide)
  (he:starEach (e::es) X.env=(false,eval e X.env)::starEach es X.env:=by rfl) (hpl:(backTo pos (starEach es X.env)).any (·.1)=false:=by rfl):PE X (.Call (.Name x p) (e::es) [] pos) (Xf r t):=by
 refine⟨?_⟩;intro pins s σ H Q I h;refine kY (FL I hg hm hv ?_ hn hdb);exact jT (kB (ha pos pins s σ H _ I h) λus s1 ⟨vs,H1,I1,r1,q1⟩=>hc pins s1 σ H1 vs us Q I1 r1 q1) he hpl
end
end L2
namespace HT
open PySem PyProof.Rows
section
variable {prog:Program}{w:World}{A:Around}{E:Value->Shared->Prop}{s:Shared}
def sIx (n d:Nat):Option Int->Nat
 |none=>d
 |some v=>if v<0 then(v+(n:Int)).toNat else min v.toNat n
theorem sIx_none (n d:Nat):sIx n d none=d:=rfl
theorem sIx_nat (n d k:Nat):sIx n d (some (k:Int))=min k n:=by
 show(if(k:Int)<0 then((k:Int)+(n:Int)).toNat else min (k:Int).toNat n)=min k n;rw[if_neg (by lia),Int.toNat_natCast]
theorem UF (n d:Nat)(hd:d<=n)(o:Option Int):sIx n d o<=n:=by
 cases o with
 |none=>exact hd
 |some v=>
  show(if v<0 then(v+(n:Int)).toNat else min v.toNat n)<=n
  by_cases hv:v<0
  ·rw[if_pos hv];lia
  ·rw[if_neg hv];exact Nat.min_le_right _ _
theorem OK (v:Int)(n d:Nat):(if v<0 then max (v+(n:Int)) 0 else min v (n:Int))=((sIx n d (some v):Nat):Int):=by
 show(if v<0 then max (v+(n:Int)) 0 else min v (n:Int))=(((if v<0 then(v+(n:Int)).toNat else min v.toNat n):Nat):Int)
 by_cases hv:v<0
 ·simp only[if_pos hv];lia
 ·simp only[if_neg hv];lia
theorem NU (lo hi:Option Int)(n:Nat):Builtin.Slice.sliceAdjust lo hi 1 (n:Int)=(((sIx n 0 lo:Nat):Int),((sIx n n hi:Nat):Int)):=by
 have h1: ¬((1:Int)<0):=by lia
 unfold Builtin.Slice.sliceAdjust;simp only[h1,if_false];refine Prod.ext ?_ ?_
 ·cases lo with
  |none=>rfl
  |some v=>exact OK v n 0
 ·cases hi with
  |none=>rfl
  |some v=>exact OK v n n
theorem Nk (i j:Nat):Builtin.Slice.slicePlaces (i:Int) (j:Int) 1=j-i:=by
 unfold Builtin.Slice.slicePlaces;have h1:(1:Int) > 0:=by lia
 simp only[h1,if_true,Int.ediv_one];split<;>lia
theorem HX {v:Value}{o:Option Int}{Q:Option Int->Shared->Prop}(p:IsPart v o)(h:Q o s):wpAny (model prog w) A (Builtin.Slice.slicePartIndex v) Q E s:=by
 cases p with
 |none=>exact slicePart_none h
 |int i t=>exact slicePart_int h
theorem De {sl:Addr}{vl vu:Value}{lo hi:Option Int}{n:Nat}{Q:Int×Int×Nat->Shared->Prop}(hs:s.heap.IsSliceOf sl vl vu .none)(pl:IsPart vl lo)(pu:IsPart vu hi)
  (h:Q (((sIx n 0 lo:Nat):Int),1,sIx n n hi-sIx n 0 lo) s):wpAny (model prog w) A (Builtin.Slice.sliceApplied (.ref sl) (pure (n:Int))) Q E s:=by
 obtain⟨os,hos,hcs,hds⟩:=id hs;unfold Builtin.Slice.sliceApplied Builtin.Slice.sliceFields;refine wpAny_bind (wpAny_bind (wpAny_field hos hds (x:=vl) rfl (wpAny_bind (wpAny_field hos hds (x:=vu) rfl (wpAny_bind (wpAny_field hos hds (x:=.none) rfl (wpAny_pure ?_)))))));refine wpAny_bind (slicePart_none ?_);show wpAny _ _ (if((1:Int)==0)=true then _ else _) _ _ s;rw[if_neg (by decide)];refine wpAny_bind (HX pl (wpAny_bind (HX pu (wpAny_bind (wpAny_pure ?_)))));show wpAny _ _ (match Builtin.Slice.sliceAdjust lo hi 1 (n:Int)with|(lo,hi)=>pure (lo,(1:Int),Builtin.Slice.slicePlaces lo hi 1)) _ _ s;rw[NU lo hi n];show wpAny _ _ (pure (((sIx n 0 lo:Nat):Int),(1:Int),Builtin.Slice.slicePlaces ((sIx n 0 lo:Nat):Int) ((sIx n n hi:Nat):Int) 1)) _ _ s;rw[Nk];exact wpAny_pure h
theorem QL (xs:Array Value)(i k:Nat):((List.range k).filterMap fun(m:Nat)=>xs[((i:Int)+(m:Int)*1).toNat]?).toArray =((xs.toList.drop i).take k).toArray:=by
 have e:(fun(m:Nat)=>xs[((i:Int)+(m:Int)*1).toNat]?)=λm=>xs[i+m]?:=by
  funext m;have:((i:Int)+(m:Int)*1).toNat =i+m:=by lia
  rw[this]
 rw[e];have:=pick_run xs i k;rw[List.filterMap_map]at this;have e2:((λx=>xs[x]?)∘λx=>i+x)=λm=>xs[i+m]?:=rfl;rw[e2]at this;rw[this]
theorem getItem_tuple_cut {t sl:Addr}{items:Array Value}{vl vu:Value}{lo hi:Option Int}{Q:Value->Shared->Prop}(ht:IsTup s.heap t items)(hs:s.heap.IsSliceOf sl vl vu .none)(pl:IsPart vl lo)(pu:IsPart vu hi)
  (hw: ¬(sIx items.size 0 lo=0/\sIx items.size items.size hi=items.size))
  (h:Q (.ref s.heap.objs.size) {s with heap:=s.heap.push {cls:=.type "tuple",data:=.seq ((items.toList.drop (sIx items.size 0 lo)).take (sIx items.size items.size hi-sIx items.size 0 lo)).toArray}})
  (hsz:items.size<=sizeLine):wpAny (model prog w) A (getItem (.ref t) (.ref sl)) Q E s:=by
 have htake:sizeOk (.seq ((items.toList.drop (sIx items.size 0 lo)).take (sIx items.size items.size hi-sIx items.size 0 lo)).toArray):=by
  show((items.toList.drop (sIx items.size 0 lo)).take (sIx items.size items.size hi-sIx items.size 0 lo)).toArray.size<=sizeLine;rw[List.size_toArray,List.length_take,List.length_drop,Array.length_toList];lia
 have hj:sIx items.size items.size hi<=items.size:=UF _ _ (Nat.le_refl _) hi;obtain⟨os,hos,hcs,hds⟩:=id hs;have hTs:s.TypeIs (.ref sl) "slice":=⟨os,hos,hcs⟩;unfold getItem
 try with_reducible refine wpAny_holding ?_
 first|refine wpAny_bind (wpAny_pure ?_)|skip
 refine wpAny_bind (wpAny_sequenceKey ht.typeIs (by decide) ?_);refine wpAny_bind (wpAny_callSpecial?_slot (name:=Str.ofString "__getitem__") ht.typeIs PyProof.Rows.slot_tuple_getitem
  (wpAny_call_entry PyProof.Rows.slot_tuple_getitem ht.typeIs entry_tuple_getitem ?_ (args_tuple_getitem _ _)))
 show wpAny _ _ (Builtin.Tuple.tupleItemsOf (.ref t)>>=_) _ _ s;refine wpAny_bind (tupleItemsOf_ ht ?_);refine wpAny_bind (wpAny_typeOf hTs ?_);rw[if_pos (by decide)];refine wpAny_bind (De hs pl pu ?_);have hno: ¬((((sIx items.size 0 lo:Nat):Int)==0&&(1:Int)==1&&(sIx items.size items.size hi-sIx items.size 0 lo)==items.size)=true):=by
  intro q;rw[Bool.and_eq_true,Bool.and_eq_true]at q;have q1:((sIx items.size 0 lo:Nat):Int)=0:=eq_of_beq q.1.1;have q2:sIx items.size items.size hi-sIx items.size 0 lo=items.size:=eq_of_beq q.2;exact hw ⟨by lia,by lia⟩
 show wpAny _ _ (if(((sIx items.size 0 lo:Nat):Int)==0&&(1:Int)==1&&(sIx items.size items.size hi-sIx items.size 0 lo)==items.size)=true then _ else _) _ _ s;rw[if_neg hno,QL]
 first
  |exact wpAny_bind (m:=Builtin.Tuple.tupleExact _) (wpAny_newObj_type (wpAny_pure ⟨_,rfl,wpAny_pure h⟩) htake)
  |exact wpAny_bind (m:=Builtin.Tuple.tupleExact _) (wpAny_newObj_type (wpAny_bind (wpAny_pure (wpAny_pure ⟨_,rfl,wpAny_pure h⟩))) htake)
  |exact wpAny_bind (wpAny_bind (m:=Builtin.Tuple.tupleExact _) (wpAny_newObj_type (wpAny_pure (wpAny_pure ⟨_,rfl,wpAny_pure h⟩)) htake))
  |exact wpAny_bind (wpAny_bind (m:=Builtin.Tuple.tupleExact _) (wpAny_newObj_type (wpAny_pure ⟨_,rfl,wpAny_pure h⟩) htake))
end
end HT
namespace L2
open PySem PySem.Spec PyProof.Rows
abbrev TO:=St->Hp->(Option Int->Hp->Prop)->Prop
structure PO (X:Cx)(e:Option Expr)(t:TO):Prop where
 go: ∀(pins:List (Addr×Obj)) (s:Shared) (σ:St) (H:Hp) (Q:Option Int->Hp->Prop),yV X pins σ H s->t σ H Q->
  wpAny (model X.prog X.w) X.A (evalPart e X.env) (λu s'=> ∃o H',yV X pins σ H' s'/\IsPart u o/\Q o H') X.xe s
instance {X:Cx}{e:Option Expr}{t:TO}:CoeFun (PO X e t) (λ_=> ∀(pins:List (Addr×Obj)) (s:Shared) (σ:St) (H:Hp) (Q:Option Int->Hp->Prop),yV X pins σ H s->t σ H Q->
  wpAny (model X.prog X.w) X.A (evalPart e X.env) (λu s'=> ∃o H',yV X pins σ H' s'/\IsPart u o/\Q o H') X.xe s):=⟨PO.go⟩
def So:TO:=λ_ H Q=>Q none H
def VS (t:TE):TO:=λσ H Q=>t σ H λx H1=> ∃i,x=.int i/\Q (some i) H1
section
variable {X:Cx}{e:Expr}{te:TE}{lo hi:Option Expr}{tl th:TO}{pos p2:Pos}
theorem Kk:PO X none So:=by
 refine⟨?_⟩;intro pins s σ H Q I h;rw[evalPart_none];exact zL ⟨none,H,I,.none,h⟩
theorem Kj (h:PE X e te):PO X (some e) (VS te):=by
 refine⟨?_⟩;intro pins s σ H Q I hw;rw[evalPart_some];refine kB (h pins s σ H _ I hw) λu s1 hzz=>?_;obtain⟨x,H1,I1,r1,q1⟩:=hzz;obtain⟨i,rfl,q⟩:=q1;obtain⟨t,rfl⟩:=r1;exact⟨some i,H1,I1,.int i t,q⟩
def Xn (X:Cx)(r:V->Option Int->Option Int->Hp->VK->Prop):Prop:=
 ∀(pins:List (Addr×Obj)) (s:Shared) (σ:St) (H:Hp) (x:V) (v vl vu:Value) (lo hi:Option Int) (sl:Addr) (Q:VK),yV X pins σ H s->jM x v->s.heap.IsSliceOf sl vl vu .none->IsPart vl lo->IsPart vu hi->r x lo hi H Q->
  ∃T id,typeLookup (.type T) "__getitem__"=pure (some (.builtin id))/\s.TypeIs v T/\wpAny (model X.prog X.w) X.A (getItem v (.ref sl)) (EP X pins σ Q) X.xe s
def Yi (r:V->Option Int->Option Int->Hp->VK->Prop)(te:TE)(tl th:TO):TE:=λσ H Q=>te σ H λx H1=>tl σ H1 λl H2=>th σ H2 λu H3=>r x l u H3 Q
theorem Ih {r:V->Option Int->Option Int->Hp->VK->Prop}(hr:Xn X r)(he:PE X e te)(hl:PO X lo tl)(hu:PO X hi th):PE X (.Subscript e (.Slice lo hi none p2) pos) (Yi r te tl th):=by
 refine⟨?_⟩;intro pins s σ H Q I h;refine Subscript_ (kB (he pins s σ H _ I h) λv s1 hzz=>?_);obtain⟨x,H1,I1,r1,q1⟩:=hzz;refine wpAny_Slice (kB (hl pins s1 σ H1 _ I1 q1) λvl s2 ⟨l,H2,I2,pl,q2⟩=>kB (hu pins s2 σ H2 _ I2 q2) λvu s3 hzz=>?_);obtain⟨u,H3,I3,pu,q3⟩:=hzz;rw[evalPart_none];refine zL ?_;have I4:yV X pins σ H3 {s3 with heap:=s3.heap.push {cls:=.type "slice",data:=.fields #[vl,vu,.none]}}:=I3.kept (t':=s3.toks) λb ob q=>zD _ q;obtain⟨T,id,hT,ht,hg⟩:=hr pins {s3 with heap:=s3.heap.push {cls:=.type "slice",data:=.fields #[vl,vu,.none]}} σ H3 x v vl vu l u s3.heap.objs.size Q I4 r1 (Heap.IsSliceOf.new ..) pl pu q3;show wpAny (model X.prog X.w) X.A (subscriptTail e (.Slice lo hi none p2) v (.ref s3.heap.objs.size)) (EP X pins σ Q) X.xe {s3 with heap:=s3.heap.push {cls:=.type "slice",data:=.fields #[vl,vu,.none]}};exact tail_any (ops:=[.ref s3.heap.objs.size,v]) ht hT hg (by with_unfolding_all rfl)
def IE (xs:List V)(lo hi:Option Int):List V:=(xs.drop (HT.sIx xs.length 0 lo)).take (HT.sIx xs.length xs.length hi-HT.sIx xs.length 0 lo)
theorem Mx (xs:List V)(lo hi:Option Int):(IE xs lo hi).length<=xs.length:=by
 unfold IE;rw[yX,jK];lia
inductive Wf (K:PySem.W.Frag) (x:V) (lo:Option Int) (hi:Option Int) (H:Hp) (Q:VK):Prop
 |mk (a xs:_) (h0:x=.ref a) (h1:DX K H a xs) (h2: ¬(HT.sIx xs.length 0 lo=0/\HT.sIx xs.length xs.length hi=xs.length)) (h3: ∀p,H p=none->Q (.ref p) (upd H p (.tup (IE xs lo hi)))):Wf K x lo hi H Q
theorem UC:Xn X (Wf X.K):=by
 intro pins s σ H x v vl vu lo hi sl Q I rx hs pl pu h;obtain⟨a,xs,rfl,hx,hw,q⟩:=h;cases rx;obtain⟨its,r,ht,hz⟩:=I.tuple hx;have hlen:its.toArray.size=xs.length:=by rw[zV];exact r.length.symm
 refine⟨"tuple",_,PyProof.Rows.slot_tuple_getitem.lookup,ht.typeIs,?_⟩;refine HT.getItem_tuple_cut ht hs pl pu (by rw[hlen];exact hw) ?_ (by rw[hlen];exact hz);rw[hlen];refine⟨.ref s.heap.objs.size,_,I.laid (t':=s.toks) (o:=.tup (IE xs lo hi)) (λb ob q=>zD _ q) (zP _) ?_,rfl,q _ (I.hok.fresh (zP _))⟩;exact⟨yJ (Mx xs lo hi) hz,_,(r.drop (HT.sIx xs.length 0 lo)).take (HT.sIx xs.length xs.length hi-HT.sIx xs.length 0 lo),IsTup.new _ _⟩
end
def Vo (n:Nat)(i:Int):Option Nat:=if 0<=i then(if i<n then some i.toNat else none)else if-(n:Int)<=i then some (i+n).toNat else none
def KW {α:Type}(xs:List α)(i:Int):Option α:=(Vo xs.length i).bind λj=>xs[j]?
theorem Oy {n:Nat}{i:Int}{j:Nat}(h:Vo n i=some j):seqIndex? i n=some j/\j<n/\ -(n:Int)<=i/\i<n:=by
 unfold Vo at h
 by_cases h0:0<=i
 ·rw[zR h0]at h
  by_cases h1:i<n
  ·rw[zR h1]at h;have e:i.toNat=j:=xP h;exact⟨by rw[seqIndex_of h0 h1,e],by lia,by lia,h1⟩
  ·rw[zH h1]at h;cases h
 ·rw[zH h0]at h
  by_cases h1: -(n:Int)<=i
  ·rw[zR h1]at h;have e:(i+n).toNat =j:=xP h;exact⟨by rw[seqIndex_neg (by lia) h1,e],by lia,h1,by lia⟩
  ·rw[zH h1]at h;cases h
theorem KN {α:Type}{xs:List α}{i:Int}{v:α}(h:KW xs i=some v): ∃j,seqIndex? i xs.length=some j/\xs[j]? =some v/\j<xs.length/\ -(xs.length:Int)<=i/\i<xs.length:=by
 unfold KW at h;cases e:Vo xs.length i with
 |none=>rw[e]at h;cases h
 |some j=>
  rw[e]at h;obtain⟨h1,h2,h3,h4⟩:=Oy e;exact⟨j,h1,h,h2,h3,h4⟩
theorem Bt {α:Type}{xs:List α}{j:Nat}{v:α}(h:xs[j]? =some v):KW xs (j:Int)=some v:=by
 have hj:j<xs.length:=(List.getElem?_eq_some_iff.mp h).1;have e:Vo xs.length (j:Int)=some j:=by
  unfold Vo;rw[zR (by lia),zR (by lia)];simp
 unfold KW;rw[e];exact h
def TF (b:Expr):Prop:= ∀o i,subscripted b false o i=operate [o,i] (getItem o i)
def WO (X:Cx)(r:R2):Prop:=
 ∀(value slice:Expr) (pins:List (Addr×Obj)) (s:Shared) (σ:St) (H:Hp) (x y:V) (v u:Value) (Q:VK),yV X pins σ H s->jM x v->jM y u->r x y H Q->
  subscripted slice false v u=operate [v,u] (getItem v u)->wpAny (model X.prog X.w) X.A (subscriptTail value slice v u) (EP X pins σ Q) X.xe s
def TJ (X:Cx)(id:String)(r:V->List V->Hp->VK->Prop):Prop:=
 ∀(pins:List (Addr×Obj)) (s:Shared) (σ:St) (H:Hp) (x:V) (xs:List V) (v:Value) (us:List Value) (Q:VK),yV X pins σ H s->jM x v->xT xs us->r x xs H Q->
  wpAny (model X.prog X.w) X.A (call (.builtin id) (v::us)) (EP X pins σ Q) X.xe s
section
variable {X:Cx}{a b:Expr}{ta tb:TE}{pos:Pos}
theorem kG {r:R2}(hr:WO X r)(ha:PE X a ta)(hb:PE X b tb)(hs:TF b):PE X (.Subscript a b pos) (MQ r ta tb):=by
 refine⟨?_⟩;intro pins s σ H Q I h;exact Subscript_ (Vx ha hb I h λv u s2 x y H2 I2 rx ry q=>hr a b pins s2 σ H2 x y v u Q I2 rx ry q (hs _ _))
inductive Pb (K:PySem.W.Frag) (x:V) (y:V) (H:Hp) (Q:VK):Prop
 |mk (p xs i v:_) (h0:x=.ref p) (h1:y=.int i) (h2:Ef K H p xs) (h3:KW xs i=some v) (h4:Q v H):Pb K x y H Q
inductive UH (K:PySem.W.Frag) (x:V) (y:V) (H:Hp) (Q:VK):Prop
 |mk (p xs i v:_) (h0:x=.ref p) (h1:y=.int i) (h2:DX K H p xs) (h3:KW xs i=some v) (h4:Q v H):UH K x y H Q
inductive Wi (x:V) (y:V) (H:Hp) (Q:VK):Prop
 |mk (z i c:_) (h0:x=.str z) (h1:y=.int i) (h2:z.length<=sizeLine) (h3:KW z.cps.toList i=some c) (h4:Q (.str ⟨#[c]⟩) H):Wi x y H Q
theorem qY:WO X (Pb X.K):=by
 intro value slice pins s σ H x y v u Q I rx ry h hs;obtain⟨p,xs,i,z,rfl,rfl,hq,he,q⟩:=h;cases rx;obtain⟨t,rfl⟩:=ry;obtain⟨its,r,pl,hz⟩:=I.list hq;obtain⟨j,h1,h2,h3,h4,h5⟩:=KN he;obtain⟨w,ew,rw'⟩:=r.get h2;have hl:=r.length;have hn:=CU;have fin:EP X pins σ Q w s:=⟨z,H,I,rw',q⟩
 by_cases h0:0<=i
 ·have hj:i.toNat=j:=by
   rw[seqIndex_of h0 h5]at h1;exact xP h1
  exact item_listR pl.isList h0 (by lia) (by rw[hj];simpa using ew) fin hs
 ·have hj:(i+(its.toArray.size:Int)).toNat =j:=by
   rw[seqIndex_neg (by lia) h4]at h1;rw[zV,<-hl];exact xP h1
  exact subscriptTail_builtinR (x:=w) pl.isList.typeIs slot_list_getitem.lookup
   (wpAny_getItem_list_neg (Q:=λr s'=>r=w/\EP X pins σ Q r s') pl.isList (by lia) (by rw[zV]<;>lia) (by lia) (by rw[hj];simpa using ew) ⟨rfl,fin⟩) hs
theorem vH:WO X (UH X.K):=by
 intro value slice pins s σ H x y v u Q I rx ry h hs;obtain⟨p,xs,i,z,rfl,rfl,hq,he,q⟩:=h;cases rx;obtain⟨t,rfl⟩:=ry;obtain⟨its,r,pl,hz⟩:=I.tuple hq;obtain⟨j,h1,h2,h3,h4,h5⟩:=KN he;obtain⟨w,ew,rw'⟩:=r.get h2;have hl:=r.length;have hn:=CU;have fin:EP X pins σ Q w s:=⟨z,H,I,rw',q⟩;exact subscriptTail_builtinR (x:=w) pl.typeIs slot_tuple_getitem.lookup
  (getItem_tuple (j:=j) (Q:=λr s'=>r=w/\EP X pins σ Q r s') pl (by lia) (by lia) (by rw[zV,<-hl];exact h1) (by simpa using ew) ⟨rfl,fin⟩) hs
theorem Vn:WO X Wi:=by
 intro value slice pins s σ H x y v u Q I rx ry h hs;obtain⟨z,i,c,rfl,rfl,hz,he,q⟩:=h;obtain⟨t,rfl⟩:=rx;obtain⟨t',rfl⟩:=ry;obtain⟨j,h1,h2,h3,h4,h5⟩:=KN he;have hl:z.cps.toList.length=z.length:=by simp[Str.length]
 rw[hl]at h1 h4 h5;have hn:=CU;exact tail_any (uY s z t) slot_str_getitem.lookup (getItem_str (c:=c) (by
  have e1:decide (i< -(2^63:Int))=false:=yD (by lia);have e2:decide (i ≥ 2^63)=false:=yD (by lia);rw[e1,e2,Bool.or_false]) (by rw[h1];simpa using h2) ⟨.str ⟨#[c]⟩,H,I.tok _,⟨_,rfl⟩,q⟩) hs
theorem NC (its:List Value)(n j:Nat)(u:Value):Obj.mapSeq (·.setIfInBounds j u) {cls:=.type "list",data:=.seq its.toArray n}={cls:=.type "list",data:=.seq (its.set j u).toArray n}:=by
 simp[Obj.mapSeq]
theorem yV.lst {pins:List (Addr×Obj)}{σ:St}{H:Hp}{s:Shared}{p:Addr}{xs:List V}(I:yV X pins σ H s)(h:H p=some (.lst xs)):
  ∃(its:List Value) (n:Nat),xT xs its/\s.heap.get? p=some {cls:=.type "list",data:=.seq its.toArray n}/\xs.length<=sizeLine:=by
 obtain⟨z,its,n,r,e⟩:=I.hok p _ h;exact⟨its,n,r,e,z⟩
theorem yV.lstUpd {pins:List (Addr×Obj)}{σ:St}{H:Hp}{s:Shared}{p:Addr}{xs ys:List V}{its its':List Value}{n n':Nat}{f:Obj->Obj}(I:yV X pins σ H s)(h:H p=some (.lst xs))
  (ho:s.heap.get? p=some {cls:=.type "list",data:=.seq its.toArray n}) (hf:f {cls:=.type "list",data:=.seq its.toArray n}={cls:=.type "list",data:=.seq its'.toArray n'}) (r:xT ys its') (hz:ys.length<=sizeLine) (t:Nat):
  yV X pins σ (upd H p (.lst ys)) {s with heap:=s.heap.update p f,toks:=t}:=by
 have e:(s.heap.update p f).get? p=some {cls:=.type "list",data:=.seq its'.toArray n'}:=by
  rw[jD f ho (by rw[hf]<;>rfl),hf]
 refine I.write (x:=p) (e:=p) (by rw[h];trivial) (.inl rfl) (λb u hb q=>(yZ _ _ (Ne.symm hb)).trans q) ⟨_,e⟩ ?_;exact⟨hz,its',n',r,e⟩
def Om:V->V->V->Hp->(Hp->Prop)->Prop:=λo i v H Q=> ∃p xs k j,o=.ref p/\i=.int k/\H p=some (.lst xs)/\Vo xs.length k=some j/\Q (upd H p (.lst (xs.set j v)))
theorem HZ:WG X Om:=by
 intro pins s σ H o i v ov iv u Q I ro ri rv h;obtain⟨p,xs,k,j,rfl,rfl,hp,hj,q⟩:=h;cases ro;obtain⟨t,rfl⟩:=ri;obtain⟨its,n,r,ho,hz⟩:=I.lst hp;obtain⟨h1,h2,h3,h4⟩:=Oy hj;have hl:=r.length;have hn:=CU;have I':yV X pins σ (upd H p (.lst (xs.set j v))) {s with heap:=s.heap.update p (Obj.mapSeq (·.setIfInBounds j u))}:=
  I.lstUpd hp ho (NC its n j u) (r.set rv j) (by rw[List.length_set];exact hz) s.toks
 by_cases h0:0<=k
 ·have hk:k.toNat=j:=by
   rw[seqIndex_of h0 h4]at h1;exact xP h1
  exact PySem.W.ki_setAt ho h0 (by lia) (by rw[zV,<-hl];exact h4) (by rw[hk];exact⟨_,I',q⟩)
 ·have hk:(k+(its.toArray.size:Int)).toNat =j:=by
   rw[seqIndex_neg (by lia) h3]at h1;rw[zV,<-hl];exact xP h1
  exact PySem.W.ki_setBack ho (by lia) (by rw[zV,<-hl];exact h3) (by lia) (by rw[hk];exact⟨_,I',q⟩)
def AN:V->Bool
 | .non=>true
 | .bl _=>true
 | .int _=>true
 | .str _=>true
 |_=>false
def Mr:V->V->Bool
 | .non,.non=>true
 | .bl a,.bl b=>a==b
 | .bl a,.int b=>(if a then 1 else 0)==b
 | .int a,.bl b=>a==(if b then 1 else 0)
 | .int a,.int b=>a==b
 | .str a,.str b=>a==b
 |_,_=>false
theorem NO {A:Around}{s:Shared}{y x:V}{u v:Value}(ry:jM y u)(rx:jM x v)(fy:AN y=true)(fx:AN x=true):SeqAt.EqAt A s u v (Mr y x):=by
 cases y with
 |non=>
  cases ry;cases x with
  |non=>cases rx;exact SeqAt.EqAt.same _
  |bl b=>cases rx;exact SeqAt.EqAt.none_bool b
  |int b=>obtain⟨t,rfl⟩:=rx;exact SeqAt.EqAt.none_int b t
  |str b=>obtain⟨t,rfl⟩:=rx;exact SeqAt.EqAt.none_str b t
  |_=>exact absurd (show false=true from fx) zZ
 |bl a=>
  cases ry;cases x with
  |non=>cases rx;exact SeqAt.EqAt.bool_none a
  |bl b=>cases rx;exact SeqAt.EqAt.bool_bool a b
  |int b=>obtain⟨t,rfl⟩:=rx;exact SeqAt.EqAt.bool_int a b t
  |str b=>obtain⟨t,rfl⟩:=rx;exact SeqAt.EqAt.bool_str a b t
  |_=>exact absurd (show false=true from fx) zZ
 |int a=>
  obtain⟨t',rfl⟩:=ry;cases x with
  |non=>cases rx;exact SeqAt.EqAt.int_none a t'
  |bl b=>cases rx;exact SeqAt.EqAt.int_bool a t' b
  |int b=>obtain⟨t,rfl⟩:=rx;exact SeqAt.EqAt.int_int a t' b t
  |str b=>obtain⟨t,rfl⟩:=rx;exact SeqAt.EqAt.int_str a t' b t
  |_=>exact absurd (show false=true from fx) zZ
 |str a=>
  obtain⟨t',rfl⟩:=ry;cases x with
  |non=>cases rx;exact SeqAt.EqAt.str_none a t'
  |bl b=>cases rx;exact SeqAt.EqAt.str_bool a t' b
  |int b=>obtain⟨t,rfl⟩:=rx;exact SeqAt.EqAt.str_int a t' b t
  |str b=>obtain⟨t,rfl⟩:=rx;exact SeqAt.EqAt.str_str a t' b t
  |_=>exact absurd (show false=true from fx) zZ
 |_=>exact absurd (show false=true from fy) zZ
def KG (x:V)(u:Value):Bool:=match u with
 | .none=>Mr .non x
 | .bool b=>Mr (.bl b) x
 | .int i _=>Mr (.int i) x
 | .str z _=>Mr (.str z) x
 |_=>false
theorem KF {x y:V}{u:Value}(r:jM y u)(f:AN y=true):KG x u=Mr y x:=by
 cases y with
 |non=>cases r;rfl
 |bl b=>cases r;rfl
 |int i=>obtain⟨t,rfl⟩:=r;rfl
 |str z=>obtain⟨t,rfl⟩:=r;rfl
 |_=>exact absurd (show false=true from f) zZ
theorem Gu {x:V}: ∀{xs:List V} {us:List Value},xT xs us->xs.all AN=true->us.any (KG x)=xs.any λy=>Mr y x
 |_,_,.nil,_=>rfl
 |y::xs,u::us,.cons r t,f=>by
  rw[List.all_cons,yP]at f;rw[List.any_cons,List.any_cons,KF r f.1,Gu t f.2]
theorem BE {A:Around}{s:Shared}{x:V}{v:Value}(rx:jM x v)(fx:AN x=true): ∀{xs:List V} {us:List Value},xT xs us->xs.all AN=true-> ∀u∈us,SeqAt.EqAt A s u v (KG x u)
 |_,_,.nil,_=>λu hu=>by cases hu
 |y::xs,u::us,.cons r t,f=>λu' hu=>by
  rw[List.all_cons,yP]at f
  rcases List.mem_cons.mp hu with rfl|hu
  ·rw[KF r f.1];exact NO r rx f.1 fx
  ·exact BE rx fx t f.2 u' hu
def Xi (x:V)(xs:List V):Bool:=xs.any λy=>Mr y x
inductive XF (K:PySem.W.Frag) (neg:Bool) (x:V) (y:V) (H:Hp) (Q:VK):Prop
 |mk (p xs:_) (h0:y=.ref p) (h1:(Ef K H p xs\/DX K H p xs)) (h2:AN x=true) (h3:xs.all AN=true) (h4:Q (.bl (if neg then !Xi x xs else Xi x xs)) H):XF K neg x y H Q
theorem GM:HI X (compareOp .In) (XF X.K false):=by
 intro pins s σ H x y v u Q I rx ry h;obtain⟨p,xs,rfl,hq,fx,fs,q⟩:=h;cases ry
 rcases hq with hq|hq
 ·obtain⟨its,r,pl,hz⟩:=I.list hq;refine SeqAt.in_listAt (KG x) pl.isList (λw hw=>BE rx fx r fs w (by simpa using hw)) ⟨.bl _,H,I,rfl,?_⟩;rw[show its.toArray.any (KG x)=its.any (KG x)by simp,Gu r fs];exact q
 ·obtain⟨its,r,pl,hz⟩:=I.tuple hq;refine SeqAt.in_tupleAt (KG x) pl (λw hw=>BE rx fx r fs w (by simpa using hw)) ⟨.bl _,H,I,rfl,?_⟩;rw[show its.toArray.any (KG x)=its.any (KG x)by simp,Gu r fs];exact q
theorem DS:HI X (compareOp .NotIn) (XF X.K true):=by
 intro pins s σ H x y v u Q I rx ry h;obtain⟨p,xs,rfl,hq,fx,fs,q⟩:=h;cases ry
 rcases hq with hq|hq
 ·obtain⟨its,r,pl,hz⟩:=I.list hq;refine SeqAt.notIn_listAt (KG x) pl.isList (λw hw=>BE rx fx r fs w (by simpa using hw)) ⟨.bl _,H,I,rfl,?_⟩;rw[show its.toArray.any (KG x)=its.any (KG x)by simp,Gu r fs];exact q
 ·obtain⟨its,r,pl,hz⟩:=I.tuple hq;refine SeqAt.notIn_tupleAt (KG x) pl (λw hw=>BE rx fx r fs w (by simpa using hw)) ⟨.bl _,H,I,rfl,?_⟩;rw[show its.toArray.any (KG x)=its.any (KG x)by simp,Gu r fs];exact q
theorem xJ:EL X (.builtin "len") (λxs H Q=> ∃p ys,xs=[.ref p]/\(Ef X.K H p ys\/DX X.K H p ys)/\Q (.int ys.length) H):=by
 intro pins s σ H xs us Q I r h;obtain⟨p,ys,rfl,hq,q⟩:=h;obtain⟨u,rfl,rx⟩:=HL r;cases rx;have hn:=CU
 rcases hq with hq|hq
 ·obtain⟨its,r',pl,hz⟩:=I.list hq;have hlen:=r'.length;exact Calls.call_len_list pl.isList (by simp only[zV]<;>lia) ⟨.int ys.length,H,I.tok _,⟨s.toks+1,by rw[zV,hlen]⟩,q⟩
 ·obtain⟨its,r',pl,hz⟩:=I.tuple hq;have hlen:=r'.length;exact len_tuple pl (by simp only[zV]<;>lia) ⟨.int ys.length,H,I.tok _,⟨s.toks+1,by rw[zV,hlen]⟩,q⟩
theorem Br:EL X (.builtin "len") (λxs H Q=> ∃z,xs=[.str z]/\z.length<=sizeLine/\Q (.int z.length) H):=by
 intro pins s σ H xs us Q I r h;obtain⟨z,rfl,hz,q⟩:=h;obtain⟨u,rfl,t,rfl⟩:=HL r;have hn:=CU;exact len_str (by lia) ⟨.int z.length,H,I.tok _,⟨_,rfl⟩,q⟩
theorem Bq:EL X (.type "list") (λxs H Q=> ∃p ys,xs=[.ref p]/\(Ef X.K H p ys\/DX X.K H p ys)/\ ∀l,H l=none->Q (.ref l) (upd H l (.lst ys))):=by
 intro pins s σ H xs us Q I r h;obtain⟨p,ys,rfl,hq,q⟩:=h;obtain⟨u,rfl,rx⟩:=HL r;cases rx;have fin: ∀(its:List Value),xT ys its->ys.length<=sizeLine-> ∀(h':Heap) (c':Nat),(∀b o',s.heap.get? b=some o'->h'.get? b=some o')->
   h'.get? s.heap.objs.size=some {cls:=.type "list",dict:=none,data:=.seq its.toArray c',slots:=#[]}->EP X pins σ Q (.ref s.heap.objs.size) {s with heap:=h'}:=λits r' hz h' c' kp e=>
  ⟨.ref s.heap.objs.size,_,I.laid (t':=s.toks) kp (zP _) (show kL X.prog X.w _ h' _ (.lst ys)from⟨hz,its,c',r',e⟩),rfl,q _ (I.hok.fresh (zP _))⟩
 rcases hq with hq|hq
 ·obtain⟨its,r',pl,hz⟩:=I.list hq;have hlen:=r'.length;obtain⟨o,ho,hc,n,hd⟩:=pl.isList;exact call_list_seq p (.inl rfl) ho hc hd (λh' c' kp e=>fin its r' hz h' c' kp e) (by simp only[zV]<;>lia)
 ·obtain⟨its,r',pl,hz⟩:=I.tuple hq;have hlen:=r'.length;obtain⟨o,ho,hc,n,hd⟩:=pl;exact call_list_seq p (.inr rfl) ho hc hd (λh' c' kp e=>fin its r' hz h' c' kp e) (by simp only[zV]<;>lia)
theorem CV:EL X (.type "tuple") (λxs H Q=> ∃p ys,xs=[.ref p]/\((Ef X.K H p ys/\ ∀l,H l=none->Q (.ref l) (upd H l (.tup ys)))\/(DX X.K H p ys/\Q (.ref p) H))):=by
 intro pins s σ H xs us Q I r h;obtain⟨p,ys,rfl,h⟩:=h;obtain⟨u,rfl,rx⟩:=HL r;cases rx
 rcases h with⟨hq,q⟩|⟨hq,q⟩
 ·obtain⟨its,r',pl,hz⟩:=I.list hq;have hlen:=r'.length;refine call_tuple_list pl.isList (λh' kp=>?_) (by simp only[zV]<;>lia);have I1:yV X pins σ H {s with heap:=h'}:=I.kept (t':=s.toks) kp;have I2:yV X pins σ (upd H h'.objs.size (.tup ys)) {s with heap:=h'.push {cls:=.type "tuple",data:=.seq its.toArray}}:=
   I1.laid (t':=s.toks) (λb o e=>zD _ e) (zP _) (show kL X.prog X.w _ _ _ (.tup ys)from⟨hz,its,r',IsTup.new _ _⟩)
  exact⟨.ref h'.objs.size,_,I2,rfl,q _ (I1.hok.fresh (zP _))⟩
 ·obtain⟨its,r',pl,hz⟩:=I.tuple hq;exact call_tuple_same pl ⟨.ref p,H,I,rfl,q⟩
def Xq (K:PySem.W.Frag)(T:String)(x:V)(H:Hp):Prop:=match x with
 | .str _=>T="str"
 | .int _=>T="int"
 | .ref p=>(T="list"/\ ∃xs,Ef K H p xs)\/(T="tuple"/\ ∃o,K.lookup p=some o/\o.cls=.type "tuple"/\o.dict=none)\/
   (T="dict"/\((∃kvs,H p=some (.dK kvs))\/ ∃kvs,H p=some (.dT kvs)))\/(T="set"/\ ∃S n,H p=some (.set S n))
 |_=>False
theorem MN {pins:List (Addr×Obj)}{σ:St}{H:Hp}{s:Shared}{T:String}{x:V}{v:Value}(I:yV X pins σ H s)(r:jM x v)(ty:Xq X.K T x H):
  s.TypeIs v T/\ ∀a,v=.ref a-> ∃ob,s.heap.get? a=some ob/\ob.dict=none:=by
 cases x with
 |str z=>
  obtain⟨t,rfl⟩:=r;cases(show T="str" from ty);exact⟨uY s z t,λ_ e=>nomatch e⟩
 |int i=>
  obtain⟨t,rfl⟩:=r;cases(show T="int" from ty);exact⟨typeIs_int s i t,λ_ e=>nomatch e⟩
 |ref p=>
  cases r
  rcases ty with⟨rfl,xs,hq⟩|⟨rfl,o,hk,hc,hd⟩|⟨rfl,hk⟩|⟨rfl,S,n,hk⟩
  ·obtain⟨its,_,pl,_⟩:=I.list hq;refine⟨pl.isList.typeIs,λa e=>?_⟩;cases e;obtain⟨o,n,e,c,hd,_⟩:=pl;exact⟨o,e,hd⟩
  ·refine⟨⟨o,I.kIn p o hk,hc⟩,λa e=>?_⟩;cases e;exact⟨o,I.kIn _ o hk,hd⟩
  ·have z: ∃o,s.heap.get? p=some o/\o.ExactDict:=by
    rcases hk with⟨kvs,hk⟩|⟨kvs,hk⟩
    ·obtain⟨_,_,_,_,o,_,_,e,ex,_⟩:=I.hok p _ hk;exact⟨o,e,ex⟩
    ·obtain⟨_,_,_,_,o,_,_,e,ex,_⟩:=I.hok p _ hk;exact⟨o,e,ex⟩
   obtain⟨o,e,ex⟩:=z;refine⟨⟨o,e,ex.1⟩,λa e2=>?_⟩;cases e2;exact⟨o,e,ex.2.1⟩
  ·obtain⟨o,_,_,_,e,ex,_⟩:=I.hok p _ hk;refine⟨⟨o,e,ex.1⟩,λa e2=>?_⟩;cases e2;exact⟨o,e,ex.2.1⟩
 |_=>exact False.elim ty
inductive TZ (K:PySem.W.Frag) (T:String) (r:V->List V->Hp->VK->Prop) (x:V) (H1:Hp) (Q:VK):Prop
 |mk (h0:Xq K T x H1) (h1:r x [] H1 Q):TZ K T r x H1 Q
def XA (K:PySem.W.Frag)(T:String)(r:V->List V->Hp->VK->Prop)(to:TE):TE:=λσ H Q=>to σ H λx H1=>TZ K T r x H1 Q
inductive VX (K:PySem.W.Frag) (T:String) (r:V->List V->Hp->VK->Prop) (t:TA) (σ:St) (x:V) (H1:Hp) (Q:VK):Prop
 |mk (h0:Xq K T x H1) (h1:t σ H1 λxs H2=>r x xs H2 Q):VX K T r t σ x H1 Q
def XW (K:PySem.W.Frag)(T:String)(r:V->List V->Hp->VK->Prop)(to:TE)(t:TA):TE:=λσ H Q=>to σ H λx H1=>VX K T r t σ x H1 Q
variable {o e:Expr}{es:List Expr}{to:TE}{t:TA}{name:Str}{apos cpos:Pos}{T id:String}{r:V->List V->Hp->VK->Prop}
theorem Nm (pa:PlainAttrs T)(slot:Slot T name id)(hty:typeOf (.builtin id)=pure (.type "method_descriptor"))(hm:TJ X id r)(ho:PE X o to)
  (hbase:attributeBase o name X.env (eval o X.env)=eval o X.env:=by rfl) (hline:(apos.endLine==cpos.line)=true:=by rfl):PE X (.Call (.Attribute o name apos) [] [] cpos) (XA X.K T r to):=by
 refine⟨?_⟩;intro pins s σ H Q I h;refine wpAny_Call_method0_late hbase hline (kB (ho pins s σ H _ I h) λv s1 hzz=>?_);obtain⟨x,H1,I1,r1,ty,q1⟩:=hzz;obtain⟨h1,h2⟩:=MN I1 r1 ty;exact⟨T,id,pa,slot,hty,h1,h2,kP rfl (PySem.evalArgs_none (hm pins s1 σ H1 x [] v [] Q I1 r1 .nil q1))⟩
theorem uE (pa:PlainAttrs T)(slot:Slot T name id)(hty:typeOf (.builtin id)=pure (.type "method_descriptor"))(hm:TJ X id r)(ho:PE X o to)(ha:PA X (e::es) t)
  (hbase:attributeBase o name X.env (eval o X.env)=eval o X.env:=by rfl)
  (hfew:((backTo cpos (starEach (e::es) X.env)).all (λx=>!x.1)&&(backToKw cpos (keywordEach [] X.env)).all (λx=>x.1.isSome)
   &&decide ((e::es).length +([]:List Keyword).length +(if([]:List Keyword).isEmpty then 0 else 1)<30))=true:=by rfl)
  (hline:(apos.endLine==cpos.line)=true:=by rfl) (hs:starEach (e::es) X.env=(false,eval e X.env)::starEach es X.env:=by rfl) (hplain:(backTo cpos (starEach es X.env)).any (·.1)=false:=by rfl):
  PE X (.Call (.Attribute o name apos) (e::es) [] cpos) (XW X.K T r to t):=by
 refine⟨?_⟩;intro pins s σ H Q I h;refine Ai hbase hfew hline rfl (kB (ho pins s σ H _ I h) λv s1 hzz=>?_);obtain⟨x,H1,I1,r1,ty,q1⟩:=hzz;obtain⟨h1,h2⟩:=MN I1 r1 ty;refine⟨T,id,pa,slot,hty,h1,h2,?_⟩;have hA:=ha cpos pins s1 σ H1 _ I1 q1;rw[hs]at hA ⊢;refine kP (by show(false || (backTo cpos (starEach es X.env)).any (·.1))=false;rw[hplain]<;>rfl) (vN ?_);exact kB hA λus s2 ⟨vs,H2,I2,r2,q2⟩=>hm pins s2 σ H2 x vs v us Q I2 r1 r2 q2
/-xs.append(e),list.index on a module's tuple .. are TJ facts of 06m-/
end
def WL (X:Cx)(id:String)(r:V->List V->Hp->VK->Prop):Prop:=
 ∀(pins:List (Addr×Obj)) (s:Shared) (σ:St) (H:Hp) (x:V) (xs:List V) (v:Value) (us:List Value) (Q:VK),yV X pins σ H s->jM x v->xT xs us->r x xs H Q->
  wpAny (model X.prog X.w) X.A (call (.builtin id) (v::us)) (EP X pins σ Q) X.xe s
theorem xT.one: ∀{x:V} {us:List Value},xT [x] us-> ∃u,us=[u]/\jM x u
 |_,_,.cons r .nil=>⟨_,rfl,r⟩
theorem xT.zero: ∀{us:List Value},xT [] us->us=[]
 |_,.nil=>rfl
theorem xT.dropLast {xs:List V}{us:List Value}(h:xT xs us):xT xs.dropLast us.dropLast:=by
 induction h with
 |nil=>exact .nil
 |cons r t ih=>
  cases t with
  |nil=>exact .nil
  |cons q t'=>exact .cons r ih
theorem xT.reverse {xs:List V}{us:List Value}(h:xT xs us):xT xs.reverse us.reverse:=by
 induction h with
 |nil=>exact .nil
 |cons r t ih=>rw[vE,vE];exact xT.append ih (.cons r .nil)
theorem NL {α:Type}(l:List α):l.eraseIdx (l.length-1)=l.dropLast:=by
 induction l with
 |nil=>rfl
 |cons a r ih=>
  cases r with
  |nil=>rfl
  |cons b r=>
   have e:(a::b::r).length -1=((b::r).length -1)+1:=by
    have h1:(a::b::r).length =r.length+2:=rfl;have h2:(b::r).length =r.length+1:=rfl;lia
   rw[e,List.eraseIdx_cons_succ,ih]
   all_goals rfl
section
variable {X:Cx}{pins:List (Addr×Obj)}{σ:St}{H:Hp}{s:Shared}{l b:Addr}{xs ys zs:List V}
theorem yV.lset {its its':List Value}{n:Nat}{f:Array Value->Array Value}{t':Nat}(I:yV X pins σ H s)(hH:H l=some (.lst xs))
  (e:s.heap.get? l=some {cls:=.type "list",data:=.seq its.toArray n}) (hf:f its.toArray=its'.toArray) (hv:xT ys its') (hz:ys.length<=sizeLine):
  yV X pins σ (upd H l (.lst ys)) {s with heap:=s.heap.update l (Obj.mapSeq f),toks:=t'}:=by
 have q:=PySem.IsL.update e f;rw[hf]at q;refine I.write (x:=l) (e:=l) (by rw[hH];exact trivial) (.inl rfl) (λb' u hb hu=>(yZ s.heap (Obj.mapSeq f) (Ne.symm hb)).trans hu) ⟨_,q⟩ ?_;exact⟨hz,its',_,hv,q⟩
theorem yV.lnew {its:List Value}{t':Nat}(I:yV X pins σ H s)(hv:xT ys its)(hz:ys.length<=sizeLine):
  yV X pins σ (upd H s.heap.objs.size (.lst ys)) {s with heap:=s.heap.push {cls:=.type "list",data:=.seq its.toArray},toks:=t'}:=
 I.laid (λ_ _ q=>zD _ q) (zP _) ⟨hz,its,0,hv,yC _ rfl⟩
theorem yV.fresh (I:yV X pins σ H s):H s.heap.objs.size=none:=I.hok.fresh (zP _)
theorem yV.lstM (I:yV X pins σ H s)(hH:H l=some (.lst xs)):xs.length<=sizeLine/\ ∃(its:List Value) (n:Nat),xT xs its/\xs.length=its.length/\s.heap.get? l=some {cls:=.type "list",data:=.seq its.toArray n}:=by
 obtain⟨z,its,n,r,e⟩:=I.hok l _ hH;exact⟨z,its,n,r,r.length,e⟩
theorem Rn {n:Nat}(h:n<=sizeLine):Builtin.List.listTooLong n=false:=by
 unfold Builtin.List.listTooLong;exact yD (by lia)
end
section
variable {X:Cx}
inductive On (x:V) (vs:List V) (H:Hp) (Q:VK):Prop
 |mk (l xs y:_) (h0:x=.ref l) (h1:vs=[y]) (h2:H l=some (.lst xs)) (h3:xs.length<sizeLine) (h4:Q .non (upd H l (.lst (xs++[y])))):On x vs H Q
theorem jX:WL X "list.append" On:=by
 intro pins s σ H x vs v us Q I rx rv h;obtain⟨l,xs,y,rfl,rfl,hH,hz,q⟩:=h;cases rx;obtain⟨u,rfl,ru⟩:=rv.one;obtain⟨z,its,n,r,hl,e⟩:=I.lstM hH;refine qX F.slot_list_append ⟨_,e,rfl⟩ F.entry_list_append (F.args_list_append_2 _ _) (PySem.list_append l its.toArray n u (by rw[zV];lia)) ⟨e,?_⟩;refine⟨.non,_,I.lset (its':=its++[u]) hH e (by simp) (r.append (.cons ru .nil)) ?_,rfl,q⟩;rw[zC,List.length_singleton];lia
inductive Wh (x:V) (vs:List V) (H:Hp) (Q:VK):Prop
 |mk (l xs y:_) (h0:x=.ref l) (h1:vs=[]) (h2:H l=some (.lst xs)) (h3:xs[xs.length-1]? =some y) (h4:Q y (upd H l (.lst xs.dropLast))):Wh x vs H Q
theorem Vh:WL X "list.pop" Wh:=by
 intro pins s σ H x vs v us Q I rx rv h;obtain⟨l,xs,y,rfl,rfl,hH,hy,q⟩:=h;cases rx;have hus:=rv.zero;subst hus;obtain⟨z,its,n,r,hl,e⟩:=I.lstM hH;obtain⟨u,hu,ru⟩:=r.get hy;have hy':its.toArray[its.toArray.size-1]? =some u:=by
  show its.toArray[its.length-1]? =some u;rw[<-Ax,<-hl];exact hu
 refine qX F.slot_list_pop ⟨_,e,rfl⟩ F.entry_list_pop (F.args_list_pop_1 _) (MeetsSeq.list_pop_last l its.toArray n u hy' (by rw[zV];lia)) ⟨e,?_⟩;refine⟨y,_,I.lset (its':=its.dropLast) hH e ?_ r.dropLast ?_,ru,q⟩
 ·show its.toArray.eraseIdxIfInBounds (its.toArray.size-1)=its.dropLast.toArray;rw[zV,List.eraseIdxIfInBounds_toArray,NL]
 ·rw[List.length_dropLast];lia
inductive LB (x:V) (vs:List V) (H:Hp) (Q:VK):Prop
 |mk (l xs:_) (h0:x=.ref l) (h1:vs=[]) (h2:H l=some (.lst xs)) (h3:Q .non (upd H l (.lst xs.reverse))):LB x vs H Q
theorem Nz:WL X "list.reverse" LB:=by
 intro pins s σ H x vs v us Q I rx rv h;obtain⟨l,xs,rfl,rfl,hH,q⟩:=h;cases rx;have hus:=rv.zero;subst hus;obtain⟨z,its,n,r,hl,e⟩:=I.lstM hH;refine qX F.slot_list_reverse ⟨_,e,rfl⟩ F.entry_list_reverse (F.args_list_reverse_1 _) (AutoSeq1.list_reverse_list_0 l its.toArray n (by rw[zV];lia)) ⟨e,?_⟩;refine⟨.non,_,I.lset (its':=its.reverse) hH e (by simp) r.reverse ?_,rfl,q⟩;rw[uB];lia
inductive QH (x:V) (vs:List V) (H:Hp) (Q:VK):Prop
 |mk (l xs:_) (h0:x=.ref l) (h1:vs=[]) (h2:H l=some (.lst xs)) (h3:Q .non (upd H l (.lst []))):QH x vs H Q
theorem Rs:WL X "list.clear" QH:=by
 intro pins s σ H x vs v us Q I rx rv h;obtain⟨l,xs,rfl,rfl,hH,q⟩:=h;cases rx;have hus:=rv.zero;subst hus;obtain⟨z,its,n,r,hl,e⟩:=I.lstM hH;refine qX F.slot_list_clear ⟨_,e,rfl⟩ F.entry_list_clear (F.args_list_clear_1 _) (AutoSeq1.list_clear_list_0 l its.toArray n (by rw[zV];lia)) ⟨e,?_⟩;exact⟨.non,_,I.lset (its':=[]) (ys:=[]) hH e rfl .nil (xA _),rfl,q⟩
inductive Wl (x:V) (y:V) (H:Hp) (Q:VK):Prop
 |mk (l b xs zs:_) (h0:x=.ref l) (h1:y=.ref b) (h2:H l=some (.lst xs)) (h3:H b=some (.lst zs)) (h4:xs.length+zs.length<=sizeLine) (h5: ∀p,H p=none->Q (.ref p) (upd H p (.lst (xs++zs)))):Wl x y H Q
theorem FI:HI X (binaryOp .Add) Wl:=by
 intro pins s σ H x y v u Q I rx ry h;obtain⟨l,b,xs,zs,rfl,rfl,hH,hB,hz,q⟩:=h;cases rx;cases ry;obtain⟨z,its,n,r,hl,e⟩:=I.lstM hH;obtain⟨z2,its2,n2,r2,hl2,e2⟩:=I.lstM hB;refine PySem.P.add_list e e2 ?_ (by rw[zV,zV];lia);have ea:its.toArray++its2.toArray=(its++its2).toArray:=by simp
 rw[ea];exact⟨.ref _,_,I.lnew (t':=s.toks) (r.append r2) (by rw[zC];lia),rfl,q _ I.fresh⟩
end
section
variable {prog:Program}{w:World}{A:Around}{E:Value->Shared->Prop}{s:Shared}
set_option maxRecDepth 100000 in
end
end L2
namespace Att
open PySem PySem.W PySem.Calls PyProof.Rows
theorem Hx {P:Params}{h:Heap}: ∀(ns:List Int) (vs:List Value),WellAll P h vs (ns.map WData.int)->IntsAre vs ns:=by
 intro ns
 induction ns with
 |nil=>
  intro vs w;rw[List.map_nil]at w;cases w;exact .nil
 |cons n ns ih=>
  intro vs w;rw[List.map_cons]at w;cases w with
  |cons a b=>
   cases a;exact .cons _ _ (ih _ b)
theorem OY {l:OpenLaw}{n:Nat}(hn:l.most=some n){P:Params}{h:Heap}{args:List WData}{vals:List Value}
  (hpre:l.row.toRowW.claim.pre args=true) (hwl:WellAll P h vals args):
  ∃a vs ns,vals=[Value.ref a]/\args=[WData.list (ns.map WData.int)]/\h.get? a=some {cls:=.type "list",data:=.seq vs.toArray}/\IntsAre vs ns/\ns.length<=n:=by
 have hsh:WShape.hasAll [] args [.list .int]=true:=(pre_splitW hpre).1;have hc:l.pre.holds [] {args:=args}=true:=(pre_splitW hpre).2;obtain⟨d,r,rfl,h1,h2⟩:=hasAllW_cons hsh;obtain rfl:=hasAllW_nil h2;obtain⟨xs,rfl,h3⟩:=hasW_list h1;obtain⟨ns,rfl⟩:=items_int h3;have hlen:ns.length<=n:=by
  unfold OpenLaw.pre at hc;have h4:(WTm.not (.lt (.lit (.int (n:Int))) (.len (.arg 0)))).holds [] {args:=[.list (ns.map .int)]}=true:=by
   have h4:=(holds_andW hc).1;rw[hn]at h4;exact h4
  have h5:=condW_of h4 (w_not (w_lt w_lit (w_len_list (w_arg rfl))));rw[List.length_map]at h5;refine Nat.le_of_not_lt λq=>?_;have q':(n:Int)<((ns.length:Nat):Int):=by lia
  first
   |(rw[decide_eq_true q']at h5;exact absurd h5 (by decide))
   |(simp at h5;lia)
 cases hwl with
 |cons w1 w2=>
  cases w2;cases w1 with
  |list ho hall=>exact⟨_,_,ns,rfl,rfl,ho,Hx ns _ hall,hlen⟩
theorem Pd (l:OpenLaw)(args:List WData):l.row.toRowW.claim.post args (.bool true) args=true:=
 postW_of (r:=l.row.toRowW) (X:=(true==true))
  (show WShape.has [] (.bool true) .bool =true by first|rfl|decide|simp[WShape.has,WShape.arms,WShape.armsAll])
  (show(WTm.eq .res (.lit (.bool true))).value [] {args:=args,res:=some (.bool true),after:=args}=some (.bool (true==true))from w_eq_bool (w_res rfl) w_lit) rfl
theorem attach_call {l:OpenLaw}{n:Nat}{q:Program}{loose:List Str}{XP:(Str->Option Value)->Heap->Prop}{YP:World->Heap->Prop}{d:DefRec}
  (hn:l.most=some n) (hdf:d.params.defaults=[])
  (call: ∀(w:World) (s₀ s₁:Shared) (mg mb:Str->Option Value) (fa:Addr) (o:Obj) (pm cd doc:Value) (a:Addr) (vs:List Value) (ns:List Int),
   Ground q loose [] XP w s₀ mg mb s₁.heap->YP w s₁.heap->
   s₁.heap.get? fa=some o->o.data=.func (docDef d.name d.params d.body d.scope pm cd doc)->s₁.heap.CodeRec cd d.name->mg d.name=some (.ref fa)->
   s₁.heap.get? a=some {cls:=.type "list",data:=.seq vs.toArray}->IntsAre vs ns->ns.length<=n->s₁.gens=#[]->
   codeAny (model l.prog w) callerA (.call (.ref fa) ⟨[.ref a],[]⟩) (λr s'=>r=.ok (.ret (.bool true))/\OldK s₁.heap s'.heap/\s'.os=s₁.os/\AllBare s'.gens) s₁):
  WalkO q loose XP YP l.row.toRowW d [] (λf vs=>PySem.call f vs):=by
 intro w s₀ s₁ mg mb G Y fa o pm cd doc dV kV ho hd hcd hD hmg hg args vals as hpre hlay hrd hwl hlo;obtain rfl:dV=.none:=Dflts.none hD hdf;obtain rfl:kV=.none:=Dflts.noKw hD;obtain⟨a,vs,ns,rfl,rfl,hobj,hints,hlen⟩:=OY hn hpre hwl;refine enter_call (codeAny_mono (call w s₀ s₁ mg mb fa o pm cd doc a vs ns G Y ho (fd_plain hd) hcd hmg hobj hints hlen hg) λr s' hq=>?_);obtain⟨rfl,h2,h3,h4⟩:=hq;exact⟨.inl ⟨.bool true,.bool true,[],rfl,λ_=>rfl,.bool true,Pd l _,λ_=>⟨List.Pairwise.nil,λ_ hm=>(nomatch hm)⟩⟩,h2,h3,h4⟩
section
variable {prog:Program}{w:World}{A:Around}{E:Value->Shared->Prop}{s:Shared}{K:Frag}
def XI (h:Heap)(L d:Addr):List (Addr×Obj):=(List.range h.objs.size).filterMap λa=>if a=L\/a=d then none else(h.get? a).map λo=>(a,o)
end
end Att
namespace L2
open PySem PySem.Spec PyProof.Rows
theorem IY: ∀{vs:List Value} {ns:List Int},IntsAre vs ns->xT (ns.map V.int) vs
 |_,_,.nil=>.nil
 |_,_,.cons n t h=>.cons ⟨t,rfl⟩ (IY h)
def TH (H:Hp):Prop:= ∀b,H b=none\/ ∃o xs,H b=some (.frz o (.lst xs))
theorem Ru {P:Program}{w:World}{K:PySem.W.Frag}{mg mb:Str->Option Value}{CX:Gy}{k:Nat}{fa a:Addr}{fd:FuncData}{x:Str}{sp:Sp}{s₁:Shared}{vs:List Value}{ns:List Int}
  (KX:K.In s₁.heap) (Xj:s₁.heap.Ns mainGlobals mg) (hb:s₁.heap.Ns builtinsNs mb) (hbb: ∀x:Str,x≠"__name__"->mb x=bootBuiltins x) (hlim:s₁.heap.NoLimit) (hg:s₁.gens=#[])
  (ha:s₁.heap.get? a=some {cls:=.type "list",data:=.seq vs.toArray}) (hi:IntsAre vs ns) (hl:ns.length<=sizeLine) (hr:wK k callerA)
  (F: ∀base:Heap,K.In base->base.Ns mainGlobals mg->Ap P w K mg base CX k fa fd [x] sp) (hbind: ∀(s:Shared) (u:Value),BindsTo s fd ⟨[u],[]⟩ [(x,u)])
  (hsp: ∀H:Hp,TH H->Ef K H a (ns.map V.int)->sp [.ref a] H (λv _=>v=.bl true) λ_ _ _=>False)
  (hCX: ∀H e s',CX [] H s₁ (λ_ _ _=>False) e s'->False):
  codeAny (model P w) callerA (.call (.ref fa) ⟨[.ref a],[]⟩) (λr s'=>r=.ok (.ret (.bool true))/\OldK s₁.heap s'.heap/\s'.os=s₁.os/\AllBare s'.gens) s₁:=by
 have rv:=IY hi;have lenV:=hi.length;have core: ∀H:Hp,TH H->Ef K H a (ns.map V.int)->Fj P w H s₁.heap->(∀b,H b≠none->b=a)->(H a≠none->K.lookup a=none)->
   codeAny (model P w) callerA (.call (.ref fa) ⟨[.ref a],[]⟩) (λr s'=>r=.ok (.ret (.bool true))/\OldK s₁.heap s'.heap/\s'.os=s₁.os/\AllBare s'.gens) s₁:=by
  intro H hO hS hok hA hK;have base_of: ∀{b:Addr} {o:Obj},s₁.heap.get? b=some o->H b=none->(Kz s₁.heap H).get? b=some o:=λe n=>RD e n;have noA: ∀{b:Addr} {o:Obj} {es:Array DictEntry} {ep:Nat},s₁.heap.get? b=some o->o.data=.dict es ep->H b=none:=fun{b o es ep} e d=>by
   cases q:H b with
   |none=>rfl
   |some u=>
    have e':b=a:=hA b (by rw[q];simp);subst e';rw[ha]at e;cases e;have d':Data.seq vs.toArray _=Data.dict es ep:=d;cases d'
  have nsK: ∀{b:Addr} {m:Str->Option Value},s₁.heap.Ns b m->(Kz s₁.heap H).Ns b m:=fun{b m} ⟨o,es,ep,e,d,r⟩=>⟨o,es,ep,base_of e (noA e d),d,r⟩;have hKb:K.In (Kz s₁.heap H):=λb o e=>base_of (KX b o e) (by
   cases q:H b with
   |none=>rfl
   |some u=>
    have e':b=a:=hA b (by rw[q];simp);subst e';rw[hK (by rw[q];simp)]at e;cases e)
  have hM:Mod K mg (Kz s₁.heap H):=⟨hKb,nsK Xj,⟨mb,nsK hb,hbb⟩,let⟨mc,h1,h2⟩:=hlim;⟨mc,nsK h1,h2⟩⟩;have e0:NY P w K mg (Kz s₁.heap H) callerA [] s₁ H:=⟨rfl,hM,λb o e=>Ti e,Nat.le_of_eq (PM _ _),trivial,λb hb=>absurd (show b∈([]:List Addr)from hb) (by simp),hok,.of_eq hg⟩;refine Ak ((F _ hKb (nsK Xj)).run callerA [] s₁ H ⟨[.ref a],[]⟩ [.ref a] [.ref a] _ _ hr e0 (hbind s₁ (.ref a)) (.cons rfl .nil) (hsp H hO hS)) λr s' h=>?_;cases r with
  |error e=>exact(hCX H e s' h).elim
  |ok fl=>
   cases fl with
   |next=>exact False.elim h
   |brk=>exact False.elim h
   |cont=>exact False.elim h
   |ret u=>
    obtain⟨v,H',os,bare,un,hok',r',q⟩:=h;have q':v=.bl true:=q;subst q';obtain rfl:u=Value.bool true:=r';refine⟨rfl,OldK.of_keep λb o e=>?_,os,bare⟩;cases q:H b with
    |none=>exact un.keep b o e q (by intro z;exact absurd (show b∈([]:List Addr)from z) (by simp)) (by simp)
    |some u=>
     rcases hO b with z|⟨ob,xs,z⟩
     ·rw[q]at z;cases z
     ·have z2:=un.frzs b ob _ z;obtain⟨e1,_⟩:=hok b _ z;obtain⟨e2,_⟩:=hok' b _ z2;rw[e]at e1;cases e1;exact e2
 cases hk:K.lookup a with
 |some o=>
  have e:=KX a o hk;rw[ha]at e;cases e;refine core (λ_=>none) (λ_=>.inl rfl) (.inr ⟨_,vs.toArray,_,hk,rfl,rfl,rfl,by rw[zV,lenV];exact hl,by simpa using rv⟩) (λb u z=>by have z':(none:Option HO)=some u:=z;cases z') (λb z=>absurd rfl z) λz=>absurd rfl z
 |none=>
  refine core (λb=>if b=a then some (.frz {cls:=.type "list",data:=.seq vs.toArray} (.lst (ns.map V.int)))else none) (λb=>?_) (.inl (.inr ⟨{cls:=.type "list",data:=.seq vs.toArray},zR rfl⟩)) (λb u z=>?_) (λb z=>?_) λ_=>hk
  ·by_cases hb:b=a
   ·exact .inr ⟨_,_,zR hb⟩
   ·exact .inl (zH hb)
  ·by_cases hb:b=a
   ·have z':=(zR hb).symm.trans z;cases z';subst hb;exact⟨ha,by rw[zF];exact hl,vs,_,rv,ha⟩
   ·have z':=(zH hb).symm.trans z;cases z'
  ·by_cases hb:b=a
   ·exact hb
   ·exact absurd (zH hb) z
theorem walk_of {l:PySem.W.OpenLaw}{n k:Nat}{q:Program}{loose:List Str}{XP:(Str->Option Value)->Heap->Prop}{YP:World->Heap->Prop}{d:DefRec}{K:Params->PySem.W.Frag}{CX:World->Gy}{sp:World->Sp}{x:Str}
  (hn:l.most=some n) (hn2:n<=sizeLine) (hdf:d.params.defaults=[]) (hr:wK k callerA)
  (hY: ∀(w:World) (h:Heap),YP w h->(K w.params).In h)
  (F: ∀(w:World) (mg:Str->Option Value) (fa:Addr) (h:Heap),(K w.params).In h->h.Ns mainGlobals mg->mg d.name=some (.ref fa)->
   ∃fd:FuncData,(∀(s:Shared) (u:Value),BindsTo s fd ⟨[u],[]⟩ [(x,u)])/\
    ∀base:Heap,(K w.params).In base->base.Ns mainGlobals mg->Ap l.prog w (K w.params) mg base (CX w) k fa fd [x] (sp w))
  (hsp: ∀(w:World) (H:Hp) (a:Addr) (ns:List Int),ns.length<=n->TH H->Ef (K w.params) H a (ns.map V.int)->sp w [.ref a] H (λv _=>v=.bl true) λ_ _ _=>False)
  (hCX: ∀(w:World) (H:Hp) (s:Shared) (e:Value) (s':Shared),CX w [] H s (λ_ _ _=>False) e s'->False):
  PySem.W.WalkO q loose XP YP l.row.toRowW d [] (λf vs=>PySem.call f vs):=by
 refine Att.attach_call hn hdf λw s₀ s₁ mg mb fa o pm cd doc a vs ns G Y ho hd hcd hmg hobj hints hlen hg=>?_;have KX:=hY w _ Y;obtain⟨fd,hb,hF⟩:=F w mg fa _ KX G.T.g hmg;exact Ru KX G.T.g G.T.b G.T.builtins G.T.nolimit hg hobj hints (yJ hlen hn2) hr hF hb (λH hO hS=>hsp w H a ns hlen hO hS) λH e s'=>hCX w H s₁ e s'
def Fa (s:Stmt)(j:Nat):Stmt:=match s with
 | .ClassDef _ _ _ body _ _ _ _ _ _ _=>body.getD j (.Pass ⟨0,0,0,0⟩)
 |_=>.Pass ⟨0,0,0,0⟩
def uO (s:Stmt):Arguments:=match s with
 | .FunctionDef _ a _ _ _ _ _ _ _ _=>a
 |_=>{posonlyargs:=[],args:=[],vararg:=none,kwonlyargs:=[],kw_defaults:=[],kwarg:=none,defaults:=[]}
def qZ (s:Stmt):List Stmt:=match s with
 | .FunctionDef _ _ b _ _ _ _ _ _ _=>b
 |_=>[]
def zY (s:Stmt):Scope:=match s with
 | .FunctionDef _ _ _ _ _ _ sc _ _ _=>sc
 |_=>{kind:=.function,names:=[],isGenerator:=false,isCoroutine:=false}
abbrev E0:XK:=λ_ _ _=>False
structure wQ (K:PySem.W.Frag)(x qual:Str)(st:Stmt)(f:Addr)(fd:FuncData):Prop where
 ex: ∃(oc:Value) (od:Option Addr) (kV doc pm:Value) (an:Option Addr) (cdv ct:Value) (osl:Array (Option Value)),
  fd=PySem.W.fnOf x qual (uO st) (qZ st) (zY st) .none kV doc pm an cdv ct/\K.lookup f=some ⟨oc,od,.func fd,osl⟩/\PySem.W.codeIn K cdv qual=true
 kp:PySem.W.keepIn K (.ref f)=true
section
variable {P:Program}{w:World}{K:PySem.W.Frag}{mg:Str->Option Value}{base:Heap}
theorem wQ.binds {x qual:Str}{st:Stmt}{f:Addr}{fd:FuncData}{ps:List Str}(F:wQ K x qual st f fd)
  (h: ∀(kV doc pm:Value) (an:Option Addr) (cdv ct:Value) (us:List Value),us.length=ps.length->bindArgs (PySem.W.fnOf x qual (uO st) (qZ st) (zY st) .none kV doc pm an cdv ct) ⟨us,[]⟩=pure (ps.zip us)):wT K fd ps []:=by
 obtain⟨oc,od,kV,doc,pm,an,cdv,ct,osl,rfl,lk,hcd⟩:=F.ex;exact .all (h kV doc pm an cdv ct)
theorem RG {x qual:Str}{st:Stmt}{f:Addr}{oc:Value}{od an:Option Addr}{osl:Array (Option Value)}{kV doc pm cdv ct:Value}(l:K.lookup f=some ⟨oc,od,.func (PySem.W.fnOf x qual (uO st) (qZ st) (zY st) .none kV doc pm an cdv ct),osl⟩)
  (c:PySem.W.codeIn K cdv qual=true) (k:PySem.W.keepIn K (.ref f)=true):wQ K x qual st f (PySem.W.fnOf x qual (uO st) (qZ st) (zY st) .none kV doc pm an cdv ct):=⟨⟨oc,od,kV,doc,pm,an,cdv,ct,osl,rfl,l,c⟩,k⟩
end
theorem Ul {A:Around}{k:Nat}(hr:wK k A):A.units+1<cLine:=kC (Nat.add_le_add_left (by decide:1<=64) _) hr.units
theorem EQ {n:Nat}(h:n<=1000):n<sizeLine:=kC h (by decide)
section
variable {X:Cx}
theorem pv (i:Nat){x:Str}{pos:Pos}(hN:X.N[i]? =some x:=by rfl)(hv:Xl X.env.scope x:=by first|exact Or.inl rfl|exact Or.inr (Or.inl rfl)|exact Or.inr (Or.inr rfl))(hd:(x==("__debug__":Str))=false:=by decide)
  (hcd:(x==("__classdict__":Str))=false:=by decide):PE X (.Name x pos) (CJ i):=UR hN hv hd hcd
end
theorem AM {A B:Prop}(h:B):if false=true then A else B:=by
 rw[zH zZ];exact h
theorem AD {A B:Prop}(h:A):if true=true then A else B:=by
 rw[zR rfl];exact h
theorem jV {c A B:Prop}[Decidable c](h1:c->A)(h2: ¬c->B):if c then A else B:=by
 by_cases h:c
 ·rw[zR h];exact h1 h
 ·rw[zH h];exact h2 h
def qH (H H':Hp):Prop:= ∀b o,H b=some o->H' b=some o
theorem qH.refl (H:Hp):qH H H:=λ_ _ h=>h
theorem qH.trans {H H1 H2:Hp}(a:qH H H1)(b:qH H1 H2):qH H H2:=λc o h=>b c o (a c o h)
theorem qH.free {H H':Hp}(e:qH H H'){l:Addr}(h:H' l=Option.none):H l=Option.none:=by
 cases q:H l with
 |none=>rfl
 |some o=>
  rw[e l o q]at h;cases h
theorem NP {prog:Program}{w:World}{A:Around}{R:Result->Shared->Prop}{s:Shared}{elt target iter:Expr}{ifs:List Expr}{scope:Scope}{pos:Pos}{it acc:Value}{env:Env}(J:Nat->Shared->Prop)
  (turn: ∀n s,J n s->wpAny (model prog w) A (pyNext it) (λr s1=>match r with
   |none=>R (.ok .next) s1
   |some v=>wpAny (model prog w) A (letOwnedTupleGo target it v) (λ_ s1=>wpAny (model prog w) A (assign target env v) (λ_ s2=>
     wpAny (model prog w) A (forIn ifs true λc r=>if r=true then do let ok<-isTrue c env (eval c env);pure (ForInStep.yield ok)else pure (ForInStep.yield r)) (λok s3=>
      if ok=true then wpAny (model prog w) A (eval elt env) (λx s4=>
       wpAny (model prog w) A (call (.builtin "list.append") [acc,x]) (λ_ s5=> ∃m,m<n/\J m s5) (λ_ _=>False) s4) (λ_ _=>False) s3
      else ∃m,m<n/\J m s3) (λ_ _=>False) s2) (λ_ _=>False) s1) (λ_ _=>False) s1) (λ_ _=>False) s)
  (n:Nat) (h:J n s):
  codeAny (model prog w) A (.compLoop (.ListComp elt [⟨target,iter,ifs,0⟩] scope pos) 0 it acc env) R s:=by
 refine codeAny_loop rfl J (λn s hI=>?_) n h;show wpAny _ A ((compTurn (.ListComp elt [⟨target,iter,ifs,0⟩] scope pos) 0 it acc env).onRaise (λx=>do noteFrame x env;theTreesLotGoes x)) _ _ s;refine wpAny_noted (kJ (E:=λ_ _=>False) ?_ (λ_ _ q=>q) λ_ _ q=>q.elim);rw[compTurn_list];refine zA (AI (zA (kB (turn n s hI) λr s1 h1=>?_)));cases r with
 |none=>exact zL h1
 |some v=>
  refine zA (kB h1 λ_ s1 h1=>?_);refine zA (kB h1 λ_ s2 h2=>zA (kB h2 λok s3 h3=>?_));cases ok with
  |false=>exact zL ⟨rfl,h3⟩
  |true=>exact zA (zA (kB h3 λx s4 h4=>zA (kB h4 λ_ s5 h5=>zL (zL ⟨rfl,h5⟩))))
theorem FQ {env:Env}: ∀(names:List (Str×NameKind)) (acc:List (Str×Addr)),(∀y∈names,y.2=.free-> ∃c,env.cells.lookup y.1=some c)->
  ∃cl:List (Str×Addr),(forIn names acc (fun(y:Str×NameKind) (r:List (Str×Addr))=>if(y.2==NameKind.free)=true then do let a<-cellOf env y.1;pure (ForInStep.yield ((y.1,a)::r))else pure (ForInStep.yield r)):Sem _)=pure cl/\
   ∀x,(∀c,cl.lookup x=some c->acc.lookup x=some c\/env.cells.lookup x=some c)/\((acc.lookup x).isSome =true\/(x,NameKind.free)∈names->(cl.lookup x).isSome =true)
 |[],acc,_=>⟨acc,rfl,λx=>⟨λc h=>.inl h,λh=>h.elim id λz=>nomatch z⟩⟩
 |(n,k)::r,acc,hf=>by
  by_cases hk:k=.free
  ·subst hk;obtain⟨c,hc⟩:=hf (n,.free) zM rfl;obtain⟨cl,e,q⟩:=FQ r ((n,c)::acc) λy hy=>hf y (zN _ hy);refine⟨cl,?_,λx=>⟨λd hd=>?_,λhx=>?_⟩⟩
   ·rw[wU];have e1:cellOf env n=pure c:=by unfold cellOf;simp only[hc]
    simp only[kR,if_true,e1];exact e
   ·rcases(q x).1 d hd with z|z
    ·by_cases hx:x=n
     ·subst hx;rw[qF]at z;cases z;exact .inr hc
     ·rw[vT,beq_eq_false_iff_ne.mpr hx]at z;exact .inl z
    ·exact .inr z
   ·refine(q x).2 ?_
    by_cases hxn:x=n
    ·subst hxn;exact .inl (by rw[qF];rfl)
    ·rcases hx with z|z
     ·exact .inl (by rw[vT,beq_eq_false_iff_ne.mpr hxn];exact z)
     ·rcases List.mem_cons.mp z with z|z
      ·cases z;exact absurd rfl hxn
      ·exact .inr z
  ·obtain⟨cl,e,q⟩:=FQ r acc λy hy=>hf y (zN _ hy);refine⟨cl,?_,λx=>⟨(q x).1,λhx=>(q x).2 ?_⟩⟩
   ·rw[wU];have hb:(k==NameKind.free)=false:=by simpa using hk
    simp only[hb,BO,if_false];exact e
   ·rcases hx with z|z
    ·exact .inl z
    ·rcases List.mem_cons.mp z with z|z
     ·cases z;exact absurd rfl hk
     ·exact .inr z
theorem FR {env:Env}{scope:Scope}(hf: ∀y∈scope.names,y.2=.free-> ∃c,env.cells.lookup y.1=some c):
  ∃cl,closureFor scope env=pure cl/\(∀x c,cl.lookup x=some c->env.cells.lookup x=some c)/\ ∀x,(x,NameKind.free)∈scope.names-> ∃c,cl.lookup x=some c:=by
 obtain⟨cl,e,q⟩:=FQ scope.names [] hf;refine⟨cl,?_,λx c h=>?_,λx hx=>Option.isSome_iff_exists.mp ((q x).2 (.inr hx))⟩
 ·unfold closureFor;exact(xM (·>>=λr=>pure r) e).trans rfl
 ·rcases(q x).1 c h with z|z
  ·simp at z
  ·exact z
abbrev Cx.comp (X:Cx)(N:List Str)(scope:Scope)(cl:List (Str×Addr))(C:Addr)(fp:List Addr)(s:Shared)(H:Hp):Cx:=
 {X with N:=N,s₀:=s,H₀:=H,env:=compEnvC scope cl C X.env,outer:=X.stack,stack:=X.stack,ex:=fp,fn:=λ_=>false,pn:=[],xe:=λ_ _=>False}
structure Uq (X:Cx)(ifs:List Expr)(t:TT):Prop where
 go: ∀(pins:List (Addr×Obj)) (s:Shared) (σ:St) (H:Hp) (Q:Bool->Hp->Prop),yV X pins σ H s->t σ H Q->
  wpAny (model X.prog X.w) X.A (forIn ifs true λc r=>if r=true then do let ok<-isTrue c X.env (eval c X.env);pure (ForInStep.yield ok)else pure (ForInStep.yield r)) (TP X pins σ Q) X.xe s
instance {X:Cx}{ifs:List Expr}{t:TT}:CoeFun (Uq X ifs t) (λ_=> ∀(pins:List (Addr×Obj)) (s:Shared) (σ:St) (H:Hp) (Q:Bool->Hp->Prop),yV X pins σ H s->t σ H Q->
  wpAny (model X.prog X.w) X.A (forIn ifs true λc r=>if r=true then do let ok<-isTrue c X.env (eval c X.env);pure (ForInStep.yield ok)else pure (ForInStep.yield r)) (TP X pins σ Q) X.xe s):=⟨Uq.go⟩
def Xr:TT:=λ_ H Q=>Q true H
theorem Oo {X:Cx}:Uq X [] Xr:=⟨λ_ _ _ H _ I h=>wpAny_tests_nil ⟨H,I,h⟩⟩
theorem SD {X:Cx}{c:Expr}{t:TT}(h:PT X c t):Uq X [c] t:=⟨λpins s σ H Q I q=>wpAny_tests_one (h pins s σ H Q I q)⟩
def GP (own:Nat)(js:List Nat)(σ:St):St:=List.replicate own none++js.map λj=>(σ[j]?).join
def NZ (J:It)(p:Addr)(σ0:St)(H0:Hp)(g:TG)(tt:TT)(te:TE)(R:Hp->Prop):Prop:=
 ∃W:Nat->Nat->St->Hp->Prop,(∃m,W 0 m σ0 H0)/\ ∀i m σ' H',W i m σ' H'->
  (J.stop i H'/\R H')\/(J.go i H'/\ ∀x H2,J.yld i H' x H2->g x σ' H2 λσ3 H3=>tt σ3 H3 λb H4=>
   if b=true then te σ3 H4 λv H5=> ∃ys,H5 p=some (.lst ys)/\ys.length<sizeLine/\ ∃m',m'<m/\W (i+1) m' σ3 (upd H5 p (.lst (ys++[v])))
   else ∃m',m'<m/\W (i+1) m' σ3 H4)
def QA (wi:TI)(own:Nat)(js:List Nat)(g:TG)(tt:TT)(te:TE):TE:=λσ H Q=>wi σ H λJ H1=> ∀p,H1 p=none->NZ J p (GP own js σ) (upd H1 p (.lst [])) g tt te (Q (.ref p))
inductive EJ (N:List Str):List Str->List Nat->Prop where
 |nil:EJ N [] []
 |cons {y:Str} {j:Nat} {ys:List Str} {js:List Nat} (h:N[j]? =some y) (r:EJ N ys js):EJ N (y::ys) (j::js)
theorem EJ.at {N:List Str}: ∀{ys:List Str} {js:List Nat},EJ N ys js-> ∀(i:Nat) (y:Str),ys[i]? =some y-> ∃j,js[i]? =some j/\N[j]? =some y
 |_,_,.nil,_,_,e=>by simp at e
 |_,_,.cons (j:=j) h _,0,_,e=>by simp at e;subst e;exact⟨j,rfl,h⟩
 |_,_,.cons _ r,i+1,y,e=>by
  obtain⟨j,h1,h2⟩:=r.at i y (by simpa using e);exact⟨j,by simpa using h1,h2⟩
theorem EJ.length {N:List Str}: ∀{ys:List Str} {js:List Nat},EJ N ys js->ys.length=js.length
 |_,_,.nil=>rfl
 |_,_,.cons _ r=>by simp[r.length]
theorem Dk {f:Str->NameKind->NameKind}: ∀{names:List (Str×NameKind)} {x:Str},(names.map λy=>(y.1,f y.1 y.2)).lookup x=(names.lookup x).map (f x)
 |[],_=>rfl
 |(n,k)::r,x=>by
  by_cases h:x=n
  ·subst h;rw[yM,qF,qF];rfl
  ·have hb:(x==n)=false:=beq_eq_false_iff_ne.mpr h;rw[yM,vT,vT,hb];exact Dk
def Lz (env:Env)(n:Str)(k:NameKind):NameKind:=if(k== .free&&env.scope.kind== .function&&env.kindOf n==some .cell)=true then .cell else k
theorem Gg (scope:Scope)(env:Env)(x:Str):(relabel scope env).names.lookup x=(scope.names.lookup x).map (Lz env x):=by
 have e:(relabel scope env).names =scope.names.map λy=>(y.1,Lz env y.1 y.2):=by
  unfold relabel;refine List.map_congr_left λy _=>?_;obtain⟨n,k⟩:=y;show(if(k== .free&&env.scope.kind== .function&&env.kindOf n==some .cell)=true then(n,NameKind.cell)else(n,k))=(n,Lz env n k);unfold Lz;split<;>rfl
 rw[e,Dk]
section
variable {X:Cx}{elt target iter:Expr}{ifs:List Expr}{scope:Scope}{own ys:List Str}{js:List Nat}{wi:TI}{g:TG}{tt:TT}{te:TE}{pos:Pos}
theorem FP {pins:List (Addr×Obj)}{σ:St}{H:Hp}{s2:Shared}{it:Addr}{fp:List Addr}{tn:Nat->Heap->Prop}{J:It}{Q:VK}{E:Value->Shared->Prop}{cl:List (Str×Addr)}{RR:Value->Addr->Result->Shared->Prop}
  (hc:X.calm=true) (I:yV X pins σ H s2) (T:KO X.prog X.w X.K target J fp it tn) (st:tn 0 s2.heap) (fpk: ∀b∈fp,IU X pins H b)
  (hkind:scope.kind=.function) (hcell: ∀y∈scope.names,y.2≠ .cell) (fr:EJ X.N ys js) (hys: ∀y∈ys,X.env.kindOf y=some .cell)
  (hcl1: ∀x c,cl.lookup x=some c->X.env.cells.lookup x=some c) (hcl2: ∀x,(x,NameKind.free)∈scope.names-> ∃c,cl.lookup x=some c)
  (hvis: ∀y∈ys,(relabel scope X.env).names.lookup y=some .cell)
  (hg: ∀cl C fp s H,PG (X.comp (own++ys) scope cl C fp s H) target g) (ht: ∀cl C fp s H,Uq (X.comp (own++ys) scope cl C fp s H) ifs tt) (he: ∀cl C fp s H,PE (X.comp (own++ys) scope cl C fp s H) elt te)
  (h: ∀p,H p=none-> ∃W:Nat->Nat->St->Hp->Prop,(∃m,W 0 m (GP own.length js σ) (upd H p (.lst [])))/\ ∀i m σ' H',W i m σ' H'->
   (J.stop i H'/\Q (.ref p) H')\/(J.go i H'/\ ∀x H2,J.yld i H' x H2->g x σ' H2 λσ3 H3=>tt σ3 H3 λb H4=>
    if b=true then te σ3 H4 λv H5=> ∃ys,H5 p=some (.lst ys)/\ys.length<sizeLine/\ ∃m',m'<m/\W (i+1) m' σ3 (upd H5 p (.lst (ys++[v])))
    else ∃m',m'<m/\W (i+1) m' σ3 H4))
  (hRR: ∀D C (H':Hp) (s':Shared),yV X pins σ H' s'->Q (.ref D) H'->(∃m,s'.heap.Ns C m)->H' C=none->C≠X.env.locals->X.s₀.heap.objs.size<=C->(∀x c,X.env.cells.lookup x=some c->c≠C)->(∀p∈X.pn++pins,p.1≠C)->RR (.ref D) C (.ok .next) s'):
  wpAny (model X.prog X.w) X.A (newList []) (λacc s3=>wpAny (model X.prog X.w) X.A (newFunctionEnv scope X.env.globals cl [] X.env.qual none .none (some X.env)) (λcenv s4=>
   codeAny (model X.prog X.w) X.A (.compStart (.ListComp elt [⟨target,iter,ifs,0⟩] scope pos) 0 (.ref it) acc {cenv with scope:=relabel scope X.env}) (RR acc cenv.locals) s4) E s3) E s2:=by
 refine xX (wpAny_newFunctionEnv hcell (by intro y hy;simp at hy) (λh1 hns1 hsb1=>?_) hkind);have hnp:H s2.heap.objs.size=none:=I.hok.fresh (zP _);have I3:yV X pins σ (upd H s2.heap.objs.size (.lst [])) {s2 with heap:=s2.heap.push {cls:=.type "list",data:=.seq ([]:List Value).toArray},toks:=s2.toks}:=
  I.lnew (its:=[]) (ys:=[]) .nil (xA _)
 obtain⟨W,⟨m0,w0⟩,turn⟩:=h _ hnp;clear h;generalize hH0:upd H s2.heap.objs.size (.lst [])=H0 at I3 w0;generalize hp:s2.heap.objs.size=p at *
 have eS:({s2 with heap:=s2.heap.push {cls:=.type "list",data:=.seq ([]:List Value).toArray},toks:=s2.toks}:Shared)={s2 with heap:=s2.heap.push {cls:=.type "list",data:=.seq ([]:List Value).toArray}}:=rfl;rw[eS]at I3;clear eS;generalize hs3:({s2 with heap:=s2.heap.push {cls:=.type "list",data:=.seq ([]:List Value).toArray}}:Shared)=s3 at *
 have heap3:s3.heap=s2.heap.push {cls:=.type "list",data:=.seq ([]:List Value).toArray}:=by rw[<-hs3]
 have old3: ∀b o,s2.heap.get? b=some o->s3.heap.get? b=some o:=λb o e=>by rw[heap3];exact zD _ e
 generalize hC:s3.heap.objs.size=C at *
 have st3:tn 0 s3.heap:=T.keep _ _ _ st λb _ o e=>old3 b o e;have fp3: ∀b∈fp,b<C:=λb hb=>by
  obtain⟨o,e,_⟩:=T.obj _ _ st3 b hb;have:=zX e;rw[hC]at this;exact this
 have nH0: ∀b∈fp,H0 b=none:=λb hb=>by
  obtain⟨o,e,_⟩:=T.obj _ _ st b hb;rw[<-hH0,zT (λz=>by have:=zX e;rw[hp,z]at this;exact jJ _ this)];exact(fpk b hb).1
 have old1: ∀b o,s3.heap.get? b=some o->h1.get? b=some o:=λb o e=>
  hsb1.extBut b o (λz=>by have:=zX e;rw[hC,z]at this;exact jJ _ this) (zD _ e)
 have nstk: ∀b∈fp,b∉frs X.stack:=λb hb z=>by
  rcases List.mem_cons.mp (I.stkSub b z)with e|e
  ·exact(fpk b hb).2.1 e
  ·exact(fpk b hb).2.2.1 e
 have ncC: ∀x c,X.env.cells.lookup x=some c->c≠C:=λx c e z=>by
  obtain⟨v,o,ho,_⟩:=I3.cell x c e;have:=zX ho;rw[hC,z]at this;exact jJ _ this
 have LC:C≠X.env.locals:=λz=>by have:=I3.lt;rw[hC,z]at this;exact jJ _ this
 have sC:X.s₀.heap.objs.size<=C:=by rw[<-hC];exact I3.sz
 have rl: ∀x k,(compEnvC scope cl C X.env).kindOf x=some k->(k=.cell\/k=.free)->(x,NameKind.free)∈scope.names:=λx k e hk=>by
  have e':(relabel scope X.env).names.lookup x=some k:=e;rw[Gg]at e';cases q:scope.names.lookup x with
  |none=>rw[q]at e';cases e'
  |some k0=>
   rw[q]at e';have m0:=kM q;have n0:=hcell _ m0;have:Lz X.env x k0=k:=xP e';unfold Lz at this;split at this
   ·rename_i z;have:k0=.free:=by
     simp only[yP,beq_iff_eq]at z;exact z.1.1
    rw[<-this];exact m0
   ·rcases hk with hk|hk
    ·exact absurd (this.trans hk) n0
    ·rw[<-hk,<-this];exact m0
 let Y:=X.comp (own++ys) scope cl C fp s3 H0
 have okY:Y.Ok:=by
  refine⟨I.ok.mod,?_,I.ok.glob,I.ok.blt,?_,λx y c e1 e2=>I.ok.inj x y c (hcl1 x c e1) (hcl1 y c e2),λx hx=>?_,λx c z=>(nomatch z),I.ok.hd,I.ok.frames,.inl rfl,λb hb=>⟨?_,λx c e=>(fpk b hb).2.2.2.2.1 x c (hcl1 x c e)⟩,λb o e=>I3.bs b o e,?_,λb o e hb=>?_,nstk,I3.stack,I3.stkFree⟩
  ·exact hkind
  ·exact Nat.le_of_eq hC
  ·rcases hx with hx|hx
   ·exact hcl2 x (rl x _ hx (.inl rfl))
   ·exact hcl2 x (rl x _ hx (.inr rfl))
  ·exact xR (fp3 b hb)
  ·exact yJ I.ok.bsz I3.sz
  ·rcases(fpk b hb).2.2.2.1 with z|z
   ·exact I.ok.noex b o e z
   ·exact absurd (yG (zX e) (yJ I.ok.bsz z)) (jJ _)
 have I4:yV Y [] (GP own.length js σ) H0 {s3 with heap:=h1,toks:=s3.toks+([]:List (Str×Value)).length}:=by
  refine⟨okY,rfl,I3.bare,Un.kept old1,⟨_,hns1,λi x v e1 e2 e3=>?_⟩,λx c e=>?_,?_,λx c e=>I3.freeC x c (hcl1 x c e),λp hp=>absurd (show p∈([]:List (Addr×Obj))from hp) (by simp),I3.hok.kept old1,?_⟩
  ·have e1:(own++ys)[i]? =some x:=e1;have hi:own.length<=i:=Nat.le_of_not_lt λlt=>by
    unfold GP at e2;rw[BR (by simpa using lt),Dz]at e2;split at e2<;>cases e2
   rw[vL hi]at e1;obtain⟨j,hj,hN⟩:=fr.at _ _ e1;unfold GP at e2;rw[vL (by simpa using hi),Av,zW,hj]at e2;have e2:(σ[j]?).join =some v:=xP e2;have e2':σ[j]? =some (some v):=by
    cases q:σ[j]? with
    |none=>rw[q]at e2;cases e2
    |some z=>rw[q]at e2;rw[show z=some v from e2]
   have my:=zU e1;have hk:=hys x my;obtain⟨m,hn,hl⟩:=I3.loc;obtain⟨u,r,q⟩:=hl j x v hN e2' (.inr (.inl hk));refine⟨u,r,?_⟩
   rcases q with⟨k,_⟩|⟨_,c,e,z⟩
   ·rw[hk]at k;cases k
   ·obtain⟨c',e'⟩:=hcl2 x (rl x _ (hvis x my) (.inl rfl));have:c'=c:=by have:=hcl1 x c' e';rw[e]at this;exact(xP this).symm
    subst this;refine .inr ⟨?_,c',e',?_⟩
    ·exact .inl (hvis x my)
    ·obtain⟨o,ho,hd⟩:=z;exact⟨o,old1 _ _ ho,hd⟩
  ·obtain⟨v,o,ho,hd⟩:=I3.cell x c (hcl1 x c e);exact⟨v,o,old1 _ _ ho,hd⟩
  ·exact I3.hok.fresh (Nat.le_of_eq hC)
  ·unfold GP;show _=(own++ys).length;rw[zC,Av,zF,zC,fr.length]
 have stat: ∀{H':Hp},(∀b∈fp,H' b=none)-> ∀b∈fp,IU Y [] H' b:=λhn b hb=>
  ⟨hn b hb,xR (fp3 b hb),nstk b hb,.inl hb,λx c e=>(fpk b hb).2.2.2.2.1 x c (hcl1 x c e),λp hp=>absurd (show p∈([]:List (Addr×Obj))from hp) (by simp)⟩
 have fin: ∀{σ':St} {H':Hp} {s':Shared},yV Y [] σ' H' s'->Q (.ref p) H'->RR (.ref p) C (.ok .next) s':=fun{σ' H' s'} I' q=>by
  have back:yV X pins σ H' s':=I3.call' (ch:=fp) I'.os I'.base I'.hok I'.bare λb hb=>⟨(fpk b hb).2.2.2.1,(fpk b hb).2.1,(fpk b hb).2.2.2.2.1,(fpk b hb).2.2.2.2.2⟩;obtain⟨m,hn,_⟩:=I'.loc;exact hRR p C H' s' back q ⟨m,hn⟩ I'.free LC sC ncC λq hq z=>by
   have:=zX (I3.pin q hq).1;rw[hC,z]at this;exact jJ _ this
 have loop: ∀s4:Shared,s4={s3 with heap:=h1,toks:=s3.toks+([]:List (Str×Value)).length}->
   codeAny (model X.prog X.w) X.A (.compLoop (.ListComp elt [⟨target,iter,ifs,0⟩] scope pos) 0 (.ref it) (.ref p) (compEnvC scope cl C X.env)) (RR (.ref p) C) s4:=by
  rintro s4 rfl;refine NP (λn s'=> ∃i σ' H',yV Y [] σ' H' s'/\tn i s'.heap/\(∀b∈fp,H' b=none)/\W i n σ' H') ?_ m0 ⟨0,_,_,I4,T.keep _ _ _ st3 λb _ o e=>old1 b o e,nH0,w0⟩;rintro n s5 ⟨i,σ5,H5,I5,st5,fr5,w5⟩
  rcases turn i n σ5 H5 w5 with⟨stop,qn⟩|⟨go,step⟩
  ·refine kB (T.done Y rfl rfl rfl hc i [] s5 σ5 H5 (λ_ _=>False) I5 (stat fr5) st5 stop) λr s6 hzz=>?_;obtain⟨hr,I6⟩:=hzz;subst hr;exact fin I6 qn
  ·refine kB (T.item Y rfl rfl rfl hc i [] s5 σ5 H5 (λ_ _=>False) I5 (stat fr5) st5 go) λr s6 hzz=>?_;obtain⟨u,hr,h6⟩:=hzz;subst hr;refine kB h6 λ_ s7 hzz=>?_;obtain⟨x,H7,I7,r7,y7,st7,fr7⟩:=hzz;have I7':=I7.pinned (stat fr7) (T.obj _ _ st7);have again: ∀{σ9:St} {H9:Hp} {s9:Shared} {m':Nat},yV Y ([]++Ig fp s7.heap) σ9 H9 s9->m'<n->W (i+1) m' σ9 H9-> ∃m,m<n/\ ∃i σ' H',yV Y [] σ' H' s9/\tn i s9.heap/\(∀b∈fp,H' b=none)/\W i m σ' H':=fun{σ9 H9 s9 m'} I9 hm w9=>by
    refine⟨m',hm,i+1,σ9,H9,I9.unpinned,T.keep _ _ _ st7 λb hb o e=>(I9.pin (b,o) (xB _ (xB _ (DT hb e)))).1,λb hb=>?_,w9⟩;obtain⟨o,e,d⟩:=T.obj _ _ st7 b hb;exact(I9.pin (b,o) (xB _ (xB _ (DT hb e)))).2.1
   refine kB (hg cl C fp s3 H0 _ s7 σ5 H7 x u _ I7' r7 (step x H7 y7)) λ_ s8 hzz=>?_;obtain⟨σ8,H8,I8,q8⟩:=hzz;refine kB (ht cl C fp s3 H0 _ s8 σ8 H8 _ I8 q8) λb s9 hzz=>?_;obtain⟨H9,I9,q9⟩:=hzz;cases b with
   |false=>
    obtain⟨m',hm,w9⟩:=q9;exact again I9 hm w9
   |true=>
    refine kB (he cl C fp s3 H0 _ s9 σ8 H9 _ I9 q9) λy XE hzz=>?_;obtain⟨v,H10,I10,r10,zs,e10,z10,m',hm,w10⟩:=hzz;refine kB (jX (X:=Y) _ XE σ8 H10 (.ref p) [v] (.ref p) [y] (λ_ H'=>H'=upd H10 p (.lst (zs++[v]))) I10 rfl (.cons r10 .nil) ⟨p,zs,v,rfl,rfl,e10,z10,rfl⟩) λ_ XX hzz=>?_;obtain⟨_,H11,I11,_,q11⟩:=hzz;subst q11;exact again I11 hm w10
 have st4:tn 0 h1:=T.keep _ _ _ st3 λb _ o e=>old1 b o e;exact codeAny_compStart_list (loop _ rfl) (T.self _ 0 _ _ _ st4 (loop _ rfl))
structure KU (X:Cx)(scope:Scope)(ys:List Str):Prop where
 kind:scope.kind=.function
 cell: ∀y∈scope.names,y.2≠ .cell
 loc: ∀y∈scope.names,y.2=.local->scope.names.lookup y.1=some .local
 free: ∀y∈scope.names,y.2=.free->X.env.kindOf y.1=some .cell
 cap: ∀y∈ys,X.env.kindOf y=some .cell
 vis: ∀y∈ys,(relabel scope X.env).names.lookup y=some .cell
def OJ (sc scope:Scope)(ys:List Str):Bool:=
 scope.kind== .function&&sc.kind== .function&&(scope.names.all λy=>y.2 != .cell&&(y.2 != .local || scope.names.lookup y.1==some .local)&&(y.2 != .free || sc.names.lookup y.1==some .cell))&&
  ys.all λy=>sc.names.lookup y==some .cell&&scope.names.lookup y==some .free
theorem GQ {sc:Scope}(hsc:X.env.scope=sc)(h:OJ sc scope ys=true):KU X scope ys:=by
 unfold OJ at h;simp only[yP,wD,beq_iff_eq,bne_iff_ne,wX,ne_eq]at h;obtain⟨⟨⟨h1,h0⟩,h2⟩,h3⟩:=h;subst hsc;refine⟨h1,λy hy=>(h2 y hy).1.1,λy hy e=>?_,λy hy e=>?_,λy hy=>(h3 y hy).1,λy hy=>?_⟩
 ·rcases(h2 y hy).1.2 with z|z
  ·exact absurd e z
  ·exact z
 ·rcases(h2 y hy).2 with z|z
  ·exact absurd e z
  ·exact z
 ·rw[Gg,(h3 y hy).2];show some (Lz X.env y .free)=_;have z:X.env.kindOf y=some .cell:=(h3 y hy).1;unfold Lz;rw[z,h0];rfl
theorem SM (hc:X.calm=true)(hi:PI X target iter wi)(S:KU X scope ys)(fr:EJ X.N ys js)
  (hg: ∀cl C fp s H,PG (X.comp (own++ys) scope cl C fp s H) target g) (ht: ∀cl C fp s H,Uq (X.comp (own++ys) scope cl C fp s H) ifs tt) (he: ∀cl C fp s H,PE (X.comp (own++ys) scope cl C fp s H) elt te)
  (hs: ∀x,foldedSetIterable iter X.env x=pure x:=by intro _;rfl):PE X (.ListComp elt [⟨target,iter,ifs,0⟩] scope pos) (QA wi own.length js g tt te):=by
 refine⟨?_⟩;intro pins s σ H Q I h;rw[eval_ListComp];obtain⟨cl,e,c1,c2⟩:=FR (env:=X.env) (scope:=scope) λy hy hf=>I.ok.has y.1 (.inl (S.free y hy hf));refine uK (use:=none) rfl hs e S.kind S.loc (kB (hi pins s σ H _ I h) λv s1 h1=>kB h1 λitv s2 h2=>?_);obtain⟨it,fp,tn,J,H2,e,I2,T,st2,f2,q2⟩:=h2;subst e;refine FP (Q:=Q) (RR:=λacc C=>compPost (model X.prog X.w) X.A X.xe none (EP X pins σ Q) acc C) hc I2 T st2 f2 S.kind S.cell fr S.cap c1 c2 S.vis hg ht he q2 ?_;intro D C H' s' I' q hm n1 n2 n3 n4 n5;obtain⟨m,hn⟩:=hm;exact⟨m,hn,λh' hs'=>⟨.ref D,H',I'.turned (λb o hb e=>(hs'.2 b hb).trans e) n1 n2 (.inr n3) n4 n5,rfl,q⟩⟩
theorem Ni {i:Nat}{x:Str}{pos' spos:Pos}(hN:X.N.Nodup)(hix:X.N[i]? =some x)(hx:X.env.scope.names.lookup x=some .local)(hc:X.calm=true)(hi:PI X target iter wi)(S:KU X scope ys)(fr:EJ X.N ys js)
  (hg: ∀cl C fp s H,PG (X.comp (own++ys) scope cl C fp s H) target g) (ht: ∀cl C fp s H,Uq (X.comp (own++ys) scope cl C fp s H) ifs tt) (he: ∀cl C fp s H,PE (X.comp (own++ys) scope cl C fp s H) elt te)
  (hsw:swapsWith (.ListComp elt [⟨target,iter,ifs,0⟩] scope pos) (some (.Name x pos')) spos.line X.env=pure true:=by rfl)
  (hs: ∀x,foldedSetIterable iter X.env x=pure x:=by intro _;rfl):PS X (.Assign [.Name x pos'] (.ListComp elt [⟨target,iter,ifs,0⟩] scope pos) spos) (λD σ H=>QA wi own.length js g tt te σ H λv H1=>D.nx (σ.set i (some v)) H1):=by
 refine⟨?_⟩;intro pins s σ H D I h;rw[exec_Assign_Name_used _ _ _ _ hsw];refine zA (AI (zA ?_));show wpAny _ X.A (do let _<-comprehension (.ListComp elt [⟨target,iter,ifs,0⟩] scope pos) scope X.env _ (newList []) false (eval iter X.env) (some (assign (.Name x pos') X.env))) _ _ s;obtain⟨cl,e,c1,c2⟩:=FR (env:=X.env) (scope:=scope) λy hy hf=>I.ok.has y.1 (.inl (S.free y hy hf));refine zA (kB (uK (use:=some (assign (.Name x pos') X.env)) (Q:=λ_ s'=>SP X pins D .next s') rfl hs e S.kind S.loc
  (kB (hi pins s σ H _ I h) λv s1 h1=>kB h1 λitv s2 h2=>?_)) λ_ s' hq=>zL (zL hq))
 obtain⟨it,fp,tn,J,H2,e,I2,T,st2,f2,q2⟩:=h2;subst e;refine FP (Q:=λv H1=>D.nx (σ.set i (some v)) H1) (RR:=λacc C=>compPost (model X.prog X.w) X.A X.xe (some (assign (.Name x pos') X.env)) (λ_ s'=>SP X pins D .next s') acc C) hc I2 T st2 f2 S.kind S.cell fr S.cap c1 c2 S.vis hg ht he q2 ?_;intro B C H' s' I' q hm n1 n2 n3 n4 n5;obtain⟨m,hn⟩:=hm;show wpAny _ X.A (assign (.Name x pos') X.env (.ref B)) _ _ _;refine wpAny_assign_Name (Ja I' hN hix (.inl hx) (v:=.ref B) rfl (λs2 I2 hsb=>?_) (.inr hx));obtain⟨a,hsb,ha⟩:=hsb;have ne:C≠a:=by
  rcases ha with z|z
  ·rw[z];exact n2
  ·exact Ne.symm (n4 x a z)
 exact⟨m,hn.sameBut hsb ne,λh' hs'=>⟨_,H',I2.turned (λb o hb e=>(hs'.2 b hb).trans e) n1 n2 (.inr n3) n4 n5,q⟩⟩
end
section
variable {X:Cx}{x:Str}{p pos:Pos}{e:Expr}{es:List Expr}{t:TA}
def wE (mg:Str->Option Value)(x:Str)(i:Int):Prop:= ∃t,mg x=some (.int i t)
theorem yS {i:Int}(hg:Gl X x)(hm:wE X.mg x i)(hd:(x==("__debug__":Str))=false:=by decide):PE X (.Name x pos) (tC (.int i)):=by
 obtain⟨t,hm⟩:=hm;exact Ko (v:=.int i) hg hm ⟨t,rfl⟩ hd
theorem DP {a:Addr}(hg:Gl X x)(hm:X.mg x=some (.ref a))(hd:(x==("__debug__":Str))=false:=by decide):PE X (.Name x pos) (tC (.ref a)):=Ko (v:=.ref a) hg hm rfl hd
structure TM (P:Program)(w:World)(K:PySem.W.Frag)(mg:Str->Option Value)(base:Heap)(CX:Gy)(k:Nat)(x:Str)(ps:List Str)(sp:Sp):Prop where
 ex: ∃f fd,Ap P w K mg base CX k f fd ps sp/\mg x=some (.ref f)/\PySem.W.keepIn K (.ref f)=true/\wT K fd ps []
theorem yF {CX:Gy}{k n:Nat}{ps:List Str}{sp:Sp}{E:XK}(C:TM X.prog X.w X.K X.mg X.base CX k x ps sp)(hr:wK n X.A)(hg:Gl X x)(ha:PA X (e::es) t)(hx:uW CX X E)(hk:k<=n:=by first|decide|lia)(hdb:(x==("__debug__":Str))=false:=by decide)
  (he:starEach (e::es) X.env=(false,eval e X.env)::starEach es X.env:=by rfl) (hpl:(backTo pos (starEach es X.env)).any (·.1)=false:=by rfl):PE X (.Call (.Name x p) (e::es) [] pos) (Lp sp [] E t):=by
 obtain⟨f,fd,F,hm,kp,hb⟩:=C.ex;exact SN F (hr.mono hk) hg hm kp hb .nil hx ha hdb he hpl
theorem EW {CX:Gy}{k n:Nat}{ps:List Str}{sp:Sp}{E:XK}(C:TM X.prog X.w X.K X.mg X.base CX k x ps sp)(hr:wK n X.A)(hg:Gl X x)(hx:uW CX X E)(hk:k<=n:=by first|decide|lia)(hdb:(x==("__debug__":Str))=false:=by decide):
  PE X (.Call (.Name x p) [] [] pos) (Lp sp [] E Ln):=by
 obtain⟨f,fd,F,hm,kp,hb⟩:=C.ex;exact QT F (hr.mono hk) hg hm kp hb .nil hx hdb
def Wj (K:PySem.W.Frag):List V->Hp->VK->Prop:=λxs H Q=>
 (∃x n t b,xs=[x,.ty n]/\Gw K H x t/\PySem.W.kitOne K t (.type n)=some b/\Q (.bl b) H)\/ ∃x C t b,xs=[x,.ref C]/\Gw K H x t/\PySem.W.kitOne K t (.ref C)=some b/\Q (.bl b) H
theorem Qe (K:PySem.W.Frag)(hK:X.K=K):EL X (.builtin "isinstance") (Wj K):=by
 subst hK;intro pins s σ H xs us Q I r h
 rcases h with⟨x,n,t,b,rfl,ty,e,q⟩|⟨x,C,t,b,rfl,ty,e,q⟩
 ·obtain⟨u,w',rfl,ru,rw'⟩:=Qp r;cases rw';exact Jw I ru ty e λtk=>⟨.bl b,H,I.tok tk,rfl,q⟩
 ·obtain⟨u,w',rfl,ru,rw'⟩:=Qp r;cases rw';exact Jw I ru ty e λtk=>⟨.bl b,H,I.tok tk,rfl,q⟩
theorem BJ:EL X (.builtin "isinstance") (Wj X.K):=Qe X.K rfl
theorem Tk (K:PySem.W.Frag)(hK:X.K=K):WO X (UH K):=hK▸vH
theorem Fm {v:Value}{o:Option Int}(p:IsPart v o): ∃l:Option (Int×Tok),v=partValue l/\l.map (·.1)=o:=by
 cases p with
 |none=>exact⟨none,rfl,rfl⟩
 |int i t=>exact⟨some (i,t),rfl,rfl⟩
inductive Wg (x:V) (lo:Option Int) (hi:Option Int) (H:Hp) (Q:VK):Prop
 |mk (z:_) (h0:x=.str z) (h1:z.length<=sizeLine) (h2:Q (.str (Txt.slice z lo hi)) H):Wg x lo hi H Q
theorem UD:Xn X Wg:=by
 intro pins s σ H x v vl vu lo hi sl Q I rx hs pl pu h;obtain⟨z,rfl,hz,q⟩:=h;obtain⟨t,rfl⟩:=(show ∃t,v=Value.str z t from rx);obtain⟨l,rfl,rfl⟩:=Fm pl;obtain⟨u,rfl,rfl⟩:=Fm pu;refine⟨"str",_,F.slot_str_getitem.lookup,uY s z t,wpAny_getItem_str_slice (l:=l) (u:=u) (st:=none) hs rfl ?_⟩;unfold sliceMade Txt.slice at *
 split
 ·rename_i c;have c':((1:Int)==1&&(Builtin.Str.strSliceIndices (l.map (·.1)) (u.map (·.1)) 1 z.length).length ==z.length)=true:=c;rw[zR c']at q;exact⟨.str z,H,I,⟨t,rfl⟩,q⟩
 ·rename_i c;have c': ¬((1:Int)==1&&(Builtin.Str.strSliceIndices (l.map (·.1)) (u.map (·.1)) 1 z.length).length ==z.length)=true:=c;have le:=Txt.slice_le z (l.map (·.1)) (u.map (·.1));unfold Txt.slice at le;rw[zH c']at q le;exact⟨yJ le hz,.str _,H,I.tok _,⟨_,rfl⟩,q⟩
theorem HQ: ∀{ys:List Str} {us:List Value},xT (ys.map V.str) us->StrsAre us ys
 |[],_,.nil=>.nil
 |y::ys,_,.cons r t=>by
  obtain⟨k,rfl⟩:=(show ∃t,_=Value.str y t from r);exact .cons y k (HQ t)
inductive Ub (K:PySem.W.Frag) (x:V) (vs:List V) (H:Hp) (Q:VK):Prop
 |mk (z l ys:_) (h0:x=.str z) (h1:vs=[.ref l]) (h2:Ef K H l (ys.map V.str)) (h3:(ys.map (·.length)).sum +ys.length*z.length<=16777216) (h4:Q (.str (Txt.join z ys)) H):Ub K x vs H Q
theorem Ow:TJ X "str.join" (Ub X.K):=by
 intro pins s σ H x vs v us Q I rx rv h;obtain⟨z,l,ys,rfl,rfl,hl,hz,q⟩:=h;obtain⟨t,rfl⟩:=(show ∃t,v=Value.str z t from rx);obtain⟨u,rfl,ru⟩:=rv.one;cases ru;obtain⟨its,r,pl,hsz⟩:=I.list hl;exact join_list pl.isList (by simpa using HQ r) hz λt' k=>⟨.str _,H,I.tok k,⟨t',rfl⟩,q⟩
def KS (xs:List V)(y:V)(j:Nat):Prop:=(∃z,xs[j]? =some z/\Mr z y=true)/\ ∀(m:Nat) (z:V),m<j->xs[m]? =some z->Mr z y=false
inductive Nh (S:Hp->Addr->List V->Prop) (x:V) (vs:List V) (H:Hp) (Q:VK):Prop
 |mk (l xs y j:_) (h0:x=.ref l) (h1:vs=[y]) (h2:S H l xs) (h3:AN y=true) (h4:xs.all AN=true) (h5:KS xs y j) (h6:Q (.int (j:Nat)) H):Nh S x vs H Q
theorem Ho {xs:List V}{its:List Value}{y:V}{j:Nat}(r:xT xs its)(fx:xs.all AN=true)(f:KS xs y j):
  ∃hj:j<its.length,KG y its[j]=true/\ ∀m (hm:m<its.length),m<j->KG y its[m]=false:=by
 obtain⟨⟨z,hz,ez⟩,hno⟩:=f;have fz: ∀{m:Nat} {z:V},xs[m]? =some z->AN z=true:=fun{m z} h=>List.all_eq_true.mp fx z (zU h);obtain⟨u,hu,ru⟩:=r.get hz;obtain⟨hj,eu⟩:=List.getElem?_eq_some_iff.mp hu;refine⟨hj,?_,λm hm hlt=>?_⟩
 ·rw[eu,KF ru (fz hz)];exact ez
 ·have hm':m<xs.length:=by rw[r.length];exact hm
  have hx:xs[m]? =some xs[m]:=zG hm';obtain⟨u',hu',ru'⟩:=r.get hx;obtain⟨_,eu'⟩:=List.getElem?_eq_some_iff.mp hu';rw[eu',KF ru' (fz hx)];exact hno m _ hlt hx
theorem Pz:TJ X "list.index" (Nh (Ef X.K)):=by
 intro pins s σ H x vs v us Q I rx rv h;obtain⟨l,xs,y,j,rfl,rfl,hl,fy,fx,fa,q⟩:=h;cases rx;obtain⟨u,rfl,ru⟩:=rv.one;obtain⟨its,r,pl,hsz⟩:=I.list hl;obtain⟨hj,h1,h2⟩:=Ho r fx fa;obtain⟨⟨cls,dd,data,sl⟩,n,ho,hc,hd,hdat⟩:=pl;simp only at hc hd hdat;subst hc hd hdat;refine qX F.slot_list_index ⟨_,ho,rfl⟩ F.entry_list_index (F.args_list_index_2 _ _)
  (SeqAt.list_indexAt l its.toArray n _ sl u (KG y) j (by simpa using hj) ?_ (by simpa using h1) (by simpa using h2)) ⟨ho,λw hw=>BE ru fy r fx w (by simpa using hw),?_⟩
 ·have:=CU;have z:=r.length;lia
 ·exact⟨.int j,H,I.tok _,⟨_,rfl⟩,q⟩
theorem IL (l:Addr)(items:Array Value)(n:Nat)(dd:Option Addr)(sl:Array (Option Value))(x:Value)(e:Value->Bool)(j:Nat)(hj:j<items.size)
  (hit:e items[j]=true) (hno: ∀m (hm:m<items.size),m<j->e items[m]=false):
  Meets (Builtin.«tuple.index» ⟨[.ref l,x],[]⟩)
   (λA R s=>s.heap.get? l=some {cls:=.type "tuple",dict:=dd,data:=.seq items n,slots:=sl}/\(∀y,y∈items->SeqAt.EqAt A.in1 s y x (e y))/\R (.ok (.ret (.int j s.toks))) {s with toks:=s.toks+1}):=by
 intro prog w A R s h;obtain⟨hp,g,d,tk,os⟩:=s;obtain⟨hl,he,h⟩:=h;unfold Builtin.«tuple.index»;simp only[Std.Legacy.Range.forIn_eq_forIn_range']
 wp_walk using uM hl,wpAny_forIn_list _ (λrest b s'=>b.1=none/\s'=⟨hp,g,d,tk,os⟩/\ ∃i,i<=j/\rest=List.range' i (items.size-i)) _
 case turn=>
  rintro i rest b s' ⟨hb,rfl,i',hi',hr⟩;have hlt:i'<items.size:=by lia
  obtain⟨q,hq⟩: ∃q,items.size-i'=q+1:=⟨items.size-i'-1,by lia⟩;rw[hq,List.range'_succ]at hr;injection hr with hi hrest
  subst hi;rw[vV hlt];refine zA (he _ (Array.getElem_mem hlt) prog w _ _ ?_)
  by_cases hij:i=j
  ·subst hij;rw[hit]
   wp_walk
   exact h
  ·rw[hno i hlt (by lia)]
   wp_walk
   exact⟨rfl,rfl,i+1,by lia,by rw[hrest,show items.size-(i+1)=q by lia]⟩
 case fin=>
  rintro b s' ⟨_,_,i',hi',hr⟩;exfalso;have:=xM List.length hr;rw[List.length_range']at this
  simp at this
  lia
 exact⟨rfl,rfl,0,xA _,by simp[Std.Legacy.Range.size]⟩
theorem Py:TJ X "tuple.index" (Nh (DX X.K)):=by
 intro pins s σ H x vs v us Q I rx rv h;obtain⟨l,xs,y,j,rfl,rfl,hl,fy,fx,fa,q⟩:=h;cases rx;obtain⟨u,rfl,ru⟩:=rv.one;obtain⟨its,r,pl,hsz⟩:=I.tuple hl;obtain⟨hj,h1,h2⟩:=Ho r fx fa;obtain⟨⟨cls,dd,data,sl⟩,ho,hc,n,hd⟩:=pl;simp only at hc hd;subst hc hd;refine qX F.slot_tuple_index ⟨_,ho,rfl⟩ F.entry_tuple_index (F.args_tuple_index_2 _ _)
  (IL l its.toArray n dd sl u (KG y) j (by simpa using hj) (by simpa using h1) (by simpa using h2)) ⟨ho,λw hw=>BE ru fy r fx w (by simpa using hw),?_⟩
 exact⟨.int j,H,I.tok _,⟨_,rfl⟩,q⟩
end
theorem kN:bootBuiltins "len"=some (.builtin "len"):=PySem.boot_len
theorem Sa:bootBuiltins "abs"=some (.builtin "abs"):=by decide+kernel
theorem qS:bootBuiltins "isinstance"=some (.builtin "isinstance"):=by decide+kernel
theorem NT:bootBuiltins "int"=some (.type "int"):=by decide+kernel
theorem OL:bootBuiltins "bool"=some (.type "bool"):=by decide+kernel
theorem NS:bootBuiltins "str"=some (.type "str"):=by decide+kernel
theorem Gs:bootBuiltins "list"=some (.type "list"):=by decide+kernel
theorem IF:bootBuiltins "tuple"=some (.type "tuple"):=by decide+kernel
theorem MB:bootBuiltins "reversed"=some (.type "reversed"):=by decide+kernel
theorem small {n:Nat}(h:n<=1000):n<=sizeLine:=Bu (EQ h)
theorem sm0:0<=sizeLine:=small (by decide)
theorem sm1:1<=sizeLine:=small (by decide)
theorem sm2:2<=sizeLine:=small (by decide)
theorem sm3:3<=sizeLine:=small (by decide)
theorem sm4:4<=sizeLine:=small (by decide)
theorem sm13:13<=sizeLine:=small (by decide)
theorem sm18:18<=sizeLine:=small (by decide)
theorem yQ {H:Hp}{p:Addr}(h:H p=none)(o:HO):qH H (upd H p o):=λb u q=>by rw[zT (zS q h)];exact q
def Sd (K:PySem.W.Frag)(H:Hp)(a:Addr)(ns:List Int):Prop:=
 (∃o,H a=some (.frz o (.lst (ns.map V.int))))\/
  ∃(o:Obj) (its:Array Value) (n:Nat),K.lookup a=some o/\o.cls=.type "list"/\o.dict=none/\o.data=.seq its n/\its.size<=sizeLine/\xT (ns.map V.int) its.toList
theorem Sd.sq {K:PySem.W.Frag}{H:Hp}{a:Addr}{ns:List Int}(h:Sd K H a ns):Ef K H a (ns.map V.int):=by
 rcases h with h|h
 ·exact .inl (.inr h)
 ·exact .inr h
theorem Sd.of {K:PySem.W.Frag}{H:Hp}{a:Addr}{ns:List Int}(hO:TH H)(h:Ef K H a (ns.map V.int)):Sd K H a ns:=by
 rcases h with(h|h)|h
 ·rcases hO a with z|⟨o,xs,z⟩
  ·rw[h]at z;cases z
  ·rw[h]at z;cases z
 ·exact .inl h
 ·exact .inr h
def jA (st:Addr)(H H':Hp):Prop:= ∀b o,b≠st->H b=some o->H' b=some o
theorem jA.refl (st:Addr)(H:Hp):jA st H H:=λ_ _ _ e=>e
theorem jA.trans {st:Addr}{H H1 H2:Hp}(a:jA st H H1)(b:jA st H1 H2):jA st H H2:=λc o n e=>b c o n (a c o n e)
theorem jA.same {st:Addr}{H H1:Hp}(a:qH H H1):jA st H H1:=λc o _ e=>a c o e
theorem jA.upd {st:Addr}{H:Hp}{o:HO}:jA st H (upd H st o):=λc u n e=>by rw[zT n];exact e
theorem jA.new {st p:Addr}{H:Hp}(o:HO)(h:H p=none):jA st H (L2.upd H p o):=jA.same (yQ h o)
theorem Sd.keep {K:PySem.W.Frag}{H H':Hp}{a st:Addr}{ns:List Int}{xs:List V}(h:Sd K H a ns)(hst:H st=some (.lst xs))(k:jA st H H'):Sd K H' a ns:=by
 rcases h with⟨o,h⟩|h
 ·exact .inl ⟨o,k a _ (λz=>by rw[z,hst]at h;cases h) h⟩
 ·exact .inr h
def Fk (K:PySem.W.Frag)(H:Hp)(st:Addr):Prop:= ∃a ns k c,H st=some (.lst [.ref a,.int k,.int c])/\Sd K H a ns/\ns.length<=63/\0<=k/\0<=c
structure Drawn (K:PySem.W.Frag)(st:Addr)(H H':Hp):Prop where
 draw:Fk K H' st
 keep:jA st H H'
theorem Drawn.trans {K:PySem.W.Frag}{st:Addr}{H H1 H2:Hp}(a:Drawn K st H H1)(b:Drawn K st H1 H2):Drawn K st H H2:=⟨b.draw,a.keep.trans b.keep⟩
theorem Fk.ne {K:PySem.W.Frag}{st b:Addr}{H:Hp}(d:Fk K H st)(h:H b=none):st≠b:=by
 obtain⟨a,ns,k,c,e,_⟩:=d;exact zS e h
theorem Fk.same {K:PySem.W.Frag}{st:Addr}{H H':Hp}(d:Fk K H st)(h:qH H H'):Fk K H' st:=by
 obtain⟨a,ns,k,c,e,s,r⟩:=d;exact⟨a,ns,k,c,h _ _ e,s.keep e (jA.same h),r⟩
theorem Fk.new {K:PySem.W.Frag}{st p:Addr}{H:Hp}(d:Fk K H st)(h:H p=none)(o:HO):Drawn K st H (upd H p o):=⟨d.same (yQ h o),jA.new o h⟩
theorem Fk.put {K:PySem.W.Frag}{st p:Addr}{H:Hp}{xs ys:List V}(d:Fk K H st)(hp:H p=some (.lst xs))(n:p≠st):Fk K (upd H p (.lst ys)) st:=by
 obtain⟨a,ns,k,c,e,s,r⟩:=d;refine⟨a,ns,k,c,(by rw[zT (Ne.symm n)];exact e),?_,r⟩
 rcases s with⟨o,s⟩|s
 ·exact .inl ⟨o,by rw[zT (λz=>by rw[z,hp]at s;cases s)];exact s⟩
 ·exact .inr s
inductive HC (vs:List V) (H:Hp) (Q:VK) (E:XK):Prop
 |mk (c k:Int) (h0:vs=[.int c,.int k]) (h1: ∀r:Int,0<=r->Q (.int r) H):HC vs H Q E
inductive Lr (K:PySem.W.Frag) (vs:List V) (H:Hp) (Q:VK) (E:XK):Prop
 |mk (a:Addr) (ns:List Int) (h0:vs=[.ref a]) (h1:Sd K H a ns) (h2:ns.length<=63) (h3: ∀H',Q (.bl true) H'):Lr K vs H Q E
theorem ON {ns:List Int}{k:Int}(h0:0<=k)(h:k<(ns.length:Int)): ∃v:Int,KW (ns.map V.int) k=some (.int v):=by
 have hk:k.toNat<ns.length:=by lia
 have q:KW (ns.map V.int) ((k.toNat:Nat):Int)=some (.int ns[k.toNat]):=Bt (by rw[zW,zG hk]<;>rfl);rw[show((k.toNat:Nat):Int)=k by lia]at q;exact⟨_,q⟩
def JM (n:Nat)(fs:St)(Pv:Nat->List V->Hp->Prop)(i m:Nat)(σ:St)(H:Hp):Prop:=i<=n/\m=n-i/\(∃v,σ=v::fs)/\ ∃ys,Pv i ys H
theorem JM.next {n:Nat}{fs:St}{Pv:Nat->List V->Hp->Prop}{i:Nat}{v:Option V}{H:Hp}{ys:List V}(hi:i<n)(h:Pv (i+1) ys H): ∃m',m'<n-i/\JM n fs Pv (i+1) m' (v::fs) H:=
 ⟨n-(i+1),by lia,by lia,rfl,⟨v,rfl⟩,ys,h⟩
theorem RY {lo:Int}{n:Nat}{fs:St}{tt:TT}{te:TE}{R:Hp->Prop}{p:Addr}{H0:Hp}(Pv:Nat->List V->Hp->Prop)(h0:Pv 0 [] H0)
  (hs: ∀i ys H,i<n->Pv i ys H->tt (some (.int (lo+(i:Nat)))::fs) H λb H4=>
   if b=true then te (some (.int (lo+(i:Nat)))::fs) H4 λv H5=> ∃ys,H5 p=some (.lst ys)/\ys.length<sizeLine/\ ∃m',m'<n-i/\JM n fs Pv (i+1) m' (some (.int (lo+(i:Nat)))::fs) (upd H5 p (.lst (ys++[v])))
   else ∃m',m'<n-i/\JM n fs Pv (i+1) m' (some (.int (lo+(i:Nat)))::fs) H4)
  (hd: ∀ys H,Pv n ys H->R H):NZ (VG lo n) p (none::fs) H0 (Mf 0) tt te R:=by
 refine⟨JM n fs Pv,⟨n,xA _,rfl,⟨_,rfl⟩,[],h0⟩,λi m σ' H' w=>?_⟩;obtain⟨hi,rfl,⟨v,rfl⟩,ys,hp⟩:=w
 by_cases hlt:i<n
 ·refine .inr ⟨hlt,λx H2 y=>?_⟩;obtain⟨rfl,rfl⟩:=y;exact hs i ys _ hlt hp
 ·have:i=n:=by lia
  subst this;exact .inl ⟨zP _,hd ys H' hp⟩
theorem Vi {K:PySem.W.Frag}{t:Value}{n:String}{b:Bool}(h:PySem.W.subIn K t (.type n)=some b)(h1:(t==Value.type n)=false:=by decide)(h2:PySem.W.kitMeta n=true:=by decide+kernel):PySem.W.kitOne K t (.type n)=some b:=by
 unfold PySem.W.kitOne PySem.W.kitCls;rw[h1];simp only[BO,if_false,h2,if_true];exact h
theorem Go {K:PySem.W.Frag}{t:Value}(h:(t==t)=true:=by decide):PySem.W.kitOne K t t=some true:=by
 unfold PySem.W.kitOne;rw[zR h]
theorem MU {K:PySem.W.Frag}{a:Addr}{its:Array Value}{n:Nat}{sl:Array (Option Value)}{dd:Option Addr}{xs:List V}(h:K.lookup a=some ⟨.type "tuple",dd,.seq its n,sl⟩)(hz:its.size<=sizeLine)(r:xT xs its.toList)(H:Hp):DX K H a xs:=
 .inr ⟨_,its,n,h,rfl,rfl,hz,r⟩
end L2
namespace L2
open PySem PySem.Spec PySem.W PyProof.Rows
section
variable {prog:Program}{w:World}{A:Around}{K:Frag}{E:Value->Shared->Prop}{h:Heap}{g:Array GenState}{d:PySem.Drawn}{t:Nat}{os:OsState}{R:Result->Shared->Prop}
variable {nm q:Str}{C N f:Addr}{bs bm bmB:List Value}{hdct:Bool}{sn:List Str}{sub:List Value}{ab:Bool}{col:Option Bool}{dd:Option Addr}{k0 k1 k2 k3 k5:Option Value}{B newId initId:String}
abbrev NK (C tp:Addr):Obj:={cls:=.ref C,data:=.fields #[.ref tp,.none,.none,.none,.bool false,.none]}
abbrev AG (h:Heap)(C:Addr)(rest:List Value):Heap:=(h.push {cls:=.type "tuple",data:=.seq rest.toArray}).push (NK C h.objs.size)
theorem RP (X:K.In h)(hC:h.get? C=some (excClassObj nm q C N bs bm hdct sn sub ab col dd k0 k1 k2 k3 k5 newId))(F:ExcBaseFacts B newId initId bmB)(T:OwnTail h bmB bm)
  (hi:findIn K (.ref C) "__init__"=some (some (.ref f))) (hf:typeIn K (.ref f)=some (.type "function")) {rest:List Value} (hrest:rest.length<=sizeLine)
  (hq:codeAny (model prog w) (A.under (.builtin "type.__call__" ⟨.ref C::rest,[]⟩)) (.call (.ref f) ⟨.ref (h.objs.size+1)::rest,[]⟩) (InitBack (h.objs.size+1) R) ⟨AG h C rest,g,d,t,os⟩):
  codeAny (model prog w) A (.call (.ref C) ⟨rest,[]⟩) R ⟨h,g,d,t,os⟩:=by
 have f1:=tc_lookup;have f2:=tc_bind (.ref C);have hT:(⟨h,g,d,t,os⟩:Shared).TypeIs (.ref C) "type":=⟨_,hC,rfl⟩;refine codeAny_of_tree ?_;show wpAny _ _ (callAny (.ref C) _) _ _ _
 repeat (any_goals (first|assumption|with_reducible refine Ah hC ?_ |wp_step))
 refine⟨rfl,?_⟩;refine codeAny_call_builtin_at (Code.quiet_builtin _ (by decide+kernel)) entry_typeCall (wpAny_check_type_call_sub hC ?_)
 repeat (first|with_reducible refine Ah hC ?_ |with_reducible refine wpAny_madeBy_exc hC ?_ |wp_step)
 refine codeAny_call_builtin_code (Code.quiet_builtin _ F.quiet) (wpAny_check_new_subT F T hC ?_);refine codeAny_exc_new_subT F T hC ?_ hrest;show wpAny _ _ _ _ _ _;have k: ∀b o,h.get? b=some o->(AG h C rest).get? b=some o:=λb o e=>zD _ (zD _ e);have hx:(AG h C rest).get? (h.objs.size+1)=some (NK C h.objs.size):=by heap_get
 have t1:Looks (model prog w) (AG h C rest) (typeOf (.ref (h.objs.size+1))) (.ref C):=(Looks.ld hx).andThen .now;have hcC:(Value.ref C::bm).contains (.ref C)=true:=by simp
 have i1:=(looks_findIn (M:=model prog w) X hi).keeps k;have b1:=(bind_fn (M:=model prog w) X (.ref (h.objs.size+1)) hf).keeps k;have s1:Looks (model prog w) (AG h C rest) (isSubtype (.ref C) (.ref C)) true:=by
  intro A' Q' E' s' kk hq';obtain⟨h',g',d',t',os'⟩:=s';refine wpAny_isSubtype_exc (kk _ _ (k _ _ hC)) ?_;rw[hcC];exact hq'
 have n1:Looks (model prog w) (AG h C rest) (isInstance (.ref (h.objs.size+1)) (.ref C)) true:=t1.andThen s1;refine zA (n1.at ?_);have c1:Looks (model prog w) (AG h C rest) (specialOf (.ref (h.objs.size+1)) "__init__") (some (.ref f)):=t1.andThen i1;unfold callSpecial?
 repeat (first|with_reducible refine wpAny_call ?_ |lk)
 refine Ak hq λr s' z=>?_
 rcases r with e|(v|_|_|_)<;>first|exact z|exact z.elim|skip
 obtain⟨rfl,z⟩:=z;exact zL (zL z)
structure Fs (K:Frag)(C:Addr):Prop where
 cd: ∃cd,clsIn K C=some cd/\cd.hasDict=true/\ ∀self,refuseLoop self "__setattr__" cd.mro=pure ()
 obj:mroIn K C (.type "object")=some true
 base:mroIn K C (.type "BaseException")=some true
 sa:findIn K (.ref C) "__setattr__"=some (some (.builtin "object.__setattr__"))
 ga:findIn K (.ref C) "__getattribute__"=some (some (.builtin "BaseException.__getattribute__"))
 noHook:findIn K (.ref C) "__getattr__"=some none
section
variable {s:Shared}{x:Addr}{ox:Obj}{od:Option Obj}{name:Str}{v:Value}{expr:Bool}{Q:Value->Shared->Prop}
theorem Mo (X:K.In s.heap)(I:InstAt s.heap x ox C od)(Ec:Fs K C)(hf:findObj K C od name=some (.value v))(hh:handedIn v=true)(hq:Q v {s with toks:=s.toks+1}):
  wpAny (model prog w) A (getAttr (.ref x) name expr) Q E s:=by
 obtain⟨h,g,d,t,os⟩:=s;have L0:=I.type (M:=model prog w);have L1:=looks_findIn (M:=model prog w) X Ec.ga;have L2':=looks_findIn (M:=model prog w) X Ec.noHook;have L3:=looks_find (M:=model prog w) X I hf;have Lb:Looks (model prog w) h (isInstance (.ref x) (.type "BaseException")) true:=L0.andThen (looks_mroIn X Ec.base);have f3:=F.excAttr_ValueError.ga.bind (.ref x);have hx0:(expr&&onTheHeap (Value.builtin "BaseException.__getattribute__"))=false:=by cases expr<;>rfl
 have hk:builtinKind "BaseException.__getattribute__"=some .slot:=by decide+kernel
 have hsplit:splitId "BaseException.__getattribute__"=some ("BaseException","__getattribute__"):=by decide+kernel
 unfold getAttr getAttrBy;refine zA (wpAny_mkText (qW (zA (L0.at (zA (L1.at ?_))))));show wpAny _ _ (getAttrByItsOwn _ _ _ _ _ _) _ _ _;unfold getAttrByItsOwn;refine zA (L2'.at (zA (uL (qW ?_))));unfold callGetattribute;rw[hx0];unfold boundAndCalled;show wpAny _ _ (bindSpecial _ _>>=_) _ _ _;rw[f3];refine zA (zL (wpAny_call (codeAny_call_builtin F.excAttr_ValueError.ga.plain F.entry_bexc_ga (@check_slot (model prog w) _ _ _ "BaseException.__getattribute__" "BaseException" "__getattribute__" (.ref x) [.str name t] [] _ hk hsplit Lb (F.args_bexc_ga _ _) ?_))));refine zA (zL (zA (zL (zA (L0.at (zA (L3.at ?_)))))));refine zL ?_;show wpAny _ _ (handedOut v) _ _ _;rw[handedOut_of hh];exact zL hq
theorem OD {tk:Tok}{R:Result->Shared->Prop}(X:K.In s.heap)(I:InstAt s.heap x ox C od)(Ec:Fs K C)(ha:findIn K (.ref C) name=some none)
  (hq:wpAny (model prog w) A.in1 (PySem.Builtin.ObjectAttr.storeInOwnDict (.ref x) (.ref C) (.str name tk) name v false)
   (λfin s'=>match fin with| .done f=>R (.ok f) s'| .again c'=>c'.quiet=true/\codeAny (model prog w) A c' R s') (λe s'=>R (.error e) s') s):
  codeAny (model prog w) A (.call (.builtin "object.__setattr__") ⟨[.ref x,.str name tk,v],[]⟩) R s:=by
 have SF:=PySem.F.store_object;obtain⟨cd,hc,hd,hp⟩:=Ec.cd;have sub:Looks (model prog w) s.heap (isInstance (.ref x) (.type "object")) true:=I.type.andThen (looks_mroIn X Ec.obj);refine codeAny_call_builtin SF.slot.plain SF.entry (@check_slot (model prog w) _ _ s "object.__setattr__" "object" "__setattr__" (.ref x) [.str name tk,v] [] _ SF.kind SF.split sub (SF.args (.ref x) (.str name tk) v) ?_);have hm:Looks (model prog w) s.heap (mroOf (.ref C)) cd.mro:=(looks_clsIn X hc).andThen .now;rw[osa_eq,refuse_eq];refine zA (zA (I.type.here (zA (hm.here ?_))));rw[hp];exact zL (zA (I.type.here (zA ((looks_findIn X ha).here (zA (zL hq))))))
theorem Mm {vs:Array Value}{Qu:Unit->Shared->Prop}(X:K.In s.heap)(hx:s.heap.get? x=some ox)(hcl:ox.cls=.ref C)(hdi:ox.dict=none)(hda:ox.data=.fields vs)(Ec:Fs K C)(ha:findIn K (.ref C) name=some none)
  (hq: ∀h',h'.Ns1 s.heap.objs.size (λy=>if y=name then some v else none)->h'.get? x=some {ox with dict:=some s.heap.objs.size}->(∀b o,b≠x->s.heap.get? b=some o->h'.get? b=some o)->Qu () {s with heap:=h',toks:=s.toks+2}):
  wpAny (model prog w) A (setAttr (.ref x) name v) Qu E s:=by
 have I:InstAt s.heap x ox C none:=⟨hx,hcl,by unfold notCls;rw[hda],by rw[hdi];trivial⟩;obtain⟨cd,hc,hd,hp⟩:=id Ec.cd;refine set_plain X I Ec.sa (OD (s:={s with toks:=s.toks+1}) X I Ec ha ?_);have hxlt:=zX hx;clear I;obtain⟨oc,odi,oda,osl⟩:=ox;dsimp only at hcl hdi hda;subst hcl hdi hda;refine zA (zL (zA (zA (wpAny_loadPart hx (zA (Looks.here (s:={s with toks:=s.toks+1}) (looks_clsIn X hc) ?_))))));rw[hd];show wpAny _ _ (alloc {cls:=Value.type "dict",data:=Data.dict #[]}>>=_) _ _ _;refine zA (wpAny_alloc (zA ?_));have hx1:=zD (h:=s.heap) ({cls:=Value.type "dict",data:=Data.dict #[]}:Obj) hx;refine wpAny_update hx1 (zL ?_);have ne:s.heap.objs.size≠x:=wM hxlt;have hx2:=jD (λo:Obj=>{o with dict:=some s.heap.objs.size}) hx1 rfl;have hd2:((s.heap.push ({cls:=Value.type "dict",data:=Data.dict #[]}:Obj)).update x λo=>{o with dict:=some s.heap.objs.size}).Ns1 s.heap.objs.size (λ_=>none):=by
  refine⟨_,#[],_,(yZ _ _ (Ne.symm ne)).trans (yC _ rfl),rfl,λe he=>by simp at he,List.Pairwise.nil,λn=>rfl⟩
 refine zA (zL (zA ?_));refine wpAny_nsSet1 (s:={s with heap:=(s.heap.push ({cls:=Value.type "dict",data:=Data.dict #[]}:Obj)).update x λo=>{o with dict:=some s.heap.objs.size},toks:=s.toks+1}) hd2 λh' hn2 hs2=>?_;have w0:PySem.Within (λ_:Str=>(none:Option Value)) []:=λn hn=>by first|cases hn|exact absurd rfl hn|simp at hn
 obtain⟨oD,esD,epD,hoD,hdD,hcD⟩:=hn2.count (CB name v w0);refine zA (Du hoD (by rw[hdD];exact Dx (yJ hcD (show 1<=sizeLine+1 by decide))) ?_);refine zL (hq _ hn2 ((hs2.2 _ (Ne.symm ne)).trans hx2) λb o hb e=>?_);have hbs:b≠s.heap.objs.size:=xR (zX e);exact(hs2.2 _ hbs).trans ((yZ _ _ (Ne.symm hb)).trans (zD _ e))
theorem KD {vs:Array Value}{dx:Addr}{mA:Str->Option Value}{ns:List Str}{Qu:Unit->Shared->Prop}(X:K.In s.heap)(hx:s.heap.get? x=some ox)(hcl:ox.cls=.ref C)(hdi:ox.dict=some dx)(hda:ox.data=.fields vs)(hn:s.heap.Ns1 dx mA)
  (hw:PySem.Within mA ns) (hsz:ns.length<sizeLine) (Ec:Fs K C) (ha:findIn K (.ref C) name=some none)
  (hq: ∀h',h'.Ns1 dx (λy=>if y=name then some v else mA y)->Heap.SameBut dx s.heap h'->Qu () {s with heap:=h',toks:=s.toks+2}):
  wpAny (model prog w) A (setAttr (.ref x) name v) Qu E s:=by
 obtain⟨od,hod,_⟩:=GN hn;have I:InstAt s.heap x ox C (some od):=⟨hx,hcl,by unfold notCls;rw[hda],by rw[hdi];exact hod⟩;obtain⟨cd,hc,hd,hp⟩:=id Ec.cd;refine set_plain X I Ec.sa (OD (s:={s with toks:=s.toks+1}) X I Ec ha ?_);clear I;obtain⟨oc,odi,oda,osl⟩:=ox;dsimp only at hcl hdi hda;subst hcl hdi hda;refine zA (zL (zA (zA (wpAny_loadPart hx (zA (Looks.here (s:={s with toks:=s.toks+1}) (looks_clsIn X hc) ?_))))));rw[hd];refine zL (a:=some dx) (zA (zL (zA ?_)));refine wpAny_nsSet1 (s:={s with toks:=s.toks+1}) hn λh' hn2 hs2=>?_;obtain⟨oD,esD,epD,hoD,hdD,hcD⟩:=hn2.count (CB name v hw);refine zA (Du hoD (by rw[hdD];exact Dx (yJ hcD (by rw[zJ];lia))) ?_);exact zL (hq _ hn2 hs2)
end
end
end L2
namespace L2
open PySem PySem.Spec PyProof.Rows
def HK (x C:Addr)(od:Option Addr):HO:=.ext λh=> ∃o vs,h.get? x=some o/\o.cls=.ref C/\o.dict=od/\o.data=.fields vs/\6<=vs.size
def GX (x C:Addr)(od:Option Addr):HO:=.ext λh=> ∃o vs,h.get? x=some o/\o.cls=.ref C/\o.dict=od/\o.data=.fields vs/\6<=vs.size/\vs[1]? =some .none
def KY (dx:Addr)(fs:List (Str×V)):HO:=.ext λh=> ∃mA,h.Ns1 dx mA/\(∀f,BP (fs.lookup f) (mA f))/\PySem.Within mA (fs.map (·.1))
section
variable {P:Program}{w:World}{H:Hp}{h:Heap}{x C dx:Addr}{od:Option Addr}{fs:List (Str×V)}
theorem HK.ok {o:Obj}{vs:Array Value}(e:h.get? x=some o)(hc:o.cls=.ref C)(hd:o.dict=od)(hf:o.data=.fields vs)(hz:6<=vs.size):kL P w H h x (HK x C od):=
 ⟨⟨o,vs,e,hc,hd,hf,hz⟩,⟨o,e⟩,λh1 h2 ⟨o,vs,e,r⟩ k=>⟨o,vs,k o e,r⟩⟩
theorem GX.ok {o:Obj}{vs:Array Value}(e:h.get? x=some o)(hc:o.cls=.ref C)(hd:o.dict=od)(hf:o.data=.fields vs)(hz:6<=vs.size)(h1:vs[1]? =some .none):kL P w H h x (GX x C od):=
 ⟨⟨o,vs,e,hc,hd,hf,hz,h1⟩,⟨o,e⟩,λg1 g2 ⟨o,vs,e,r⟩ k=>⟨o,vs,k o e,r⟩⟩
theorem GX.get (ok:Fj P w H h)(e:H x=some (GX x C od)): ∃o vs,h.get? x=some o/\o.cls=.ref C/\o.dict=od/\o.data=.fields vs/\6<=vs.size/\vs[1]? =some .none:=(ok x _ e).1
theorem HK.get (ok:Fj P w H h)(e:H x=some (HK x C od)): ∃o vs,h.get? x=some o/\o.cls=.ref C/\o.dict=od/\o.data=.fields vs/\6<=vs.size:=(ok x _ e).1
theorem KY.ok {mA:Str->Option Value}(n:h.Ns1 dx mA)(r: ∀f,BP (fs.lookup f) (mA f))(wi:PySem.Within mA (fs.map (·.1))):kL P w H h dx (KY dx fs):=by
 obtain⟨o,es,ep,e,q⟩:=id n;exact⟨⟨mA,n,r,wi⟩,⟨o,e⟩,λh1 h2 ⟨mA,n,r⟩ k=>⟨mA,n.at k,r⟩⟩
theorem KY.get (ok:Fj P w H h)(e:H dx=some (KY dx fs)): ∃mA,h.Ns1 dx mA/\(∀f,BP (fs.lookup f) (mA f))/\PySem.Within mA (fs.map (·.1)):=(ok dx _ e).1
end
inductive Qz (K:PySem.W.Frag) (f:Str) (y:V) (H1:Hp) (Q:VK):Prop
 |mk (a C d fs v:_) (h0:y=.ref a) (h1:H1 a=some (HK a C (some d))) (h2:H1 d=some (KY d fs)) (h3:Fs K C) (h4:qV K C f) (h5:fs.lookup f=some v) (h6:Q v H1):Qz K f y H1 Q
def TX (K:PySem.W.Frag)(ta:TE)(f:Str):TE:=λσ H Q=>ta σ H λy H1=>Qz K f y H1 Q
def Wb (K:PySem.W.Frag)(ta tv:TE)(f:Str):TS:=λD σ H=>tv σ H λy H1=>ta σ H1 λu H2=> ∃a C od,u=.ref a/\H2 a=some (GX a C od)/\Fs K C/\qV K C f/\
 ((od=none/\ ∀d,H2 d=none->D.nx σ (upd (upd H2 d (KY d [(f,y)])) a (GX a C (some d))))\/ ∃d fs,od=some d/\H2 d=some (KY d fs)/\fs.length<1000/\D.nx σ (upd H2 d (KY d (DM f y fs))))
section
variable {X:Cx}{o e value:Expr}{f:Str}{pos pos':Pos}{ta tv:TE}
theorem SK (he:PE X e ta)(hb:attributeBase e f X.env (eval e X.env)=eval e X.env:=by rfl):PE X (.Attribute e f pos) (TX X.K ta f):=by
 refine⟨?_⟩;intro pins s σ H Q I h;refine OM hb (kB (he pins s σ H _ I h) λu s1 hzz=>?_);obtain⟨y,H1,I1,r1,a,C,d,fs,v,hy,ha,hd,ec,na,l,q⟩:=hzz;subst hy;cases r1;obtain⟨ox,vs,gx,hcl,hdi,hda,_⟩:=HK.get I1.hok ha;obtain⟨mA,n,r,wi⟩:=KY.get I1.hok hd;obtain⟨od,hod,hl⟩:=GN n;have J:PySem.W.InstAt s1.heap a ox C (some od):=⟨gx,hcl,by unfold PySem.W.notCls;rw[hda],by rw[hdi];exact hod⟩;obtain⟨u,eu,ru⟩:=BP.some_of (by have:=r f;rw[l]at this;exact this);obtain⟨cd,hc,hdd,_⟩:=ec.cd;refine Mo I1.kIn J ec (v:=u) ?_ (JA ru) ⟨v,H1,I1.tok _,ru,q⟩;unfold PySem.W.findObj;rw[hc,Dy,na,Dy];simp only[Dy,PySem.W.ownOf,hdd,if_true,hl,eu]
theorem yV.excDict {pins:List (Addr×Obj)}{σ:St}{H:Hp}{s:Shared}{h':Heap}{a C:Addr}{oa ob:HO}{t':Nat}(I:yV X pins σ H s)(ha:H a=some (GX a C none))
  (keep: ∀b o,b≠a->s.heap.get? b=some o->h'.get? b=some o) (hat: ∃o,h'.get? a=some o) (hoa:kL X.prog X.w (upd (upd H s.heap.objs.size ob) a oa) h' a oa) (hob:kL X.prog X.w (upd (upd H s.heap.objs.size ob) a oa) h' s.heap.objs.size ob):
  yV X pins σ (upd (upd H s.heap.objs.size ob) a oa) {s with heap:=h',toks:=t'}:=by
 have hd:H s.heap.objs.size=none:=I.fresh;have nda:a≠s.heap.objs.size:=zS ha hd;have off: ∀b u,H b=some u->u≠GX a C none->b≠a/\b≠s.heap.objs.size:=λb u e ne=>⟨λz=>by rw[z,ha]at e;exact ne (xP e).symm,zS e hd⟩;have up: ∀b,b≠a->b≠s.heap.objs.size->upd (upd H s.heap.objs.size ob) a oa b=H b:=λb h1 h2=>by rw[zT h1,zT h2]
 refine I.un ⟨λb o e n _ _=>keep b o (λz=>by rw[z,ha]at n;cases n) e,λb o e n _ _=>⟨o.slots,keep b o (λz=>by rw[z,ha]at n;cases n) e⟩,λb o e n _=>?_,λb o e _=>?_,λb xs e=>?_,λb o xs e=>?_,λb ps e=>?_⟩ λb u e=>?_
 ·rw[up b (λz=>by rw[z,ha]at n;cases n) (xR (zX e))];exact n
 ·by_cases z:b=a
  ·subst z;exact hat
  ·exact⟨o,keep b o z e⟩
 ·obtain⟨h1,h2⟩:=off b _ e (by intro z;cases z);rw[up b h1 h2];exact e
 ·obtain⟨h1,h2⟩:=off b _ e (by intro z;cases z);rw[up b h1 h2];exact e
 ·obtain⟨h1,h2⟩:=off b _ e (by intro z;cases z);exact⟨#[],by rw[up b h1 h2,e];simp⟩
 ·by_cases z:b=a
  ·subst z;rw[zK]at e;cases e;exact hoa
  ·rw[zT z]at e
   by_cases z2:b=s.heap.objs.size
   ·subst z2;rw[zK]at e;cases e;exact hob
   ·rw[zT z2]at e;refine(I.hok b u e).stay (λc v hc q=>keep c v ?_ q) (λc q=>?_) λc xs q=>?_
    ·rcases hc with hc|hc
     ·rw[hc];exact z
     ·exact(off c _ hc (by intro z;cases z)).1
    ·obtain⟨h1,h2⟩:=off c _ q (by intro z;cases z);rw[up c h1 h2];exact q
    ·obtain⟨h1,h2⟩:=off c _ q (by intro z;cases z);rw[up c h1 h2];exact q
theorem Ki (ha:PE X o ta)(hv:PE X value tv)(hs:swapsWith value (some (.Attribute o f pos')) pos.line X.env=pure false:=by rfl):PS X (.Assign [.Attribute o f pos'] value pos) (Wb X.K ta tv f):=by
 refine⟨?_⟩;intro pins s σ H D I h;refine Aq (kB (hv pins s σ H _ I h) λu s1 ⟨y,H1,I1,ry,q⟩=>kB (ha pins s1 σ H1 _ I1 q) λov s2 ⟨x,H2,I2,rx,a,C,od,ex,ea,ec,na,q2⟩=>?_) hs;subst ex;obtain rfl:ov=Value.ref a:=rx;obtain⟨ox,vs,gx,hcl,hdi,hda,hz,h1⟩:=GX.get I2.hok ea
 rcases q2 with⟨rfl,q2⟩|⟨d,fs,rfl,hd,hl,q2⟩
 ·refine Mm I2.kIn gx hcl hdi hda ec na λh' hn hx' keep=>?_;refine⟨σ,_,I2.excDict ea keep ⟨_,hx'⟩ (GX.ok hx' hcl rfl hda hz h1) (KY.ok hn (λg=>?_) λg hg=>?_),q2 _ I2.fresh⟩
  ·show BP ([(f,y)].lookup g) (if g=f then some u else none)
   by_cases z:g=f
   ·subst z;rw[qF,zR rfl];exact ry
   ·rw[vT,beq_eq_false_iff_ne.mpr z,zH z];exact True.intro
  ·by_cases z:g=f
   ·subst z;simp
   ·exact absurd (show(if g=f then some u else none)=none by rw[zH z]) hg
 ·obtain⟨mA,n,r,wi⟩:=KY.get I2.hok hd;refine KD I2.kIn gx hcl hdi hda n wi (by rw[zF,Ab];lia) ec na λh' hn sb=>?_;refine⟨σ,_,I2.write (x:=d) (e:=d) (by rw[hd];exact True.intro) (.inl rfl) (λb q hb z=>(sb.2 b hb).trans z) (let⟨o,_,_,e',_⟩:=hn;⟨o,e'⟩) (KY.ok hn (λg=>?_) λg hg=>?_),q2⟩
  ·show BP ((DM f y fs).lookup g) (if g=f then some u else mA g);rw[EC]
   by_cases q:g=f
   ·rw[zR q,zR q];exact ry
   ·rw[zH q,zH q];exact r g
  ·by_cases q:g=f
   ·rw[q];exact(Dl f y fs).1
   ·refine(Dl f y fs).2 g (wi g λz=>hg ?_);show(if g=f then some u else mA g)=none;rw[zH q];exact z
end
def Qi (X:Cx)(pins:List (Addr×Obj))(H:Hp)(T:Addr):Prop:=H T=none/\X.s₀.heap.objs.size<=T/\T≠X.env.locals/\ ∀p∈X.pn++pins,p.1≠T
def Tb (X:Cx)(pins:List (Addr×Obj))(H:Hp)(x:Addr)(h:Heap):Prop:=
 ∃oe vs,h.get? x=some oe/\oe.data=.fields vs/\(vs[1]? =some .none\/ ∃T oT ts fl,vs[1]? =some (.ref T)/\T≠x/\Qi X pins H T/\h.get? T=some oT/\oT.data=.fields ts/\ts[3]? =some fl/\(fl=.none\/fl=rawInt X.env.locals))
def Qg (X:Cx)(pins:List (Addr×Obj))(H:Hp)(x:Addr)(fl:Value)(h:Heap):Prop:=
 ∃oe vs T oT ts,h.get? x=some oe/\oe.data=.fields vs/\vs[1]? =some (.ref T)/\T≠x/\Qi X pins H T/\h.get? T=some oT/\oT.data=.fields ts/\ts[3]? =some fl
theorem Qg.tb {X:Cx}{pins:List (Addr×Obj)}{H:Hp}{x:Addr}{fl:Value}{h:Heap}(t:Qg X pins H x fl h)(hf:fl=.none\/fl=rawInt X.env.locals):Tb X pins H x h:=by
 obtain⟨oe,vs,T,oT,ts,e,d,h1,r1,r2,r3,r4,r5⟩:=t;exact⟨oe,vs,e,d,.inr ⟨T,oT,ts,fl,h1,r1,r2,r3,r4,r5,hf⟩⟩
section
variable {X:Cx}{pins:List (Addr×Obj)}{σ:St}{H:Hp}{s:Shared}{h':Heap}{x C:Addr}{od:Option Addr}
theorem yV.flight (I:yV X pins σ H s)(hx:H x=some (HK x C od)){ch:List Addr}(hch: ∀b∈ch,Qi X pins H b)(ncell: ∀b∈ch,∀y c,X.env.cells.lookup y=some c->c≠b)
  (keep: ∀b o,b≠x->b∉ch->b∉frs X.stack->s.heap.get? b=some o->h'.get? b=some o) (slot: ∀b o,b≠x->b∉ch->s.heap.get? b=some o-> ∃sl,h'.get? b=some {o with slots:=sl})
  (hx': ∃o vs,h'.get? x=some o/\o.cls=.ref C/\o.dict=od/\o.data=.fields vs/\6<=vs.size):yV X pins σ H {s with heap:=h'}:=by
 have nx: ∀b,H b=none->b≠x:=λb n z=>by rw[z,hx]at n;cases n
 have nst: ∀b,b≠X.env.locals->b∉X.fs->b∉frs X.stack:=λb h1 h2 z=>(List.mem_cons.mp (I.stkSub b z)).elim h1 h2;have nch: ∀b u,H b=some u->b∉ch:=λb u e z=>by rw[(hch b z).1]at e;cases e
 have nfr: ∀b u,H b=some u->b∉frs X.stack:=λb u e z=>by rw[I.stkFree b z]at e;cases e
 refine I.step (g':=s.gens) (d':=s.drawn) (t':=s.toks) (ch:=ch) (λb hb=>⟨.inr (hch b hb).2.1,(hch b hb).2.2.1,ncell b hb,(hch b hb).2.2.2⟩)
  (λb o hL hf hc e n=>keep b o (nx b n) hc (nst b hL hf) e) (λb o hL hf hc e n=>slot b o (nx b n) hc e) (λb o hc e n=>n) (λb o hc e=>?_) (λ_ _ e=>e) (λ_ _ _ e=>e) (λb ps e=>⟨#[],by rw[e];simp⟩) (λm hm=>?_) (λb u e=>?_) I.bare
 ·by_cases z:b=x
  ·subst z;obtain⟨o,_,g,_⟩:=hx';exact⟨o,g⟩
  ·obtain⟨sl,q⟩:=slot b o z hc e;exact⟨_,q⟩
 ·obtain⟨o,es,ep,ho,hd,r⟩:=hm;obtain⟨sl,q⟩:=slot _ o (nx _ I.free) (λz=>(hch _ z).2.2.1 rfl) ho;exact⟨_,es,ep,q,hd,r⟩
 ·by_cases z:b=x
  ·subst z;rw[hx]at e;cases e;obtain⟨o,vs,g,r1,r2,r3,r4⟩:=hx';exact HK.ok g r1 r2 r3 r4
  ·refine(I.hok b u e).stay (λc v hc q=>?_) (λ_ q=>q) λ_ _ q=>q
   rcases hc with hc|hc
   ·rw[hc]at q ⊢;exact keep b v z (nch b u e) (nfr b u e) q
   ·exact keep c v (λz2=>by rw[z2,hx]at hc;cases hc) (nch c _ hc) (nfr c _ hc) q
theorem Qi.ncell {T:Addr}{oT:Obj}{ts:Array Value}(I:yV X pins σ H s)(g:s.heap.get? T=some oT)(d:oT.data=.fields ts): ∀b∈[T],∀y c,X.env.cells.lookup y=some c->c≠b:=λb hb y c e z=>by
 rw[List.mem_singleton.mp hb]at z;obtain⟨v,o,ho,hd⟩:=I.cell y c e;rw[z,g]at ho;cases ho;rw[d]at hd;cases hd
theorem JC {M:Model}{A:Around}{E:Value->Shared->Prop}{Q:Unit->Shared->Prop}{head:Value}{hadNext:Bool}(I:yV X pins σ H s)(hst:X.stack=X.env::X.outer)(hfr:X.env.frame=some X.env.locals)(hA:A.frames=some X.stack)
  (hx:H x=some (HK x C od)) (hq: ∀s',yV X pins σ H s'->Qg X pins H x (rawInt X.env.locals) s'.heap->Q () s'):
  wpAny M A (do let a<-frameOf X.env;let pl<-entryPlaceOf X.env.locals hadNext;let b<-EntryCells.newEntry head a .none (rawInt X.env.locals) .none pl;setField (.ref x) 1 b) Q E s:=by
 have hl:s.heap.FunFrames X.base (X.env::X.outer):=hst▸I.stack;refine zA (wpAny_frameOf_fun (hst▸hA) hl hfr λh1 hs1=>?_);refine zA (wpAny_entryPlaceOf λpl hpl=>?_);unfold EntryCells.newEntry newFields;refine zA (xX ?_ (hpl.sizeOk5 _ _ _ _ _));obtain⟨ox,vs,gx,hcl,hdi,hda,hz⟩:=HK.get I.hok hx;have hxf:x∉(X.env::X.outer).filterMap (·.frame):=λhm=>by
  obtain⟨_,o,ho,hnf⟩:=hl.mem hm;rw[gx]at ho;cases ho;exact hnf vs hda
 have gx1:h1.get? x=some ox:=(hs1.2.1 x hxf).trans gx;generalize hob:({cls:=.type "traceback",dict:=none,data:=.fields ([head,.ref X.env.locals,.none,rawInt X.env.locals,.none]++(if pl.isEmpty then List.replicate 6 Value.none else pl)).toArray}:Obj)=ob;have gx2:=zD (h:=h1) ob gx1;have hz1:1<vs.size:=by lia
 refine kW gx2 hda hz1 ?_;have sz:h1.objs.size=s.heap.objs.size:=hs1.1;have hd3:=jQ hda (·.setIfInBounds 1 (Value.ref h1.objs.size));have gx3:=jD (Obj.mapFields (·.setIfInBounds 1 (Value.ref h1.objs.size))) gx2 (qE hd3);have hTx:h1.objs.size≠x:=wM (zX gx1);have gT:(h1.push ob).get? h1.objs.size=some ob:=yC _ (by rw[<-hob];rfl);have hT:H h1.objs.size=none:=by rw[sz];exact I.fresh
 have keep: ∀b o,b≠x->h1.get? b=some o->((h1.push ob).update x (Obj.mapFields (·.setIfInBounds 1 (Value.ref h1.objs.size)))).get? b=some o:=λb o hb e=>by
  rw[yZ _ _ (Ne.symm hb)];exact zD _ e
 have I':yV X pins σ H {s with heap:=(h1.push ob).update x (Obj.mapFields (·.setIfInBounds 1 (Value.ref h1.objs.size)))}:=by
  refine I.flight hx (ch:=[]) (λb hb=>(nomatch hb)) (λb hb=>(nomatch hb)) (λb o hb _ hf e=>keep b o hb ((hs1.2.1 b (by rw[<-hst];exact hf)).trans e)) (λb o hb _ e=>?_) ⟨_,_,gx3,(CC _ _).trans hcl,?_,hd3,by simp;exact hz⟩
  ·obtain⟨sl,q⟩:=hs1.2.2 b o e;exact⟨sl,keep b _ hb q⟩
  ·obtain⟨oc,odi,oda,osl⟩:=ox;simp only at hda;subst hda;exact hdi
 refine hq _ I' ⟨_,_,h1.objs.size,ob,_,gx3,hd3,by simp[hz1],hTx,⟨hT,?_,?_,λp hp z=>?_⟩,?_,by rw[<-hob],?_⟩
 ·rw[sz];exact I.sz
 ·rw[sz];exact wM I.lt
 ·have:=zX (I.pin p hp).1;rw[z,sz]at this;exact jJ _ this
 ·rw[yZ _ _ (Ne.symm hTx)];exact gT
 ·first|(simp;done)|(rcases hpl with rfl|⟨_,_,_,_,_,_,_,rfl⟩<;>simp)
theorem IA {M:Model}{A:Around}{E:Value->Shared->Prop}{Q:Unit->Shared->Prop}(I:yV X pins σ H s)(hst:X.stack=X.env::X.outer)(hfr:X.env.frame=some X.env.locals)(hA:A.frames=some X.stack)
  (hx:H x=some (HK x C od)) (tb:Tb X pins H x s.heap) (hq: ∀s',yV X pins σ H s'->Qg X pins H x (rawInt X.env.locals) s'.heap->Q () s'):wpAny M A (noteFrame (.ref x) X.env) Q E s:=by
 obtain⟨oe,vs,ge,hd,h1⟩:=tb;unfold noteFrame;simp only[hfr]
 rcases h1 with h1|⟨T,oT,ts,fl,h1,hTx,ours,gT,dT,h3,hfl⟩
 ·refine zA (xG ge hd h1 ?_);rw[zH (by decide)];exact JC I hst hfr hA hx hq
 ·refine zA (xG ge hd h1 ?_);rw[zR (show(Value.ref T !=Value.none)=true from by simp)];refine zA (xG gT dT h3 ?_)
  rcases hfl with rfl|rfl
  ·rw[zH (show ¬((Value.none==rawInt X.env.locals)=true)from by simp[rawInt])];refine zA (kW gT dT (Array.getElem?_eq_some_iff.mp h3).1 ?_);have other: ∀b,b≠T->(s.heap.update T (Obj.mapFields (·.setIfInBounds 3 Value.none))).get? b=s.heap.get? b:=λb hb=>yZ _ _ (Ne.symm hb);obtain⟨ox,ws,gx,r⟩:=HK.get I.hok hx;have I':yV X pins σ H {s with heap:=s.heap.update T (Obj.mapFields (·.setIfInBounds 3 Value.none))}:=by
    refine I.flight hx (ch:=[T]) (λb hb=>by rw[List.mem_singleton.mp hb];exact ours) (Qi.ncell I gT dT) (λb o hb hc _ e=>(other b λz=>hc (by simp[z])).trans e) (λb o hb hc e=>⟨o.slots,(other b λz=>hc (by simp[z])).trans e⟩) ⟨ox,ws,(other x (Ne.symm hTx)).trans gx,r⟩
   exact JC I' hst hfr hA hx hq
  ·rw[zR (show(rawInt X.env.locals==rawInt X.env.locals)=true from by simp)];exact zL (hq s I ⟨oe,vs,T,oT,ts,ge,hd,h1,hTx,ours,gT,dT,h3⟩)
theorem HG {M:Model}{A:Around}{E:Value->Shared->Prop}{Q:Unit->Shared->Prop}{fl:Value}{to:Option Addr}(I:yV X pins σ H s)(hx:H x=some (HK x C od))(tb:Qg X pins H x fl s.heap)
  (hq: ∀s',yV X pins σ H s'->Qg X pins H x (to.elim Value.none λf=>rawInt f) s'.heap->Q () s'):wpAny M A (setFlight (.ref x) to) Q E s:=by
 obtain⟨oe,vs,T,oT,ts,ge,hd,h1,hTx,ours,gT,dT,h3⟩:=tb;unfold setFlight;refine zA (xG ge hd h1 ?_);rw[zR (show(Value.ref T !=Value.none)=true from by simp)];have hsz3:=(Array.getElem?_eq_some_iff.mp h3).1;refine kW gT dT hsz3 (hq _ ?_ ?_)
 ·obtain⟨ox,ws,gx,r⟩:=HK.get I.hok hx;exact I.flight hx (ch:=[T]) (λb hb=>by rw[List.mem_singleton.mp hb];exact ours) (Qi.ncell I gT dT) (λb o hb hc _ e=>(yZ _ _ (λz=>hc (by simp[z]))).trans e) (λb o hb hc e=>⟨o.slots,(yZ _ _ (λz=>hc (by simp[z]))).trans e⟩) ⟨ox,ws,(yZ _ _ hTx).trans gx,r⟩
 ·exact⟨oe,vs,T,_,_,(yZ _ _ hTx).trans ge,hd,h1,hTx,ours,jD _ gT (qE (jQ dT _)),jQ dT _,by simp[hsz3]⟩
end
def Fd (P:Program)(w:World):Gy:=λouter H s E e s'=> ∃x C d H',e=.ref x/\s'.os=s.os/\AllBare s'.gens/\Un (frs outer) [] H H' s.heap s'.heap/\Fj P w H' s'.heap/\H' x=some (HK x C d)/\
 (∃oe vs T oT ts,s'.heap.get? x=some oe/\oe.data=.fields vs/\vs[1]? =some (.ref T)/\T≠x/\H' T=none/\s.heap.objs.size<=T/\s'.heap.get? T=some oT/\oT.data=.fields ts/\ts[3]? =some .none)/\E (.ref C) d H'
theorem Mw {P:Program}{w:World}{outer:List Env}{H:Hp}{s:Shared}{e:Value}{s':Shared}(h:Fd P w outer H s (λ_ _ _=>False) e s'):False:=by
 obtain⟨_,_,_,_,_,_,_,_,_,_,_,z⟩:=h;exact z
def Qj (X:Cx)(E:XK):Value->Shared->Prop:=λe s1=> ∃x C d pins σ H,e=.ref x/\yV X pins σ H s1/\H x=some (HK x C d)/\Tb X pins H x s1.heap/\E (.ref C) d H
abbrev Cx.exc (X:Cx)(E:XK):Cx:=X.wish (Qj X E)
section
variable {X:Cx}{E:XK}
theorem qI {P:Program}{w:World}:uW (Fd P w) X E0:=λ_ _ _ _ _ _ _ h=>(Mw h).elim
theorem Tw {pins:List (Addr×Obj)}{σ:St}{H:Hp}{s s':Shared}{e:Value}(I:yV X pins σ H s)(h:Fd X.prog X.w X.stack H s E e s'):Qj X E e s':=by
 obtain⟨x,C,d,H',rfl,ho,hg,u,hok,hx,⟨oe,vs,T,oT,ts,ge,hd,h1,hTx,hT,lo,gT,dT,h3⟩,q⟩:=h;have I':yV X pins σ H' s':=I.call' (ch:=[]) ho u hok hg λb z=>(nomatch z);refine⟨x,C,d,pins,σ,H',rfl,I',hx,⟨oe,vs,ge,hd,.inr ⟨T,oT,ts,.none,h1,hTx,⟨hT,yJ I.sz lo,wM (yG I.lt lo),λp hp z=>?_⟩,gT,dT,h3,.inl rfl⟩⟩,q⟩;have:=zX (I.pin p hp).1;rw[z]at this;exact absurd (yG this lo) (jJ _)
theorem jC:uW (Fd X.prog X.w) (X.exc E) E:=λpins σ H s e s' I h=>Tw I.unwish h
theorem PR {e:Value}{s1:Shared}{E':Value->Shared->Prop}(hst:X.stack=X.env::X.outer)(hfr:X.env.frame=some X.env.locals)(hex:X.ex=[])(h:Qj X E e s1):
  wpAny (model X.prog X.w) X.A (leaving X.env e) (λ_ s''=>Fd X.prog X.w X.outer X.H₀ X.s₀ E e s'') E' s1:=by
 obtain⟨x,C,d,pins,σ,H,rfl,I,hx,tb,q⟩:=h;unfold leaving;refine zA (IA I hst hfr I.ok.frames hx tb λs2 I2 t2=>HG (to:=none) I2 hx t2 λs3 I3 t3=>?_);obtain⟨oe,vs,T,oT,ts,ge,hd,h1,hTx,ours,gT,dT,h3⟩:=t3;have b:=I3.base;rw[hex]at b;exact⟨x,C,d,H,rfl,I3.os,I3.bare,b,I3.hok,hx,⟨oe,vs,T,oT,ts,ge,hd,h1,hTx,ours.1,ours.2.1,gT,dT,h3⟩,q⟩
theorem EX (hst:X.stack=X.env::X.outer)(hfr:X.env.frame=some X.env.locals):PassesOwn (model X.prog X.w) X.A X.env (Qj X E):=λe s1 h=>by
 obtain⟨x,C,d,pins,σ,H,rfl,I,hx,tb,q⟩:=h;refine IA I hst hfr I.ok.frames hx tb λs2 I2 t2=>?_;have t2':=t2;obtain⟨oe,vs,T,oT,ts,ge,hd,h1,hTx,ours,gT,dT,h3⟩:=t2;unfold cameBackBy;refine zA (xG ge hd h1 ?_);rw[zH (show ¬((Value.ref T==Value.none)=true)from by simp)];rw[hfr];exact HG (to:=some X.env.locals) I2 hx t2' λs3 I3 t3=>⟨x,C,d,pins,σ,H,rfl,I3,hx,t3.tb (.inr rfl),q⟩
end
section
variable {P:Program}{w:World}{K:PySem.W.Frag}{mg:Str->Option Value}{base:Heap}
theorem wQ.okN {CX:Gy}{x qual:Str}{st:Stmt}{f:Addr}{fd:FuncData}{N ps:List Str}{k:Nat}{sp:Sp}(F:wQ K x qual st f fd)(S:yW N ps (zY st))(len: ∀vs H Q E,sp vs H Q E->vs.length=ps.length)
  (hbody: ∀(cdv:Value) (A:Around) (outer:List Env) (s:Shared) (H:Hp) (vs:List V) (Q:VK) (E:XK),wK k (A.deeper (envOfC qual (zY st) s.heap.objs.size f cdv))->sp vs H Q E->
   ∃t,JK (GO CX P w K mg base N qual (zY st) f cdv A outer s H E).nox (qZ st) t/\t {nx:=λ_ H'=>Q .non H',rt:=Q} (BS N vs) H):Ap P w K mg base CX (k+1) f fd ps sp:=by
 obtain⟨oc,od,kV,doc,pm,an,cdv,ct,osl,rfl,lk,hcd⟩:=F.ex;refine Uo lk hcd S len λA outer s H vs Q E hr hsp=>?_;obtain⟨t,h,q⟩:=hbody cdv A outer s H vs Q E hr hsp;exact⟨t,h.nox,q⟩
theorem wQ.okX {x qual:Str}{st:Stmt}{f:Addr}{fd:FuncData}{N ps:List Str}{k:Nat}{sp:Sp}(F:wQ K x qual st f fd)(S:yW N ps (zY st))(len: ∀vs H Q E,sp vs H Q E->vs.length=ps.length)
  (hbody: ∀(cdv:Value) (A:Around) (outer:List Env) (s:Shared) (H:Hp) (vs:List V) (Q:VK) (E:XK),wK k (A.deeper (envOfC qual (zY st) s.heap.objs.size f cdv))->sp vs H Q E->
   ∃t,JK ((GO (Fd P w) P w K mg base N qual (zY st) f cdv A outer s H E).exc E) (qZ st) t/\t {nx:=λ_ H'=>Q .non H',rt:=Q} (BS N vs) H):Ap P w K mg base (Fd P w) (k+1) f fd ps sp:=by
 obtain⟨oc,od,kV,doc,pm,an,cdv,ct,osl,rfl,lk,hcd⟩:=F.ex;refine Uo lk hcd S len λA outer s H vs Q E hr hsp=>?_;obtain⟨t,h,q⟩:=hbody cdv A outer s H vs Q E hr hsp;refine⟨t,⟨λpins s1 σ H1 D I hw=>?_⟩,q⟩;refine kJ (h pins s1 σ H1 D (I.wish _) hw) (λfl s2 hs=>hs.unwish) λe s2 fl=>?_;exact PR rfl rfl rfl fl
end
abbrev BZ:List Value:=[.type "ValueError",.type "Exception",.type "BaseException",.type "object"]
structure MF (K:PySem.W.Frag)(C f:Addr):Prop where
 cls: ∃(B nw ini:String) (bmB:List Value),ExcBaseFacts B nw ini bmB/\bmB.contains (.type "BaseException")=true/\ ∃nm q N bs bm hdct sn sub ab col dd k0 k1 k2 k3 k5,K.lookup C=some (excClassObj nm q C N bs bm hdct sn sub ab col dd k0 k1 k2 k3 k5 nw)/\ ∀h,K.In h->OwnTail h bmB bm
 init:PySem.W.findIn K (.ref C) "__init__"=some (some (.ref f))
 fn:PySem.W.typeIn K (.ref f)=some (.type "function")
 kp:PySem.W.keepIn K (.ref C)=true
 ec:Fs K C
theorem MF.ofValue {K:PySem.W.Frag}{C f:Addr}(h: ∃nm q N bs bm hdct sn sub ab col dd k0 k1 k2 k3 k5,K.lookup C=some (excClassObj nm q C N bs bm hdct sn sub ab col dd k0 k1 k2 k3 k5 "ValueError.__new__")/\ ∀h,K.In h->OwnTail h BZ bm)
  (i:PySem.W.findIn K (.ref C) "__init__"=some (some (.ref f))) (fn:PySem.W.typeIn K (.ref f)=some (.type "function")) (kp:PySem.W.keepIn K (.ref C)=true) (ec:Fs K C):MF K C f:=
 ⟨⟨_,_,_,BZ,F.excBase_ValueError,by decide,h⟩,i,fn,kp,ec⟩
section
variable {X:Cx}{pins:List (Addr×Obj)}{σ:St}{H:Hp}{s:Shared}
theorem yV.excMade (I:yV X pins σ H s)(C:Addr)(us:List Value):yV X pins σ (upd H (s.heap.objs.size+1) (GX (s.heap.objs.size+1) C none)) {s with heap:=AG s.heap C us}:=by
 have gx:(AG s.heap C us).get? (s.heap.objs.size+1)=some (NK C s.heap.objs.size):=by heap_get
 refine I.laid (t':=s.toks) (λb o e=>zD _ (zD _ e)) (Nat.le_succ _) (GX.ok gx rfl rfl rfl (show 6<=6 by decide) rfl)
theorem Sy {CX:Gy}{k:Nat}{f C:Addr}{fd:FuncData}{ps:List Str}{sp:Sp}{E:XK}{Q:Addr->Hp->Prop}{us:List Value}{vs:List V}(M:MF X.K C f)(G:Ap X.prog X.w X.K X.mg X.base CX k f fd ps sp)(hr:wK (k+1) X.A)(hb:wT X.K fd ps [])
  (hx:uW CX X E) (I:yV X pins σ H s) (r:xT vs us) (hz:us.length<=sizeLine)
  (h: ∀x,H x=none->sp (.ref x::vs) (upd H x (GX x C none)) (λv H2=>v=.non/\Q x H2) E):
  wpAny (model X.prog X.w) X.A (call (.ref C) us) (λu s'=> ∃x H',u=.ref x/\yV X pins σ H' s'/\Q x H') X.xe s:=by
 have hq:=h (s.heap.objs.size+1) (I.hok.fresh (Nat.le_succ _));have I2:=I.excMade C us;have r2:xT (V.ref (s.heap.objs.size+1)::vs) (Value.ref (s.heap.objs.size+1)::us):=.cons rfl r;have hl:(Value.ref (s.heap.objs.size+1)::us++[]).length =ps.length:=by
  have e:=r2.length;rw[G.len _ _ _ _ hq]at e;rw[yY];exact e.symm
 obtain⟨_,_,_,bmB,BF,hcb,nm,q,N,bs,bm,hdct,sn,sub,ab,col,dd,k0,k1,k2,k3,k5,hC,T⟩:=M.cls;have KI:=I.kIn;have bd:=hb {s with heap:=AG s.heap C us} (Value.ref (s.heap.objs.size+1)::us) I2.kIn hl;rw[yY]at bd;obtain⟨hh,g,d,t,os⟩:=s;refine wpAny_call (RP KI (KI _ _ hC) BF (T _ KI) M.init M.fn hz (Ak (G.run _ X.stack _ _ ⟨Value.ref (hh.objs.size+1)::us,[]⟩ _ _ _ E (hr.make C us []) (I2.env0.make C us []) bd r2 hq) λr s' hq'=>?_));cases r with
 |error e=>exact hx pins σ _ _ e s' I2 hq'
 |ok fl=>
  cases fl with
  |ret u=>
   obtain⟨v,H',I3,rv,ev,q3⟩:=I2.after hq';subst ev;exact⟨rv,hh.objs.size+1,H',rfl,I3,q3⟩
  |next=>exact False.elim hq'
  |brk=>exact False.elim hq'
  |cont=>exact False.elim hq'
theorem Ng {M:Model}{A:Around}{E:Value->Shared->Prop}{env:Env}{xs:Sem Value}{Q:Flow->Shared->Prop}{K:PySem.W.Frag}{C:Addr}{s:Shared}{f:Addr}(hM:MF K C f)(hh:A.handled=none)
  (h:wpAny M A xs (λv s1=> ∃x oe vs,v=.ref x/\K.In s1.heap/\s1.heap.get? x=some oe/\oe.cls=.ref C/\oe.data=.fields vs/\vs[1]? =some .none/\E (.ref x) s1) E s):
  wpAny M A (raiseStmt env (some xs) none) Q E s:=by
 obtain⟨_,_,_,bmB,BF,hcb,nm,q,N,bs,bm,hdct,sn,sub,ab,col,dd,k0,k1,k2,k3,k5,hC,T⟩:=hM.cls;unfold raiseStmt;refine zA (kB h λv s1 h1=>?_);obtain⟨x,oe,vs,rfl,KI,ge,hcl,hd,h1,hE⟩:=h1;have hC1:=KI _ _ hC;have hcB:(Value.ref C::bm).contains (.type "BaseException")=true:=by rw[List.contains_cons,(T _ KI).hasType hcb,Bool.or_true]
 obtain⟨hp,g,d,tk,os⟩:=s1
 repeat (first|(with_reducible refine Ah ge ?_;try rw[hcl])|with_reducible refine Ah hC1 ?_ |(with_reducible refine wpAny_isSubtype_exc hC1 ?_;rw[hcB])|with_reducible refine xG ge hd h1 ?_ |wp_step)
 exact wpAny_raiseNew_none hh hE
theorem yV.excFlies {x C d:Addr}(I:yV X pins σ H s)(hx:H x=some (GX x C (some d))):yV X pins σ (upd H x (HK x C (some d))) s:=by
 obtain⟨o,vs,g,r1,r2,r3,r4,r5⟩:=GX.get I.hok hx;exact I.write (h':=s.heap) (t':=s.toks) (x:=x) (e:=x) (by rw[hx];exact True.intro) (.inl rfl) (λ_ _ _ q=>q) ⟨o,g⟩ (HK.ok g r1 r2 r3 r4)
end
def Qx (C:Addr)(sp:Sp)(E:XK)(t:TA):TS:=λ_ σ H=>t σ H λvs H1=>vs.length<=sizeLine/\ ∀x,H1 x=none->
 sp (.ref x::vs) (upd H1 x (GX x C none)) (λv H2=>v=.non/\ ∃d,H2 x=some (GX x C (some d))/\E (.ref C) (some d) (upd H2 x (HK x C (some d)))) E
section
variable {X:Cx}{E:XK}{k:Nat}{f C:Addr}{fd:FuncData}{ps:List Str}{sp:Sp}{x:Str}{np cpos pos:Pos}{e:Expr}{es:List Expr}{t:TA}
theorem QJ (M:MF X.K C f)(G:Ap X.prog X.w X.K X.mg X.base (Fd X.prog X.w) k f fd ps sp)(hr:wK (k+1) X.A)(hg:Gl (X.exc E) x)(hm:X.mg x=some (.ref C))(hb:wT X.K fd ps [])(ha:PA (X.exc E) (e::es) t)(hc:X.calm=true:=by rfl)
  (hdb:(x==("__debug__":Str))=false:=by decide) (he:starEach (e::es) X.env=(false,eval e X.env)::starEach es X.env:=by rfl) (hpl:(backTo cpos (starEach es X.env)).any (·.1)=false:=by rfl):
  PS (X.exc E) (.Raise (some (.Call (.Name x np) (e::es) [] cpos)) none pos) (Qx C sp E t):=by
 refine⟨?_⟩;intro pins s σ H D I h;have cal:wpAny (model X.prog X.w) X.A (eval (.Call (.Name x np) (e::es) [] cpos) X.env) (λv s1=> ∃y oe vs,v=.ref y/\X.K.In s1.heap/\s1.heap.get? y=some oe/\oe.cls=.ref C/\oe.data=.fields vs/\vs[1]? =some .none/\Qj X E (.ref y) s1) (Qj X E) s:=by
  refine kY (EZ (X:=X.exc E) I hg hm ?_ hdb);refine uZ (h₀:=X.base) I.ok.mod.kin M.kp (kB (ha cpos pins s σ H _ I h) λus s1 ⟨vs,H1,I1,r,hz,q⟩=>⟨I1.kIn,?_⟩) he hpl;refine kB (Sy (X:=X.exc E) (Q:=λy H2=> ∃d,H2 y=some (GX y C (some d))/\E (.ref C) (some d) (upd H2 y (HK y C (some d)))) M G hr hb jC I1 r (by have:=r.length;rw[jB];lia) q) λv s2 ⟨y,H2,ev,I2,d,hy,qe⟩=>?_
  ·subst ev;obtain⟨o,ws,g,r1,r2,r3,r4,r5⟩:=GX.get I2.hok hy;exact⟨y,o,ws,rfl,I2.kIn,g,r1,r3,r5,y,C,some d,pins,σ,_,rfl,I2.unwish.excFlies hy,zK,⟨o,ws,g,r3,.inl r5⟩,qe⟩
 show wpAny _ _ (exec (.Raise (some (.Call (.Name x np) (e::es) [] cpos)) none pos) X.env) _ _ _;rw[arm_exec_Raise];refine zA (AI (Ng (K:=X.K) M (I.ok.hd hc) ?_));exact zA (kB cal λv s1 h1=>zA (AI (zL h1)))
end
section
variable {X:Cx}{pins:List (Addr×Obj)}{σ:St}{H:Hp}{s:Shared}
theorem Pw {M:Model}{A:Around}{E:Value->Shared->Prop}{i:Nat}{n:Str}{pos:Pos}{Q:Unit->Shared->Prop}(I:yV X pins σ H s)(hN:X.N.Nodup)(hi:X.N[i]? =some n)(hl:X.env.scope.names.lookup n=some .local)
  (h: ∀s',yV X pins (σ.set i none) H s'->Q () s'):wpAny M A (do bindName X.env n .none;unbindBehindTheSuite X.env n pos) Q E s:=by
 obtain⟨m,hn,hlk⟩:=id I.loc;have hcls:(X.env.scope.kind== .class || (X.env.scope.kind== .module&&X.env.locals !=X.env.globals))=false:=by rw[I.ok.kind];rfl
 have hiσ:i<σ.length:=by rw[I.len];exact(List.getElem?_eq_some_iff.mp hi).1
 refine wpAny_nameGoes_keeps hl hn hcls λh' v hn' hs=>h _ ?_;have neL: ∀b o,X.s₀.heap.get? b=some o->b≠X.env.locals:=λb o e=>xR (yG (zX e) I.ok.above);refine⟨I.ok,I.os,I.bare,⟨λb o e n hb hx=>(hs.2 b (neL b o e)).trans (I.base.keep b o e n hb hx),λb o e n hb hx=>?_,I.base.free,λb o e hx=>?_,I.base.tups,I.base.frzs,I.base.tbls⟩,⟨_,hn',λj y v' e1 e2 e3=>?_⟩,λy c e=>?_,I.free,I.freeC,λp hp=>?_,λb u e=>?_,by simpa using I.len⟩
 ·obtain⟨sl,e1⟩:=I.base.slot b o e n hb hx;exact⟨sl,(hs.2 b (neL b o e)).trans e1⟩
 ·obtain⟨o',e1⟩:=I.base.there b o e hx;exact⟨o',(hs.2 b (neL b o e)).trans e1⟩
 ·by_cases hj:j=i
  ·subst hj;rw[wN hiσ]at e2;cases e2
  ·rw[kF (Ne.symm hj)]at e2;obtain⟨u',r',q⟩:=hlk j y v' e1 e2 e3;refine⟨u',r',?_⟩
   rcases q with⟨k,e⟩|⟨k,c,e,z⟩
   ·refine .inl ⟨k,?_⟩;have:y≠n:=λe=>hj (Im hN e1 (e▸hi))
    simp[this,e]
   ·exact .inr ⟨k,c,e,z.sameBut hs (I.cne y c e)⟩
 ·obtain⟨w',z⟩:=I.cell y c e;exact⟨w',z.sameBut hs (I.cne y c e)⟩
 ·obtain⟨e,n,ne,nf,d⟩:=I.pin p hp;exact⟨(hs.2 p.1 ne).trans e,n,ne,nf,d⟩
 ·refine(I.hok b u e).stay (λc w' hc q=>(hs.2 c ?_).trans q) (λ_ q=>q) λ_ _ q=>q;rintro rfl
  rcases hc with rfl|hc
  ·rw[I.free]at e;cases e
  ·rw[I.free]at hc;cases hc
abbrev Cx.mark (X:Cx)(v:Value):Cx:={X with A:=X.A.mark (some v),calm:=false,xe:=λ_ _=>False}
theorem yV.mark (I:yV X pins σ H s)(v:Value):yV (X.mark v) pins σ H s:=
 ⟨⟨I.ok.mod,I.ok.kind,I.ok.glob,I.ok.blt,I.ok.above,I.ok.inj,I.ok.has,I.ok.cab,λz=>(nomatch z),I.ok.frames,I.ok.stk,I.ok.exf,I.ok.bs,I.ok.bsz,I.ok.noex,I.ok.exfs,I.ok.funs,I.ok.frf⟩,I.os,I.bare,I.base,I.loc,I.cell,I.free,I.freeC,I.pin,I.hok,I.len⟩
theorem yV.unmark {v:Value}(hd:X.calm=true->X.A.handled=none)(I:yV (X.mark v) pins σ H s):yV X pins σ H s:=
 ⟨⟨I.ok.mod,I.ok.kind,I.ok.glob,I.ok.blt,I.ok.above,I.ok.inj,I.ok.has,I.ok.cab,hd,I.ok.frames,I.ok.stk,I.ok.exf,I.ok.bs,I.ok.bsz,I.ok.noex,I.ok.exfs,I.ok.funs,I.ok.frf⟩,I.os,I.bare,I.base,I.loc,I.cell,I.free,I.freeC,I.pin,I.hok,I.len⟩
abbrev Cx.pinned (X:Cx)(pn:List (Addr×Obj)):Cx:={X with pn:=pn}
theorem yV.topin (I:yV X pins σ H s):yV (X.pinned (X.pn++pins)) [] σ H s:=
 ⟨⟨I.ok.mod,I.ok.kind,I.ok.glob,I.ok.blt,I.ok.above,I.ok.inj,I.ok.has,I.ok.cab,I.ok.hd,I.ok.frames,I.ok.stk,I.ok.exf,I.ok.bs,I.ok.bsz,I.ok.noex,I.ok.exfs,I.ok.funs,I.ok.frf⟩,I.os,I.bare,I.base,I.loc,I.cell,I.free,I.freeC,λp hp=>I.pin p (by rw[yY]at hp;exact hp),I.hok,I.len⟩
theorem yV.unpin {pins':List (Addr×Obj)}(I:yV (X.pinned (X.pn++pins)) pins' σ H s):yV X pins σ H s:=
 ⟨⟨I.ok.mod,I.ok.kind,I.ok.glob,I.ok.blt,I.ok.above,I.ok.inj,I.ok.has,I.ok.cab,I.ok.hd,I.ok.frames,I.ok.stk,I.ok.exf,I.ok.bs,I.ok.bsz,I.ok.noex,I.ok.exfs,I.ok.funs,I.ok.frf⟩,I.os,I.bare,I.base,I.loc,I.cell,I.free,I.freeC,λp hp=>I.pin p (vK _ hp),I.hok,I.len⟩
end
structure XV (K:PySem.W.Frag)(C CE:Addr):Prop where
 sub:PySem.W.subIn K (.ref C) (.ref CE)=some true
 ty:PySem.W.typeIn K (.ref CE)=some (.type "type")
 cl:(PySem.W.clsIn K CE).isSome =true
 base:PySem.W.subIn K (.ref CE) (.type "BaseException")=some true
theorem Mn {M:Model}{A:Around}{E:Value->Shared->Prop}{K:PySem.W.Frag}{s:Shared}{x C CE:Addr}{oe:Obj}{Q:Bool->Shared->Prop}(KI:K.In s.heap)(m:XV K C CE)(ge:s.heap.get? x=some oe)(hcl:oe.cls=.ref C)(hq:Q true s):
  wpAny M A (excMatches (.ref x) (.ref CE)) Q E s:=by
 obtain⟨h,g,d,t,os⟩:=s;have kc:PySem.W.kitCls K (.ref C) (.ref CE)=some true:=by
  unfold PySem.W.kitCls;simp only[m.cl,m.ty,kR,Bool.and_self,if_true];exact m.sub
 obtain⟨L1,L2',L3⟩:=PySem.W.kit_cls (M:=M) (h:=h) KI kc;have L4:=PySem.W.looks_subIn (M:=M) (h:=h) KI m.base;have L5:PySem.W.Looks M h (typeOf (.ref x)) (.ref C):=hcl▸(PySem.W.Looks.ld ge).andThen .now;have L6:PySem.W.Looks M h (isInstance (.ref CE) (.type "tuple")) false:=L1.andThen (PySem.W.Looks.of_pure tc_notTuple);have L7:PySem.W.Looks M h (isExcClass (.ref CE)) true:=L2'.andThen L4;unfold excMatches;refine zA (L6.at (zA (zL (zA ?_))));show wpAny M A (forIn [Value.ref CE] PUnit.unit _) _ E _;simp only[wU,List.forIn_nil];refine zA (zA (L7.at ?_));refine zL (zL (zA (L5.at (zA (zA (zA (L3.at ?_)))))));exact zL (zL (zL hq))
def behind (D:Eg)(i:Nat):Eg:={nx:=λσ H=>D.nx (σ.set i none) H,rt:=D.rt,bk:=λσ H=>D.bk (σ.set i none) H,ct:=λσ H=>D.ct (σ.set i none) H}
def Xt (K:PySem.W.Frag)(N i:Nat)(CE:Addr)(tb:XK->TS)(th:TS):TS:=λD σ H=>
 tb (λcls dx H1=> ∃C d,cls=.ref C/\dx=some d/\XV K C CE/\ ∀(x:Addr) (σ1:St),H1 x=some (HK x C (some d))->σ1.length=N->th (behind D i) (σ1.set i (some (.ref x))) H1) D σ H
section
variable {X:Cx}
theorem UK {body suite:List Stmt}{b0:Stmt}{x n:Str}{i:Nat}{CE:Addr}{tb:XK->TS}{th:TS}{np hpos pos:Pos}(hN:X.N.Nodup)(hi:X.N[i]? =some n)(hl:X.env.scope.names.lookup n=some .local)(hg:Gl X x)(hm:X.mg x=some (.ref CE))
  (hb: ∀pn E',JK ((X.pinned pn).exc E') body (tb E')) (hh: ∀v,JK (X.mark v) (b0::suite) th)
  (hst:X.stack=X.env::X.outer:=by rfl) (hfr:X.env.frame=some X.env.locals:=by rfl) (hdb:(x==("__debug__":Str))=false:=by decide):
  PS X (.Try body [.ExceptHandler (some (.Name x np)) (some n) (b0::suite) hpos] [] [] pos) (Xt X.K X.N.length i CE tb th):=by
 refine⟨?_⟩;intro pins s σ H D I h;refine wpAny_Try_except ?_;refine kJ (hb (X.pn++pins) _ [] s σ H D (I.topin.wish _) h) (λf s1 h1=>?_) λe s1 h1=>?_
 ·cases f with
  |next=>obtain⟨σ1,H1,I1,q⟩:=h1;exact uQ ⟨σ1,H1,I1.unwish.unpin,q⟩
  |brk=>obtain⟨σ1,H1,I1,q⟩:=h1;exact⟨σ1,H1,I1.unwish.unpin,q⟩
  |cont=>obtain⟨σ1,H1,I1,q⟩:=h1;exact⟨σ1,H1,I1.unwish.unpin,q⟩
  |ret u=>obtain⟨v,σ1,H1,I1,r,q⟩:=h1;exact⟨v,σ1,H1,I1.unwish.unpin,r,q⟩
 ·obtain⟨y,C0,d0,pins1,σ1,H1,rfl,I1,hy,tb1,C,d,ec,ed,mc,q⟩:=h1;cases ec;cases ed;refine IA (X:=X.pinned (X.pn++pins)) I1 hst hfr I1.ok.frames hy tb1 λs2 I2 t2=>HG (to:=none) I2 hy t2 λs3 I3 t3=>?_;obtain⟨oe,vs,ge,hcl,hdi,hda,hz⟩:=HK.get I3.hok hy;have J3:yV X pins σ1 H1 s3:=I3.unpin;refine wpAny_handleBy_cons (codeAny_handlers_test ?_) (by intro z;cases z);refine EZ (X:=X.mark (.ref y)) (J3.mark _) hg hm ?_ hdb;refine Mn J3.kIn mc ge hcl ?_;refine codeAny_handlers_suite_as ?_;refine HG (X:=(X.pinned (X.pn++pins))) (to:=none) I3 hy t3 λs4 I4 t4=>?_;have J4:yV X pins σ1 H1 s4:=I4.unpin;refine FY (X:=X.mark (.ref y)) (J4.mark _) hN hi (.inl hl) (v:=.ref y) rfl (λs5 I5=>?_) (.inr hl);refine kJ (hh (.ref y) pins s5 _ H1 (behind D i) I5 (q y σ1 hy I1.len)) (λf s6 h6=>?_) λ_ _ z=>z.elim;have go: ∀{σ6:St} {H6:Hp} {P:Flow->Shared->Prop},yV (X.mark (.ref y)) pins σ6 H6 s6->(∀s7,yV X pins (σ6.set i none) H6 s7->P f s7)->wpAny (model X.prog X.w) X.A (do bindName X.env n .none;unbindBehindTheSuite X.env n hpos) (λ_ s7=>P f s7) X.xe s6:=
   fun{σ6 H6 P} I6 k=>Pw (yV.unmark I.ok.hd I6) hN hi hl k
  cases f with
  |next=>obtain⟨σ6,H6,I6,q6⟩:=h6;exact go (P:=SP X pins D) I6 λs7 I7=>⟨_,H6,I7,q6⟩
  |brk=>obtain⟨σ6,H6,I6,q6⟩:=h6;exact go (P:=SP X pins D) I6 λs7 I7=>⟨_,H6,I7,q6⟩
  |cont=>obtain⟨σ6,H6,I6,q6⟩:=h6;exact go (P:=SP X pins D) I6 λs7 I7=>⟨_,H6,I7,q6⟩
  |ret u=>obtain⟨v,σ6,H6,I6,r,q6⟩:=h6;exact go (P:=SP X pins D) I6 λs7 I7=>⟨v,_,H6,I7,r,q6⟩
end
def Sk (K:PySem.W.Frag)(H:Hp):Nat->V->V->Prop
 |0,x,y=>AN x=true/\x=y
 |n+1,x,y=>(AN x=true/\x=y)\/ ∃a b xs ys,x=.ref a/\y=.ref b/\((Ef K H a xs/\Ef K H b ys)\/(DX K H a xs/\DX K H b ys))/\Paired (Sk K H n) xs ys
theorem Sk.flat {K:PySem.W.Frag}{H:Hp}{x:V}(h:AN x=true): ∀n,Sk K H n x x
 |0=>⟨h,rfl⟩
 |_+1=>.inl ⟨h,rfl⟩
theorem Mq: ∀{x:V},AN x=true->Mr x x=true
 | .non,_=>rfl
 | .bl b,_=>kR b
 | .int i,_=>kR i
 | .str z,_=>kR z
theorem Paired.get {α β:Type}{F:α->β->Prop}: ∀{xs:List α} {ys:List β},Paired F xs ys-> ∀(j:Nat) (x:α) (y:β),xs[j]? =some x->ys[j]? =some y->F x y
 |_,_,.nil,j,x,y,h,_=>by simp at h
 |_,_,.cons r t,0,x,y,h,q=>by simp at h q;subst h;subst q;exact r
 |_,_,.cons r t,j+1,x,y,h,q=>Paired.get t j x y (by simpa using h) (by simpa using q)
theorem Paired.len {α β:Type}{F:α->β->Prop}: ∀{xs:List α} {ys:List β},Paired F xs ys->xs.length=ys.length
 |_,_,.nil=>rfl
 |_,_,.cons _ t=>by simp[Paired.len t]
theorem Paired.imp {α β:Type}{F G:α->β->Prop}(h: ∀x y,F x y->G x y): ∀{xs:List α} {ys:List β},Paired F xs ys->Paired G xs ys
 |_,_,.nil=>.nil
 |_,_,.cons r t=>.cons (h _ _ r) (Paired.imp h t)
theorem Gv (n:Nat):(List.range n).all (λ_=>true)=true:=List.all_eq_true.mpr λ_ _=>rfl
section
variable {X:Cx}{pins:List (Addr×Obj)}{σ:St}{H:Hp}{s:Shared}
theorem EM {K:PySem.W.Frag}{xs ys:List V}{us vs:List Value}{R:V->V->Prop}(p:Paired R xs ys)(r:xT xs us)(q:xT ys vs)(P:Value->Value->Prop)(h: ∀x y u v,R x y->jM x u->jM y v->P u v):
  us.toArray.size=vs.toArray.size/\ ∀j (h1:j<us.toArray.size) (h2:j<vs.toArray.size),P us.toArray[j] vs.toArray[j]:=by
 refine⟨?_,λj h1 h2=>?_⟩
 ·have e1:=r.length;have e2:=q.length;have e3:=Paired.len p;simp only[zV];lia
 ·have l1:j<us.length:=by simpa using h1
  have l2:j<vs.length:=by simpa using h2
  have e1:=r.length;have e2:=q.length;have g1:xs[j]? =some xs[j]:=zG (by lia);have g2:ys[j]? =some ys[j]:=zG (by lia);simp only[List.getElem_toArray];exact h _ _ _ _ (Paired.get p j _ _ g1 g2) (Paired.get r j _ _ g1 (zG l1)) (Paired.get q j _ _ g2 (zG l2))
theorem KH (I:yV X pins σ H s): ∀(n:Nat) (x y:V) (u v:Value) (A:Around),Sk X.K H n x y->jM x u->jM y v->A.units+n<=cLine->SeqAt.EqAt A s u v true
 |0,x,y,u,v,A,⟨f,e⟩,ru,rv,_=>by subst e;rw[<-Mq f];exact NO ru rv f f
 |n+1,x,y,u,v,A,.inl ⟨f,e⟩,ru,rv,_=>by subst e;rw[<-Mq f];exact NO ru rv f f
 |n+1,x,y,u,v,A,.inr ⟨a,b,xs,ys,ex,ey,hs,p⟩,ru,rv,hu=>by
  subst ex ey;cases ru;cases rv
  by_cases hab:a=b
  ·subst hab;exact SeqAt.EqAt.same _
  refine SeqAt.EqAt.of_refs hab ?_
  rcases hs with⟨ha,hb⟩|⟨ha,hb⟩
  ·obtain⟨us,r,pa,_⟩:=I.list ha;obtain⟨vs,q,pb,_⟩:=I.list hb;obtain⟨sz,he⟩:=EM (K:=X.K) p r q (λu v=>SeqAt.EqAt A.in1 s u v true) λx y u v e ru rv=>KH I n x y u v A.in1 e ru rv (by show A.units+1+n<=_;lia);have:=SeqAt.RcAt.lists (e:=λ_=>true) pa.isList pb.isList sz (by lia) he
   rwa [Gv]at this
  ·obtain⟨us,r,pa,_⟩:=I.tuple ha;obtain⟨vs,q,pb,_⟩:=I.tuple hb;obtain⟨sz,he⟩:=EM (K:=X.K) p r q (λu v=>SeqAt.EqAt A.in1 s u v true) λx y u v e ru rv=>KH I n x y u v A.in1 e ru rv (by show A.units+1+n<=_;lia);have:=SeqAt.RcAt.tuples (e:=λ_=>true) pa pb (by lia) he;rw[Gv,sz,kR]at this;exact this
inductive Wk (K:PySem.W.Frag) (k:Bool) (x:V) (y:V) (H:Hp) (Q:VK):Prop
 |mk (a b xs ys n:_) (h0:x=.ref a) (h1:y=.ref b) (h2:((Ef K H a xs/\Ef K H b ys)\/(DX K H a xs/\DX K H b ys))) (h3:Paired (Sk K H n) xs ys) (h4:n<=100) (h5:Q (.bl k) H):Wk K k x y H Q
theorem Kr {k:Nat}(hr:wK k X.A):HI X (compareOp .NotEq) (Wk X.K false):=by
 intro pins s σ H x y v u Q I rx ry h;obtain⟨a,b,xs,ys,n,rfl,rfl,hs,p,hn,q⟩:=h;cases rx;cases ry;have hu:=hr.un
 rcases hs with⟨ha,hb⟩|⟨ha,hb⟩
 ·obtain⟨us,r,pa,_⟩:=I.list ha;obtain⟨vs,q',pb,_⟩:=I.list hb;obtain⟨sz,he⟩:=EM (K:=X.K) p r q' (λu v=>SeqAt.EqAt X.A.in1 s u v true) λx y u v e ru rv=>KH I n x y u v X.A.in1 e ru rv (by show X.A.units+1+n<=_;lia);have:=SeqAt.RcNeAt.lists (e:=λ_=>true) pa.isList pb.isList sz (by lia) he;rw[Gv]at this;exact this _ _ _ _ ⟨.bl false,H,I,rfl,q⟩
 ·obtain⟨us,r,pa,_⟩:=I.tuple ha;obtain⟨vs,q',pb,_⟩:=I.tuple hb;obtain⟨sz,he⟩:=EM (K:=X.K) p r q' (λu v=>SeqAt.EqAt X.A.in1 s u v true) λx y u v e ru rv=>KH I n x y u v X.A.in1 e ru rv (by show X.A.units+1+n<=_;lia);have:=SeqAt.RcNeAt.tuples (e:=λ_=>true) pa pb (by lia) he;rw[Gv,sz,kR]at this;exact this _ _ _ _ ⟨.bl false,H,I,rfl,q⟩
def OS (i j:Int):Prop:=0<j/\j.natAbs.log2<8000
theorem LO:HI X (binaryOp .FloorDiv) (rI OS λi j=>.int (i / j)):=Xh λi j _ _ _ _ _ hc q=>by
 rw[<-Int.fdiv_eq_ediv_of_nonneg i (by have:=hc.1;lia)]at q;exact floordiv_int (by have:=hc.1;lia) q (.inl (PyProof.noPylong_of_log2 (by have:=hc.2;lia)))
def Xz (t:TS):TS:=λD σ H=> ∃P:St->Hp->Prop,t {D with nx:=P} σ H/\ ∀σ' H',P σ' H'->D.nx σ' H'
theorem Nj {st:Stmt}{t:TS}(h:PS X st t):PS X st (Xz t):=by
 refine⟨?_⟩;intro pins s σ H D I hw;obtain⟨P,h1,h2⟩:=hw;refine kJ (h pins s σ H _ I h1) (λf s' q=>?_) λ_ _ z=>z;cases f with
 |next=>obtain⟨σ1,H1,I1,q⟩:=q;exact⟨σ1,H1,I1,h2 _ _ q⟩
 |brk=>exact q
 |cont=>exact q
 |ret u=>exact q
structure IV (P:Program)(w:World)(K:PySem.W.Frag)(mg:Str->Option Value)(base:Heap)(CX:Gy)(k:Nat)(C:Addr)(m:Str)(ps:List Str)(sp:Sp):Prop where
 ex: ∃f fd,Ap P w K mg base CX k f fd ps sp/\OR K C/\TK K C m f/\wT K fd ps []
end
section
variable {X:Cx}{o e:Expr}{es:List Expr}{m:Str}{apos pos:Pos}{ta:TE}{t:TA}{E:XK}{C:Addr}
theorem AL {CX:Gy}{k n:Nat}{ps:List Str}{sp:Sp}{pl:Sem Bool}(he:PE X o ta)(G:IV X.prog X.w X.K X.mg X.base CX k C m ps sp)(hr:wK n X.A)(ha:PA X (e::es) t)(hx:uW CX X E)(hk:k<=n:=by first|decide|lia)
  (hst:starEach (e::es) X.env=(false,eval e X.env)::starEach es X.env:=by rfl) (hpl:(backTo pos (starEach es X.env)).any (·.1)=false:=by rfl)
  (ht:eval (.Call (.Attribute o m apos) (e::es) [] pos) X.env=(do
   let ov<-eval o X.env
   standAt apos.atName
   let(f,first)<-holding [ov] (getMethod ov m pl)
   callWith pos f first (backTo pos (starEach (e::es) X.env)) (backToKw pos (keywordEach [] X.env))):=by rfl):
  PE X (.Call (.Attribute o m apos) (e::es) [] pos) (Od C m sp [] E ta t):=by
 obtain⟨f,fd,F,c,hm,hb⟩:=G.ex;exact SH he c hm F (hr.mono hk) hb .nil hx ha hst hpl ht
theorem Jf {CX:Gy}{k n:Nat}{ps:List Str}{sp:Sp}{pl:Sem Bool}(he:PE X o ta)(G:IV X.prog X.w X.K X.mg X.base CX k C m ps sp)(hr:wK n X.A)(hx:uW CX X E)(hk:k<=n:=by first|decide|lia)
  (ht:eval (.Call (.Attribute o m apos) [] [] pos) X.env=(do
   let ov<-eval o X.env
   standAt apos.atName
   let(f,first)<-holding [ov] (getMethod ov m pl)
   callWith pos f first (backTo pos (starEach [] X.env)) (backToKw pos (keywordEach [] X.env))):=by rfl):
  PE X (.Call (.Attribute o m apos) [] [] pos) (Od C m sp [] E ta Ln):=by
 obtain⟨f,fd,F,c,hm,hb⟩:=G.ex;exact QO he c hm F (hr.mono hk) hb .nil hx ht
theorem LK {f:Str}{te:TE}(K:PySem.W.Frag)(hK:X.K=K)(he:PE X e te)(hb:attributeBase e f X.env (eval e X.env)=eval e X.env:=by rfl):PE X (.Attribute e f pos) (TX K te f):=by
 subst hK;exact SK he hb
structure Sl (P:Program)(w:World)(K:PySem.W.Frag)(mg:Str->Option Value)(base:Heap)(CX:Gy)(k:Nat)(x:Str)(C:Addr)(ps:List Str)(sp:Sp):Prop where
 ex: ∃f fd,Mk K C f/\Ap P w K mg base CX k f fd ps sp/\mg x=some (.ref C)/\wT K fd ps []
theorem LJ {x:Str}{p:Pos}{CX:Gy}{k n:Nat}{ps:List Str}{sp:Sp}(G:Sl X.prog X.w X.K X.mg X.base CX k x C ps sp)(hr:wK n X.A)(hg:Gl X x)(ha:PA X (e::es) t)(hx:uW CX X E)(hk:k+1<=n:=by first|decide|lia)
  (hdb:(x==("__debug__":Str))=false:=by decide) (he:starEach (e::es) X.env=(false,eval e X.env)::starEach es X.env:=by rfl) (hpl:(backTo pos (starEach es X.env)).any (·.1)=false:=by rfl):
  PE X (.Call (.Name x p) (e::es) [] pos) (TU C sp [] E t):=by
 obtain⟨f,fd,M,F,hm,hb⟩:=G.ex;exact SJ M F (hr.mono hk) hg hm hb .nil hx ha hdb he hpl
structure Ds (P:Program)(w:World)(K:PySem.W.Frag)(mg:Str->Option Value)(base:Heap)(k:Nat)(x:Str)(C:Addr)(ps:List Str)(sp:Sp):Prop where
 ex: ∃f fd,MF K C f/\Ap P w K mg base (Fd P w) k f fd ps sp/\mg x=some (.ref C)/\wT K fd ps []
theorem jW {x:Str}{np cpos:Pos}{k n:Nat}{ps:List Str}{sp:Sp}(G:Ds X.prog X.w X.K X.mg X.base k x C ps sp)(hr:wK n X.A)(hg:Gl (X.exc E) x)(ha:PA (X.exc E) (e::es) t)(hc:X.calm=true:=by rfl)(hk:k+1<=n:=by first|decide|lia)
  (hdb:(x==("__debug__":Str))=false:=by decide) (he:starEach (e::es) X.env=(false,eval e X.env)::starEach es X.env:=by rfl) (hpl:(backTo cpos (starEach es X.env)).any (·.1)=false:=by rfl):
  PS (X.exc E) (.Raise (some (.Call (.Name x np) (e::es) [] cpos)) none pos) (Qx C sp E t):=by
 obtain⟨f,fd,M,F,hm,hb⟩:=G.ex;exact QJ M F (hr.mono hk) hg hm hb ha hc hdb he hpl
end
end L2
namespace L2
open PySem PySem.Spec PySem.Builtin.Str PyProof.Rows
section
variable {X:Cx}
theorem IX: ∀(ts:List Str) (k:Nat),xT (ts.map V.str) (strsFrom k ts)
 |[],_=>.nil
 |x::r,k=>.cons ⟨k,rfl⟩ (IX r (k+1))
def Si (mg:Str->Option Value)(x z:Str):Prop:= ∃t,mg x=some (.str z t)
theorem HE {x z:Str}{pos:Pos}(hg:Gl X x)(hm:Si X.mg x z)(hd:(x==("__debug__":Str))=false:=by decide):PE X (.Name x pos) (tC (.str z)):=by
 obtain⟨t,hm⟩:=hm;exact Ko (v:=.str z) hg hm ⟨t,rfl⟩ hd
inductive QG (x:V) (vs:List V) (H:Hp) (Q:VK):Prop
 |mk (t sep:Str) (h0:x=.str t) (h1:vs=[.str sep]) (h2:(sep.length==0)=false) (h3:t.length<=sizeLine) (h4:(Txt.split t sep).length<=sizeLine) (h5: ∀p,H p=none->Q (.ref p) (upd H p (.lst ((Txt.split t sep).map V.str)))):QG x vs H Q
theorem Rr:TJ X "str.split" QG:=by
 intro pins s σ H x vs v us Q I rx rv h;obtain⟨t,sep,rfl,rfl,hs,hz,hn,q⟩:=h;obtain⟨tk,rfl⟩:=rx;obtain⟨u,rfl,ru⟩:=rv.one;obtain⟨tk2,rfl⟩:=ru;have one:Txt.split t sep=[t]-> ∀k',EP X pins σ Q (.ref s.heap.objs.size) {s with heap:=s.heap.push {cls:=.type "list",data:=.seq [Value.str t tk].toArray},toks:=k'}:=λe k'=>by
  have q':=q _ I.fresh;rw[e]at q' hn;exact⟨.ref s.heap.objs.size,_,I.lnew (ys:=[V.str t]) (.cons ⟨tk,rfl⟩ .nil) hn,rfl,q'⟩
 cases h1:(decide (t.length<sep.length) || decide (PySem.Builtin.Str.strKind t<PySem.Builtin.Str.strKind sep))
 ·cases hf:(occurrences t sep 0 t.length (t.length+1)).isEmpty
  ·have e:Txt.split t sep=partsBetween t (occurrences t sep 0 t.length (t.length+1)) sep.length:=(zH (Bl h1)).trans (zH (Bl hf));rw[e]at hn q;refine qX DB (uY _ _ _) CH (BM _ _) (meets_str_split_sep t sep tk tk2 h1 hs hf hz hn) ?_;exact⟨.ref s.heap.objs.size,_,I.lnew (IX _ _) (by rw[zF];exact hn),rfl,q _ I.fresh⟩
  ·have e:Txt.split t sep=[t]:=(zH (Bl h1)).trans (zR hf);exact qX DB (uY _ _ _) CH (BM _ _) (meets_str_split_not_found t sep tk tk2 h1 hs hf) (one e _)
 ·have e:Txt.split t sep=[t]:=zR h1;exact qX DB (uY _ _ _) CH (BM _ _) (meets_str_split_cannot_occur t sep tk tk2 h1) (one e _)
inductive Ol (x:V) (vs:List V) (H:Hp) (Q:VK):Prop
 |mk (t y:Str) (h0:x=.str t) (h1:vs=[.str y]) (h2:Q (.bl (decide (0+y.length<=t.length)&&subAt t y 0)) H):Ol x vs H Q
theorem Px:TJ X "str.startswith" Ol:=by
 intro pins s σ H x vs v us Q I rx rv h;obtain⟨t,y,rfl,rfl,q⟩:=h;obtain⟨tk,rfl⟩:=rx;obtain⟨u,rfl,ru⟩:=rv.one;obtain⟨tk2,rfl⟩:=ru;exact qX F.slot_str_startswith (uY _ _ _) F.entry_str_startswith (F.args_str_startswith_2 _ _) (gives_str_startswith t y tk tk2).meets ⟨.bl _,H,I,rfl,q⟩
theorem KL:EL X (.type "int") (λxs H Q=> ∃(x:Str) (n:Int),xs=[.str x]/\PySem.intText? x=some n/\x.length<=640/\Q (.int n) H):=by
 intro pins s σ H xs us Q I r h;obtain⟨x,n,rfl,hn,hl,q⟩:=h;obtain⟨u,rfl,t,rfl⟩:=HL r;exact PySem.W.KIN.call_text hn hl ⟨.int _,H,I.tok _,⟨_,rfl⟩,q⟩
def ME (x:Str):It:=⟨λi _=>i<x.cps.size,λi H v H'=>H'=H/\ ∃c,x.cps[i]? =some c/\v=.str ⟨#[c]⟩,λi _=>x.cps.size<=i⟩
inductive Ui (v:V) (H1:Hp) (R:It->Hp->Prop):Prop
 |mk (x:Str) (h0:v=.str x) (h1:R (ME x) H1):Ui v H1 R
def XN (tl:TE):TI:=λσ H R=>tl σ H λv H1=>Ui v H1 R
theorem Ei (x:Str):strIterType x="str_ascii_iterator"\/strIterType x="str_iterator":=by
 unfold strIterType;split
 ·exact .inl rfl
 ·exact .inr rfl
theorem Qs {P:Program}{w:World}{K:PySem.W.Frag}{tg:Expr}(it:Addr)(x:Str)(t:Tok):KO P w K tg (ME x) [it] it (λi h=>h.IsStrIter it (strIterType x) x t i) where
 mem:=by simp
 obj:=λi h st b hb=>by
  have e:b=it:=by simpa using hb
  subst e;obtain⟨o,e,c,d⟩:=st;exact⟨o,e,λv z=>by rw[d]at z;cases z⟩
 keep:=λi h h' st k=>by
  obtain⟨o,e,r⟩:=st;exact⟨o,k it (by simp) o e,r⟩
 item:=by
  intro X hP hw hK hc i pins s σ H E I hf st hg;subst hP hw hK;obtain⟨f0,f1,f2,f3,f4,f5⟩:=hf it (by simp);have hx:x.cps[i]? =some (x.cps[i]'hg):=vV hg;generalize x.cps[i]'hg=c at hx;have I1: ∀h',Heap.SameBut it s.heap h'->yV X pins σ H {s with heap:=h',toks:=s.toks+1}:=λh' sb=>I.turned (t':=s.toks+1) (λb o hb e=>(sb.2 b hb).trans e) f0 f1 f3 f4 f5
  rcases Ei x with e|e
  ·rw[e]at st ⊢;refine wpAny_pyNext_ascii_item st hx λh' st' sb=>?_;obtain⟨o,e,cl,d⟩:=id st';exact⟨_,rfl,Ix (s:={s with heap:=h',toks:=s.toks+1}) e cl d (by decide) ⟨.str ⟨#[c]⟩,H,I1 h' sb,⟨_,rfl⟩,⟨rfl,c,hx,rfl⟩,st',λb hb=>(hf b hb).1⟩⟩
  ·rw[e]at st ⊢;refine wpAny_pyNext_wide_item st hx λh' st' sb=>?_;obtain⟨o,e,cl,d⟩:=id st';exact⟨_,rfl,Ix (s:={s with heap:=h',toks:=s.toks+1}) e cl d (by decide) ⟨.str ⟨#[c]⟩,H,I1 h' sb,⟨_,rfl⟩,⟨rfl,c,hx,rfl⟩,st',λb hb=>(hf b hb).1⟩⟩
 done:=by
  intro X hP hw hK hc i pins s σ H E I hf st hg;subst hP hw hK;obtain⟨f0,f1,f2,f3,f4,f5⟩:=hf it (by simp);have hx:x.cps[i]? =none:=Array.getElem?_eq_none hg
  rcases Ei x with e|e
  ·rw[e]at st;exact wpAny_pyNext_ascii_end (I.ok.hd hc) st hx λh' eb=>⟨rfl,I.turned (t':=s.toks) (λb o hb e=>eb b o hb e) f0 f1 f3 f4 f5⟩
  ·rw[e]at st;exact wpAny_pyNext_wide_end (I.ok.hd hc) st hx λh' eb=>⟨rfl,I.turned (t':=s.toks) (λb o hb e=>eb b o hb e) f0 f1 f3 f4 f5⟩
 self:=by
  intro A i s Q E st h
  rcases Ei x with e|e
  ·rw[e]at st;exact wpAny_pyIter_striter_ascii st h
  ·rw[e]at st;exact wpAny_pyIter_striter_wide st h
theorem UP {tg l:Expr}{tl:TE}(hl:PE X l tl):PI X tg l (XN tl):=by
 refine⟨?_⟩;intro pins s σ H R I h;refine kB (hl pins s σ H _ I h) λv s1 z=>?_;obtain⟨y,H1,I1,r1,x,rfl,q⟩:=z;obtain⟨t,rfl⟩:=r1;refine wpAny_pyIter_strU ?_;refine⟨s1.heap.objs.size,[s1.heap.objs.size],_,_,H1,rfl,I1.kept (t':=s1.toks) λb o e=>zD _ e,Qs _ x t,⟨_,yC _ rfl,rfl,rfl⟩,λb hb=>?_,q⟩;have e:b=s1.heap.objs.size:=by simpa using hb
 subst e;exact I1.fpOk (zP _) (I1.hok.fresh (zP _))
theorem Tq {x:Str}{g:TG}{tb:TS}{D:Eg}{σ:St}{H:Hp}(Pv:Nat->St->Hp->Prop)(h0:Pv 0 σ H)
  (hs: ∀i c σ H,x.cps[i]? =some c->Pv i σ H->g (.str ⟨#[c]⟩) σ H λσ2 H2=>tb {D with nx:=Pv (i+1),ct:=Pv (i+1),bk:=D.nx} σ2 H2) (hd: ∀σ H,Pv x.cps.size σ H->D.nx σ H):
  ∃W:Nat->Nat->St->Hp->Prop,(∃m,W 0 m σ H)/\ ∀i m σ H,W i m σ H->
   ((ME x).stop i H/\D.nx σ H)\/((ME x).go i H/\ ∃N:St->Hp->Prop,(∀σ' H',N σ' H'-> ∃m',m'<m/\W (i+1) m' σ' H')/\ ∀v H',(ME x).yld i H v H'->g v σ H' λσ2 H2=>tb {D with nx:=N,ct:=N,bk:=D.nx} σ2 H2):=by
 refine⟨λi m σ H=>m=x.cps.size-i/\i<=x.cps.size/\Pv i σ H,⟨x.cps.size,rfl,xA _,h0⟩,?_⟩;rintro i m σ H ⟨rfl,hi,p⟩
 by_cases hlt:i<x.cps.size
 ·refine .inr ⟨hlt,Pv (i+1),λσ' H' p'=>⟨x.cps.size-(i+1),by lia,rfl,hlt,p'⟩,λv H' y=>?_⟩;obtain⟨e,c,hx,rfl⟩:=y;subst e;exact hs i c σ _ hx p
 ·have e:i=x.cps.size:=by lia
  subst e;exact .inl ⟨zP _,hd σ H p⟩
end
end L2
namespace L2
open PySem
def wB (c:Nat):List (List Nat)->List Nat
 |[]=>[]
 |[a]=>a
 |a::b::r=>a++c::wB c (b::r)
theorem NJ (c:Nat)(a:List Nat)(r:List (List Nat)): ∃x,wB c (a::r)=a++x/\((r=[]/\x=[])\/(r≠[]/\x=c::wB c r)):=by
 cases r with
 |nil=>exact⟨[],(by rw[yY];rfl),.inl ⟨rfl,rfl⟩⟩
 |cons b r=>exact⟨_,rfl,.inr ⟨(λz=>nomatch z),rfl⟩⟩
theorem uH (c:Nat): ∀ts:List Str,(Str.join ⟨#[c]⟩ ts).cps.toList =wB c (ts.map λt=>t.cps.toList)
 |[]=>rfl
 |[t]=>rfl
 |t::u::r=>by
  have ih:=uH c (u::r);show(t++⟨#[c]⟩++Str.join ⟨#[c]⟩ (u::r)).cps.toList =t.cps.toList++c::wB c ((u::r).map λt=>t.cps.toList);rw[<-ih];show(t.cps++#[c]++(Str.join ⟨#[c]⟩ (u::r)).cps).toList =_
  simp
theorem Tx {ts us:List Str}(h:ts.map (λt=>t.cps.toList)=us.map (λt=>t.cps.toList)):ts=us:=by
 induction ts generalizing us with
 |nil=>cases us with
  |nil=>rfl
  |cons u us=>cases h
 |cons t ts ih=>cases us with
  |nil=>cases h
  |cons u us=>
   rw[yM,yM]at h;injection h with h1 h2
   rw[ih h2];obtain⟨a⟩:=t;obtain⟨b⟩:=u;have:a=b:=Array.toList_inj.mp h1;rw[this]
open PySem.NumText PySem.W
abbrev AC (n:Int):Str:=Str.ofString (toString n)
abbrev FO (m:Nat):List Nat:=(Nat.toDigits 10 m).map Char.toNat
theorem Gq {m:Nat}(h:m<10):FO m=[48+m]:=by
 have: ∀m:Fin 10,(Nat.digitChar m.1).toNat =48+m.1:=by decide
 show(Nat.toDigits 10 m).map Char.toNat=_;rw[Nat.toDigits_of_lt_base h];show[(Nat.digitChar m).toNat]=_;rw[this ⟨m,h⟩]
theorem KJ {m:Nat}(h: ¬m<10):FO m=FO (m / 10)++[48+m % 10]:=by
 have hm:m % 10<10:=Nat.mod_lt m (by decide);have t:Nat.toDigits 10 (m / 10)++Nat.toDigits 10 (m % 10)=Nat.toDigits 10 (10*(m / 10)+m % 10):=Nat.toDigits_append_toDigits (by decide) (by lia) hm;rw[Nat.div_add_mod]at t;show(Nat.toDigits 10 m).map Char.toNat=_;rw[<-t,xH];have:=Gq hm;show FO (m / 10)++FO (m % 10)=_;rw[this]
theorem Do (m:Nat):AllDigits (FO m):=by
 induction m using Nat.strongRecOn with
 |_ m ih=>
  intro c hc
  by_cases h:m<10
  ·rw[Gq h]at hc;rw[List.mem_singleton.mp hc];lia
  ·rw[KJ h]at hc
   rcases List.mem_append.mp hc with z|z
   ·exact ih (m / 10) (by lia) c z
   ·rw[List.mem_singleton.mp z];have:m % 10<10:=Nat.mod_lt m (by decide);lia
theorem Fc (m:Nat): ∃c r,FO m=c::r/\(m≠0->c≠48):=by
 induction m using Nat.strongRecOn with
 |_ m ih=>
  by_cases h:m<10
  ·exact⟨_,_,Gq h,λz=>by lia⟩
  ·obtain⟨c,r,e,n⟩:=ih (m / 10) (by lia);exact⟨c,r++[48+m % 10],by rw[KJ h,e];rfl,λ_=>n (by lia)⟩
theorem Gr: ∀{k m:Nat},m<10^(k+1)->(FO m).length<=k+1
 |0,m,h=>by rw[Gq (by lia)];exact zP _
 |k+1,m,h=>by
  by_cases c:m<10
  ·rw[Gq c];show 1<=_;lia
  ·have:m / 10<10^(k+1):=by
    rw[Nat.pow_succ]at h;exact Nat.div_lt_of_lt_mul (by rw[Nat.mul_comm];exact h)
   have:=Gr this;rw[KJ c,zC];show _+1<=_;lia
theorem Mu (m:Nat):digitsVal (FO m)=m:=KIN.val_back m
theorem Gk (n:Int):(0<=n/\(AC n).cps.toList =FO n.natAbs)\/(n<0/\(AC n).cps.toList =45::FO n.natAbs):=by
 cases n with
 |ofNat m=>exact .inl ⟨Int.natCast_nonneg m,KIN.signs_num m⟩
 |negSucc m=>
  refine .inr ⟨Int.negSucc_lt_zero m,?_⟩;have e:toString (Int.negSucc m)="-"++Nat.repr (m+1):=rfl;show(Str.ofString (toString (Int.negSucc m))).cps.toList =45::(Nat.toDigits 10 (m+1)).map Char.toNat;rw[e,PyProof.Rows.signs_ofString];rw[String.toList_append,xH,Nat.toList_repr];rfl
theorem Rm {n:Int}(h:n.natAbs<10^600):PySem.intText? (AC n)=some n/\(AC n).length<=601:=by
 have hl:(FO n.natAbs).length<=600:=Gr (k:=599) h;obtain⟨c,r,e,_⟩:=Fc n.natAbs;have ne:FO n.natAbs≠[]:=by rw[e];exact λz=>nomatch z
 have ln:(AC n).cps.toList.length =(AC n).length:=yI
 rcases Gk n with⟨h0,hc⟩|⟨h0,hc⟩
 ·rw[hc]at ln;refine⟨?_,by lia⟩;rw[intText_digits (by rw[hc];exact Do _) (by rw[hc];exact ne) (by lia),hc,Mu];exact xM some (by lia)
 ·rw[hc,zJ]at ln;refine⟨?_,by lia⟩;rw[intText_neg hc (Do _) ne (by lia),Mu];exact xM some (by lia)
theorem Sv (c:Nat)(x:Str):(!(Builtin.Str.occurrences x ⟨#[c]⟩ 0 x.length 1).isEmpty)=decide (c∈x.cps.toList):=StrLaws.found_one x c
def Bk (w sg:Str):Bool:=w.cps.toList.all λc=>decide (c∈sg.cps.toList)
def vA (x:Str):Str:=match x.cps.toList with
 |45::r=>⟨r.toArray⟩
 |_=>x
theorem PB:(Str.ofString "-")=⟨#[45]⟩:=by decide
theorem FZ (x:Str):(decide (0+(Str.ofString "-").length<=x.length)&&Builtin.Str.subAt x (Str.ofString "-") 0)=true ↔ x.cps.toList[0]? =some 45:=by
 rw[jH,decide_eq_true_eq,PB];exact StrLaws.subAt_one x 45 0
theorem DW {x:Str}{r:List Nat}(h:x.cps.toList=45::r):vA x=⟨r.toArray⟩/\Txt.slice x (some 1) none=⟨r.toArray⟩:=by
 constructor
 ·unfold vA;rw[h]<;>rfl
 ·have hl:x.cps.toList.length=x.length:=yI;rw[h,zJ]at hl;have e:=eq_of_beq (PyProof.Rows.slice_closes_fromL (x:=x) (i:=1) (b:=(x.length:Int)) (by decide) (by lia) rfl);rw[e,h];show(⟨((45::r).drop 1 |>.take ((x.length:Int)-1).toNat).toArray⟩:Str)=_;rw[List.drop_one,List.tail_cons,kO (by lia)]
theorem BI {x:Str}(h: ¬x.cps.toList[0]? =some 45):vA x=x:=by
 unfold vA;split
 ·rename_i r e;rw[e]at h;exact absurd rfl h
 ·rfl
theorem RO (x:Str):(vA x).length<=x.length:=by
 by_cases c:x.cps.toList[0]? =some 45
 ·obtain⟨r,er⟩: ∃r,x.cps.toList=45::r:=by
   cases e:x.cps.toList with
   |nil=>rw[e]at c;cases c
   |cons a r=>rw[e]at c;cases c;exact⟨r,rfl⟩
  have hl:x.cps.toList.length=x.length:=yI;rw[er,zJ]at hl;rw[(DW er).1];show r.toArray.size<=_;rw[zV];lia
 ·rw[BI c];exact zP _
def uF (x:Str)(most:Int):Bool:=decide (1<=(vA x).length)&&decide (((vA x).length:Int)<=most)&&Bk (vA x) "0123456789"&&(decide (x="0") || !decide ((vA x).cps.toList[0]? =some 48))
theorem RN (n:Int):(vA (AC n)).cps.toList =FO n.natAbs:=by
 rcases Gk n with⟨_,e⟩|⟨_,e⟩
 ·rw[BI (λz=>?_),e];obtain⟨c,r,ed,_⟩:=Fc n.natAbs;have:=Do n.natAbs c (by rw[ed];exact zM);rw[e,ed]at z;cases z;lia
 ·rw[(DW e).1]
theorem Hq:(Str.ofString "0123456789").cps.toList =[48,49,50,51,52,53,54,55,56,57]:=by decide
theorem PU {c:Nat}(h:48<=c/\c<=57):c∈(Str.ofString "0123456789").cps.toList:=by
 rw[Hq];have:c=48\/c=49\/c=50\/c=51\/c=52\/c=53\/c=54\/c=55\/c=56\/c=57:=by lia
 simpa using this
theorem Jj {n:Int}{k:Nat}{most:Int}(h:n.natAbs<10^(k+1))(hk:((k+1:Nat):Int)<=most):uF (AC n) most=true:=by
 have ef:=RN n;have hl:(vA (AC n)).cps.toList.length =(vA (AC n)).length:=yI;obtain⟨c,r,ed,hn⟩:=Fc n.natAbs;have dl:=Gr h;rw[ef]at hl;have l1:1<=(FO n.natAbs).length:=by rw[ed];exact Nat.succ_le_succ (xA _)
 have ia:Bk (vA (AC n)) "0123456789"=true:=by
  unfold Bk;rw[ef,wD];intro d hd;exact yA (PU (Do _ d hd))
 unfold uF;rw[yA (by lia),yA (by lia),ia,ef,ed]
 by_cases z:n=0
 ·subst z;rw[yA (show AC 0=("0":Str)by decide)];rfl
 ·have:c≠48:=hn (by lia);rw[yD (show ¬(c::r)[0]? =some 48 from λe=>this (by injection e))]
  simp
theorem Ps {n:Int}{c:Nat}(h:c∈(AC n).cps.toList):c=45\/(48<=c/\c<=57):=by
 rcases Gk n with⟨_,e⟩|⟨_,e⟩
 ·rw[e]at h;exact .inr (Do _ c h)
 ·rw[e]at h
  rcases List.mem_cons.mp h with z|z
  ·exact .inl z
  ·exact .inr (Do _ c z)
def OT (x:Str):Int:=(PySem.intText? x).getD 0
theorem Jk {x:Str}{most:Int}(h:uF x most=true):1<=(vA x).length/\((vA x).length:Int)<=most/\ ∀c∈(vA x).cps.toList,48<=c/\c<=57:=by
 unfold uF at h;rw[jH,jH,jH]at h;obtain⟨⟨⟨h1,h2⟩,h3⟩,_⟩:=h;refine⟨zO h1,zO h2,λc hc=>?_⟩;unfold Bk at h3;rw[wD]at h3;have:=zO (h3 c hc);rw[Hq]at this
 simp at this
 omega
theorem Pt {x:Str}(h:uF x 60=true):PySem.intText? x=some (OT x)/\x.length<=640:=by
 obtain⟨h1,h2,h3⟩:=Jk h;have hl:(vA x).cps.toList.length =(vA x).length:=yI;have ne:(vA x).cps.toList≠[]:=λz=>by rw[z]at hl;have:([]:List Nat).length =0:=rfl;lia
 by_cases c:x.cps.toList[0]? =some 45
 ·obtain⟨r,er⟩: ∃r,x.cps.toList=45::r:=by
   cases e:x.cps.toList with
   |nil=>rw[e]at c;cases c
   |cons a r=>rw[e]at c;cases c;exact⟨r,rfl⟩
  have ef:(vA x).cps.toList =r:=by rw[(DW er).1]
  rw[ef]at h3 ne hl;have hx:x.cps.toList.length=x.length:=yI;rw[er,zJ]at hx;refine⟨?_,by lia⟩;unfold OT;rw[intText_neg er h3 ne (by lia)];rfl
 ·have ef:=BI c;rw[ef]at h2 h3 ne hl;refine⟨?_,by lia⟩;unfold OT;rw[intText_digits h3 ne (by lia)];rfl
theorem Lj {n:Int}(h:n.natAbs<10^600):OT (AC n)=n:=by
 unfold OT;rw[(Rm h).1];rfl
def lettersS:Str:="abcdefghijklmnopqrstuvwxyz"
def kwH:List Str:=["fun","with","is"]
def kwW:List Str:=["set","all","pick","loop","call","fail","add","sub","mul","quo","rest","less","same","push","at","put","size","new"]
def jU (w:Str):Bool:=decide (1<=w.length)&&decide (w.length<=8)&&Bk w lettersS&&!decide (w∈kwH)&&!decide (w∈kwW)
def kQ:List (Str×Int)->Str->Option Int
 |[],_=>none
 |p::r,x=>if p.1=x then some p.2 else kQ r x
def FK:List Str->Int->List (Str×Int)->List (Str×Int)
 |[],_,acc=>acc
 |w::r,f,acc=>if w="fun" then FK r (f+1) (match r with|[]=>acc|n::_=>if(kQ acc n).isSome then acc else acc++[(n,f)])else FK r f acc
def EA (W:List Str):List (Str×Int):=FK W 0 []
def AW:List Str->Nat->Int×List Int
 |[],n=>(n,[])
 |w::r,n=>
  let q:=AW r (n+1)
  let e:Int:=if w="with" then n else q.1
  (e,if w="fun" then(e-n-2)::q.2 else q.2)
def Ee (W:List Str):List Int:=(AW W 0).2
section
variable (W:List Str)
def uA (a:Nat):Except Nat Str:=match W[a]? with|some w=>.ok w|none=>.error a
def Fg (a:Nat)(there:List Str):Except Nat Str:=match W[a]? with
 |some w=>if jU w=true/\w∉there then .ok w else .error a
 |none=>.error a
def qT (most:Nat)(last:Str):Nat->Nat->List Str->Except Nat (Nat×List Str)
 |0,a,_=>.error a
 |n+1,a,bs=>match W[a]? with
  |none=>.error a
  |some w=>if w=last then .ok (a+1,bs)else if bs.length=most then .error a else if jU w=true/\w∉bs then qT most last n (a+1) (bs++[w])else .error a
def KM (a:Nat)(bs:List Str):Except Nat Nat:=match W[a]? with
 |some w=>if w∈bs then .ok (bs.idxOf w)else .error a
 |none=>.error a
def Il (a:Nat):Except Nat Int:=match W[a]? with
 |some w=>if uF w 60=true then .ok (OT w)else .error a
 |none=>.error a
def Fo (a:Nat)(least:Int):Except Nat Int:=match Il W a with
 | .ok n=>if n<least\/12<n then .error a else .ok n
 | .error e=>.error e
def Bp (num:List (Str×Int))(a:Nat):Except Nat Int:=match W[a]? with
 |some w=>if jU w=true then(match kQ num w with|some f=>.ok f|none=>.error a)else .error a
 |none=>.error a
def Ed (num:List (Str×Int))(a:Nat)(k:Int)(bs:List Str):Except Nat (List Int×Nat):=
 if k=0 then(match Il W a with| .ok n=>.ok ([n],a+1)| .error e=>.error e)
 else if k=1\/k=2 then(match KM W a bs with| .ok n=>.ok ([(n:Int)],a+1)| .error e=>.error e)
 else if k=3 then(match Fo W a 1 with| .ok n=>.ok ([n],a+1)| .error e=>.error e)
 else if k=4 then(match Fo W a 2 with| .ok n=>.ok ([n],a+1)| .error e=>.error e)
 else if k=6 then(match Bp W num a with| .ok n=>.ok ([n],a+1)| .error e=>.error e)
 else .ok ([],a)
def Ea (a:Nat)(bs:List Str):Except Nat (Int×Nat):=match W[a]? with
 |some w=>if uF w 60=true then .ok (0,a)else if w∈bs then .ok (1,a)else if w∈kwW then .ok (2+(kwW.idxOf w:Int),a+1)else .error a
 |none=>.error a
end
def partsW:List Int:=[1,2,2,2,2,2,2,2,2,2,3,1,0]
def ID (cnt:List Int)(k:Int)(ns:List Int):Int:=
 if k=0\/k=1 then 0 else if k=2 then 1 else if k=3 then ns.headD 0 else if k=4 then 1+ns.headD 0 else if k=5 then 2
 else if k=6 then(cnt[(ns.headD 0).toNat]?).getD 0 else(partsW[(k-7).toNat]?).getD 0
abbrev VF:=Nat->List Int->Except Nat (Nat×List Int)
def vY (f:VF):Nat->VF
 |0,a,bd=>.ok (a,bd)
 |n+1,a,bd=>match f a bd with| .ok q=>vY f n q.1 q.2| .error e=>.error e
def Bi (W:List Str)(num:List (Str×Int))(cnt:List Int)(bs:List Str):Nat->VF
 |0,a,_=>.error a
 |d+1,a,bd=>match Ea W a bs with
  | .error e=>.error e
  | .ok q=>match Ed W num q.2 q.1 bs with
   | .error e=>.error e
   | .ok r=>vY (Bi W num cnt bs d) (ID cnt q.1 r.1).toNat r.2 (bd++q.1::r.1)
structure RS where
 at_:Nat
 names:List (Str×List Str)
 heads:List Int
 bodies:List Int
def IS (W:List Str)(num:List (Str×Int))(cnt:List Int)(s:RS):Except Nat RS:=match W[s.at_]? with
 |none=>.error s.at_
 |some w=>if w≠"fun"\/s.names.length=16 then .error s.at_ else match Fg W (s.at_+1) (s.names.map (·.1))with
  | .error e=>.error e
  | .ok nm=>match qT W (if s.names=[]then 0 else 4) "with" (W.length+1) (s.at_+2) []with
   | .error e=>.error e
   | .ok q=>match qT W 12 "is" (W.length+1) q.1 q.2 with
    | .error e=>.error e
    | .ok r=>match Bi W num cnt r.2 10 r.1 s.bodies with
     | .error e=>.error e
     | .ok z=>.ok ⟨z.1,s.names++[(nm,r.2)],s.heads++[(q.2.length:Int),(r.2.length:Int)],z.2⟩
def Fq (W:List Str)(num:List (Str×Int))(cnt:List Int):Nat->RS->Except Nat RS
 |0,s=>.ok s
 |n+1,s=>if s.at_<W.length then(match IS W num cnt s with| .error e=>.error e| .ok s'=>Fq W num cnt n s')else .ok s
def LA (W:List Str):Except Nat RS:=match IS W (EA W) (Ee W) ⟨0,[],[],[]⟩with
 | .error e=>.error e
 | .ok s=>Fq W (EA W) (Ee W) W.length s
def MZ (s:RS):List Int:=(s.names.length:Int)::(s.heads++s.bodies)
section
variable {W:List Str}{num:List (Str×Int)}{cnt:List Int}{bs:List Str}
theorem FN {a:Nat}{w:Str}(h:W[a]? =some w):a<W.length:=by
 rw[List.getElem?_eq_some_iff]at h;exact h.1
theorem Ou {a:Nat}{n:Int}(h:Il W a=.ok n):a<W.length:=by
 unfold Il at h;split at h
 ·rename_i w e;exact FN e
 ·cases h
theorem Tz {a n:Nat}(h:KM W a bs=.ok n):a<W.length/\n<bs.length:=by
 unfold KM at h;split at h
 ·rename_i w e;split at h
  ·rename_i m;cases h;exact⟨FN e,List.idxOf_lt_length_iff.mpr m⟩
  ·cases h
 ·cases h
theorem LZ {a:Nat}{l n:Int}(h:Fo W a l=.ok n):a<W.length/\l<=n/\n<=12:=by
 unfold Fo at h;split at h
 ·rename_i m e;split at h
  ·cases h
  ·cases h;exact⟨Ou e,by lia,by lia⟩
 ·cases h
theorem NR {a:Nat}{n:Int}(h:Bp W num a=.ok n):a<W.length:=by
 unfold Bp at h;split at h
 ·rename_i w e;exact FN e
 ·cases h
theorem Mb {a:Nat}{q:Int×Nat}(h:Ea W a bs=.ok q):a<W.length/\((q.1=0\/q.1=1)/\q.2=a\/2<=q.1/\q.1<=19/\q.2=a+1):=by
 unfold Ea at h;split at h
 ·rename_i w e;refine⟨FN e,?_⟩;split at h
  ·cases h;exact .inl ⟨.inl rfl,rfl⟩
  split at h
  ·cases h;exact .inl ⟨.inr rfl,rfl⟩
  split at h
  ·rename_i m;cases h;have:kwW.idxOf w<kwW.length:=List.idxOf_lt_length_iff.mpr m;have l:kwW.length=18:=rfl;refine .inr ⟨?_,?_,rfl⟩
   ·show 2<=2+(kwW.idxOf w:Int);lia
   ·show 2+(kwW.idxOf w:Int)<=19;lia
  ·cases h
 ·cases h
theorem Os {a:Nat}{k:Int}{r:List Int×Nat}(h:Ed W num a k bs=.ok r)(ha:a<=W.length):r.2<=W.length/\r.1.length<=1/\(k=0\/k=1->r.2=a+1)/\r.2<=a+1/\a<=r.2/\(k=3\/k=4\/k=6->r.1.length=1)/\(k=3\/k=4->1<=r.1.headD 0/\r.1.headD 0<=12):=by
 unfold Ed at h;split at h
 ·rename_i k0;split at h
  ·rename_i n e;cases h;have:=Ou e;dsimp only[List.length_cons,List.length_nil,List.headD];lia
  ·cases h
 split at h
 ·rename_i k0;split at h
  ·rename_i n e;cases h;have:=Tz e;dsimp only[List.length_cons,List.length_nil,List.headD];lia
  ·cases h
 split at h
 ·rename_i k0;split at h
  ·rename_i n e;cases h;have:=LZ e;dsimp only[List.length_cons,List.length_nil,List.headD];lia
  ·cases h
 split at h
 ·rename_i k0;split at h
  ·rename_i n e;cases h;have:=LZ e;dsimp only[List.length_cons,List.length_nil,List.headD];lia
  ·cases h
 split at h
 ·rename_i k0;split at h
  ·rename_i n e;cases h;have:=NR e;dsimp only[List.length_cons,List.length_nil,List.headD];lia
  ·cases h
 ·cases h;dsimp only[List.length_cons,List.length_nil,List.headD];lia
def WU (W:List Str)(f:VF):Prop:= ∀a bd q,a<=W.length->f a bd=.ok q->a<q.1/\q.1<=W.length/\q.2.length+2*a<=bd.length+2*q.1
theorem Ii {f:VF}(g:WU W f): ∀(n a:Nat) (bd:List Int) (q:Nat×List Int),a<=W.length->vY f n a bd=.ok q->a<=q.1/\q.1<=W.length/\q.2.length+2*a<=bd.length+2*q.1
 |0,a,bd,q,ha,h=>by cases h;exact⟨zP _,ha,zP _⟩
 |n+1,a,bd,q,ha,h=>by
  unfold vY at h;split at h
  ·rename_i r e;obtain⟨g1,g2,g3⟩:=g a bd r ha e;obtain⟨h1,h2,h3⟩:=Ii g n r.1 r.2 q g2 h;lia
  ·cases h
theorem Jo: ∀d,WU W (Bi W num cnt bs d)
 |0=>λa bd q _ h=>by cases h
 |d+1=>λa bd q ha h=>by
  unfold Bi at h;split at h
  ·cases h
  rename_i k e1;split at h
  ·cases h
  rename_i r e2;obtain⟨l1,l2⟩:=Mb e1;obtain⟨o1,o2,o3,o4,o5,_⟩:=Os e2 (by lia);obtain⟨p1,p2,p3⟩:=Ii (Jo d) _ _ _ _ o1 h;rw[zC,zJ]at p3
  rcases l2 with⟨lk,l2⟩|⟨lk,l3,l2⟩
  ·have:=o3 lk;lia
  ·lia
end
end L2
namespace L2
open PySem PySem.Spec PyProof.Rows
section
variable {κ:Type}[DecidableEq κ]
def Eb (kvs:List (κ×V))(k:κ):Option V:=(kvs.find? λkv=>decide (kv.1=k)).map (·.2)
theorem HM {p:κ×V}{r:List (κ×V)}{k:κ}(e:p.1=k):Eb (p::r) k=some p.2:=by simp[Eb,wV,e]
theorem HN {p:κ×V}{r:List (κ×V)}{k:κ}(e: ¬p.1=k):Eb (p::r) k=Eb r k:=by simp[Eb,wV,e]
theorem BP.isSome_eq {o:Option V}{u:Option Value}(r:BP o u):o.isSome=u.isSome:=by
 cases o with
 |none=>cases u with
  |none=>rfl
  |some _=>exact(show False from r).elim
 |some _=>cases u with
  |none=>exact(show False from r).elim
  |some _=>rfl
theorem KV.val {kvs:List (κ×V)}{vs:List (κ×Value)}(r:KV kvs vs)(k:κ):BP (Eb kvs k) (valueAt vs k):=by
 unfold KV at r
 induction r with
 |nil=>exact True.intro
 |@cons p q ps qs h t ih=>
  obtain⟨h1,h2⟩:=h
  by_cases e:p.1=k
  ·have e':q.1=k:=h1.symm.trans e;have b:valueAt (q::qs) k=some q.2:=by simp[valueAt,wV,e']
   rw[HM e,b];exact h2
  ·have e': ¬q.1=k:=λz=>e (h1.trans z);have b:valueAt (q::qs) k=valueAt qs k:=by simp[valueAt,wV,e']
   rw[HN e,b];exact ih
theorem KV.length {kvs:List (κ×V)}{vs:List (κ×Value)}(r:KV kvs vs):kvs.length=vs.length:=Paired.length r
end
theorem Ox {P:Program}{w:World}{k:Dp}{u:Value}(r:jM (kV k) u):(vD P w).is k u=true:=by
 cases k with
 |inl i=>obtain⟨t,e⟩:=(show ∃t,u=Value.int i t from r);subst e;exact LY P w i t
 |inr x=>obtain⟨t,e⟩:=(show ∃t,u=Value.str x t from r);subst e;exact LX P w x t
theorem Jv {P:Program}{w:World}: ∀{ks:List Dp} {us:List Value},xT (ks.map kV) us->ItemsAre (vD P w) ks us
 |[],_,r=>by rw[List.map_nil]at r;cases r;exact .nil
 |k::ks,_,r=>by
  rw[yM]at r;cases r with
  |cons h t=>exact .cons (Ox h) (Jv t)
abbrev KT (H:Hp):List (List Dp×V)->List (List Dp×Addr×Value)->Prop:=Paired λp q=>p.1=q.1/\H q.2.1=some (.tup (p.1.map kV))/\jM p.2 q.2.2
theorem KT.val {H:Hp}{kvs:List (List Dp×V)}{xs:List (List Dp×Addr×Value)}(r:KT H kvs xs)(k:List Dp):BP (Eb kvs k) ((atKey xs k).map (·.2)):=by
 induction r with
 |nil=>exact True.intro
 |@cons p q ps qs h t ih=>
  obtain⟨h1,_,h2⟩:=h
  by_cases e:p.1=k
  ·have e':q.1=k:=h1.symm.trans e;have b:atKey (q::qs) k=some q.2:=by simp[atKey,wV,e']
   rw[HM e,b];exact h2
  ·have e': ¬q.1=k:=λz=>e (h1.trans z);have b:atKey (q::qs) k=atKey qs k:=by simp[atKey,wV,e']
   rw[HN e,b];exact ih
section
variable {P:Program}{w:World}{H:Hp}{h:Heap}{a:Addr}
theorem Ua {u:HO}(ok:Fj P w H h)(e:Rd H a u):kL P w H h a u:=e.ok ok
theorem Mt {kvs:List (Dp×V)}(ok:Fj P w H h)(e:Rd H a (.dK kvs)):kvs.length<=sizeLine/\(a==sysModules)=false/\ ∃vs,KV kvs vs/\h.DictOf (vD P w) a vs:=
 show kL P w H h a (.dK kvs)from Ua ok e
theorem WA {kvs:List (Dp×V)}(ok:Fj P w H h)(e:H a=some (.dK kvs)):kvs.length<=sizeLine/\(a==sysModules)=false/\ ∃vs,KV kvs vs/\h.DictOf (vD P w) a vs:=Mt ok (.inl e)
theorem NF {ks:List Dp}(ok:Fj P w H h)(e:H a=some (.tup (ks.map kV))):(tupleKind (vD P w)).is h ks a:=by
 obtain⟨_,its,r,o,h1,h2,n,h3⟩:=(show kL P w H h a (.tup (ks.map kV))from ok a _ e);exact⟨o,its.toArray,n,h1,h2,h3,by simpa using Jv r⟩
theorem OF {kvs:List (List Dp×V)}(ok:Fj P w H h)(e:Rd H a (.dT kvs)):kvs.length<=sizeLine/\(a==sysModules)=false/\
  ∃xs,KT H kvs xs/\h.DictOfH (tupleKind (vD P w)) a xs:=by
 obtain⟨z,y,xs,r,o,es,ep,h1,h2,h3,h4,h5⟩:=(show kL P w H h a (.dT kvs)from Ua ok e);refine⟨z,y,xs,r,o,es,ep,h1,h2,h3,h4,λx hx=>?_,h5⟩;have all: ∀{l:List (List Dp×V)} {m:List (List Dp×Addr×Value)},KT H l m-> ∀x∈m,(tupleKind (vD P w)).is h x.1 x.2.1:=by
  intro l m q
  induction q with
  |nil=>intro x hx;exact nomatch hx
  |@cons p q ps qs hq t ih=>
   intro x hx
   rcases List.mem_cons.mp hx with e|hx
   ·subst e;exact NF ok (by rw[<-hq.1];exact hq.2.1)
   ·exact ih x hx
 exact all r x hx
end
def IK (H:Hp)(a:Addr)(y:V)(r:Option V):Prop:=
 (∃kvs k,Rd H a (.dK kvs)/\y=kV k/\r=Eb kvs k)\/ ∃kvs k b,Rd H a (.dT kvs)/\y=.ref b/\H b=some (.tup (k.map kV))/\r=Eb kvs k
theorem IK.k {H:Hp}{a:Addr}{kvs:List (Dp×V)}{k:Dp}(e:H a=some (.dK kvs)):IK H a (kV k) (Eb kvs k):=.inl ⟨kvs,k,.inl e,rfl,rfl⟩
section
variable {X:Cx}{pins:List (Addr×Obj)}{σ:St}{H:Hp}{s:Shared}{a:Addr}{y v:V}{u r:Value}{o:Option V}{A:Around}{E:Value->Shared->Prop}
theorem yV.big (I:yV X pins σ H s):sysModules<s.heap.objs.size:=by
 have h:mainGlobals<s.heap.objs.size:=(I.mod.glob.keeps I.bk).lt;exact Am (by decide) h
theorem PV {Q:Value->Shared->Prop}(hu:A.units+1<cLine)(I:yV X pins σ H s)(g:IK H a y (some v))(ry:jM y u)(h: ∀w' s',yV X pins σ H s'->jM v w'->Q w' s'):
  wpAny (model X.prog X.w) A (getItem (.ref a) u) Q E s:=by
 rcases g with⟨kvs,k,e,ey,l⟩|⟨kvs,k,b,e,ey,eb,l⟩
 ·subst ey;obtain⟨z,hd,vs,rel,dd⟩:=Mt I.hok e;obtain⟨w',hw,rw'⟩:=BP.some_of (v:=v) (o:=valueAt vs k) (by rw[l];exact rel.val k);exact wpAny_getItem_of (Ox ry) dd.mapOf hw (h w' _ (I.tok _) rw')
 ·subst ey;cases(show u=Value.ref b from ry);obtain⟨z,hd,xs,rel,dd⟩:=OF I.hok e;obtain⟨w',hw,rw'⟩:=BP.some_of (v:=v) (o:=(atKey xs k).map (·.2)) (by rw[l];exact rel.val k);obtain⟨p,hp,hp2⟩:=Option.map_eq_some_iff.mp hw;refine wpAny_getItem_heap (tupleKind_room_in1 hu) (NF I.hok eb) dd hp ?_;rw[hp2];exact h w' _ (I.tok _) rw'
theorem Tv {Q:Value->Shared->Prop}(hu:A.units+1<cLine)(I:yV X pins σ H s)(g:IK H a y o)(ry:jM y u)(h: ∀s',yV X pins σ H s'->Q (.bool (!o.isSome)) s'):
  wpAny (model X.prog X.w) A (compareOp .NotIn u (.ref a)) Q E s:=by
 rcases g with⟨kvs,k,e,ey,l⟩|⟨kvs,k,b,e,ey,eb,l⟩
 ·subst ey;obtain⟨z,hd,vs,rel,dd⟩:=Mt I.hok e;refine wpAny_notIn_of (Ox ry) hd dd.mapOf ?_;rw[<-(rel.val k).isSome_eq,<-l];exact h _ (I.tok _)
 ·subst ey;cases(show u=Value.ref b from ry);obtain⟨z,hd,xs,rel,dd⟩:=OF I.hok e;refine wpAny_notIn_heap (tupleKind_room_in1 hu) (NF I.hok eb) hd dd ?_;have q:=(rel.val k).isSome_eq;rw[Option.isSome_map]at q;rw[<-q,<-l];exact h _ (I.tok _)
theorem Tu {h':Heap}{t':Nat}{ob:HO}(I:yV X pins σ H s)(mu:WK (H a))(hs:Heap.SameBut a s.heap h')(he: ∃q,h'.get? a=some q)(new:kL X.prog X.w (upd H a ob) h' a ob):
  yV X pins σ (upd H a ob) {s with heap:=h',toks:=t'}:=
 I.write (x:=a) (e:=a) mu (.inl rfl) (λb q hb z=>(hs.2 b hb).trans z) he new
theorem Vt {P:Program}{w:World}{H':Hp}{h':Heap}{kvs:List (Dp×V)}{vs:List (Dp×Value)}(z:kvs.length<=sizeLine)(hd:(a==sysModules)=false)(rel:KV kvs vs)(dd:h'.DictOf (vD P w) a vs):
  kL P w H' h' a (.dK kvs):=⟨z,hd,vs,rel,dd⟩
end
def WJ (i:Expr):Prop:= ∀ov iv,subscripted i false ov iv=operate [ov,iv] (getItem ov iv)
theorem Sr {prog:Program}{w:World}{A:Around}{E:Value->Shared->Prop}{s:Shared}{env:Env}{value slice:Expr}{pos:Pos}{T id:String}{Q:Value->Shared->Prop}
  (hl:typeLookup (.type T) "__getitem__"=pure (some (.builtin id))) (hs:WJ slice)
  (h:wpAny (model prog w) A (eval value env) (λo s₁=>wpAny (model prog w) A (eval slice env) (λi s₂=>s₂.TypeIs o T/\wpAny (model prog w) A (getItem o i) Q E s₂) E s₁) E s):
  wpAny (model prog w) A (eval (.Subscript value slice pos) env) Q E s:=by
 refine Subscript_ (kJ h (λo s₁ h₁=>kJ h₁ (λi s₂ h₂=>?_) λ_ _ x=>x) λ_ _ x=>x);obtain⟨hT,h₂⟩:=h₂;unfold subscriptTail;refine zA ?_;rw[getitemInPython_of_ne hT.not_modules];refine zA (AZ hT hl ?_);have fin:wpAny (model prog w) A (subscripted slice false o i) (λr s₃=>wpAny (model prog w) A (letTemporaryGo value o r>>=λ_=>pure r) Q E s₃) E s₂:=by
  rw[hs o i];exact wpAny_operating (kJ h₂ (λr s₃ h₃=>zA (wpAny_letTemporaryGo (zL h₃))) λ_ _ x=>x)
 first
  |exact zL (zA fin)
  |exact zA (zL (zA fin))
  |exact zA fin
theorem Mv {X:Cx}{pins:List (Addr×Obj)}{σ:St}{H:Hp}{s:Shared}{a:Addr}{y:V}{o:Option V}(I:yV X pins σ H s)(g:IK H a y o):s.TypeIs (.ref a) "dict":=by
 rcases g with⟨kvs,k,e,_,_⟩|⟨kvs,k,b,e,_,_,_⟩
 ·obtain⟨_,_,vs,_,dd⟩:=Mt I.hok e;exact dd.typeIs
 ·obtain⟨_,_,xs,_,dd⟩:=OF I.hok e;exact dd.typeIs
def VW (td ty:TE):TE:=λσ H Q=>td σ H λx H1=>ty σ H1 λy H2=> ∃a v,x=.ref a/\IK H2 a y (some v)/\Q v H2
def Sq (ty td:TE):TE:=λσ H Q=>ty σ H λy H1=>td σ H1 λx H2=> ∃a o,x=.ref a/\IK H2 a y o/\Q (.bl (!o.isSome)) H2
section
variable {X:Cx}{o i e value:Expr}{pos pos' tpos:Pos}{td ty tv:TE}
theorem SL (hu:X.A.units+1<cLine)(ho:PE X o td)(hi:PE X i ty)(hs:WJ i):PE X (.Subscript o i pos) (VW td ty):=by
 refine⟨?_⟩;intro pins s σ H Q I h;refine Sr PySem.F.slot_dict_getitem.lookup hs (kB (ho pins s σ H _ I h) λu s1 ⟨x,H1,I1,rx,q1⟩=>kB (hi pins s1 σ H1 _ I1 q1) λiv s2 hzz=>?_);obtain⟨y,H2,I2,ry,a,v,ex,g,q2⟩:=hzz;subst ex;obtain rfl:u=Value.ref a:=rx;exact⟨Mv I2 g,PV hu I2 g ry λw' s3 I3 rw'=>⟨v,H2,I3,rw',q2⟩⟩
theorem Pf (hu:X.A.units+1<cLine)(hi:PE X i ty)(ho:PE X o td):PC X .NotIn i o (Sq ty td):=by
 refine⟨?_⟩;intro pins s σ H Q I h;refine kB (hi pins s σ H _ I h) λiv s1 ⟨y,H1,I1,ry,q1⟩=>kB (ho pins s1 σ H1 _ I1 q1) λu s2 hzz=>?_;obtain⟨x,H2,I2,rx,a,ov,ex,g,q2⟩:=hzz;subst ex;obtain rfl:u=Value.ref a:=rx;exact Tv hu I2 g ry λs3 I3=>⟨.bl (!ov.isSome),H2,I3,rfl,q2⟩
end
theorem RU {P:Program}{w:World}{H:Hp}(h:Heap)(hb:sysModules<h.objs.size):kL P w H (h.push {cls:=.type "dict",data:=.dict #[]}) h.objs.size (.dK []):=
 ⟨xA _,beq_eq_false_iff_ne.mpr (Ne.symm (xR hb)),[],.nil,Heap.DictOf.new h⟩
def UA:TE:=λ_ H Q=> ∀p,H p=none->Q (.ref p) (upd H p (.dK []))
section
variable {X:Cx}{pos:Pos}
theorem QR:PE X (.Dict [] [] pos) UA:=⟨λpins s σ H Q I h=>
 wpAny_Dict_empty ⟨.ref s.heap.objs.size,_,I.laid (a:=s.heap.objs.size) (o:=.dK []) (t':=s.toks) (λ_ _ q=>zD _ q) (zP _) (RU s.heap I.big),rfl,h _ (I.hok.fresh (zP _))⟩⟩
end
structure M2 (X:Cx)(o:Expr)(m:Str)(apos:Pos)(e f:Expr)(cpos:Pos):Prop where
 base:attributeBase o m X.env (eval o X.env)=eval o X.env
 few:((backTo cpos (starEach [e,f] X.env)).all (λx=>!x.1)&&(backToKw cpos (keywordEach [] X.env)).all (λx=>x.1.isSome)
  &&decide (([e,f]:List Expr).length +([]:List Keyword).length +(if([]:List Keyword).isEmpty then 0 else 1)<30))=true
 line:(apos.endLine==cpos.line)=true
 trees:backTo cpos (starEach [e,f] X.env)=[(false,eval e X.env),(false,eval f X.env)]
def Yf (H:Hp)(a:Addr):Prop:=(∃kvs,Rd H a (.dK kvs))\/ ∃kvs,Rd H a (.dT kvs)
theorem Vp {X:Cx}{pins:List (Addr×Obj)}{σ:St}{H:Hp}{s:Shared}{a:Addr}(I:yV X pins σ H s)(d:Yf H a):
  s.TypeIs (.ref a) "dict"/\(∀b,Value.ref a=.ref b-> ∃ob,s.heap.get? b=some ob/\ob.dict=none)/\(a==sysModules)=false:=by
 rcases d with⟨kvs,e⟩|⟨kvs,e⟩
 ·obtain⟨_,hd,vs,_,dd⟩:=Mt I.hok e;refine⟨dd.typeIs,λb q=>?_,hd⟩;cases q;obtain⟨ob,_,_,h1,h2,_⟩:=dd;exact⟨ob,h1,h2.2.1⟩
 ·obtain⟨_,hd,xs,_,dd⟩:=OF I.hok e;refine⟨dd.typeIs,λb q=>?_,hd⟩;cases q;obtain⟨ob,_,_,h1,h2,_⟩:=dd;exact⟨ob,h1,h2.2.1⟩
theorem vt {a b:Int}(c:decide (V.int a=V.int b)=true):a=b:=by
 have:=zO c;injection this
theorem vf {a b:Int}(c: ¬decide (V.int a=V.int b)=true):a≠b:=λe=>c (yA (by rw[e]))
theorem df {c:Prop}[Decidable c](h: ¬decide c=true): ¬c:=kZ (Bool.eq_false_iff.mpr h)
def jG (as:List Addr)(H H':Hp):Prop:= ∀b o,b∉as->H b=some o->H' b=some o
theorem jG.same {as:List Addr}{H H':Hp}(h:qH H H'):jG as H H':=λb o _ e=>h b o e
theorem jG.refl (as:List Addr)(H:Hp):jG as H H:=λ_ _ _ e=>e
theorem jG.trans {as:List Addr}{H H1 H2:Hp}(a:jG as H H1)(b:jG as H1 H2):jG as H H2:=λc o n e=>b c o n (a c o n e)
theorem jG.upd {as:List Addr}{H:Hp}{a:Addr}{o:HO}(h:a∈as):jG as H (upd H a o):=λc u n e=>by
 have z:c≠a:=λz=>n (by rw[z];exact h);rw[zT z];exact e
theorem GV {α:Type}{xs:List α}{k:Int}{v:α}(h0:0<=k)(h:xs[k.toNat]? =some v):KW xs k=some v:=by
 have:=Bt h
 rwa [show((k.toNat:Nat):Int)=k by lia]at this
end L2
namespace L2
open PySem
abbrev JN:=Nat×Str
abbrev AH:=List (Int×Int)
inductive Nd where
 |mk (kind:Int) (place:Nat) (own:List Int) (parts:List Nd)
def Fl (ns:List Int)(p:Nat):Except JN Int:=match ns[p]? with
 |some n=>.ok n
 |none=>.error (p,"end")
def jS (ns:List Int)(p:Nat)(lo hi:Int):Except JN Int:=match ns[p]? with
 |some n=>if n<lo\/hi<n then .error (p,"range")else .ok n
 |none=>.error (p,"end")
def vZ (ns:List Int):Nat->Int->Nat->Except JN AH
 |0,_,_=>.ok []
 |n+1,most,p=>match jS ns p 0 most with
  | .error b=>.error b
  | .ok a=>match jS ns (p+1) a 12 with
   | .error b=>.error b
   | .ok c=>match vZ ns n 4 (p+2)with
    | .error b=>.error b
    | .ok r=>.ok ((a,c)::r)
def vR (ns:List Int):Except JN AH:=match jS ns 0 1 16 with
 | .error b=>.error b
 | .ok n=>vZ ns n.toNat 0 1
def IP (r:Except JN Int):Except JN (List Int):=match r with
 | .ok n=>.ok [n]
 | .error b=>.error b
def FH (ns:List Int)(heads:AH)(boxes k:Int)(p:Nat):Except JN (List Int):=
 if k=0 then IP (Fl ns p)else if k=1\/k=2 then IP (jS ns p 0 (boxes-1))else if k=3 then IP (jS ns p 1 12)else if k=4 then IP (jS ns p 2 12)else if k=6 then IP (jS ns p 0 ((heads.length:Int)-1))else .ok []
def partsN:List Int:=[1,2,2,2,2,2,2,2,2,2,3,1,0]
def Fh (heads:AH)(k:Int)(own:List Int):Int:=
 if k=0\/k=1 then 0 else if k=2 then 1 else if k=3 then own.headD 0 else if k=4 then 1+own.headD 0 else if k=5 then 2 else if k=6 then(heads.getD (own.headD 0).toNat (0,0)).1 else partsN.getD (k-7).toNat 0
def BB (f:Nat->Except JN (Nd×Nat)):Nat->Nat->Except JN (List Nd×Nat)
 |0,p=>.ok ([],p)
 |n+1,p=>match f p with
  | .error b=>.error b
  | .ok a=>match BB f n a.2 with
   | .error b=>.error b
   | .ok r=>.ok (a.1::r.1,r.2)
def Bj (ns:List Int)(heads:AH)(boxes:Int):Nat->Nat->Except JN (Nd×Nat)
 |0,p=>.error (p,"deep")
 |d+1,p=>match jS ns p 0 19 with
  | .error b=>.error b
  | .ok k=>match FH ns heads boxes k (p+1)with
   | .error b=>.error b
   | .ok own=>match BB (Bj ns heads boxes d) (Fh heads k own).toNat (p+1+own.length)with
    | .error b=>.error b
    | .ok r=>.ok (.mk k p own r.1,r.2)
def Ag (ns:List Int)(heads:AH):AH->Nat->Except JN (List Nd×Nat)
 |[],p=>.ok ([],p)
 |h::r,p=>match Bj ns heads h.2 10 p with
  | .error b=>.error b
  | .ok a=>match Ag ns heads r a.2 with
   | .error b=>.error b
   | .ok z=>.ok (a.1::z.1,z.2)
def vI (ns:List Int):Except JN (AH×List Nd):=match vR ns with
 | .error b=>.error b
 | .ok hs=>match Ag ns hs hs (1+2*hs.length)with
  | .error b=>.error b
  | .ok r=>if r.2<ns.length then .error (r.2,"over")else .ok (hs,r.1)
def qU (H:Hp):Nat->V->Nd->Prop
 |0,_,_=>False
 |d+1,v,.mk k p own ps=> ∃t o q vs,v=.ref t/\H t=some (.tup [.int k,.int p,.ref o,.ref q])/\H o=some (.tup (own.map V.int))/\H q=some (.tup vs)/\Paired (qU H d) vs ps
def Sj (H:Hp)(v:V)(f:(Int×Int)×Nd):Prop:= ∃t b,v=.ref t/\H t=some (.tup [.int f.1.1,.int f.1.2,b])/\qU H 10 b f.2
def WV (H:Hp)(l:Addr)(r:AH×List Nd):Prop:= ∃rs,H l=some (.lst rs)/\r.1.length=r.2.length/\Paired (Sj H) rs (r.1.zip r.2)
def GW (H:Hp)(v:V)(h:Int×Int):Prop:= ∃t,v=.ref t/\H t=some (.tup [.int h.1,.int h.2])
def DY (H:Hp)(hd:Addr)(hs:AH):Prop:= ∃rs,H hd=some (.lst rs)/\Paired (GW H) rs hs
def vJ (CL dx a:Addr)(p:Nat):HO:=.ins CL dx [("numbers",.ref a),("place",.int p)]
def uJ (H H':Hp):Prop:= ∀b xs,H b=some (.tup xs)->H' b=some (.tup xs)
theorem uJ.same {H H':Hp}(h:qH H H'):uJ H H':=λ_ _ e=>h _ _ e
theorem uJ.keep {lk CL dx a:Addr}{p:Nat}{H H':Hp}(e:H lk=some (vJ CL dx a p))(k:jA lk H H'):uJ H H':=λb xs q=>k b _ (λz=>by rw[z,e]at q;cases q) q
theorem qU.tups {H H':Hp}(h:uJ H H'): ∀{d:Nat} {v:V} {n:Nd},qU H d v n->qU H' d v n
 |0,_,_,z=>z.elim
 |d+1,v,.mk k p own ps,⟨t,o,q,vs,e,h1,h2,h3,r⟩=>⟨t,o,q,vs,e,h _ _ h1,h _ _ h2,h _ _ h3,Paired.imp (λ_ _ z=>qU.tups h z) r⟩
theorem GW.tups {H H':Hp}(h:uJ H H'){v:V}{n:Int×Int}:GW H v n->GW H' v n:=fun⟨t,e,q⟩=>⟨t,e,h _ _ q⟩
theorem Sj.tups {H H':Hp}(h:uJ H H'){v:V}{n:(Int×Int)×Nd}:Sj H v n->Sj H' v n:=fun⟨t,b,e,q,z⟩=>⟨t,b,e,h _ _ q,z.tups h⟩
theorem DY.keep {lk CL dx a hd:Addr}{p:Nat}{H H':Hp}{hs:AH}(e:H lk=some (vJ CL dx a p))(k:jA lk H H')(h:DY H hd hs):DY H' hd hs:=by
 obtain⟨rs,q,r⟩:=h;exact⟨rs,k hd _ (λz=>by rw[z,e]at q;cases q) q,Paired.imp (λ_ _ z=>z.tups (.keep e k)) r⟩
def Hs {α:Type}(r:Except JN α)(ok:α->Prop)(bad:Nat->Str->Prop):Prop:=(∀a,r=.ok a->ok a)/\ ∀p w,r=.error (p,w)->bad p w
def EK (CN lk:Addr)(H:Hp)(E:XK)(p:Nat)(w:Str):Prop:= ∀d H',jA lk H H'->H' d=some (KY d [("place",.int p),("word",.str w)])->E (.ref CN) (some d) H'
theorem EK.keep {CN lk:Addr}{H H1:Hp}{E:XK}{p:Nat}{w:Str}(f:EK CN lk H E p w)(k:jA lk H H1):EK CN lk H1 E p w:=λd H' k' e=>f d H' (k.trans k') e
def Looks (CL:Addr)(H:Hp)(lk dx a:Addr)(p:Nat)(ns:List Int):Prop:=H lk=some (vJ CL dx a p)/\H a=some (.lst (ns.map V.int))
theorem Looks.go {CL lk dx a:Addr}{p p':Nat}{ns:List Int}{H H':Hp}(l:Looks CL H lk dx a p ns)(k:jA lk H H')(e:H' lk=some (vJ CL dx a p')):Looks CL H' lk dx a p' ns:=
 ⟨e,k a _ (λz=>by have:=l.1;rw[<-z,l.2]at this;cases this) l.2⟩
inductive BU (C:Addr) (vs:List V) (H:Hp) (Q:VK) (E:XK):Prop
 |mk (x y z:_) (h0:vs=[.ref x,y,z]) (h1:H x=some (GX x C none)) (h2: ∀d H',d≠x->H d=none->(∀b o,b≠x->H b=some o->H' b=some o)->H' x=some (GX x C (some d))->H' d=some (KY d [("place",y),("word",z)])->Q .non H'):BU C vs H Q E
inductive Ka (CL:Addr) (vs:List V) (H:Hp) (Q:VK) (E:XK):Prop
 |mk (x dx a:_) (h0:vs=[.ref x,.ref a]) (h1:H x=some (.ins CL dx [])) (h2: ∀H',jA x H H'->H' x=some (vJ CL dx a 0)->Q .non H'):Ka CL vs H Q E
inductive JS (vs:List V) (H:Hp) (Q:VK) (E:XK):Prop
 |mk (i:Int) (h0:vs=[.int i]) (h1:Q (.bl true) H):JS vs H Q E
inductive Ss (CL CN:Addr) (vs:List V) (H:Hp) (Q:VK) (E:XK):Prop
 |mk (lk dx a p ns:_) (h0:vs=[.ref lk]) (h1:Looks CL H lk dx a p ns) (h2:Hs (Fl ns p) (λn=>Q (.int n) (upd H lk (vJ CL dx a (p+1)))) (EK CN lk H E)):Ss CL CN vs H Q E
inductive Dd (CL CN:Addr) (vs:List V) (H:Hp) (Q:VK) (E:XK):Prop
 |mk (lk dx a p ns lo hi:_) (h0:vs=[.ref lk,.int lo,.int hi]) (h1:Looks CL H lk dx a p ns) (h2:Hs (jS ns p lo hi) (λn=>Q (.int n) (upd H lk (vJ CL dx a (p+1)))) (EK CN lk H E)):Dd CL CN vs H Q E
inductive Kb (CL CN:Addr) (vs:List V) (H:Hp) (Q:VK) (E:XK):Prop
 |mk (lk dx a ns:_) (h0:vs=[.ref lk]) (h1:Looks CL H lk dx a 0 ns) (h2:Hs (vR ns) (λhs=> ∀hd H',jA lk H H'->H' lk=some (vJ CL dx a (1+2*hs.length))->DY H' hd hs->Q (.ref hd) H') (EK CN lk H E)):Kb CL CN vs H Q E
inductive Oe (CL CN:Addr) (vs:List V) (H:Hp) (Q:VK) (E:XK):Prop
 |mk (lk dx a p ns hd hs boxes k:_) (h0:vs=[.ref lk,.int k,.ref hd,.int boxes]) (h1:Looks CL H lk dx a p ns) (h2:DY H hd hs) (h3:Hs (FH ns hs boxes k p) (λown=> ∀t H',jA lk H H'->H' lk=some (vJ CL dx a (p+own.length))->H' t=some (.tup (own.map V.int))->Q (.ref t) H') (EK CN lk H E)):Oe CL CN vs H Q E
def Sf (heads:AH)(k:Int)(own:List Int):Prop:=0<=k/\k<=19/\(k=3\/k=4\/k=6-> ∃n,own=[n]/\0<=n/\(k=6->n<heads.length)/\(k≠6->n<=12))
def OQ (hs:AH):Prop:= ∀h∈hs,0<=h.1/\h.1<=4
inductive Oh (vs:List V) (H:Hp) (Q:VK) (E:XK):Prop
 |mk (k t own hd hs:_) (h0:vs=[.int k,.ref t,.ref hd]) (h1:H t=some (.tup (own.map V.int))) (h2:DY H hd hs) (h3:Sf hs k own) (h4:Q (.int (Fh hs k own)) H):Oh vs H Q E
inductive GC (CL CN:Addr) (d:Nat) (vs:List V) (H:Hp) (Q:VK) (E:XK):Prop
 |mk (lk dx a p ns hd hs boxes:_) (h0:vs=[.ref lk,.ref hd,.int boxes,.int (11-(d:Int))]) (h1:Looks CL H lk dx a p ns) (h2:DY H hd hs) (h3:OQ hs) (h4:Hs (Bj ns hs boxes d p) (λr=> ∀v H',jA lk H H'->H' lk=some (vJ CL dx a r.2)->qU H' d v r.1->Q v H') (EK CN lk H E)):GC CL CN d vs H Q E
inductive Og (CN:Addr) (vs:List V) (H:Hp) (Q:VK) (E:XK):Prop
 |mk (a ns:_) (h0:vs=[.ref a]) (h1:H a=some (.lst (ns.map V.int))) (h2:Hs (vI ns) (λr=> ∀l H',qH H H'->H l=none->WV H' l r->Q (.ref l) H') (λp w=> ∀d H',qH H H'->H' d=some (KY d [("place",.int p),("word",.str w)])->E (.ref CN) (some d) H')):Og CN vs H Q E
inductive JR (vs:List V) (H:Hp) (Q:VK) (E:XK):Prop
 |mk (a ns:_) (h0:vs=[.ref a]) (h1:H a=some (.lst (ns.map V.int))) (h2:Hs (vI ns) (λ_=> ∀H',qH H H'->Q .non H') (λp w=> ∀t H',qH H H'->H' t=some (.tup [.int (p:Nat),.str w])->Q (.ref t) H')):JR vs H Q E
theorem uR {ns:List Int}{p:Nat}{lo hi n:Int}(h:jS ns p lo hi=.ok n):ns[p]? =some n/\lo<=n/\n<=hi:=by
 unfold jS at h;cases e:ns[p]? with
 |none=>rw[e]at h;cases h
 |some m=>
  rw[e]at h;simp only at h
  by_cases c:m<lo\/hi<m
  ·rw[zR c]at h;cases h
  ·rw[zH c]at h;cases h;exact⟨rfl,by lia,by lia⟩
theorem Ks {r:Except JN Int}{own:List Int}(h:IP r=.ok own): ∃n,r=.ok n/\own=[n]:=by
 unfold IP at h;cases r with
 |error b=>cases h
 |ok n=>cases h;exact⟨n,rfl,rfl⟩
theorem UW {ns:List Int}{hs:AH}{boxes k:Int}{p:Nat}{own:List Int}(h0:0<=k)(h1:k<=19)(h:FH ns hs boxes k p=.ok own):Sf hs k own:=by
 refine⟨h0,h1,λhk=>?_⟩;unfold FH at h
 rcases hk with rfl|rfl|rfl
 ·rw[zH (by decide),zH (by decide),zR rfl]at h;obtain⟨n,e,rfl⟩:=Ks h;obtain⟨_,a,b⟩:=uR e;exact⟨n,rfl,by lia,λz=>by lia,λ_=>b⟩
 ·rw[zH (by decide),zH (by decide),zH (by decide),zR rfl]at h;obtain⟨n,e,rfl⟩:=Ks h;obtain⟨_,a,b⟩:=uR e;exact⟨n,rfl,by lia,λz=>by lia,λ_=>b⟩
 ·rw[zH (by decide),zH (by decide),zH (by decide),zH (by decide),zR rfl]at h;obtain⟨n,e,rfl⟩:=Ks h;obtain⟨_,a,b⟩:=uR e;exact⟨n,rfl,by lia,λ_=>by lia,λz=>absurd rfl z⟩
theorem Ph: ∀k:Nat,0<=partsN.getD k 0/\partsN.getD k 0<=3:=by
 intro k
 by_cases h:k<13
 ·have: ∀k:Fin 13,0<=partsN.getD k.1 0/\partsN.getD k.1 0<=3:=by decide
  exact this ⟨k,h⟩
 ·have:partsN[k]? =none:=qG (by show 13<=k;lia);rw[xW,this];decide
theorem Vs {hs:AH}{k:Int}{own:List Int}(o:Sf hs k own)(hh:OQ hs):0<=Fh hs k own/\Fh hs k own<=13:=by
 obtain⟨h0,h1,h2⟩:=o;unfold Fh
 by_cases c1:k=0\/k=1
 ·rw[zR c1];decide
 rw[zH c1]
 by_cases c2:k=2
 ·rw[zR c2];decide
 rw[zH c2]
 by_cases c3:k=3
 ·rw[zR c3];obtain⟨n,rfl,a,_,b⟩:=h2 (.inl c3);have:=b (by lia);show 0<=n/\n<=13;lia
 rw[zH c3]
 by_cases c4:k=4
 ·rw[zR c4];obtain⟨n,rfl,a,_,b⟩:=h2 (.inr (.inl c4));have:=b (by lia);show 0<=1+n/\1+n<=13;lia
 rw[zH c4]
 by_cases c5:k=5
 ·rw[zR c5];decide
 rw[zH c5]
 by_cases c6:k=6
 ·rw[zR c6];obtain⟨n,rfl,a,b,_⟩:=h2 (.inr (.inr c6));have hn:=b c6;show 0<=(hs.getD n.toNat (0,0)).1/\(hs.getD n.toNat (0,0)).1<=13;have hl:n.toNat<hs.length:=by lia
  rw[xW,zG hl];have:=hh _ (List.getElem_mem hl);simp only[Option.getD_some];lia
 rw[zH c6];have:=Ph (k-7).toNat;lia
theorem Jz {ns:List Int}: ∀{n:Nat} {most:Int} {p:Nat} {hs:AH},most<=4->vZ ns n most p=.ok hs->OQ hs/\hs.length=n
 |0,_,_,_,_,h=>by cases h;exact⟨λ_ z=>(nomatch z),rfl⟩
 |n+1,most,p,hs,hm,h=>by
  unfold vZ at h;cases e1:jS ns p 0 most with
  |error b=>rw[e1]at h;cases h
  |ok a=>
   rw[e1]at h;simp only at h;cases e2:jS ns (p+1) a 12 with
   |error b=>rw[e2]at h;cases h
   |ok c=>
    rw[e2]at h;simp only at h;cases e3:vZ ns n 4 (p+2)with
    |error b=>rw[e3]at h;cases h
    |ok r=>
     rw[e3]at h;cases h;obtain⟨q,l⟩:=Jz (Int.le_refl _) e3;obtain⟨_,a0,a1⟩:=uR e1;exact⟨λz hz=>by
      rcases List.mem_cons.mp hz with rfl|hz
      ·exact⟨a0,by show a<=4;lia⟩
      ·exact q z hz,by simp[l]⟩
theorem KB {ns:List Int}{hs:AH}(h:vR ns=.ok hs):OQ hs/\ns[0]? =some (hs.length:Int)/\1<=hs.length/\hs.length<=16/\vZ ns hs.length 0 1=.ok hs:=by
 unfold vR at h;cases e1:jS ns 0 1 16 with
 |error b=>rw[e1]at h;cases h
 |ok n=>
  rw[e1]at h;simp only at h;obtain⟨q,l⟩:=Jz (by decide) h;obtain⟨e,a,b⟩:=uR e1;rw[l];refine⟨q,?_,by lia,by lia,h⟩;rw[e];congr 1;lia
def Uf {α:Type}(done:List α)(r:Except JN (List α)):Except JN (List α):=match r with
 | .ok r=>.ok (done++r)
 | .error b=>.error b
theorem PL {α:Type}(r:Except JN (List α)):Uf [] r=r:=by cases r<;>rfl
def Ry {α:Type}(done:List α)(r:Except JN (List α×Nat)):Except JN (List α×Nat):=match r with
 | .ok r=>.ok (done++r.1,r.2)
 | .error b=>.error b
theorem Jt {α:Type}(r:Except JN (List α×Nat)):Ry [] r=r:=by cases r<;>rfl
theorem jA.fresh {lk hd:Addr}{H H':Hp}{o:HO}(k:jA lk H H')(h:H hd=none):jA lk H (L2.upd H' hd o):=λb u nb e=>by rw[zT (zS e h)];exact k b u nb e
theorem uJ.upd {b:Addr}{ys:List V}{H:Hp}{o:HO}(h:H b=some (.lst ys)):uJ H (L2.upd H b o):=λc xs e=>by rw[zT (λz=>by rw[z,h]at e;cases e)];exact e
theorem uJ.trans {H H1 H2:Hp}(a:uJ H H1)(b:uJ H1 H2):uJ H H2:=λc xs e=>b c xs (a c xs e)
theorem uJ.new {b:Addr}{H:Hp}{o:HO}(h:H b=none):uJ H (L2.upd H b o):=.same (yQ h o)
theorem Ib {C lk:Addr}{H H1:Hp}{E E':XK}{p:Nat}{w:Str}(f:EK C lk H E p w)(k:jA lk H H1): ∀x,H1 x=none->
  BU C [.ref x,.int (p:Int),.str w] (upd H1 x (GX x C none)) (λv H2=>v=.non/\ ∃d,H2 x=some (GX x C (some d))/\E (.ref C) (some d) (upd H2 x (HK x C (some d)))) E':=by
 intro x hx;refine⟨x,_,_,rfl,zK,λd H' dx hd kp ex ed=>⟨rfl,d,ex,f d _ (λb o nb e=>?_) ?_⟩⟩
 ·have e1:=k b o nb e;have nx:b≠x:=zS e1 hx;rw[zT nx];exact kp b o nx (by rw[zT nx];exact e1)
 ·rw[zT dx];exact ed
def Sub (ns:List Int):Nat->List Int->Prop
 |_,[]=>True
 |p,z::zs=>ns[p]? =some z/\Sub ns (p+1) zs
theorem Sub.append {ns:List Int}: ∀{xs ys:List Int} {p:Nat},Sub ns p (xs++ys)->Sub ns p xs/\Sub ns (p+xs.length) ys
 |[],_,_,h=>⟨trivial,h⟩
 |x::xs,ys,p,h=>by
  have q:=Sub.append h.2;refine⟨⟨h.1,q.1⟩,?_⟩;rw[show p+(x::xs).length =p+1+xs.length by simp;lia];exact q.2
theorem Sub.behind: ∀(zs pre:List Int),Sub (pre++zs) pre.length zs
 |[],_=>trivial
 |z::zs,pre=>by
  refine⟨by simp,?_⟩;have:=Sub.behind zs (pre++[z])
  simpa using this
theorem Sub.self (ns:List Int):Sub ns 0 ns:=Sub.behind ns []
def EI (hs:AH)(boxes k:Int)(own:List Int):Prop:=
 (k=0/\ ∃n,own=[n])\/((k=1\/k=2)/\ ∃n,own=[n]/\0<=n/\n<=boxes-1)\/(k=3/\ ∃n,own=[n]/\1<=n/\n<=12)\/(k=4/\ ∃n,own=[n]/\2<=n/\n<=12)\/(k=6/\ ∃n,own=[n]/\0<=n/\n<=(hs.length:Int)-1)\/((k=5\/7<=k)/\own=[])
theorem vF {ns:List Int}{p:Nat}{lo hi n:Int}(h:ns[p]? =some n)(h0:lo<=n)(h1:n<=hi):jS ns p lo hi=.ok n:=by
 unfold jS;rw[h];exact zH (by lia)
theorem ST {ns:List Int}{hs:AH}{boxes k:Int}{own:List Int}{p:Nat}(f:EI hs boxes k own)(s:Sub ns p own):FH ns hs boxes k p=.ok own:=by
 unfold FH
 rcases f with⟨rfl,n,rfl⟩|⟨hk,n,rfl,a,b⟩|⟨rfl,n,rfl,a,b⟩|⟨rfl,n,rfl,a,b⟩|⟨rfl,n,rfl,a,b⟩|⟨hk,rfl⟩
 ·rw[zR rfl];unfold Fl;rw[s.1];rfl
 ·rw[zH (by lia),zR hk,vF s.1 a b];rfl
 ·rw[zH (by decide),zH (by decide),zR rfl,vF s.1 a b];rfl
 ·rw[zH (by decide),zH (by decide),zH (by decide),zR rfl,vF s.1 a b];rfl
 ·rw[zH (by decide),zH (by decide),zH (by decide),zH (by decide),zR rfl,vF s.1 a b];rfl
 ·rw[zH (by lia),zH (by lia),zH (by lia),zH (by lia),zH (by lia)]
structure HJ (hs:AH):Prop where
 lo:1<=hs.length
 hi:hs.length<=16
 all: ∀(i:Nat) (h:Int×Int),hs[i]? =some h->0<=h.1/\h.1<=4/\h.1<=h.2/\h.2<=12/\(i=0->h.1=0)
def flat:AH->List Int
 |[]=>[]
 |h::r=>h.1::h.2::flat r
theorem IB: ∀hs:AH,(flat hs).length =2*hs.length
 |[]=>rfl
 |h::r=>by simp[flat,IB r];lia
theorem Hm {ns:List Int}: ∀{hs:AH} {most:Int} {p:Nat},(∀(i:Nat) (h:Int×Int),hs[i]? =some h->0<=h.1/\h.1<=4/\h.1<=h.2/\h.2<=12/\(i=0->h.1<=most))->Sub ns p (flat hs)->vZ ns hs.length most p=.ok hs
 |[],_,_,_,_=>rfl
 |h::r,most,p,a,s=>by
  obtain⟨a0,a1,a2,a3,a4⟩:=a 0 h rfl;unfold vZ;show(match jS ns p 0 most with| .error b=>_| .ok a=>_)=_;rw[vF s.1 a0 (a4 rfl)];simp only;rw[vF s.2.1 a2 a3];simp only;rw[Hm (most:=4) (λi x e=>by have:=a (i+1) x (by simpa using e);lia) s.2.2]
theorem HJ.heads {ns:List Int}{hs:AH}{p:Nat}(g:HJ hs)(s:Sub ns p (flat hs)):vZ ns hs.length 0 p=.ok hs:=Hm (λi h e=>by have:=g.all i h e;lia) s
inductive Hz (K:PySem.W.Frag) (vs:List V) (H:Hp) (Q:VK) (E:XK):Prop
 |mk (st:Addr) (many:Int) (h0:vs=[.ref st,.int many]) (h1:0<many) (h2:many<2^256) (h3:Fk K H st) (h4: ∀(r:Int) (H':Hp),0<=r->r<many->Drawn K st H H'->Q (.int r) H'):Hz K vs H Q E
theorem XR {j:Int}(h0:0<j)(h1:j<2^256):OS i j:=by
 refine⟨h0,?_⟩;have:j.natAbs.log2<256:=(Nat.log2_lt (by lia)).mpr (by lia);lia
def CW (n:Nat)(Pv:Nat->St->Hp->Prop)(i m:Nat)(σ:St)(H:Hp):Prop:=i<=n/\m=n-i/\Pv i σ H
theorem CW.next {n:Nat}{Pv:Nat->St->Hp->Prop}{i:Nat}{σ:St}{H:Hp}(hi:i<n)(h:Pv (i+1) σ H): ∃m',m'<n-i/\CW n Pv (i+1) m' σ H:=⟨n-(i+1),by lia,by lia,rfl,h⟩
theorem My {K:PySem.W.Frag}{a p:Addr}{xs:List V}{g:TG}{tt:TT}{te:TE}{R:Hp->Prop}{σ0:St}{H0:Hp}(Pv:Nat->St->Hp->Prop)(h0:Pv 0 σ0 H0)(hl: ∀i σ H,i<=xs.length->Pv i σ H->Ef K H a xs)
  (hs: ∀i x σ H,i<xs.length->xs[i]? =some x->Pv i σ H->g x σ H λσ3 H3=>tt σ3 H3 λb H4=>
   if b=true then te σ3 H4 λv H5=> ∃ys,H5 p=some (.lst ys)/\ys.length<sizeLine/\ ∃m',m'<xs.length-i/\CW xs.length Pv (i+1) m' σ3 (upd H5 p (.lst (ys++[v])))
   else ∃m',m'<xs.length-i/\CW xs.length Pv (i+1) m' σ3 H4)
  (hd: ∀σ H,Pv xs.length σ H->R H):NZ (VO K a) p σ0 H0 g tt te R:=by
 refine⟨CW xs.length Pv,⟨_,xA _,rfl,h0⟩,λi m σ' H' w=>?_⟩;obtain⟨hi,rfl,hp⟩:=w;have q:=hl i σ' H' hi hp
 by_cases hlt:i<xs.length
 ·refine .inr ⟨⟨xs,xs[i],q,by simp[hlt]⟩,λx H2 y=>?_⟩;obtain⟨e,y⟩:=y;subst e;exact hs i x σ' _ hlt (y xs q) hp
 ·have e:i=xs.length:=by lia
  subst e;exact .inl ⟨⟨xs,q,zP _⟩,hd σ' H' hp⟩
end L2
namespace L2
open PySem PySem.Spec PyProof.Rows PySem.W
theorem Ue {K:Frag}{N:Addr}{c:Value}{d:Option Addr}{es:Array DictEntry}{n:Nat}{sl:Array (Option Value)}(h:K.lookup N=some ⟨c,d,.dict es n,sl⟩)(q:(es.toList.all λe=>match e.key with| .str _ _=>true|_=>false)=true):nsOkIn K N=true:=by
 unfold nsOkIn;rw[h];rw[Array.all_toList]at q;exact q
theorem Ml {K:Frag}{CE nsC:Addr}{c:Value}{dd:Option Addr}{cd:ClassData}{sl:Array (Option Value)}(h:K.lookup CE=some ⟨c,dd,.cls cd,sl⟩)(hn:cd.ns=nsC)(ok:nsOkIn K nsC=true)(ni:nsIn K nsC "__init__"=some none)(h':Heap)(X:K.In h'):OwnTail h' BZ (.ref CE::BZ):=by
 subst hn;exact .own (X _ _ h) (.of_isNs (isNs_of_in X ok)) (nsMap_none_of_in X ok ni) .base
theorem RQ {K:Frag}{C CE N:Addr}{nm q:Str}{bs:List Value}{sn:List Str}{sub:List Value}{ab:Bool}{col:Option Bool}{dd:Option Addr}{k0 k1 k2 k3 k5:Option Value}{newId:String}(h:K.lookup C=some (excClassObj nm q C N bs (.ref CE::BZ) true sn sub ab col dd k0 k1 k2 k3 k5 newId)):
  ∃cd,clsIn K C=some cd/\cd.hasDict=true/\ ∀self,refuseLoop self "__setattr__" cd.mro=pure ():=by
 refine⟨_,by unfold clsIn;rw[h],rfl,λself=>?_⟩;show refuseLoop self "__setattr__" (.ref C:: .ref CE::BZ)=_;rw[refuseLoop_ref,refuseLoop_ref];exact F.store_ValueError.passes self
theorem RK {P:Program}{w:World}{K:Frag}{mg:Str->Option Value}{base:Heap}{CX:Gy}{k:Nat}{f:Addr}{fd:FuncData}{ps:List Str}:Ap P w K mg base CX k f fd ps (λ_ _ _ _=>False):=
 ⟨λ_ _ _ _ z=>z.elim,λ_ _ _ _ _ _ _ _ _ _ _ _ _ z=>z.elim⟩
theorem xQ {CX:Gy}{P:Program}{w:World}{K:PySem.W.Frag}{mg:Str->Option Value}{base:Heap}{N:List Str}{qual:Str}{scope:Scope}{f:Addr}{cd:Value}{A:Around}{outer:List Env}{s:Shared}{H:Hp}{E:XK}:
  (GO CX P w K mg base N qual scope f cd A outer s H E).K =K:=rfl
def Dg (K:Frag)(g x q:Str)(st:Stmt)(f:Addr):Prop:=nsIn K mainGlobals g=some (some (.ref f))/\ ∃fd,wQ K x q st f fd
def Dm (K:Frag)(c:Addr)(x q:Str)(st:Stmt)(f:Addr):Prop:=findIn K (.ref c) x=some (some (.ref f))/\ ∃fd,wQ K x q st f fd
theorem dg_mk {K:Frag}{g x q:Str}{st:Stmt}{f:Addr}{oc:Value}{od an:Option Addr}{osl:Array (Option Value)}{kV doc pm cdv ct:Value}(a:nsIn K mainGlobals g=some (some (.ref f)))(l:K.lookup f=some ⟨oc,od,.func (fnOf x q (uO st) (qZ st) (zY st) .none kV doc pm an cdv ct),osl⟩)(c:codeIn K cdv q=true)(k:keepIn K (.ref f)=true):Dg K g x q st f:=
 ⟨a,_,RG l c k⟩
theorem dm_mk {K:Frag}{C:Addr}{x q:Str}{st:Stmt}{f:Addr}{oc:Value}{od an:Option Addr}{osl:Array (Option Value)}{kV doc pm cdv ct:Value}(a:findIn K (.ref C) x=some (some (.ref f)))(l:K.lookup f=some ⟨oc,od,.func (fnOf x q (uO st) (qZ st) (zY st) .none kV doc pm an cdv ct),osl⟩)(c:codeIn K cdv q=true)(k:keepIn K (.ref f)=true):Dm K C x q st f:=
 ⟨a,_,RG l c k⟩
theorem uG {us:List Value}{n:Nat}(h:us.length=n+1): ∃u r,us=u::r/\r.length=n:=by
 cases us with
 |nil=>cases h
 |cons u r=>exact⟨u,r,rfl,Nat.succ.inj h⟩
theorem Gn {us:List Value}(h:us.length=0):us=[]:=List.length_eq_zero_iff.mp h
theorem wQ.b0 {K:Frag}{x q:Str}{st:Stmt}{f:Addr}{fd:FuncData}(F:wQ K x q st f fd)(h: ∀(kV doc pm:Value) (an:Option Addr) (cdv ct:Value),bindArgs (fnOf x q (uO st) (qZ st) (zY st) .none kV doc pm an cdv ct) ⟨[],[]⟩=pure []):wT K fd [] []:=
 F.binds λa b c d e g us hl=>by
  cases Gn hl;exact h a b c d e g
theorem wQ.b1 {K:Frag}{x q:Str}{st:Stmt}{f:Addr}{fd:FuncData}(F:wQ K x q st f fd)(p0:Str)(h: ∀(kV doc pm:Value) (an:Option Addr) (cdv ct:Value) (u0:Value),bindArgs (fnOf x q (uO st) (qZ st) (zY st) .none kV doc pm an cdv ct) ⟨[u0],[]⟩=pure [(p0,u0)]):wT K fd [p0] []:=
 F.binds λa b c d e g us hl=>by
  obtain⟨u0,r0,rfl,h0⟩:=uG hl;cases Gn h0;exact h a b c d e g u0
theorem wQ.b2 {K:Frag}{x q:Str}{st:Stmt}{f:Addr}{fd:FuncData}(F:wQ K x q st f fd)(p0 p1:Str)(h: ∀(kV doc pm:Value) (an:Option Addr) (cdv ct:Value) (u0 u1:Value),bindArgs (fnOf x q (uO st) (qZ st) (zY st) .none kV doc pm an cdv ct) ⟨[u0,u1],[]⟩=pure [(p0,u0),(p1,u1)]):wT K fd [p0,p1] []:=
 F.binds λa b c d e g us hl=>by
  obtain⟨u0,r0,rfl,h0⟩:=uG hl;obtain⟨u1,r1,rfl,h1⟩:=uG h0;cases Gn h1;exact h a b c d e g u0 u1
theorem wQ.b3 {K:Frag}{x q:Str}{st:Stmt}{f:Addr}{fd:FuncData}(F:wQ K x q st f fd)(p0 p1 p2:Str)(h: ∀(kV doc pm:Value) (an:Option Addr) (cdv ct:Value) (u0 u1 u2:Value),bindArgs (fnOf x q (uO st) (qZ st) (zY st) .none kV doc pm an cdv ct) ⟨[u0,u1,u2],[]⟩=pure [(p0,u0),(p1,u1),(p2,u2)]):wT K fd [p0,p1,p2] []:=
 F.binds λa b c d e g us hl=>by
  obtain⟨u0,r0,rfl,h0⟩:=uG hl;obtain⟨u1,r1,rfl,h1⟩:=uG h0;obtain⟨u2,r2,rfl,h2⟩:=uG h1;cases Gn h2;exact h a b c d e g u0 u1 u2
theorem wQ.b4 {K:Frag}{x q:Str}{st:Stmt}{f:Addr}{fd:FuncData}(F:wQ K x q st f fd)(p0 p1 p2 p3:Str)(h: ∀(kV doc pm:Value) (an:Option Addr) (cdv ct:Value) (u0 u1 u2 u3:Value),bindArgs (fnOf x q (uO st) (qZ st) (zY st) .none kV doc pm an cdv ct) ⟨[u0,u1,u2,u3],[]⟩=pure [(p0,u0),(p1,u1),(p2,u2),(p3,u3)]):wT K fd [p0,p1,p2,p3] []:=
 F.binds λa b c d e g us hl=>by
  obtain⟨u0,r0,rfl,h0⟩:=uG hl;obtain⟨u1,r1,rfl,h1⟩:=uG h0;obtain⟨u2,r2,rfl,h2⟩:=uG h1;obtain⟨u3,r3,rfl,h3⟩:=uG h2;cases Gn h3;exact h a b c d e g u0 u1 u2 u3
theorem wQ.law {K:Frag}{x q:Str}{st:Stmt}{f:Addr}{fd:FuncData}(F:wQ K x q st f fd)(p:Str)(h: ∀(kV doc pm:Value) (an:Option Addr) (cdv ct v:Value),bindArgs (fnOf x q (uO st) (qZ st) (zY st) .none kV doc pm an cdv ct) ⟨[v],[]⟩=pure [(p,v)])(s:Shared)(v:Value):BindsTo s fd ⟨[v],[]⟩ [(p,v)]:=by
 obtain⟨oc,od,kV,doc,pm,an,cdv,ct,osl,rfl,lk,hcd⟩:=F.ex;exact .of_eq (h kV doc pm an cdv ct v)
theorem Cl {P:Program}{w:World}{K:Frag}{h:Heap}{mg:Str->Option Value}{base:Heap}{CX:Gy}(X:K.In h)(G:h.Ns mainGlobals mg){x q g:Str}{st:Stmt}{f:Addr}{fd:FuncData}{k:Nat}{ps:List Str}{sp:Sp}(a:nsIn K mainGlobals g=some (some (.ref f)))(F:wQ K x q st f fd)(b:wT K fd ps [])(o:Ap P w K mg base CX k f fd ps sp):TM P w K mg base CX k g ps sp:=
 ⟨⟨_,_,o,mg_of X G a,F.kp,b⟩⟩
end L2
namespace L2
open PySem PySem.Spec PyProof.Rows
namespace Rv
theorem owner:Manifest.owners.lookup (String.ofList ['d','e','s','r','e','v','e','r'].reverse)=some Manifest.sig_reversed:=by kernel_rfl
theorem slot_next:Slot "reversed" "__next__" "reversed.__next__":=
 .of (owner:="reversed") (n:="__next__") (by rw[Ba,vB];kernel_rfl) (by decide+kernel) (by decide+kernel) (by decide+kernel)
  (by first|exact .inl (by decide+kernel)|exact .inr (by decide+kernel)) (by rw[Aj];kernel_rfl)
theorem entry_next:entryFor table "reversed.__next__"=some Builtin.«reversed.__next__»:=entryFor_of_tree (by kernel_rfl)
theorem args_next (a:Value):argsOk "reversed.__next__" ⟨[a],[]⟩:=by
 unfold argsOk;rw[signature?_of (id:="reversed.__next__") (n:=['_','_','t','x','e','n','_','_']) (o:=['d','e','s','r','e','v','e','r']) (by kernel_rfl) owner];kernel_rfl
theorem slot_iter:Slot "reversed" "__iter__" "reversed.__iter__":=
 .of (owner:="reversed") (n:="__iter__") (by rw[Ba,vB];kernel_rfl) (by decide+kernel) (by decide+kernel) (by decide+kernel)
  (by first|exact .inl (by decide+kernel)|exact .inr (by decide+kernel)) (by rw[Aj];kernel_rfl)
theorem args_iter (a:Value):argsOk "reversed.__iter__" ⟨[a],[]⟩:=by
 unfold argsOk;rw[signature?_of (id:="reversed.__iter__") (n:=['_','_','r','e','t','i','_','_']) (o:=['d','e','s','r','e','v','e','r']) (by kernel_rfl) owner];kernel_rfl
theorem entry_iter:entryFor table "reversed.__iter__"=some Builtin.«dict_keyiterator.__iter__»:=
 entryFor_alias (id':="dict_keyiterator.__iter__") (by kernel_rfl) (by first|rfl|decide+kernel|(unfold String.splitOn;simp+decide [String.splitOnAux])) (by decide+kernel) (by kernel_rfl)
theorem OX:Slot "reversed" "__init__" "object.__init__":=
 .of (owner:="object") (n:="__init__") (by rw[Ba,vB];kernel_rfl) (by decide+kernel) (by decide+kernel) (by decide+kernel)
  (by first|exact .inl (by decide+kernel)|exact .inr (by decide+kernel)) (by rw[Aj];kernel_rfl)
theorem called:TypeCalled "reversed" "reversed.__new__" "object.__init__":=
 ⟨by decide+kernel,by decide+kernel,⟨_,_,F.mro_reversed⟩,F.made_reversed,by decide+kernel,by rw[Aj];kernel_rfl,OX⟩
theorem tuple_no_rev:typeLookup (.type "tuple") "__reversed__"=pure none:=by rw[Ba,vB];kernel_rfl
theorem tuple_no_dict:isSubtype (.type "tuple") (.type "dict")=pure false:=by rw[Aj];kernel_rfl
end Rv
end L2
namespace L2
open PySem PySem.Spec PyProof.Rows
section
variable {prog:Program}{w:World}{A:Around}{E:Value->Shared->Prop}{s:Shared}
def Ly (l:Addr)(i:Int):Obj:={cls:=.type "reversed",data:=.fields #[.ref l,rawInt i]}
def BK (h:Heap)(a l:Addr)(i:Int):Prop:= ∃o,h.get? a=some o/\o.cls=.type "reversed"/\o.data=.fields #[.ref l,rawInt i]
theorem BK.typeIs {a l:Addr}{i:Int}(x:BK s.heap a l i):s.TypeIs (.ref a) "reversed":=let⟨o,ho,hc,_⟩:=x;⟨o,ho,hc⟩
theorem BK.at {h h':Heap}{a l:Addr}{i:Int}(x:BK h a l i)(e: ∀o,h.get? a=some o->h'.get? a=some o):BK h' a l i:=let⟨o,ho,r⟩:=x;⟨o,e _ ho,r⟩
theorem PZ {l:Addr}{items:Array Value}{Q₁:Value->Shared->Prop}(hl:s.heap.IsTuple l items)(hfit:(items.size:Int)<2^63)
  (h: ∀tk,Q₁ (.ref s.heap.objs.size) {s with heap:=s.heap.push (Ly l ((items.size:Int)-1)),toks:=tk}):
  codeAny (model prog w) A (.call (.builtin "reversed.__new__") ⟨[.type "reversed",.ref l],[]⟩) (wants Q₁ E) s:=by
 have hT:s.TypeIs (.ref l) "tuple":=by obtain⟨o,ho,hc,_⟩:=hl;exact⟨o,ho,hc⟩
 refine codeAny_of_tree ?_;show wpAny _ A.in1 (do checkBuiltinCall "reversed.__new__" ⟨[.type "reversed",.ref l],[]⟩;again (.builtin "reversed.__new__" ⟨[.type "reversed",.ref l],[]⟩)) _ _ s;refine zA (wF (F.newCall_reversed_1 _) (zL ⟨plainId_quiet F.plain_reversed_new _,codeAny_builtin F.entry_reversed_new ?_⟩));rw[Around.under_plainId F.plain_reversed_new _];unfold Builtin.«reversed.__new__»;refine zA (wF (newClass_reversed _) ?_)
 try dsimp only
 refine zA (wF (a:=()) (by first|rfl|kernel_rfl) ?_);refine zA (wF (a:=()) (by first|rfl|kernel_rfl) ?_)
 try dsimp only
 refine zA (AZ hT Rv.tuple_no_rev ?_)
 try dsimp only
 refine zA ?_;show wpAny _ _ (isInstance (.ref l) (.type "dict")>>=_) _ _ s;refine zA (Dv hT Rv.tuple_no_dict ?_)
 try dsimp only
 show wpAny _ _ (specialOf (.ref l) "__getitem__">>=_) _ _ s;refine zA (AZ hT F.slot_tuple_getitem.lookup ?_)
 try dsimp only
 show wpAny _ _ (if(["tuple.__getitem__","str.__getitem__","bytes.__getitem__","bytearray.__getitem__","memoryview.__getitem__","numpy.ndarray.__getitem__","sqlite3.Row.__getitem__"].contains "tuple.__getitem__")=true then _ else _) _ _ s;rw[zR (by decide)];refine zL ?_
 try dsimp only
 rw[zH (show ¬((!true)=true)from zZ)];refine zA (len_tuple hl hfit ?_);refine zA (wF (a:=some (items.size:Int)) rfl ?_)
 try dsimp only
 refine zA ?_;show wpAny _ _ (newObj (.type "reversed") (.fields #[.ref l,rawInt ((items.size:Int)-1)])) _ _ _;refine xX ?_ (by size_fits);exact zL (h _)
theorem Qd {l:Addr}{items:Array Value}{Q:Value->Shared->Prop}(hl:s.heap.IsTuple l items)(hfit:(items.size:Int)<2^63)
  (h: ∀tk,Q (.ref s.heap.objs.size) {s with heap:=s.heap.push (Ly l ((items.size:Int)-1)),toks:=tk}):wpAny (model prog w) A (call (.type "reversed") [.ref l]) Q E s:=by
 refine callType_codes (Q₁:=λobj s₁=>obj=.ref s.heap.objs.size/\ ∃tk,s₁={s with heap:=s.heap.push (Ly l ((items.size:Int)-1)),toks:=tk}) Rv.called (F.typeCall_reversed_1 _) F.entry_object_init (PZ hl hfit λtk=>⟨rfl,tk,rfl⟩) ?_;rintro obj s₁ ⟨rfl,tk,rfl⟩;have hT:Shared.TypeIs {s with heap:=s.heap.push (Ly l ((items.size:Int)-1)),toks:=tk} (.ref s.heap.objs.size) "reversed":=⟨_,yC _ rfl,rfl⟩;exact⟨hT,F.args_object_init_2 _ _,object_init_meets Rv.called.init.lookup Rv.called.made (by decide) prog w A.in1 _ _ ⟨hT,rfl,h tk⟩⟩
theorem Iq {it l:Addr}{i:Nat}{items:Array Value}{x:Value}{Q:Option Value->Shared->Prop}(hit:BK s.heap it l (i:Int))(hl:s.heap.IsTuple l items)(hx:items[i]? =some x)(hfit:(items.size:Int)<2^63)
  (hQ: ∀h' tk,BK h' it l ((i:Int)-1)->Heap.SameBut it s.heap h'->Q (some x) {s with heap:=h',toks:=tk}):wpAny (model prog w) A (pyNext (.ref it)) Q E s:=by
 obtain⟨o,ho,hc,hd⟩:=id hit;have hT:s.TypeIs (.ref l) "tuple":=by obtain⟨o,ho,hc,_⟩:=hl;exact⟨o,ho,hc⟩
 have hi:i<items.size:=(Array.getElem?_eq_some_iff.mp hx).1;unfold pyNext;refine zA (uL (xV (name:=Str.ofString "__next__") hit.typeIs Rv.slot_next
  (jR Rv.slot_next hit.typeIs Rv.entry_next ?_ (Rv.args_next _))))
 unfold Builtin.«reversed.__next__»;refine zA (wF (a:=(Value.ref it,[])) rfl ?_)
 try dsimp only
 refine zA (xG ho hd (x:=.ref l) rfl ?_);refine zA (xG ho hd (x:=rawInt (i:Int)) rfl ?_);show wpAny _ _ (if(i:Int)<0 then _ else _) _ _ s;rw[zH (by lia)];show wpAny _ _ (specialOf (.ref l) "__getitem__">>=_) _ _ s;refine zA (AZ hT F.slot_tuple_getitem.lookup ?_)
 try dsimp only
 rw[zH (show ¬((some (Value.builtin "tuple.__getitem__")).isNone =true)from zZ)];refine zA (wpAny_mkInt ?_);refine zA (uL (getItem_tuple (j:=i) hl (by lia) (by lia) ?_ hx ?_))
 ·unfold seqIndex?;have e: ¬((i:Int)<0):=by lia
  simp only[zH e]
  simp[hi]
 try dsimp only
 refine zA (xG ho hd (x:=rawInt (i:Int)) rfl ?_);show wpAny _ _ (setField (.ref it) 1 (rawInt ((i:Int)-1))>>=_) _ _ _;refine zA (kW ho hd (by simp) (zL ⟨x,rfl,zL (hQ _ _ ?_ (uC ..))⟩));exact⟨_,jD _ ho (qE (jQ hd _)),(CC ..).trans hc,by
  rw[jQ hd];simp⟩
theorem IR {it l:Addr}{Q:Option Value->Shared->Prop}(hh:A.handled=none)(hit:BK s.heap it l (-1))
  (hQ: ∀h',Heap.ExtBut it s.heap h'->Q none {s with heap:=h'}):wpAny (model prog w) A (pyNext (.ref it)) Q E s:=by
 obtain⟨o,ho,hc,hd⟩:=id hit;unfold pyNext;refine zA (uL (xV (name:=Str.ofString "__next__") hit.typeIs Rv.slot_next
  (jR Rv.slot_next hit.typeIs Rv.entry_next ?_ (Rv.args_next _))))
 unfold Builtin.«reversed.__next__»;refine zA (wF (a:=(Value.ref it,[])) rfl ?_)
 try dsimp only
 refine zA (xG ho hd (x:=.ref l) rfl ?_);refine zA (xG ho hd (x:=rawInt (-1)) rfl ?_);show wpAny _ _ (if(-1:Int)<0 then _ else _) _ _ s;rw[zR (by decide)];refine zA (uX ?_);refine zA ?_;show wpAny _ _ (setField (.ref it) 1 (rawInt (-1))>>=_) _ _ s;refine zA (kW ho hd (by simp) ?_);have hd3:=jQ hd (·.setIfInBounds 1 (rawInt (-1)));have gx3:=jD (Obj.mapFields (·.setIfInBounds 1 (rawInt (-1)))) ho (qE hd3);refine kW gx3 hd3 (by simp) ?_;refine zA ?_;show wpAny _ _ (newExc (.type "StopIteration") []>>=_) _ _ _;refine zA ?_;simp only[newExc,newTuple];refine zA (xX ?_ (by size_fits));refine zA (m:=firstArgMember _ _) (wF (a:=Value.none) (by first|rfl|(simp only[firstArgMember];rfl)) ?_);refine xX ?_ (by size_fits);simp only[raiseNew];refine zA (wpAny_handled ?_)
 first|rw[show A.in1.handled=none from hh]|rw[hh]
 refine zA (zL (wpAny_throw ?_));refine zA (Dv (T:="StopIteration") (b:=true) ⟨_,yC _ rfl,rfl⟩ isSubtype_stop ?_);refine zL (hQ _ (λb ob hb e=>zD _ (zD _ ?_)));rw[yZ _ _ (Ne.symm hb),yZ _ _ (Ne.symm hb)];exact e
theorem Ju {it l:Addr}{i:Int}{Q:Value->Shared->Prop}(hit:BK s.heap it l i)(h:Q (.ref it) s):wpAny (model prog w) A (pyIter (.ref it)) Q E s:=by
 refine wpAny_pyIter_slot hit.typeIs Rv.slot_iter (jR Rv.slot_iter hit.typeIs Rv.entry_iter ?_ (Rv.args_iter _));show wpAny _ _ (ret (.ref it)) _ _ s;exact zL ⟨_,rfl,"reversed",_,hit.typeIs,Rv.slot_next.lookup,h⟩
end
def WQ (K:PySem.W.Frag)(a:Addr)(n:Nat):It:=
 ⟨λi H=> ∃xs x,DX K H a xs/\xs.length=n/\xs.reverse[i]? =some x,λi H x H'=>H'=H/\ ∀xs,DX K H a xs->xs.reverse[i]? =some x,λi H=>(∃xs,DX K H a xs/\xs.length=n)/\n<=i⟩
theorem Qt {P:Program}{w:World}{K:PySem.W.Frag}{tg:Expr}(a it:Addr)(n:Nat):KO P w K tg (WQ K a n) [it] it (λi h=>i<=n/\BK h it a ((n:Int)-1-(i:Int))) where
 mem:=by simp
 obj:=λi h st b hb=>by
  have e:b=it:=by simpa using hb
  subst e;obtain⟨_,o,e,c,d⟩:=st;exact⟨o,e,λv z=>by rw[d]at z;cases z⟩
 keep:=λi h h' st k=>⟨st.1,st.2.at λo e=>k it (by simp) o e⟩
 item:=by
  intro X hP hw hK hc i pins s σ H E I hf st hg;subst hP hw hK;obtain⟨xs,x,hq,hn,hx⟩:=hg;obtain⟨its,rv,p,hz⟩:=I.tuple hq;have hi:i<xs.length:=by
   have:=(List.getElem?_eq_some_iff.mp hx).1
   simpa using this
  have hx':xs[n-1-i]? =some x:=by
   rw[List.getElem?_reverse hi,hn]at hx;exact hx
  obtain⟨u,hu,ru⟩:=rv.get hx';obtain⟨f0,f1,f2,f3,f4,f5⟩:=hf it (by simp);have e1:(n:Int)-1-(i:Int)=((n-1-i:Nat):Int):=by lia
  have hl:=rv.length;have h63:=CU;refine Iq (i:=n-1-i) (by rw[<-e1];exact st.2) (show s.heap.IsTuple a its.toArray from p) (x:=u) (by simpa using hu) (by simp only[zV];lia) λh' tk st' sb=>?_;have I1:yV X pins σ H {s with heap:=h',toks:=tk}:=I.turned (t':=tk) (λb o hb e=>(sb.2 b hb).trans e) f0 f1 f3 f4 f5;obtain⟨o,e,c,d⟩:=id st';have e2:((n-1-i:Nat):Int)-1=(n:Int)-1-((i+1:Nat):Int):=by lia
  rw[e2]at st';exact⟨u,rfl,Ix (s:={s with heap:=h',toks:=tk}) e c d (by decide) ⟨x,H,I1,ru,⟨rfl,λys hy=>by rw[I.tuple_inj hy hq];exact hx⟩,⟨by lia,st'⟩,λb hb=>(hf b hb).1⟩⟩
 done:=by
  intro X hP hw hK hc i pins s σ H E I hf st hg;subst hP hw hK;obtain⟨f0,f1,f2,f3,f4,f5⟩:=hf it (by simp);have hi:i=n:=by have:=st.1;have:=hg.2;lia
  have e1:(n:Int)-1-(i:Int)= -1:=by lia
  have st2:=st.2;rw[e1]at st2;exact IR (I.ok.hd hc) st2 λh' eb=>⟨rfl,I.turned (t':=s.toks) (λb o hb e=>eb b o hb e) f0 f1 f3 f4 f5⟩
 self:=λ_ _ _ _ _ st h=>Ju st.2 h
inductive Uj (K:PySem.W.Frag) (vs:List V) (H1:Hp) (R:It->Hp->Prop):Prop
 |mk (a xs:_) (h0:vs=[.ref a]) (h1:DX K H1 a xs) (h2:R (WQ K a xs.length) H1):Uj K vs H1 R
def XO (K:PySem.W.Frag)(ta:TA):TI:=λσ H R=>ta σ H λvs H1=>Uj K vs H1 R
theorem UQ {X:Cx}{tg a:Expr}{ta:TA}{p pos:Pos}(hg:Gl X "reversed")(hm:X.mg "reversed"=none)(ha:PA X [a] ta)(hs:starEach [a] X.env=[(false,eval a X.env)]:=by rfl):PI X tg (.Call (.Name "reversed" p) [a] [] pos) (XO X.K ta):=by
 refine⟨?_⟩;intro pins s σ H R I h;refine Call_ (FL I hg hm MB (jT (kB (ha pos pins s σ H _ I h) λus s1 ⟨vs,H1,I1,r1,q1⟩=>?_) hs rfl));obtain⟨b,xs,e,hq,q⟩:=q1;subst e;cases r1 with
 |cons r rr=>
  cases rr;cases r;obtain⟨its,rv,pl,hz⟩:=I1.tuple hq;have hl:=rv.length;have h63:=CU;refine Qd (show s1.heap.IsTuple b its.toArray from pl) (by simp only[zV];lia) λtk=>?_;have I2:yV X pins σ H1 {s1 with heap:=s1.heap.push (Ly b (((its.toArray).size:Int)-1)),toks:=tk}:=I1.kept λb o e=>zD _ e;have st:BK (s1.heap.push (Ly b (((its.toArray).size:Int)-1))) s1.heap.objs.size b ((xs.length:Int)-1-((0:Nat):Int)):=⟨_,yC _ rfl,rfl,by rw[zV,hl];simp[Ly]⟩;refine Ju (s:={s1 with heap:=s1.heap.push (Ly b (((its.toArray).size:Int)-1)),toks:=tk}) st ?_;refine⟨s1.heap.objs.size,[s1.heap.objs.size],_,_,H1,rfl,I2,Qt b _ xs.length,⟨xA _,st⟩,λc hc=>?_,q⟩;have e:c=s1.heap.objs.size:=by simpa using hc
  subst e;exact I1.fpOk (zP _) (I1.hok.fresh (zP _))
theorem Ts {K:PySem.W.Frag}{a:Addr}{xs:List V}{g:TG}{tb:TS}{D:Eg}{σ:St}{H:Hp}(Pv:Nat->St->Hp->Prop)(h0:Pv 0 σ H)(hl: ∀i σ H,i<=xs.length->Pv i σ H->DX K H a xs)
  (hs: ∀i x σ H,xs.reverse[i]? =some x->Pv i σ H->g x σ H λσ2 H2=>tb {D with nx:=Pv (i+1),ct:=Pv (i+1),bk:=D.nx} σ2 H2) (hd: ∀σ H,Pv xs.length σ H->D.nx σ H):
  ∃W:Nat->Nat->St->Hp->Prop,(∃m,W 0 m σ H)/\ ∀i m σ H,W i m σ H->
   ((WQ K a xs.length).stop i H/\D.nx σ H)\/((WQ K a xs.length).go i H/\ ∃N:St->Hp->Prop,(∀σ' H',N σ' H'-> ∃m',m'<m/\W (i+1) m' σ' H')/\ ∀x H',(WQ K a xs.length).yld i H x H'->g x σ H' λσ2 H2=>tb {D with nx:=N,ct:=N,bk:=D.nx} σ2 H2):=by
 refine⟨λi m σ H=>m=xs.length-i/\i<=xs.length/\Pv i σ H,⟨xs.length,by simp,xA _,h0⟩,?_⟩;rintro i m σ H ⟨rfl,hi,p⟩;have q:=hl i σ H hi p
 by_cases hlt:i<xs.length
 ·refine .inr ⟨⟨xs,xs.reverse[i]'(by simpa using hlt),q,rfl,by simp[hlt]⟩,Pv (i+1),λσ' H' p'=>⟨xs.length-(i+1),by lia,rfl,hlt,p'⟩,λx H' y=>?_⟩;obtain⟨e,y⟩:=y;subst e;exact hs i x σ _ (y xs q) p
 ·have e:i=xs.length:=by lia
  subst e;exact .inl ⟨⟨⟨xs,q,rfl⟩,zP _⟩,hd σ H p⟩
end L2
namespace L2
open PySem
mutual
def pre:Nd->List Nd
 | .mk k p own ps=>.mk k p own ps::wZ ps
def wZ:List Nd->List Nd
 |[]=>[]
 |a::r=>pre a++wZ r
end
theorem AK: ∀(xs ys:List Nd),wZ (xs++ys)=wZ xs++wZ ys
 |[],ys=>by simp[wZ]
 |a::r,ys=>by simp[wZ,AK r ys]
theorem SE: ∀n:Nd,1<=(pre n).length
 | .mk k p own ps=>by simp[pre]
theorem Ie: ∀xs:List Nd,xs.length<=(wZ xs).length
 |[]=>by simp[wZ]
 |a::r=>by
  have:=SE a;have:=Ie r
  simp[wZ];lia
theorem DO: ∀xs:List Nd,(wZ xs.reverse).length =(wZ xs).length
 |[]=>rfl
 |a::r=>by simp[wZ,AK,DO r];lia
theorem qU.more {H:Hp}: ∀{d:Nat} {v:V} {n:Nd},qU H d v n->qU H (d+1) v n
 |0,_,_,z=>z.elim
 |d+1,v,.mk k p own ps,⟨t,o,q,vs,e,h1,h2,h3,r⟩=>⟨t,o,q,vs,e,h1,h2,h3,Paired.imp (λ_ _ z=>qU.more z) r⟩
inductive GB (vs:List V) (H:Hp) (Q:VK) (E:XK):Prop
 |mk (v nd:_) (h0:vs=[v]) (h1:qU H 10 v nd) (h2:(pre nd).length<=1000000) (h3: ∀l us H',qH H H'->H l=none->H' l=some (.lst us)->Paired (qU H' 10) us (pre nd)->Q (.ref l) H'):GB vs H Q E
theorem Paired.append {α β:Type}{F:α->β->Prop}: ∀{xs zs:List α} {ys ws:List β},Paired F xs ys->Paired F zs ws->Paired F (xs++zs) (ys++ws)
 |_,_,_,_,.nil,q=>q
 |_,_,_,_,.cons r t,q=>.cons r (Paired.append t q)
theorem Paired.rev {α β:Type}{F:α->β->Prop}: ∀{xs:List α} {ys:List β},Paired F xs ys->Paired F xs.reverse ys.reverse
 |_,_,.nil=>.nil
 |_,_,.cons r t=>by
  rw[vE,vE];exact Paired.append (Paired.rev t) (.cons r .nil)
theorem Paired.unsnoc {α β:Type}{F:α->β->Prop}: ∀{xs:List α} {x:α} {ys:List β},Paired F (xs++[x]) ys-> ∃ys' y,ys=ys'++[y]/\Paired F xs ys'/\F x y
 |[],x,_,.cons r .nil=>⟨[],_,rfl,.nil,r⟩
 |a::xs,x,_,.cons r t=>by
  obtain⟨ys',y,rfl,p,f⟩:=Paired.unsnoc t;exact⟨_::ys',y,rfl,.cons r p,f⟩
theorem qH.fresh {H H':Hp}{p:Addr}{o:HO}(s:qH H H')(h:H p=none):qH H (upd H' p o):=λb u e=>by rw[zT (zS e h)];exact s b u e
end L2
namespace L2
open PySem PySem.Spec PyProof.Rows
theorem Ew (a b:Int):Builtin.Range.rangeSize a b (-1)=(((a-b).toNat:Nat):Int):=by
 unfold Builtin.Range.rangeSize;rw[zH (by decide)]
 by_cases c:a > b
 ·rw[zR c];have:(-(-1:Int))=1:=by decide
  rw[this,Int.ediv_one];lia
 ·rw[zH c];lia
theorem MY {a b:Int}(ha: -(2^62)<=a)(ha':a<2^62)(hb: -(2^62)<=b)(hb':b<2^62):Builtin.Range.small a b (-1)=true:=by
 unfold Builtin.Range.small;rw[Ew];simp only[Builtin.Range.rangeFitsLong,yP,wX,decide_eq_true_eq,beq_iff_eq,show ¬((-1:Int) > 0)by decide,if_false];lia
def WS (lo:Int)(n:Nat):It:=⟨λi _=>i<n,λi H x H'=>H'=H/\x=.int (lo-i),λi _=>n<=i⟩
theorem OU {P:Program}{w:World}{K:PySem.W.Frag}{tg:Expr}(it:Addr)(lo:Int)(n:Nat):KO P w K tg (WS lo n) [it] it (λi h=>IsRangeIter h it (lo+(i:Nat)*(-1)) ((n:Int)-(i:Nat)) (-1)) where
 mem:=by simp
 obj:=λi h st b hb=>by
  have e:b=it:=by simpa using hb
  subst e;exact⟨_,st,λv z=>by
   have z':Data.fields _=Data.cell v:=z;cases z'⟩
 keep:=λi h h' st k=>k it (by simp) _ st
 item:=by
  intro X hP hw hK hc i pins s σ H E I hf st hg;subst hP hw hK;obtain⟨f0,f1,f2,f3,f4,f5⟩:=hf it (by simp);have W:=Walks.range (prog:=X.prog) (w:=X.w) (I.ok.hd hc) it lo (-1) n;refine W.item i s _ _ hg st λv h' tk hv st' kk=>?_;obtain⟨t,rfl⟩:=hv;have I1:yV X pins σ H {s with heap:=h',toks:=tk}:=I.turned (λb o hb e=>kk b o (by simpa using hb) e) f0 f1 f3 f4 f5;refine⟨_,rfl,Ix (s:={s with heap:=h',toks:=tk}) (n:="range_iterator") st' rfl rfl (by decide) ⟨.int (lo-i),H,I1,⟨t,?_⟩,⟨rfl,rfl⟩,st',λb hb=>(hf b hb).1⟩⟩;rw[show lo+(i:Int)*(-1)=lo-(i:Int)by lia]
 done:=by
  intro X hP hw hK hc i pins s σ H E I hf st hg;subst hP hw hK;obtain⟨f0,f1,f2,f3,f4,f5⟩:=hf it (by simp);exact wpAny_pyNext_range_end (I.ok.hd hc) st (by have:n<=i:=hg;lia) λh' eb=>⟨rfl,I.turned (t':=s.toks) (λb o hb e=>eb b o hb e) f0 f1 f3 f4 f5⟩
 self:=λ_ _ _ _ _ st h=>wpAny_pyIter_rangeiter st h
inductive RC (vs:List V) (H1:Hp) (R:It->Hp->Prop):Prop
 |mk (i j:Int) (h0:vs=[.int i,.int j,.int (-1)]) (h1:(-(2^62)<=i/\i<2^62/\ -(2^62)<=j/\j<2^62)) (h2:R (WS i (i-j).toNat) H1):RC vs H1 R
def Wv (ta:TA):TI:=λσ H R=>ta σ H λvs H1=>RC vs H1 R
theorem SG {X:Cx}{tg a b c:Expr}{ta:TA}{p pos:Pos}(hg:Gl X "range")(hm:X.mg "range"=none)(ha:PA X [a,b,c] ta)(hs:starEach [a,b,c] X.env=(false,eval a X.env)::starEach [b,c] X.env:=by rfl)(hpl:(backTo pos (starEach [b,c] X.env)).any (·.1)=false:=by rfl):
  PI X tg (.Call (.Name "range" p) [a,b,c] [] pos) (Wv ta):=by
 refine⟨?_⟩;intro pins s σ H R I h;refine Call_ (FL I hg hm boot_range (jT (kB (ha pos pins s σ H _ I h) λus s1 ⟨vs,H1,I1,r1,q1⟩=>?_) hs hpl));obtain⟨i,j,e,⟨q1,q2,q3,q4⟩,q⟩:=q1;subst e;cases r1 with
 |cons r rr=>
  cases rr with
  |cons r' rr=>
   cases rr with
   |cons r'' rr=>
    cases rr;obtain⟨t,rfl⟩:=r;obtain⟨t',rfl⟩:=r';obtain⟨t'',rfl⟩:=r'';refine call_range_3 (by decide) ?_ (.inl (PyProof.noPylong_small (by decide)));refine wpAny_pyIter_range (IsRange.new ..) (MY q1 q2 q3 q4) ?_;have I2:yV X pins σ H1 {s1 with heap:=s1.heap.push {cls:=.type "range",data:=.fields #[.int i t,.int j t',.int (-1) t'']},toks:=s1.toks}:=I1.kept λb o e=>zD _ e;refine⟨_,[_],_,_,H1,rfl,I2.kept (t':=s1.toks) λb o e=>zD _ e,OU _ i (i-j).toNat,?_,λb hb=>?_,q⟩
    ·have e1:i+((0:Nat):Int)*(-1)=i:=by simp
     have e2:(((i-j).toNat:Nat):Int)-((0:Nat):Int)=Builtin.Range.rangeSize i j (-1):=by rw[Ew];simp
     show IsRangeIter _ _ (i+((0:Nat):Int)*(-1)) ((((i-j).toNat:Nat):Int)-((0:Nat):Int)) (-1);rw[e1,e2];exact yC _ rfl
    ·have e:=List.mem_singleton.mp hb;subst e;exact I2.fpOk (zP _) (I2.hok.fresh (zP _))
inductive wG (C:Addr) (vs:List V) (H:Hp) (Q:VK) (E:XK):Prop
 |mk (x y:_) (h0:vs=[.ref x,y]) (h1:H x=some (GX x C none)) (h2: ∀d H',d≠x->H d=none->(∀b o,b≠x->H b=some o->H' b=some o)->H' x=some (GX x C (some d))->H' d=some (KY d [("at",y)])->Q .non H'):wG C vs H Q E
def AY (C:Addr)(H:Hp)(E:XK)(n:Int):Prop:= ∀d H',qH H H'->H' d=some (KY d [("at",.int n)])->E (.ref C) (some d) H'
theorem vC {C:Addr}{H:Hp}{E E':XK}{n:Int}(f:AY C H E n): ∀x,H x=none->
  wG C [.ref x,.int n] (upd H x (GX x C none)) (λv H2=>v=.non/\ ∃d,H2 x=some (GX x C (some d))/\E (.ref C) (some d) (upd H2 x (HK x C (some d)))) E':=by
 intro x hx;refine⟨x,_,rfl,zK,λd H' dx hd kp ex ed=>⟨rfl,d,ex,f d _ (λb o e=>?_) ?_⟩⟩
 ·have nx:b≠x:=zS e hx;rw[zT nx];exact kp b o nx (by rw[zT nx];exact e)
 ·rw[zT dx];exact ed
end L2
namespace L2
open PySem PySem.Spec
section
variable {K:Type}[DecidableEq K]{prog:Program}{w:World}{knd:KeyKind prog w K}{A:Around}{E:Value->Shared->Prop}{s:Shared}
theorem EG {d:Addr}{kvs:List (K×Value)}{k:K}{key dflt:Value}{Q:Value->Shared->Prop}(hkey:knd.is k key=true)(hm:s.heap.DictOf knd d kvs)
  (hthere: ∀v,valueAt kvs k=some v->Q v {s with toks:=s.toks+1})
  (hnew:valueAt kvs k=none-> ∀h',h'.DictOf knd d (kvs++[(k,dflt)])->Heap.SameBut d s.heap h'->Q dflt {s with heap:=h',toks:=s.toks+1})
  (hsz:kvs.length<=sizeLine):
  wpAny (model prog w) A (dictSetDefault d key dflt) Q E s:=by
 have hmo:=hm.mapOf;obtain⟨o,es,ep,ho,hc,hd,hk,hp,hn⟩:=hm;have hes:es.size<=sizeLine:=by
  have e1:=hp.length;have e2:es.toList.length=es.size:=by simp
  lia
 obtain⟨o',es',ep',ho',hc',hd',hk',hf⟩:=hmo;rw[ho]at ho';cases ho';rw[hd]at hd';injection hd' with q1 q2
 subst q1;unfold dictSetDefault
 try with_reducible refine qW ?_
 refine zA (knd.pyHash hkey ?_);refine zA (wpAny_dictFind_of (s:={s with toks:=s.toks+1}) hkey ho hd hk ?_);have hidx:(es.findIdx? λe=>knd.is k e.key)=kvs.findIdx? λkv=>decide (kv.1=k):=by
  rw[<-hp.findIdx k];obtain⟨l⟩:=es;simp
 cases hi:es.findIdx? λe=>knd.is k e.key with
 |some i=>
  have hfk:valueAt kvs k=(es[i]?).map (·.val):=by rw[<-hf k,findBy_of_findIdx?,hi]
  refine zA (wpAny_dictEntries (s:={s with toks:=s.toks+1}) ho hd ?_);cases he:es[i]? with
  |none=>
   exfalso;have:=Array.findIdx?_eq_some_iff_findIdx_eq.mp hi;have hlt:i<es.size:=this.1;rw[vV hlt]at he;exact nomatch he
  |some e=>
   rw[he]at hfk;exact zA (uX (zL (hthere e.val hfk)))
 |none=>
  have hnot:k∉kvs.map (·.1):=not_mem_of_findIdx_none (hidx▸hi);have hfk:valueAt kvs k=none:=by rw[<-hf k,findBy_of_findIdx?,hi]
  refine zA (uX (zA (wpAny_updateDictKeys (hz:=hes) (s:={s with toks:=s.toks+1}) ho hd (zL (hnew hfk _ ⟨_,_,ep+1,jD _ ho (Obj.isFreed_of_dict (Obj.data_mapDictKeys hd _)),
   hc.mapDictKeys _,Obj.data_mapDictKeys hd _,hk.push hkey _,?_,?_⟩ (uC ..))))))
  ·rw[Array.toList_push];exact hp.append hkey _ _
  ·rw[xH];refine List.nodup_append.mpr ⟨hn,by simp,λa ha b hb e=>?_⟩;have:b=k:=by simpa using hb
   exact hnot (this▸e▸ha)
theorem DU {k:K}{key:Value}(d:Addr)(hkey:knd.is k key=true)(hd:(d==sysModules)=false)(dflt:Value):
  MeetsIn prog w (Builtin.«dict.setdefault» ⟨[.ref d,key,dflt],[]⟩) (λ_ R s=> ∃kvs,s.heap.DictOf knd d kvs/\kvs.length<=sizeLine/\
   (∀v,valueAt kvs k=some v->R (.ok (.ret v)) {s with toks:=s.toks+1})/\
   (valueAt kvs k=none-> ∀h',h'.DictOf knd d (kvs++[(k,dflt)])->Heap.SameBut d s.heap h'->R (.ok (.ret dflt)) {s with heap:=h',toks:=s.toks+1})):=
 .of_wp λA R s ⟨kvs,hm,hz,h1,h2⟩=>by
  unfold Builtin.«dict.setdefault»;refine zA ?_;unfold Builtin.Dict.keyAndDefault;refine zA (wpAny_notOrdered_dict hm.typeIs ?_);show wpAny _ _ (pure (d,key,some dflt)) _ _ s;refine zL ?_;show wpAny _ _ (if(d==sysModules)=true then _ else(dictSetDefault d key dflt>>=_)) _ _ s;rw[zH (by rw[hd];exact zZ)];exact zA (EG hkey hm (λv hv=>zL ⟨v,rfl,h1 v hv⟩) (λhn h' hm' hs'=>zL ⟨dflt,rfl,h2 hn h' hm' hs'⟩) hz)
end
section
variable {X:Cx}{pins:List (Addr×Obj)}{σ:St}{H:Hp}{s:Shared}{a:Addr}{kvs:List (Dp×V)}{k:Dp}{u r:Value}{d:V}{A:Around}{E:Value->Shared->Prop}
theorem RW {Q:Value->Shared->Prop}(I:yV X pins σ H s)(e:H a=some (.dK kvs))(ry:jM (kV k) u)(rd:jM d r)(hl:kvs.length<sizeLine)
  (h1: ∀v w' s',Eb kvs k=some v->yV X pins σ H s'->jM v w'->Q w' s') (h2: ∀s',Eb kvs k=none->yV X pins σ (upd H a (.dK (kvs++[(k,d)]))) s'->Q r s'):
  wpAny (model X.prog X.w) A (call (.builtin "dict.setdefault") [.ref a,u,r]) Q E s:=by
 obtain⟨z,hd,vs,rel,dd⟩:=WA I.hok e;have hz:vs.length<=sizeLine:=by rw[<-rel.length];exact z
 refine call_meetsIn Bb dd.typeIs PySem.F.entry_dict_setdefault (PySem.F.args_dict_setdefault_3 _ _ _) (DU (knd:=vD X.prog X.w) a (Ox ry) hd r) ⟨vs,dd,hz,λv hv=>?_,λhv h' dd' hs=>?_⟩
 ·have rl:=rel.val k;rw[hv]at rl;cases q:Eb kvs k with
  |none=>rw[q]at rl;exact rl.elim
  |some y=>rw[q]at rl;exact h1 y _ _ q (I.tok _) rl
 ·have rl:=rel.val k;rw[hv]at rl;have q:Eb kvs k=none:=by
   cases q:Eb kvs k with
   |none=>rfl
   |some y=>rw[q]at rl;exact rl.elim
  have he: ∃q,h'.get? a=some q:=let⟨q,_,_,hq,_⟩:=dd';⟨q,hq⟩;refine h2 _ q (Tu I (by rw[e];exact True.intro) hs he (Vt (by rw[zC];exact hl) hd (Ac rel ⟨rfl,rd⟩) dd'))
end
section
variable {X:Cx}{o e f:Expr}{td ty tx:TE}{apos cpos:Pos}
def Uz (td ty tx:TE):TE:=λσ H Q=>td σ H λx H1=> ∃a,x=.ref a/\Yf H1 a/\ty σ H1 λy H2=>tx σ H2 λz H3=> ∃kvs k,H3 a=some (.dK kvs)/\y=kV k/\kvs.length<sizeLine/\
 (∀v,Eb kvs k=some v->Q v H3)/\(Eb kvs k=none->Q z (upd H3 a (.dK (kvs++[(k,z)]))))
theorem QQ (ho:PE X o td)(he:PE X e ty)(hf:PE X f tx)(m:M2 X o "setdefault" apos e f cpos):PE X (.Call (.Attribute o "setdefault" apos) [e,f] [] cpos) (Uz td ty tx):=by
 refine⟨?_⟩;intro pins s σ H Q I h;refine wpAny_Call_method m.base m.few m.line PySem.F.plainAttrs_dict Bb PySem.F.type_dict_setdefault (kB (ho pins s σ H _ I h) λu s1 hzz=>?_);obtain⟨x,H1,I1,rx,a,ex,d,q1⟩:=hzz;subst ex;obtain rfl:u=Value.ref a:=rx;obtain⟨t1,t2,_⟩:=Vp I1 d;refine⟨t1,t2,?_⟩;rw[m.trees];refine kP rfl (vN (wP (kB (he pins s1 σ H1 _ I1 q1) λiv s2 ⟨y,H2,I2,ry,q2⟩=>
  wP (kB (hf pins s2 σ H2 _ I2 q2) λfv s3 ⟨z,H3,I3,rz,kvs,k,ea,ey,hl,qa,qb⟩=>CI ?_))))
 subst ey;exact RW I3 ea ry rz hl (λv w' s' hv I4 rv=>⟨_,H3,I4,rv,qa v hv⟩) λs' hv I4=>⟨_,_,I4,rz,qb hv⟩
end
end L2
namespace L2
open PySem
theorem GJ {M:Model}{Γ:PySem.Ctx}{p:Pos}{t:Sem Fin}{fs:List Frame}{s:Shared}{e:End}{s':Shared}(h:Runs M Γ p t fs s e s'):s.toks<=s'.toks:=by
 induction h with
 |done=>exact zP _
 |raise=>exact zP _
 |again _ _ ih=>exact ih
 |rule _ ih=>exact ih
 |«at» _ ih=>exact ih
 |load _ _ ih=>exact ih
 |update _ _ ih=>exact ih
 |loadIfAlive _ ih=>exact ih
 |point _ ih=>exact ih
 |alloc _ ih=>exact ih
 |fresh _ ih=>exact Nat.le_of_succ_le ih
 |ask _ ih=>exact ih
 |choose _ _ ih=>exact ih
 |os _ ih=>exact ih
 |handled _ ih=>exact ih
 |genState _ _ ih=>exact ih
 |stack _ ih=>exact ih
 |thread _ ih=>exact ih
 |newGen _ ih=>exact ih
 |call _ _ i1 i2=>exact yJ i1 i2
 |callSusp _ ih=>exact ih
 |yield=>exact zP _
 |resumeFresh _ _ _ _ i1 i2=>exact yJ i1 i2
 |resumeSuspended _ _ _ _ i1 i2=>exact yJ i1 i2
 |resumeJustStarted _ _ _ ih=>exact ih
 |resumeThrowFresh _ _ ih=>exact ih
 |resumeRunning _ _ ih=>exact ih
 |resumeFinished _ _ ih=>exact ih
 |segRet _ _ i1 i2=>exact yJ i1 i2
 |segGen _ _ i1 i2=>exact yJ i1 i2
 |segSuspOut _ _ ih=>exact ih
 |segSuspGen _ _ _ _ i1 i2=>exact yJ i1 i2
theorem MM {M:Model}{Γ:PySem.Ctx}{p:Pos}{g:Nat}{r:Resume}{s:Shared}{res:GenResult}{s':Shared}(h:Wakes M Γ p g r s res s'):s.toks<=s'.toks:=by
 unfold Wakes at h;split at h
 ·exact h.elim
 ·split at h
  ·obtain⟨e1,s1,h1,_,_,rfl⟩:=h;have:=GJ h1;exact this
  ·rw[h.2];exact zP _
  ·rw[h.2];exact zP _
 ·obtain⟨e1,s1,h1,_,_,rfl⟩:=h;have:=GJ h1;exact this
 ·rw[h.2];exact zP _
 ·rw[h.2];exact zP _
theorem JP {α:Type}{M:Model}{Γ:PySem.Ctx}{Q:α->Pos->Shared->Prop}{E:Value->Pos->Shared->Prop}{n:Nat}: ∀(t:Sem α) (p:Pos) (s:Shared),n<=s.toks->Sem.wp M Γ t (λa p' s'=>n<=s'.toks->Q a p' s') (λe p' s'=>n<=s'.toks->E e p' s') p s->Sem.wp M Γ t Q E p s:=by
 intro t
 induction t with
 |pure a=>intro p s hn h;exact h hn
 |raise e=>intro p s hn h;exact h hn
 |unsupported _=>intro p s hn h;exact h
 |finish _=>intro p s hn h;exact h
 |rule _ k ih=>intro p s hn h;rw[Sem.wp_rule]at h ⊢;exact ih () p s hn h
 |«at» p' k ih=>intro p s hn h;rw[Sem.wp_at]at h ⊢;exact ih () p' s hn h
 |load a part k ih=>
  intro p s hn h;rw[Sem.wp_load]at h ⊢;obtain⟨o,e,h⟩:=h;exact⟨o,e,ih o p s hn h⟩
 |update a part f k ih=>
  intro p s hn h;rw[Sem.wp_update]at h ⊢;exact⟨h.1,ih () p _ hn h.2⟩
 |alloc o k ih=>intro p s hn h;rw[Sem.wp_alloc]at h ⊢;exact ih _ p _ hn h
 |loadIfAlive a k ih=>intro p s hn h;rw[Sem.wp_loadIfAlive]at h ⊢;exact ih _ p s hn h
 |point l k ih=>intro p s hn h;rw[Sem.wp_point]at h ⊢;exact ih () p s hn h
 |register a k ih=>intro p s hn h;rw[Sem.wp_register]at h;exact h.elim
 |fresh k ih=>intro p s hn h;rw[Sem.wp_fresh]at h ⊢;exact ih _ p _ (Nat.le_succ_of_le hn) h
 |ask k ih=>intro p s hn h;rw[Sem.wp_ask]at h ⊢;exact ih _ p s hn h
 |choose src m k ih=>intro p s hn h;unfold Sem.wp at h ⊢;exact⟨h.1,ih _ p _ hn h.2⟩
 |os q l k ih=>intro p s hn h;unfold Sem.wp at h ⊢;exact ih _ p _ hn h
 |call c hd g l k ih=>
  intro p s hn h;unfold Sem.wp at h ⊢;obtain⟨r,s1,hr,h⟩:=h;exact⟨r,s1,hr,ih r p s1 (yJ hn (GJ hr)) h⟩
 |handled own k ih=>intro p s hn h;unfold Sem.wp at h ⊢;exact ih _ p s hn h
 |newGen c k ih=>intro p s hn h;unfold Sem.wp at h ⊢;exact ih _ p _ hn h
 |genState g k ih=>
  intro p s hn h;unfold Sem.wp at h ⊢;obtain⟨st,e,h⟩:=h;exact⟨st,e,ih _ p s hn h⟩
 |resume g r l k ih=>
  intro p s hn h;unfold Sem.wp at h ⊢;obtain⟨res,s1,hr,h⟩:=h;exact⟨res,s1,hr,ih _ p s1 (yJ hn (MM hr)) h⟩
 |yield v g l k ih=>intro p s hn h;unfold Sem.wp at h;exact h.elim
 |stack k ih=>intro p s hn h;unfold Sem.wp at h ⊢;exact ih _ p s hn h
 |fork c k ih=>intro p s hn h;unfold Sem.wp at h;exact h.elim
 |thread k ih=>intro p s hn h;unfold Sem.wp at h ⊢;exact ih _ p s hn h
 |await a tk td l k ih=>intro p s hn h;unfold Sem.wp at h;exact h.elim
theorem MK {α:Type}{M:Model}{A:Around}{t:Sem α}{Q:α->Shared->Prop}{E:Value->Shared->Prop}{s:Shared}(h:wpAny M A t (λv s'=>s.toks<=s'.toks->Q v s') (λe s'=>s.toks<=s'.toks->E e s') s):wpAny M A t Q E s:=
 λΓ p hΓ=>JP t p s (zP _) (h Γ p hΓ)
end L2
namespace L2
open PySem PySem.Spec PySem.Builtin.Str PyProof.Rows
def JL {α:Type}(t:Sem α):Prop:= ∀(M:Model) (Γ:PySem.Ctx) (Q:α->Pos->Shared->Prop) (E:Value->Pos->Shared->Prop) (p:Pos) (s:Shared),
 Sem.wp M Γ t (λa p' s'=>s.toks<s'.toks->Q a p' s') E p s->Sem.wp M Γ t Q E p s
theorem JL.fst {α β:Type}{m:Sem α}{f:α->Sem β}(h:JL m):JL (m>>=f):=λM Γ Q E p s q=>by
 rw[Sem.wp_bind']at q ⊢;refine h M Γ _ E p s (Sem.wp_mono M Γ m (λa p' s' h'=>?_) (λ_ _ _ h'=>h') p s q);intro lt;refine JP (n:=s'.toks) (f a) p' s' (zP _) (Sem.wp_mono M Γ (f a) (λb p2 s2 h2=>?_) (exc':=λe p' s2=>s'.toks<=s2.toks->E e p' s2) (λ_ _ _ h2 _=>h2) p' s' h');exact λle=>h2 (yG lt le)
theorem JL.snd {α β:Type}{m:Sem α}{f:α->Sem β}(h: ∀a,JL (f a)):JL (m>>=f):=λM Γ Q E p s q=>by
 rw[Sem.wp_bind']at q ⊢;refine JP (n:=s.toks) m p s (zP _) (Sem.wp_mono M Γ m (λa p' s' h'=>?_) (exc':=λe p' s2=>s.toks<=s2.toks->E e p' s2) (λ_ _ _ h2 _=>h2) p s q);intro le;refine h a M Γ _ E p' s' (Sem.wp_mono M Γ (f a) (λb p2 s2 h2=>?_) (λ_ _ _ h2=>h2) p' s' h');exact λlt=>h2 (kC le lt)
theorem PQ:JL fresh:=λM Γ Q E p s q=>by
 unfold fresh at q ⊢;rw[Sem.wp_fresh]at q ⊢;exact q (kS _)
theorem PP {ns:Addr}{x:Str}{v:Value}:JL (nsSet ns x v):=by
 unfold nsSet;exact JL.snd λ_=>JL.fst (JL.fst PQ)
theorem JL.go {α:Type}{t:Sem α}{M:Model}{A:Around}{Q:α->Shared->Prop}{E:Value->Shared->Prop}{s:Shared}(h:JL t)(q:wpAny M A t (λa s'=>s.toks<s'.toks->Q a s') E s):wpAny M A t Q E s:=
 λΓ p hΓ=>h M Γ _ _ p s (q Γ p hΓ)
theorem Hv {env:Env}{x:Str}{v:Value}(hk:env.scope.kind=.function)(hl:env.kindOf x=some .local):storeName env x v=nsSet env.locals x v:=by
 unfold storeName;rw[hl,hk];rfl
theorem Tn {scope:Scope}{globals:Addr}{n:Str}{v:Value}{binds:List (Str×Value)}{qual:Str}{func:Option Addr}{code:Value}{builtins:Addr}(hk:scope.kind=.function)(hl:scope.names.lookup n=some .local):
  JL (newFunctionEnv scope globals [] ((n,v)::binds) qual func code none builtins):=by
 simp only[newFunctionEnv,Option.isSome_none,BO,if_false];refine JL.snd λL=>JL.snd λcells=>JL.fst ?_;rw[wU];refine JL.fst (JL.fst ?_);rw[Hv (by exact hk) (by exact hl)];exact PP
structure WF (X:Cx)(st:List Stmt)(t:TS):Prop where
 go: ∀(pins:List (Addr×Obj)) (s:Shared) (σ:St) (H:Hp) (D:Eg),yV X pins σ H s->0<s.toks->t D σ H->wpAny (model X.prog X.w) X.A (execs st X.env) (SP X pins D) X.xe s
structure VN (X:Cx)(e:Expr)(t:TE):Prop where
 go: ∀(pins:List (Addr×Obj)) (s:Shared) (σ:St) (H:Hp) (Q:VK),yV X pins σ H s->0<s.toks->t σ H Q->wpAny (model X.prog X.w) X.A (eval e X.env) (EP X pins σ Q) X.xe s
structure Yd (X:Cx)(tg iter:Expr)(wi:TI):Prop where
 go: ∀(pins:List (Addr×Obj)) (s:Shared) (σ:St) (H:Hp) (R:It->Hp->Prop),yV X pins σ H s->0<s.toks->wi σ H R->
  wpAny (model X.prog X.w) X.A (eval iter X.env) (λv s1=>wpAny (model X.prog X.w) X.A (pyIter v) (Xo X pins σ tg R) X.xe s1) X.xe s
theorem Vr {CX:Gy}{P:Program}{w:World}{K:PySem.W.Frag}{mg:Str->Option Value}{base:Heap}{k:Nat}{f:Addr}{name qual:Str}{params:Arguments}{body:List Stmt}{scope:Scope}{dV kV doc pm cdv ct oc:Value}{an od:Option Addr}
  {osl:Array (Option Value)} {N ps:List Str} {p0:Str} {sp:Sp} (lk:K.lookup f=some ⟨oc,od,.func (PySem.W.fnOf name qual params body scope dV kV doc pm an cdv ct),osl⟩) (hcd:PySem.W.codeIn K cdv qual=true) (S:yW N (p0::ps) scope)
  (h0:scope.names.lookup p0=some .local)
  (len: ∀vs H Q E,sp vs H Q E->vs.length=(p0::ps).length)
  (hbody: ∀(A:Around) (outer:List Env) (s:Shared) (H:Hp) (vs:List V) (Q:VK) (E:XK),wK k (A.deeper (envOfC qual scope s.heap.objs.size f cdv))->sp vs H Q E->
   ∃t,WF (GO CX P w K mg base N qual scope f cdv A outer s H E) body t/\t {nx:=λ_ H'=>Q .non H',rt:=Q} (BS N vs) H):
  Ap P w K mg base CX (k+1) f (PySem.W.fnOf name qual params body scope dV kV doc pm an cdv ct) (p0::ps) sp:=by
 refine⟨len,λA outer s H args us vs Q E hr e0 hb r hsp=>?_⟩;have hl:=len _ _ _ _ hsp;have KX:K.In s.heap:=e0.mod.kin.keeps λb o e=>(e0.bs b o e).1;have lim:s.heap.NoLimit:=e0.mod.nolimit.keeps λb o e=>(e0.bs b o e).1;have hkind: ∀y∈(p0::ps).zip us,scope.names.lookup y.1=some .local\/(scope.names.lookup y.1=some .cell/\((cellsFrom (s.heap.objs.size+1) scope.names []).lookup y.1).isSome =true):=fun⟨n,v⟩ hy=>by
  rcases S.par n (Bd hy).1 with q|q
  ·exact .inl q
  ·exact .inr ⟨q,Al _ _ _ (.inl q)⟩
 have hul:us.length=vs.length:=r.length.symm;obtain⟨u0,us',rfl⟩: ∃u0 us',us=u0::us':=by
  cases us with
  |nil=>rw[hl]at hul;cases hul
  |cons a b=>exact⟨a,b,rfl⟩
 refine codeAny_call_function hr.depth (KX _ _ lk) rfl S.co S.gen rfl (PySem.W.codeRec_of KX hcd) (hb _ _ _ _ ?_);refine JL.go (by rw[List.zip_cons_cons];exact Tn S.kind h0) ?_;refine wpAny_newFunctionEnv_cells S.kind hkind λenv he s1 x lt=>?_;subst he;refine⟨lim.keeps x.toInCall.keep,codeAny_func ?_⟩;obtain⟨t,ht,hq⟩:=hbody A outer s H vs Q E (hr.deeper _) hsp;have I:yV (GO CX P w K mg base N qual scope f cdv A outer s H E) [] (BS N vs) H s1:=Jx S hr.hd e0 hl r x;refine kJ (ht.go [] s1 (BS N vs) H _ I (kC (xA _) lt) hq) (λfl s' hs=>?_) λe s' hs=>hs;have fin: ∀{σ':St} {H':Hp} {v:V} {u:Value},yV (GO CX P w K mg base N qual scope f cdv A outer s H E) [] σ' H' s'->jM v u->Q v H'->CE outer P w H s Q u s':=
  fun{σ' H' v u} J rv q=>⟨v,H',J.os,J.bare,J.base,J.hok,rv,q⟩
 cases fl with
 |ret u=>
  obtain⟨v,σ',H',J,rv,q⟩:=hs;exact fin J rv q
 |next=>
  obtain⟨σ',H',J,q⟩:=hs;exact fin (v:=V.non) (u:=Value.none) J rfl q
 |brk=>
  obtain⟨_,_,_,q⟩:=hs;exact False.elim q
 |cont=>
  obtain⟨_,_,_,q⟩:=hs;exact False.elim q
section
variable {X:Cx}{e:Expr}{te:TE}{pos:Pos}
theorem QI (he:VN X e te):WF X [.Return (some e) pos] (Qw te):=by
 refine⟨?_⟩;intro pins s σ H D I h0 h;refine Dw (wpAny_Return_some (kB (he.go pins s σ H _ I h0 h) λv s1 hzz=>?_));obtain⟨x,H1,I1,r1,q1⟩:=hzz;exact⟨x,σ,H1,I1,r1,q1⟩
theorem QM {tg l:Expr}{tl:TE}(hl:VN X l tl):Yd X tg l (Uk X.K tl):=by
 refine⟨?_⟩;intro pins s σ H R I h0 h;refine kB (hl.go pins s σ H _ I h0 h) λv s1 hzz=>?_;obtain⟨x,H1,I1,r1,q1⟩:=hzz;obtain⟨a,e,⟨xs,hq⟩,q⟩:=q1;subst e;cases r1;obtain⟨its,rv,p,hz⟩:=I1.list hq;refine CA p.isList ?_;refine⟨s1.heap.objs.size,[s1.heap.objs.size],_,_,H1,rfl,I1.kept (t':=s1.toks) λb o e=>zD _ e,IZ a _,⟨_,yC _ rfl,rfl,rfl⟩,λb hb=>?_,q⟩;have e:b=s1.heap.objs.size:=by simpa using hb
 subst e;exact I1.fpOk (zP _) (I1.hok.fresh (zP _))
theorem QS {target iter elt:Expr}{ifs:List Expr}{scope:Scope}{wi:TI}{own ys:List Str}{js:List Nat}{g:TG}{tt:TT}(hc:X.calm=true)(hi:Yd X target iter wi)(S:KU X scope ys)(fr:EJ X.N ys js)
  (hg: ∀cl C fp s H,PG (X.comp (own++ys) scope cl C fp s H) target g) (ht: ∀cl C fp s H,Uq (X.comp (own++ys) scope cl C fp s H) ifs tt) (he: ∀cl C fp s H,PE (X.comp (own++ys) scope cl C fp s H) elt te)
  (hs: ∀x,foldedSetIterable iter X.env x=pure x:=by intro _;rfl):VN X (.ListComp elt [⟨target,iter,ifs,0⟩] scope pos) (QA wi own.length js g tt te):=by
 refine⟨?_⟩;intro pins s σ H Q I h0 h;rw[eval_ListComp];obtain⟨cl,e,c1,c2⟩:=FR (env:=X.env) (scope:=scope) λy hy hf=>I.ok.has y.1 (.inl (S.free y hy hf));refine uK (use:=none) rfl hs e S.kind S.loc (kB (hi.go pins s σ H _ I h0 h) λv s1 h1=>kB h1 λitv s2 h2=>?_);obtain⟨it,fp,tn,J,H2,e,I2,T,st2,f2,q2⟩:=h2;subst e;refine FP (Q:=Q) (RR:=λacc C=>compPost (model X.prog X.w) X.A X.xe none (EP X pins σ Q) acc C) hc I2 T st2 f2 S.kind S.cell fr S.cap c1 c2 S.vis hg ht he q2 ?_;intro D C H' s' I' q hm n1 n2 n3 n4 n5;obtain⟨m,hn⟩:=hm;exact⟨m,hn,λh' hs'=>⟨.ref D,H',I'.turned (λb o hb e=>(hs'.2 b hb).trans e) n1 n2 (.inr n3) n4 n5,rfl,q⟩⟩
theorem UU {o:Expr}{es:List Expr}{to:TE}{t:TA}{T id:String}{name:Str}{r:V->List V->Hp->VK->Prop}{apos cpos:Pos}(pa:PlainAttrs T)(slot:Slot T name id)(hty:typeOf (.builtin id)=pure (.type "method_descriptor"))(hm:TJ X id r)(ho:VN X o to)(ha:PA X (e::es) t)
  (hbase:attributeBase o name X.env (eval o X.env)=eval o X.env:=by rfl)
  (hfew:((backTo cpos (starEach (e::es) X.env)).all (λx=>!x.1)&&(backToKw cpos (keywordEach [] X.env)).all (λx=>x.1.isSome)
   &&decide ((e::es).length +([]:List Keyword).length +(if([]:List Keyword).isEmpty then 0 else 1)<30))=true:=by rfl)
  (hline:(apos.endLine==cpos.line)=true:=by rfl) (hs:starEach (e::es) X.env=(false,eval e X.env)::starEach es X.env:=by rfl) (hplain:(backTo cpos (starEach es X.env)).any (·.1)=false:=by rfl):
  VN X (.Call (.Attribute o name apos) (e::es) [] cpos) (XW X.K T r to t):=by
 refine⟨?_⟩;intro pins s σ H Q I h0 h;refine Ai hbase hfew hline rfl (kB (ho.go pins s σ H _ I h0 h) λv s1 hzz=>?_);obtain⟨x,H1,I1,r1,ty,q1⟩:=hzz;obtain⟨h1,h2⟩:=MN I1 r1 ty;refine⟨T,id,pa,slot,hty,h1,h2,?_⟩;have hA:=ha cpos pins s1 σ H1 _ I1 q1;rw[hs]at hA ⊢;refine kP (by show(false || (backTo cpos (starEach es X.env)).any (·.1))=false;rw[hplain]<;>rfl) (vN ?_);exact kB hA λus s2 ⟨vs,H2,I2,r2,q2⟩=>hm pins s2 σ H2 x vs v us Q I2 r1 r2 q2
def VR (to:TE)(y z:Str):TE:=λσ H Q=>to σ H λv H1=> ∃x:Str,v=.str x/\x.length<=1048576/\Q (.str (Txt.replace x y z)) H1
theorem LI {o:Expr}{to:TE}{y z:Str}{apos cpos p1 p2:Pos}{k1 k2:Nat}(hyz:(y==z)=false)(hz:z.length<=14)(ho:PE X o to)
  (hbase:attributeBase o "replace" X.env (eval o X.env)=eval o X.env:=by rfl)
  (hline:(apos.endLine==cpos.line)=true:=by rfl):
  VN X (.Call (.Attribute o "replace" apos) [.Constant (.str y) k1 p1,.Constant (.str z) k2 p2] [] cpos) (VR to y z):=by
 refine⟨?_⟩;intro pins s σ H Q I h0 h;refine Ai hbase rfl hline rfl (MK (kJ (ho pins s σ H _ I h) (λv s1 ⟨x,H1,I1,r1,q1⟩ le=>?_) λ_ _ q _=>q));obtain⟨x,rfl,hx,q⟩:=q1;obtain⟨tk,rfl⟩:=r1;refine⟨"str","str.replace",F.plainAttrs_str,F.slot_str_replace,F.type_str_replace,uY _ _ _,(λ_ e=>nomatch e),?_⟩;refine kP rfl (vN ?_);refine wP (BN (k:=k1) (pos:=p1) (wP (BN (k:=k2) (pos:=p2) (CI ?_))));have hp:0<s1.toks:=yG h0 le;refine SC.replaceW (wM hp) (Nat.succ_ne_zero _) (xR (kS _)) hyz hx hz λt' k=>?_;exact⟨.str _,H1,I1.tok _,⟨_,rfl⟩,q⟩
theorem UT {c a b:Expr}{tA:TT}{x y:V}(hc:PT X c tA)(ha:PE X a (tC x))(hb:PE X b (tC y)):PE X (.IfExp c a b pos) (λσ H Q=>tA σ H λc H1=>Q (if c=true then x else y) H1):=by
 refine⟨?_⟩;intro pins s σ H Q I h;refine wpAny_IfExp (kB (hc pins s σ H _ I h) λd s1 hzz=>?_);obtain⟨H1,I1,q1⟩:=hzz;cases d with
 |true=>exact ha pins s1 σ H1 Q I1 q1
 |false=>exact hb pins s1 σ H1 Q I1 q1
end
end L2
namespace L2
open PySem
structure RA where
 rd:Addr
 dr:Addr
 wd:Addr
 nm:Addr
 hd:Addr
 bd:Addr
 nu:Addr
 cn:Addr
def BQ (C:Addr)(A:RA)(a:Nat):HO:=.ins C A.dr [("words",.ref A.wd),("at",.int (a:Int)),("names",.ref A.nm),("heads",.ref A.hd),("bodies",.ref A.bd),("numbered",.ref A.nu),("counted",.ref A.cn)]
structure Xk (W:List Str):Prop where
 few:W.length<=1000000
 short: ∀w∈W,w.length<=1000000
theorem EY {n:Nat}(h:n<=8000000):n<=sizeLine:=yJ h (by decide)
theorem Af {n:Nat}(h:n<=8000000):n<sizeLine:=kC h (by decide)
theorem Xk.at {W:List Str}(h:Xk W){a:Nat}{w:Str}(e:W[a]? =some w):w.length<=sizeLine:=EY (yJ (h.short w (zU e)) (by decide))
structure IT (C:Addr)(A:RA)(W:List Str)(H:Hp)(a:Nat):Prop where
 rd:H A.rd=some (BQ C A a)
 wd:H A.wd=some (.lst (W.map V.str))
 ok:Xk W
section
variable {C CT:Addr}{A:RA}{W:List Str}{H H1:Hp}{a b:Nat}{E:XK}
theorem IT.ne (h:IT C A W H a){x:Addr}{xs:List V}(e:H x=some (.lst xs)):x≠A.rd:=λz=>by
 rw[z,h.rd]at e;cases e
theorem IT.put (h:IT C A W H a)(b:Nat):IT C A W (upd H A.rd (BQ C A b)) b:=⟨zK,by rw[zT (h.ne h.wd)];exact h.wd,h.ok⟩
theorem IT.at (h:IT C A W H a){w:Str}(e:W[a]? =some w):KW (W.map V.str) (a:Int)=some (.str w):=Bt (by rw[zW,e];rfl)
theorem Lk {H:Hp}{a:Addr}{o:HO}(h:H a=some o):upd H a o=H:=by
 funext b
 by_cases z:b=a
 ·rw[z,zK,h]
 ·rw[zT z]
def Gx {α:Type}(ok:α->Prop)(no:Nat->Prop):Except Nat α->Prop
 | .ok x=>ok x
 | .error n=>no n
def kA (CT:Addr)(S:List Addr)(H:Hp)(E:XK)(n:Nat):Prop:= ∀d H',jG S H H'->H' d=some (KY d [("at",.int (n:Int))])->E (.ref CT) (some d) H'
theorem kA.mono {S:List Addr}{n:Nat}(f:kA CT S H E n)(k:jG S H H1):kA CT S H1 E n:=λd H' g e=>f d H' (k.trans g) e
theorem kA.one {S:List Addr}{n:Nat}(f:kA CT S H E n):AY CT H E (n:Int):=λd H' g e=>f d H' (jG.same g) e
theorem kA.sub {S S':List Addr}{n:Nat}(f:kA CT S H E n)(h: ∀x∈S',x∈S):kA CT S' H E n:=λd H' g e=>f d H' (λb o nb q=>g b o (λz=>nb (h b z)) q) e
end
theorem jG.fst {x:Addr}{S:List Addr}{H H1:Hp}{o:HO}(k:jG (x::S) H H1):jG (x::S) H (L2.upd H1 x o):=k.trans (jG.upd (zM ..))
theorem vG {H H1:Hp}{x:Addr}{o u:HO}(h: ∀b,H1 b=none->H b=none)(e:H1 x=some u): ∀b,upd H1 x o b=none->H b=none:=λb z=>by
 by_cases q:b=x
 ·rw[q,zK]at z;cases z
 ·rw[zT q]at z;exact h b z
theorem AE {W:List Str}{most:Nat}{last:Str}: ∀(n a:Nat) (bs:List Str) (q:Nat×List Str),qT W most last n a bs=.ok q->bs.length<=most->q.2.length<=most/\bs.length<=q.2.length/\a<q.1/\q.1<=W.length
 |0,a,bs,q,h,_=>by cases h
 |n+1,a,bs,q,h,l=>by
  unfold qT at h;split at h
  ·cases h
  rename_i w e;have hl:=FN e;split at h
  ·cases h;exact⟨l,zP _,kS _,hl⟩
  split at h
  ·cases h
  split at h
  ·rename_i c1 c2 c3;have r:=AE n (a+1) (bs++[w]) q h (by rw[zC];show bs.length+1<=most;lia);rw[zC]at r;have:[w].length =1:=rfl;lia
  ·cases h
theorem BH (k:Str): ∀ss:List Str,Xi (.str k) (ss.map V.str)=decide (k∈ss)
 |[]=>rfl
 |x::r=>by
  have ih:=BH k r;unfold Xi at ih ⊢;rw[yM,List.any_cons,ih]
  by_cases z:x=k
  ·subst z;have:Mr (V.str x) (.str x)=true:=by unfold Mr;simp
   rw[this,yA (zM ..)];rfl
  ·have:Mr (V.str x) (.str k)=false:=by unfold Mr;simp[z]
   rw[this,Bool.false_or]
   by_cases m:k∈r
   ·rw[yA m,yA (zN _ m)]
   ·rw[yD m,yD (λq=>m ((List.mem_cons.mp q).resolve_left (Ne.symm z)))]
theorem vS: ∀ys:List Str,(ys.map V.str).all AN=true
 |[]=>rfl
 |_::r=>by rw[yM,List.all_cons,vS r];rfl
theorem Mp (x y:Str):Mr (V.str x) (.str y)=decide (x=y):=by
 unfold Mr
 by_cases z:x=y
 ·subst z;simp
 ·simp[z]
theorem IC {k:Str}{ss:List Str}(h:k∈ss):KS (ss.map V.str) (.str k) (ss.idxOf k):=by
 have hl:=List.idxOf_lt_length_iff.mpr h;refine⟨⟨.str k,?_,by rw[Mp,yA rfl]⟩,λm z hm hz=>?_⟩
 ·rw[zW,zG hl,List.getElem_idxOf hl];rfl
 ·rw[zW]at hz;have hml:m<ss.length:=Am hm hl;rw[zG hml]at hz;cases hz;rw[Mp];refine yD λe=>?_;have:=List.not_of_lt_findIdx (p:=(· ==k)) (xs:=ss) (i:=m) hm
  simp[e]at this
def Gm (num:List (Str×Int)):List (Dp×V):=num.map λp=>(Sum.inr p.1,V.int p.2)
theorem Eh (x:Str): ∀num:List (Str×Int),Eb (Gm num) (Sum.inr x)=(kQ num x).map V.int
 |[]=>rfl
 |p::r=>by
  unfold kQ
  by_cases z:p.1=x
  ·rw[zR z];exact HM (p:=(Sum.inr p.1,V.int p.2)) (by rw[z])
  ·rw[zH z,<-Eh x r];exact HN (p:=(Sum.inr p.1,V.int p.2)) (λe=>z (by injection e))
section
variable (C CT:Addr)
inductive DD (vs:List V) (H:Hp) (Q:VK) (E:XK):Prop
 |mk (A:RA) (W:List Str) (a:Nat) (h0:vs=[.ref A.rd]) (h1:IT C A W H a) (h2:Gx (λw=>Q (.str w) H) (λn=>AY CT H E (n:Int)) (uA W a)):DD vs H Q E
inductive Ga (vs:List V) (H:Hp) (Q:VK) (E:XK):Prop
 |mk (x:Str) (h0:vs=[.str x]) (h1:x.length<=sizeLine) (h2:Q (.bl (jU x)) H):Ga vs H Q E
inductive JX (vs:List V) (H:Hp) (Q:VK) (E:XK):Prop
 |mk (A:RA) (W:List Str) (a:Nat) (th:Addr) (ts:List Str) (h0:vs=[.ref A.rd,.ref th]) (h1:IT C A W H a) (h2:H th=some (.lst (ts.map V.str))) (h3:Gx (λw=>Q (.str w) (upd H A.rd (BQ C A (a+1)))) (λn=>AY CT H E (n:Int)) (Fg W a ts)):JX vs H Q E
inductive HW (vs:List V) (H:Hp) (Q:VK) (E:XK):Prop
 |mk (A:RA) (W:List Str) (a:Nat) (bx:Addr) (bs:List Str) (most:Nat) (last:Str) (h0:vs=[.ref A.rd,.ref bx,.int (most:Int),.str last]) (h1:IT C A W H a) (h2:H bx=some (.lst (bs.map V.str))) (h3:bx≠A.wd) (h4:bs.length<=most) (h5:most<=50) (h6:Gx (λq=> ∀H',jG [A.rd,bx] H H'->(∀b,H' b=none->H b=none)->H' A.rd=some (BQ C A q.1)->H' bx=some (.lst (q.2.map V.str))->Q .non H') (kA CT [A.rd,bx] H E) (qT W most last (W.length+1) a bs)):HW vs H Q E
inductive MX (vs:List V) (H:Hp) (Q:VK) (E:XK):Prop
 |mk (A:RA) (W:List Str) (a:Nat) (bx:Addr) (bs:List Str) (h0:vs=[.ref A.rd,.ref bx]) (h1:IT C A W H a) (h2:H bx=some (.lst (bs.map V.str))) (h3:Gx (λn=>Q (.int (n:Int)) (upd H A.rd (BQ C A (a+1)))) (λn=>AY CT H E (n:Int)) (KM W a bs)):MX vs H Q E
inductive JV (vs:List V) (H:Hp) (Q:VK) (E:XK):Prop
 |mk (A:RA) (W:List Str) (a:Nat) (h0:vs=[.ref A.rd]) (h1:IT C A W H a) (h2:Gx (λn=>Q (.int n) (upd H A.rd (BQ C A (a+1)))) (λn=>AY CT H E (n:Int)) (Il W a)):JV vs H Q E
inductive JY (vs:List V) (H:Hp) (Q:VK) (E:XK):Prop
 |mk (A:RA) (W:List Str) (a:Nat) (least:Int) (h0:vs=[.ref A.rd,.int least]) (h1:IT C A W H a) (h2:Gx (λn=>Q (.int n) (upd H A.rd (BQ C A (a+1)))) (kA CT [A.rd] H E) (Fo W a least)):JY vs H Q E
inductive GD (vs:List V) (H:Hp) (Q:VK) (E:XK):Prop
 |mk (A:RA) (W:List Str) (a:Nat) (num:List (Str×Int)) (h0:vs=[.ref A.rd]) (h1:IT C A W H a) (h2:H A.nu=some (.dK (Gm num))) (h3:Gx (λn=>Q (.int n) (upd H A.rd (BQ C A (a+1)))) (λn=>AY CT H E (n:Int)) (Bp W num a)):GD vs H Q E
inductive JU (vs:List V) (H:Hp) (Q:VK) (E:XK):Prop
 |mk (A:RA) (W:List Str) (a:Nat) (k:Int) (bx:Addr) (bs:List Str) (num:List (Str×Int)) (h0:vs=[.ref A.rd,.int k,.ref bx]) (h1:IT C A W H a) (h2:H bx=some (.lst (bs.map V.str))) (h3:H A.nu=some (.dK (Gm num))) (h4:Gx (λr=> ∀t H',jG [A.rd] H H'->(∀b,H' b=none->H b=none)->H' A.rd=some (BQ C A r.2)->H' t=some (.tup (r.1.map V.int))->Q (.ref t) H') (kA CT [A.rd] H E) (Ed W num a k bs)):JU vs H Q E
inductive HV (vs:List V) (H:Hp) (Q:VK) (E:XK):Prop
 |mk (x:Str) (h0:vs=[.str x]) (h1:(x∈kwW->Q (.int (2+(kwW.idxOf x:Int))) H)) (h2:(x∉kwW->Q .non H)):HV vs H Q E
inductive HD (vs:List V) (H:Hp) (Q:VK) (E:XK):Prop
 |mk (A:RA) (W:List Str) (a:Nat) (bx:Addr) (bs:List Str) (h0:vs=[.ref A.rd,.ref bx]) (h1:IT C A W H a) (h2:H bx=some (.lst (bs.map V.str))) (h3:Gx (λq=>Q (.int q.1) (upd H A.rd (BQ C A q.2))) (λn=>AY CT H E (n:Int)) (Ea W a bs)):HD vs H Q E
def Ur (H:Hp)(v:V)(n:Int):Prop:= ∃t,v=.ref t/\H t=some (.tup [.int n])
def Dr (H:Hp)(c:Addr)(cnt:List Int):Prop:= ∃vs,H c=some (.lst vs)/\Paired (Ur H) vs cnt
inductive HS (vs:List V) (H:Hp) (Q:VK) (E:XK):Prop
 |mk (k:Int) (h0:vs=[.int k]) (h1:7<=k) (h2:k<=19) (h3:Q (.int ((partsW[(k-7).toNat]?).getD 0)) H):HS vs H Q E
inductive Kc (vs:List V) (H:Hp) (Q:VK) (E:XK):Prop
 |mk (k:Int) (t c:Addr) (ns cnt:List Int) (h0:vs=[.int k,.ref t,.ref c]) (h1:H t=some (.tup (ns.map V.int))) (h2:Dr H c cnt) (h3:0<=k) (h4:k<=19) (h5:(k=3\/k=4\/k=6->ns.length=1)) (h6:(k=6->0<=ns.headD 0/\(ns.headD 0).toNat <cnt.length)) (h7:Q (.int (ID cnt k ns)) H):Kc vs H Q E
structure Sg (A:RA)(H:Hp)(bx:Addr)(W bs:List Str)(num:List (Str×Int))(cnt:List Int)(a:Nat)(bs':List Int):Prop where
 w:IT C A W H a
 box:H bx=some (.lst (bs.map V.str))
 nu:H A.nu=some (.dK (Gm num))
 cn:Dr H A.cn cnt
 bd:H A.bd=some (.lst (bs'.map V.int))
 n1:A.bd≠A.wd
 n2:A.bd≠bx
 n3:A.bd≠A.cn
 le:a<=W.length
 few:bs'.length<=2*a
structure NW (num:List (Str×Int))(cnt:List Int):Prop where
 there: ∀x f,kQ num x=some f->0<=f/\f.toNat<cnt.length
 near: ∀c∈cnt,-1000000000<=c/\c<=1000000000
inductive EN (d:Nat) (vs:List V) (H:Hp) (Q:VK) (E:XK):Prop
 |mk (A:RA) (bx:Addr) (W bs:List Str) (num:List (Str×Int)) (cnt:List Int) (a:Nat) (bd:List Int) (h0:vs=[.ref A.rd,.ref bx,.int (11-(d:Int))]) (h1:d<=10) (h2:Sg C A H bx W bs num cnt a bd) (h3:NW num cnt) (h4:Gx (λq=> ∀H',jG [A.rd,A.bd] H H'->(∀b,H' b=none->H b=none)->Sg C A H' bx W bs num cnt q.1 q.2->Q .non H') (kA CT [A.rd,A.bd] H E) (Bi W num cnt bs d a bd)):EN d vs H Q E
def Su:Nat->Sp
 |0=>λ_ _ _ _=>False
 |d+1=>EN C CT d
end
section
variable {C:Addr}{A:RA}{H H1:Hp}{bx:Addr}{W bs:List Str}{num:List (Str×Int)}{cnt:List Int}{a b:Nat}{bd bd':List Int}
theorem Dr.tups {c:Addr}(h:Dr H c cnt)(e: ∀xs,H c=some (.lst xs)->H1 c=some (.lst xs))(t:uJ H H1):Dr H1 c cnt:=by
 obtain⟨vs,ev,p⟩:=h;refine⟨vs,e _ ev,Paired.imp (λ_ _ z=>?_) p⟩;obtain⟨q,rfl,hq⟩:=z;exact⟨q,rfl,t _ _ hq⟩
theorem NQ {n:Int}(h:Bp W num a=.ok n): ∃x,kQ num x=some n:=by
 unfold Bp at h;split at h
 ·split at h
  ·split at h
   ·rename_i f e;cases h;exact⟨_,e⟩
   ·cases h
  ·cases h
 ·cases h
theorem SS {r:List Int×Nat}(h:Ed W num a 6 bs=.ok r): ∃x,kQ num x=some (r.1.headD 0):=by
 unfold Ed at h;rw[zH (by decide),zH (by decide),zH (by decide),zH (by decide),zR rfl]at h;split at h
 ·rename_i n e;cases h;exact NQ e
 ·cases h
theorem RT (hn: ∀c∈cnt,-1000000000<=c/\c<=1000000000){k:Int}{ns:List Int}(h:k=3\/k=4->1<=ns.headD 0/\ns.headD 0<=12): -1000000000<=ID cnt k ns/\ID cnt k ns<=1000000000:=by
 have get: ∀(l:List Int) (i:Nat),(∀c∈l,-1000000000<=c/\c<=1000000000)-> -1000000000<=(l[i]?).getD 0/\(l[i]?).getD 0<=1000000000:=λl i hl=>by
  cases e:l[i]? with
  |none=>exact⟨by decide,by decide⟩
  |some c=>exact hl c (zU e)
 unfold ID;split
 ·lia
 split
 ·lia
 split
 ·have:=h (by lia);lia
 split
 ·have:=h (by lia);lia
 split
 ·lia
 split
 ·exact get _ _ hn
 ·exact get _ _ (by decide)
end
end L2
namespace L2
open PySem PySem.Spec PySem.Builtin.Str PyProof.Rows
def AO (c:Nat):Prop:=c=32\/c=10
instance (c:Nat):Decidable (AO c):=inferInstanceAs (Decidable (_\/_))
def wl (acc:List Nat):List Nat->List (List Nat)
 |[]=>if acc=[]then[]else[acc]
 |c::r=>if AO c then(if acc=[]then wl [] r else acc::wl [] r)else wl (acc++[c]) r
def FX (c:Nat):Nat:=if c=10 then 32 else c
theorem JQ: ∀(l acc:List Nat),wl acc (l.map FX)=wl acc l
 |[],acc=>rfl
 |c::r,acc=>by
  rw[yM];unfold wl
  by_cases z:c=10
  ·subst z;rw[zR (show AO (FX 10)from .inl rfl),zR (show AO 10 from .inr rfl),JQ r]
  ·have:FX c=c:=zH z;rw[this,JQ r,JQ r]
theorem Hy: ∀(q acc r:List Nat),(∀c∈q,¬AO c)->wl acc (q++r)=wl (acc++q) r
 |[],acc,r,_=>by rw[jB,yY]
 |c::q,acc,r,h=>by
  rw[jL]
  conv=>lhs;unfold wl
  rw[zH (h c (zM ..)),Hy q _ r (λd hd=>h d (zN _ hd)),yT];rfl
theorem Li: ∀(qs:List (List Nat)) (acc:List Nat),(∀q∈qs,∀c∈q,¬AO c)->qs≠[]->wl acc (wB 32 qs)=((match qs with|[]=>[]|q::r=>(acc++q)::r).filter λl=>!decide (l=[]))
 |[],_,_,h=>absurd rfl h
 |[q],acc,h,_=>by
  show wl acc q=_;have:=Hy q acc [] (h q (zM ..));rw[yY]at this;rw[this];unfold wl
  by_cases z:acc++q=[]
  ·rw[zR z];simp[z]
  ·rw[zH z];simp[z]
 |q::q2::r,acc,h,_=>by
  show wl acc (q++32::wB 32 (q2::r))=_;rw[Hy q acc _ (h q (zM ..))];unfold wl;rw[zR (show AO 32 from .inl rfl),Li (q2::r) [] (λq hq=>h q (zN _ hq)) (λz=>nomatch z)]
  by_cases z:acc++q=[]
  ·rw[zR z];simp[z]
  ·rw[zH z];simp[z]
theorem DV: ∀l:List Nat,10∉l->l.map FX=l
 |[],_=>rfl
 |c::l,h=>by
  rw[yM,DV l (λz=>h (zN _ z))];have:c≠10:=λz=>h (z▸zM ..);rw[show FX c=c from zH this]
theorem Jy: ∀ps:List (List Nat),(∀p∈ps,10∉p)->wB 32 ps=(wB 10 ps).map FX
 |[],_=>rfl
 |[p],h=>(DV p (h p (zM ..))).symm
 |p::p2::r,h=>by
  show p++32::wB 32 (p2::r)=(p++10::wB 10 (p2::r)).map FX;rw[xH,yM,Jy (p2::r) (λq hq=>h q (zN _ hq)),DV p (h p (zM ..))];rfl
theorem Bw (c:Nat): ∀qs:List (List Nat),qs.length<=(wB c qs).length +1
 |[]=>xA _
 |[q]=>by show 1<=q.length+1;lia
 |q::q2::r=>by
  have:=Bw c (q2::r);have h2:(q++c::wB c (q2::r)).length =q.length+((wB c (q2::r)).length +1):=by rw[zC,zJ]
  show(q2::r).length +1<=(q++c::wB c (q2::r)).length +1;lia
theorem Nw:(Str.ofString "\n")=⟨#[10]⟩:=by decide
theorem FT:(Str.ofString " ")=⟨#[32]⟩:=by decide
theorem Oj (t:Str):(Txt.replace t "\n" " ").cps.toList =t.cps.toList.map FX:=by
 rw[Nw,FT,StrLaws.replace_one,uH,Jy]
 ·rw[<-uH,BL]
 ·intro p hp;obtain⟨q,hq,rfl⟩:=List.mem_map.mp hp;exact StrLaws.split_free _ 10 q hq
theorem Sz (t:Str):(Txt.replace t "\n" " ").length =t.length:=by
 have:(Txt.replace t "\n" " ").cps.toList.length =(Txt.replace t "\n" " ").length:=yI;rw[<-this,Oj,zF];exact yI
theorem OW (y:Str)(c:Nat):(Txt.split y ⟨#[c]⟩).length<=y.length+1:=by
 have e:=uH c (Txt.split y ⟨#[c]⟩);rw[BL]at e;have:=Bw c ((Txt.split y ⟨#[c]⟩).map λt=>t.cps.toList);rw[<-e,zF]at this;have hl:y.cps.toList.length=y.length:=yI;lia
def Nv (x:Str):Bool:=!decide (x="")
def wordsT (t:Str):List Str:=(Txt.split (Txt.replace t "\n" " ") " ").filter Nv
theorem Lh (t:Str):(wordsT t).map (λx=>x.cps.toList)=wl [] t.cps.toList:=by
 have e:=uH 32 (Txt.split (Txt.replace t "\n" " ") " ");rw[FT,BL,<-FT,Oj]at e;rw[<-JQ,e];have hp:=PyProof.Rows.split_pos (Txt.replace t "\n" " ") ⟨#[32]⟩;rw[<-FT]at hp;have hf:=StrLaws.split_free (Txt.replace t "\n" " ") 32;rw[<-FT]at hf;have h10: ∀c∈wB 32 ((Txt.split (Txt.replace t "\n" " ") " ").map λt=>t.cps.toList),c≠10:=by
  rw[<-e];intro c hc z;obtain⟨d,hd,ed⟩:=List.mem_map.mp hc;unfold FX at ed;split at ed<;>lia
 unfold wordsT;generalize Txt.split (Txt.replace t "\n" " ") " "=qs at *
 have mem: ∀(ps:List (List Nat)) (q:List Nat) (c:Nat),q∈ps->c∈q->c∈wB 32 ps:=by
  intro ps
  induction ps with
  |nil=>intro q c h;cases h
  |cons p r ih=>
   intro q c hq hc;obtain⟨x,ex,cx⟩:=NJ 32 p r;rw[ex]
   rcases List.mem_cons.mp hq with z|z
   ·rw[z]at hc;exact vK _ hc
   ·refine xB _ ?_
    rcases cx with⟨e1,_⟩|⟨_,e2⟩
    ·rw[e1]at z;cases z
    ·rw[e2];exact zN _ (ih q c z hc)
 rw[Li]
 ·cases qs with
  |nil=>rfl
  |cons q r=>
   rw[yM];dsimp only;rw[jB];have key: ∀l:List Str,(l.filter Nv).map (λx=>x.cps.toList)=(l.map λt=>t.cps.toList).filter λl=>!decide (l=[]):=by
    intro l
    induction l with
    |nil=>rfl
    |cons a l ih=>
     have ea:Nv a=!decide (a.cps.toList=[]):=by
      unfold Nv;congr 1
      by_cases z:a=""
      ·subst z;rfl
      ·have: ¬a.cps.toList=[]:=λy=>z (by
        obtain⟨⟨l⟩⟩:=a;have y':l=[]:=y;subst y';rfl)
       rw[yD z,yD this]
     rw[yM,List.filter_cons,List.filter_cons,<-ea];split
     ·rw[yM,ih]
     ·exact ih
   have:=key (q::r);rw[yM]at this;exact this
 ·intro q hq c hc b;obtain⟨x,hx,rfl⟩:=List.mem_map.mp hq
  rcases b with b|b
  ·exact hf x hx (b▸hc)
  ·exact h10 c (mem _ _ _ hq hc) b
 ·intro z;rw[List.map_eq_nil_iff.mp z]at hp;exact absurd hp (by decide)
end L2
namespace HT
open PySem PySem.Spec PyProof.Rows
section
variable {prog:Program}{w:World}{A:Around}{E:Value->Shared->Prop}{s:Shared}
theorem getItem_tuple_all {t sl:Addr}{items:Array Value}{vl vu:Value}{lo hi:Option Int}{Q:Value->Shared->Prop}(ht:IsTup s.heap t items)(hs:s.heap.IsSliceOf sl vl vu .none)(pl:IsPart vl lo)(pu:IsPart vu hi)
  (hw:sIx items.size 0 lo=0/\sIx items.size items.size hi=items.size) (h:Q (.ref t) s):wpAny (model prog w) A (getItem (.ref t) (.ref sl)) Q E s:=by
 obtain⟨os,hos,hcs,hds⟩:=id hs;have hTs:s.TypeIs (.ref sl) "slice":=⟨os,hos,hcs⟩;unfold getItem
 try with_reducible refine wpAny_holding ?_
 first|refine wpAny_bind (wpAny_pure ?_)|skip
 refine wpAny_bind (wpAny_sequenceKey ht.typeIs (by decide) ?_);refine wpAny_bind (wpAny_callSpecial?_slot (name:=Str.ofString "__getitem__") ht.typeIs PyProof.Rows.slot_tuple_getitem
  (wpAny_call_entry PyProof.Rows.slot_tuple_getitem ht.typeIs entry_tuple_getitem ?_ (args_tuple_getitem _ _)))
 show wpAny _ _ (Builtin.Tuple.tupleItemsOf (.ref t)>>=_) _ _ s;refine wpAny_bind (tupleItemsOf_ ht ?_);refine wpAny_bind (wpAny_typeOf hTs ?_);rw[if_pos (by decide)];refine wpAny_bind (De hs pl pu ?_);have yes:(((sIx items.size 0 lo:Nat):Int)==0&&(1:Int)==1&&(sIx items.size items.size hi-sIx items.size 0 lo)==items.size)=true:=by
  rw[hw.1,hw.2];simp
 show wpAny _ _ (if(((sIx items.size 0 lo:Nat):Int)==0&&(1:Int)==1&&(sIx items.size items.size hi-sIx items.size 0 lo)==items.size)=true then _ else _) _ _ s;rw[if_pos yes];obtain⟨ot,hot,hct,_⟩:=ht;have Ty:s.TypeIs (.ref t) "tuple":=⟨ot,hot,hct⟩;unfold Builtin.Tuple.tupleIsExact;refine wpAny_bind (wpAny_bind (wpAny_typeOf Ty (wpAny_pure ?_)));rw[if_pos (by decide)]
 first
  |exact wpAny_bind (wpAny_rule (wpAny_pure ⟨_,rfl,wpAny_pure h⟩))
  |exact wpAny_bind (wpAny_rule (wpAny_bind (wpAny_pure (wpAny_pure ⟨_,rfl,wpAny_pure h⟩))))
end
end HT
namespace L2
open PySem PySem.Spec PyProof.Rows
section
variable {X:Cx}
inductive We (x:V) (lo:Option Int) (hi:Option Int) (H:Hp) (Q:VK):Prop
 |mk (a xs:_) (h0:x=.ref a) (h1:H a=some (.tup xs)) (h2: ∀r H',qH H H'->H' r=some (.tup (IE xs lo hi))->Q (.ref r) H'):We x lo hi H Q
theorem RX {xs:List V}{lo hi:Option Int}(h:HT.sIx xs.length 0 lo=0/\HT.sIx xs.length xs.length hi=xs.length):IE xs lo hi=xs:=by
 unfold IE;rw[h.1,h.2];simp
theorem Oi:Xn X We:=by
 intro pins s σ H x v vl vu lo hi sl Q I rx hs pl pu h;obtain⟨a,xs,rfl,hx,q⟩:=h
 by_cases hw:HT.sIx xs.length 0 lo=0/\HT.sIx xs.length xs.length hi=xs.length
 ·cases rx;obtain⟨its,r,ht,hz⟩:=I.tuple (DX.of hx);have hlen:its.toArray.size=xs.length:=by rw[zV];exact r.length.symm
  refine⟨"tuple",_,PyProof.Rows.slot_tuple_getitem.lookup,ht.typeIs,?_⟩;exact HT.getItem_tuple_all ht hs pl pu (by rw[hlen];exact hw) ⟨.ref a,H,I,rfl,q a H (qH.refl _) (by rw[RX hw];exact hx)⟩
 ·exact UC pins s σ H (.ref a) v vl vu lo hi sl Q I rx hs pl pu ⟨a,xs,rfl,DX.of hx,hw,λp hp=>q p _ (yQ hp _) zK⟩
end
theorem PX {xs:List V}(n:Nat):IE xs none (some (n:Int))=xs.take n:=by
 unfold IE;rw[HT.sIx_none,HT.sIx_nat,List.drop_zero,Nat.sub_zero]
 by_cases h:n<=xs.length
 ·rw[Bc h]
 ·rw[Nat.min_eq_right (by lia),wC,kO (by lia)]
theorem PY {xs:List V}(n:Nat):IE xs (some (n:Int)) none=xs.drop n:=by
 unfold IE;rw[HT.sIx_none,HT.sIx_nat]
 by_cases h:n<=xs.length
 ·rw[Bc h,kO (by rw[jK];lia)]
 ·rw[Nat.min_eq_right (by lia),Nat.sub_self,List.take_zero,Ao (by lia)]
inductive Tr where
 |mk (kind:Int) (own:List Int) (parts:List Tr)
mutual
def UM:Tr->List Tr
 | .mk k own ps=>.mk k own ps::LH ps
def LH:List Tr->List Tr
 |[]=>[]
 |a::r=>UM a++LH r
end
mutual
def BD:Tr->List Int
 | .mk k own ps=>k::(own++At ps)
def At:List Tr->List Int
 |[]=>[]
 |a::r=>BD a++At r
end
mutual
theorem Gh: ∀t:Tr,(UM t).length<=(BD t).length
 | .mk k own ps=>by
  have:=Jc ps
  simp[UM,BD];lia
theorem Jc: ∀ts:List Tr,(LH ts).length<=(At ts).length
 |[]=>by simp[LH,At]
 |a::r=>by
  have:=Gh a;have:=Jc r
  simp[LH,At];lia
end
mutual
def bare:Nd->Tr
 | .mk k _ own ps=>.mk k own (uI ps)
def uI:List Nd->List Tr
 |[]=>[]
 |a::r=>bare a::uI r
end
abbrev Fn:=(Int×Int)×Tr
def KA (fs:List Fn):List Int:=fs.flatMap λf=>[f.1.1,f.1.2]
def Bs (fs:List Fn):List Int:=fs.flatMap λf=>BD f.2
def wr (fs:List Fn):List Int:=(fs.length:Int)::(KA fs++Bs fs)
section
theorem Hw (l:Addr)(items:Array Value)(n:Nat)(b:Addr)(items2:Array Value)(n2:Nat)(dd:Option Addr)(sl:Array (Option Value))(hs0: ¬(!items.isEmpty&&Builtin.List.listTooLong (items.size+items2.size))=true)(hs1:items.size<=sizeLine)(hs2:items.size+items2.size<=sizeLine+1):
  Meets (Builtin.«list.extend» ⟨[.ref l,.ref b],[]⟩) (λ_ R s=>s.heap.get? l=some {cls:=.type "list",dict:=none,data:=.seq items n,slots:=#[]}/\s.heap.get? b=some ⟨.type "tuple",dd,.seq items2 n2,sl⟩/\R (.ok (.ret Value.none)) {s with heap:=s.heap.update l (Obj.mapSeq λx=>x++items2),toks:=s.toks}):=
 .of_wp λ_ _ _ _ σs hyp=>by
  obtain⟨σh,σg,σd,σt,σo⟩:=σs;obtain⟨atL,atB,fin⟩:=hyp;have r1:=AutoSeq1.idx_int;have r2:=AutoSeq1.sub_tuple_tuple;have r3:=AutoSeq1.sub_list_list;have r4:=AutoSeq1.sub_tuple_list;have r5:=AutoSeq1.sub_list_tuple;have fits:(items++items2).size<=sizeLine+1:=by simpa using hs2
  wp_walk using(wpAny_updateSeq atL rfl (hz:=hs1) (_hz':=fits)),uM atL,uM atB
  exact⟨_,rfl,fin⟩
end
section
variable {X:Cx}
inductive LD (x:V) (vs:List V) (H:Hp) (Q:VK):Prop
 |mk (l b xs zs:_) (h0:x=.ref l) (h1:vs=[.ref b]) (h2:H l=some (.lst xs)) (h3:H b=some (.tup zs)) (h4:xs.length+zs.length<=sizeLine) (h5:Q .non (upd H l (.lst (xs++zs)))):LD x vs H Q
theorem NA:WL X "list.extend" LD:=by
 intro pins s σ H x vs v us Q I rx rv h;obtain⟨l,b,xs,zs,rfl,rfl,hH,hB,hz,q⟩:=h;cases rx;obtain⟨u,rfl,ru⟩:=rv.one;cases ru;obtain⟨z,its,n,r,hl,e⟩:=I.lstM hH;obtain⟨_,its2,r2,p⟩:=(show kL X.prog X.w H s.heap b (.tup zs)from I.hok b _ hB);obtain⟨⟨oc,od,oda,osl⟩,h1,h2,n2,h3⟩:=p;dsimp only at h2 h3;subst h2 h3;have hl2:=r2.length;have hsz:its.toArray.size+its2.toArray.size<=sizeLine:=by rw[zV,zV];lia
 have hlong: ¬(!its.toArray.isEmpty&&Builtin.List.listTooLong (its.toArray.size+its2.toArray.size))=true:=by
  rw[Rn hsz,Bool.and_false];exact zZ
 refine qX F.slot_list_extend ⟨_,e,rfl⟩ F.entry_list_extend (F.args_list_extend_2 _ _)
  (Hw l its.toArray n b its2.toArray n2 od osl hlong (by rw[zV];lia) (by lia)) ⟨e,h1,?_⟩
 refine⟨.non,_,I.lset (its':=its++its2) hH e (by simp) (r.append r2) ?_,rfl,q⟩;rw[zC];lia
end
def OA (r:AH×List Nd):List Fn:=r.1.zip (uI r.2)
structure Nx (prog:Program)(w:World)(it a:Addr)(xs:Array Value)(St:Nat->Heap->Prop):Prop where
 item: ∀{A:Around} {E:Value->Shared->Prop} {k:Nat} {s:Shared} {x:Value} {Q:Value->Shared->Prop},St k s.heap->xs[k]? =some x->(∀h',St (k+1) h'->Heap.SameBut it s.heap h'->Q x {s with heap:=h'})->wpAny (model prog w) A (Builtin.SmallTypes.nextOf (.ref it)) Q E s
 stop: ∀{A:Around} {E:Value->Shared->Prop} {k:Nat} {s:Shared} {Q:Value->Shared->Prop},A.handled=none->St k s.heap->xs[k]? =none->(∀h' e,Heap.ExtBut it s.heap h'->(∃o,h'.get? e=some o/\o.cls=.type "StopIteration")->E (.ref e) {s with heap:=h'})->wpAny (model prog w) A (Builtin.SmallTypes.nextOf (.ref it)) Q E s
 keep: ∀{k:Nat} {h h':Heap},St k h->(∀o,h.get? it=some o->h'.get? it=some o)->(∀o,h.get? a=some o->h'.get? a=some o)->St k h'
 here: ∀{k:Nat} {h:Heap},St k h->(∃o,h.get? it=some o/\ ∀v,o.data≠ .cell v)/\ ∃o,h.get? a=some o
section
variable {prog:Program}{w:World}{it a:Addr}{xs:Array Value}
theorem Nx.list (ne:a≠it):Nx prog w it a xs (λk h=>h.IsListIter it a k/\h.IsList a xs) where
 item:=λst hx q=>wpAny_nextOf_list_item st.1 st.2 hx λh' i sb=>q h' ⟨i,st.2.extBut sb.extBut ne⟩ sb
 stop:=λhh st hx q=>wpAny_nextOf_list_end hh st.1 st.2 hx q
 keep:=λst k1 k2=>by
  obtain⟨⟨o,e,r⟩,o2,e2,r2⟩:=st;exact⟨⟨o,k1 o e,r⟩,o2,k2 o2 e2,r2⟩
 here:=λst=>by
  obtain⟨⟨o,e,r1,r2⟩,o2,e2,_⟩:=st;exact⟨⟨o,e,λv z=>by rw[r2]at z;cases z⟩,o2,e2⟩
theorem Ny {A:Around}{E:Value->Shared->Prop}{k:Nat}{s:Shared}{x:Value}{Q:Value->Shared->Prop}(hit:s.heap.IsTupleIter it a k)(ht:s.heap.IsTuple a xs)(hx:xs[k]? =some x)(q: ∀h',h'.IsTupleIter it a (k+1)->Heap.SameBut it s.heap h'->Q x {s with heap:=h'}):
  wpAny (model prog w) A (Builtin.SmallTypes.nextOf (.ref it)) Q E s:=by
 obtain⟨o,ho,hc,hd⟩:=id hit;obtain⟨ol,hol,_,nl,hdl⟩:=ht;unfold Builtin.SmallTypes.nextOf;refine zA (xV (name:=Str.ofString "__next__") hit.typeIs qA (jR qA hit.typeIs Bv ?_ (Bg _)));show wpAny _ _ (field (.ref it) 0>>=_) _ _ s;refine zA (xG ho hd (x:=.ref a) rfl ?_);show wpAny _ _ (if(Value.ref a==Value.none)=true then _ else _) _ _ s;rw[zH (show ¬((Value.ref a==Value.none)=true)from zZ)];show wpAny _ _ (field (.ref it) 1>>=_) _ _ s;refine zA (xG ho hd (x:=.int k 0) rfl ?_);show wpAny _ _ (seqItems? (.ref a)>>=_) _ _ s;refine zA (kX hol hdl ?_);simp only[kI,hx];refine zA (kW ho hd (by simp) (zL ⟨x,rfl,zL (q _ ?_ (uC ..))⟩));exact⟨_,jD _ ho (qE (jQ hd _)),(CC ..).trans hc,by rw[jQ hd];simp[rawInt]⟩
theorem MT {A:Around}{E:Value->Shared->Prop}{k:Nat}{s:Shared}{Q:Value->Shared->Prop}(hh:A.handled=none)(hit:s.heap.IsTupleIter it a k)(ht:s.heap.IsTuple a xs)(hx:xs[k]? =none)
  (q: ∀h' e,Heap.ExtBut it s.heap h'->(∃o,h'.get? e=some o/\o.cls=.type "StopIteration")->E (.ref e) {s with heap:=h'}):wpAny (model prog w) A (Builtin.SmallTypes.nextOf (.ref it)) Q E s:=by
 obtain⟨o,ho,hc,hd⟩:=id hit;obtain⟨ol,hol,_,nl,hdl⟩:=ht;unfold Builtin.SmallTypes.nextOf;refine zA (xV (name:=Str.ofString "__next__") hit.typeIs qA (jR qA hit.typeIs Bv ?_ (Bg _)));show wpAny _ _ (field (.ref it) 0>>=_) _ _ s;refine zA (xG ho hd (x:=.ref a) rfl ?_);show wpAny _ _ (if(Value.ref a==Value.none)=true then _ else _) _ _ s;rw[zH (show ¬((Value.ref a==Value.none)=true)from zZ)];show wpAny _ _ (field (.ref it) 1>>=_) _ _ s;refine zA (xG ho hd (x:=.int k 0) rfl ?_);show wpAny _ _ (seqItems? (.ref a)>>=_) _ _ s;refine zA (kX hol hdl ?_);simp only[kI,hx];refine zA (uX (zA (kW ho hd (by simp) ?_)));show wpAny _ _ (newExc (.type "StopIteration") []>>=_) _ _ _;refine zA ?_;simp only[newExc,newTuple];refine zA (xX ?_ (by size_fits));refine zA (m:=firstArgMember _ _) (wF (a:=Value.none) (by first|rfl|(simp only[firstArgMember];rfl)) ?_);refine xX ?_ (by size_fits);simp only[raiseNew];refine zA (wpAny_handled ?_);rw[show A.in1.handled=none from hh];refine zA (zL (wpAny_throw ?_));exact q _ _ (((uC ..).extBut.push _).push _) ⟨_,yC _ rfl,rfl⟩
theorem Nx.tuple (ne:a≠it):Nx prog w it a xs (λk h=>h.IsTupleIter it a k/\h.IsTuple a xs) where
 item:=λst hx q=>Ny st.1 st.2 hx λh' i sb=>q h' ⟨i,st.2.extBut sb.extBut ne⟩ sb
 stop:=λhh st hx q=>MT hh st.1 st.2 hx q
 keep:=λst k1 k2=>by
  obtain⟨⟨o,e,r⟩,o2,e2,r2⟩:=st;exact⟨⟨o,k1 o e,r⟩,o2,k2 o2 e2,r2⟩
 here:=λst=>by
  obtain⟨⟨o,e,r1,r2⟩,o2,e2,_⟩:=st;exact⟨⟨o,e,λv z=>by rw[r2]at z;cases z⟩,o2,e2⟩
end
structure ZA (z TI TO i1 i2 a1 a2:Addr):Prop where
 TIz:TI≠z
 TOz:TO≠z
 i1z:i1≠z
 i2z:i2≠z
 TITO:TI≠TO
 TIi1:TI≠i1
 TIi2:TI≠i2
 TOi1:TO≠i1
 TOi2:TO≠i2
 i12:i1≠i2
 a1z:a1≠z
 a1TO:a1≠TO
 a1i1:a1≠i1
 a1i2:a1≠i2
 a2z:a2≠z
 a2TO:a2≠TO
 a2i1:a2≠i1
 a2i2:a2≠i2
section
variable {prog:Program}{w:World}{A:Around}{E:Value->Shared->Prop}{s:Shared}{z TI TO i1 i2 a1 a2:Addr}{xs ys:Array Value}{S1 S2:Nat->Heap->Prop}{k:Nat}{u v:Value}
def K4 (z TO i1 i2:Addr)(h h':Heap):Prop:= ∀c o,c≠z->c≠TO->c≠i1->c≠i2->h.get? c=some o->h'.get? c=some o
theorem Qn (D:ZA z TI TO i1 i2 a1 a2)(N1:Nx prog w i1 a1 xs S1)(N2:Nx prog w i2 a2 ys S2){x y:Value}{Q:Value->Shared->Prop}(hz:IsZip s.heap z TI TO .none)(hTI:IsPair s.heap TI (.ref i1) (.ref i2))(hTO:IsPair s.heap TO u v)
  (s1:S1 k s.heap) (s2:S2 k s.heap) (hx:xs[k]? =some x) (hy:ys[k]? =some y)
  (q: ∀h',IsZip h' z TI TO (rawInt s.heap.objs.size)->IsPair h' TO x y->S1 (k+1) h'->S2 (k+1) h'->IsPair h' s.heap.objs.size x y->K4 z TO i1 i2 s.heap h'->Q (.ref s.heap.objs.size) {s with heap:=h'}):
  wpAny (model prog w) A (Builtin.«zip.__next__» ⟨[.ref z],[]⟩) (λfin s'=> ∃v,fin=.done (.ret v)/\Q v s') E s:=by
 show wpAny _ _ (field (.ref z) 2>>=_) _ _ _;refine zA (xG hz rfl (x:=.bool false) rfl ?_);show wpAny _ _ (field (.ref z) 3>>=_) _ _ _;refine zA (xG hz rfl (x:=.ref TI) rfl (zA (kX hTI rfl ?_)));show wpAny _ _ (Builtin.SmallTypes.ownedTupleIsFree (.ref z)>>=_) _ _ _;unfold Builtin.SmallTypes.ownedTupleIsFree;refine zA (zA (xG hz rfl (x:=.none) rfl (zL ?_)));simp only[if_true];refine zA (uX (zA (xG hz rfl (x:=.ref TO) rfl (zA (kU hz (by simp) λh1 z1 b1=>zA ?_)))));have z1:IsZip h1 z TI TO .ellipsis:=z1;simp only[List.zipIdx_cons,List.zipIdx_nil,wU,List.forIn_nil];refine zA (zA (CZ ?_));show wpAny _ _ (Builtin.SmallTypes.nextOf (.ref i1)>>=_) _ _ _;have p1:S1 k h1:=N1.keep s1 (λo e=>b1.extBut _ _ D.i1z e) (λo e=>b1.extBut _ _ D.a1z e);refine zA (N1.item p1 hx λh2 p2 b2=>zL ?_);have t2:IsPair h2 TO u v:=b2.extBut _ _ D.TOi1 (b1.extBut _ _ D.TOz hTO);refine zA (kX t2 rfl (zA (AQ t2 λh3 t3 b3=>zA (wpAny_letGo (zL ?_)))));have t3:IsPair h3 TO x v:=t3;refine zA (zA (CZ ?_));show wpAny _ _ (Builtin.SmallTypes.nextOf (.ref i2)>>=_) _ _ _;have r3:S2 k h3:=N2.keep s2 (λo e=>b3.extBut _ _ (Ne.symm D.TOi2) (b2.extBut _ _ (Ne.symm D.i12) (b1.extBut _ _ D.i2z e))) (λo e=>b3.extBut _ _ D.a2TO (b2.extBut _ _ D.a2i1 (b1.extBut _ _ D.a2z e)));refine zA (N2.item r3 hy λh4 r4 b4=>zL ?_);have t4:IsPair h4 TO x v:=b4.extBut _ _ D.TOi2 t3;refine zA (kX t4 rfl (zA (AQ t4 λh5 t5 b5=>zA (wpAny_letGo (zL (zL ?_))))));have t5:IsPair h5 TO x y:=t5;refine zA (kX t5 rfl (zA (wpAny_newTuple ?_)));have sz:h5.objs.size=s.heap.objs.size:=by rw[b5.1,b4.1,b3.1,b2.1,b1.1]
 have z5:IsZip h5 z TI TO .ellipsis:=b5.extBut _ _ (Ne.symm D.TOz) (b4.extBut _ _ (Ne.symm D.i2z) (b3.extBut _ _ (Ne.symm D.TOz) (b2.extBut _ _ (Ne.symm D.i1z) z1)));have k5:K4 z TO i1 i2 s.heap h5:=λc o c1 c2 c3 c4 e=>b5.extBut _ _ c2 (b4.extBut _ _ c4 (b3.extBut _ _ c2 (b2.extBut _ _ c3 (b1.extBut _ _ c1 e))));have p5:S1 (k+1) h5:=N1.keep p2 (λo e=>b5.extBut _ _ (Ne.symm D.TOi1) (b4.extBut _ _ D.i12 (b3.extBut _ _ (Ne.symm D.TOi1) e))) (λo e=>b5.extBut _ _ D.a1TO (b4.extBut _ _ D.a1i2 (b3.extBut _ _ D.a1TO e)));have r5:S2 (k+1) h5:=N2.keep r4 (λo e=>b5.extBut _ _ (Ne.symm D.TOi2) e) (λo e=>b5.extBut _ _ D.a2TO e);have zl:z<h5.objs.size:=zX z5;show wpAny _ _ (Builtin.SmallTypes.ownedTupleHandOut (.ref z) (.ref h5.objs.size)>>=_) _ _ _;unfold Builtin.SmallTypes.ownedTupleHandOut;have z6:IsZip (h5.push {cls:=.type "tuple",data:=.seq #[x,y]}) z TI TO .ellipsis:=zD _ z5;refine zA (zA (kU z6 (by simp) λh7 z7 b7=>?_));have z7:IsZip h7 z TI TO (rawInt h5.objs.size):=z7;refine kU z7 (by simp) λh8 z8 b8=>?_;have z8:IsZip h8 z TI TO (rawInt h5.objs.size):=z8;have up: ∀c o,c≠z->h5.get? c=some o->h8.get? c=some o:=λc o c1 e=>b8.extBut _ _ c1 (b7.extBut _ _ c1 (zD _ e));have t8:IsPair h8 h5.objs.size x y:=b8.extBut _ _ (wM zl) (b7.extBut _ _ (wM zl) (yC _ rfl));rw[sz]at z8 t8;refine zL ⟨_,rfl,?_⟩;show Q (.ref h5.objs.size) _;rw[sz];exact q h8 z8 (up _ _ D.TOz t5) (N1.keep p5 (λo e=>up _ o D.i1z e) (λo e=>up _ o D.a1z e)) (N2.keep r5 (λo e=>up _ o D.i2z e) (λo e=>up _ o D.a2z e)) t8 λc o c1 c2 c3 c4 e=>up c o c1 (k5 c o c1 c2 c3 c4 e)
theorem Qm (hh:A.handled=none)(D:ZA z TI TO i1 i2 a1 a2)(N1:Nx prog w i1 a1 xs S1)(N2:Nx prog w i2 a2 ys S2){Q:Fin->Shared->Prop}(hz:IsZip s.heap z TI TO .none)(hTI:IsPair s.heap TI (.ref i1) (.ref i2))(hTO:IsPair s.heap TO u v)
  (s1:S1 k s.heap) (s2:S2 k s.heap) (he:xs[k]? =none\/ys[k]? =none)
  (q: ∀h' e,K4 z TO i1 i2 s.heap h'->(∃o,h'.get? e=some o/\o.cls=.type "StopIteration")->E (.ref e) {s with heap:=h'}):wpAny (model prog w) A (Builtin.«zip.__next__» ⟨[.ref z],[]⟩) Q E s:=by
 show wpAny _ _ (field (.ref z) 2>>=_) _ _ _;refine zA (xG hz rfl (x:=.bool false) rfl ?_);show wpAny _ _ (field (.ref z) 3>>=_) _ _ _;refine zA (xG hz rfl (x:=.ref TI) rfl (zA (kX hTI rfl ?_)));show wpAny _ _ (Builtin.SmallTypes.ownedTupleIsFree (.ref z)>>=_) _ _ _;unfold Builtin.SmallTypes.ownedTupleIsFree;refine zA (zA (xG hz rfl (x:=.none) rfl (zL ?_)));simp only[if_true];refine zA (uX (zA (xG hz rfl (x:=.ref TO) rfl (zA (kU hz (by simp) λh1 z1 b1=>zA ?_)))));have z1:IsZip h1 z TI TO .ellipsis:=z1;simp only[List.zipIdx_cons,List.zipIdx_nil,wU,List.forIn_nil];refine zA (zA (CZ ?_));show wpAny _ _ (Builtin.SmallTypes.nextOf (.ref i1)>>=_) _ _ _;have p1:S1 k h1:=N1.keep s1 (λo e=>b1.extBut _ _ D.i1z e) (λo e=>b1.extBut _ _ D.a1z e);cases hx:xs[k]? with
 |none=>
  refine zA (N1.stop hh p1 hx λh2 e b2 hzz=>?_);obtain⟨oe,hoe,hce⟩:=hzz;have z2:IsZip h2 z TI TO .ellipsis:=b2 _ _ (Ne.symm D.i1z) z1;have ez:e≠z:=λx=>by subst x;rw[z2]at hoe;cases hoe;simp at hce
  exact kU z2 (by simp) λh3 _ b3=>q h3 e (λc o c1 _ c3 _ x=>b3.extBut _ _ c1 (b2 _ _ c3 (b1.extBut _ _ c1 x))) ⟨oe,b3.extBut _ _ ez hoe,hce⟩
 |some x=>
  have hy:ys[k]? =none:=he.resolve_left (by rw[hx];exact λz=>nomatch z);refine zA (N1.item p1 hx λh2 p2 b2=>zL ?_);have t2:IsPair h2 TO u v:=b2.extBut _ _ D.TOi1 (b1.extBut _ _ D.TOz hTO);refine zA (kX t2 rfl (zA (AQ t2 λh3 t3 b3=>zA (wpAny_letGo (zL ?_)))));refine zA (zA (CZ ?_));show wpAny _ _ (Builtin.SmallTypes.nextOf (.ref i2)>>=_) _ _ _;have r3:S2 k h3:=N2.keep s2 (λo e=>b3.extBut _ _ (Ne.symm D.TOi2) (b2.extBut _ _ (Ne.symm D.i12) (b1.extBut _ _ D.i2z e))) (λo e=>b3.extBut _ _ D.a2TO (b2.extBut _ _ D.a2i1 (b1.extBut _ _ D.a2z e)));refine zA (N2.stop hh r3 hy λh4 e b4 hzz=>?_);obtain⟨oe,hoe,hce⟩:=hzz;have z4:IsZip h4 z TI TO .ellipsis:=b4 _ _ (Ne.symm D.i2z) (b3.extBut _ _ (Ne.symm D.TOz) (b2.extBut _ _ (Ne.symm D.i1z) z1));have ez:e≠z:=λx=>by subst x;rw[z4]at hoe;cases hoe;simp at hce
  exact kU z4 (by simp) λh5 _ b5=>q h5 e (λc o c1 c2 c3 c4 x=>b5.extBut _ _ c1 (b4 _ _ c4 (b3.extBut _ _ c2 (b2.extBut _ _ c3 (b1.extBut _ _ c1 x))))) ⟨oe,b5.extBut _ _ ez hoe,hce⟩
theorem Rq (D:ZA z TI TO i1 i2 a1 a2)(N1:Nx prog w i1 a1 xs S1)(N2:Nx prog w i2 a2 ys S2){x y:Value}{Q:Option Value->Shared->Prop}(hz:IsZip s.heap z TI TO .none)(hTI:IsPair s.heap TI (.ref i1) (.ref i2))(hTO:IsPair s.heap TO u v)
  (s1:S1 k s.heap) (s2:S2 k s.heap) (hx:xs[k]? =some x) (hy:ys[k]? =some y)
  (q: ∀h',IsZip h' z TI TO (rawInt s.heap.objs.size)->IsPair h' TO x y->S1 (k+1) h'->S2 (k+1) h'->IsPair h' s.heap.objs.size x y->K4 z TO i1 i2 s.heap h'->Q (some (.ref s.heap.objs.size)) {s with heap:=h'}):
  wpAny (model prog w) A (pyNext (.ref z)) Q E s:=by
 have hT:s.TypeIs (.ref z) "zip":=⟨_,hz,rfl⟩;unfold pyNext;exact zA (uL (xV (name:=Str.ofString "__next__") hT Be (jR Be hT F.entry_zip_next
  (Qn D N1 N2 hz hTI hTO s1 s2 hx hy λh' e1 e2 e3 e4 e5 e6=>zL (q h' e1 e2 e3 e4 e5 e6)) (F.args_zip_next_1 _))))
theorem Tt (hh:A.handled=none)(D:ZA z TI TO i1 i2 a1 a2)(N1:Nx prog w i1 a1 xs S1)(N2:Nx prog w i2 a2 ys S2){Q:Option Value->Shared->Prop}(hz:IsZip s.heap z TI TO .none)(hTI:IsPair s.heap TI (.ref i1) (.ref i2))(hTO:IsPair s.heap TO u v)
  (s1:S1 k s.heap) (s2:S2 k s.heap) (he:xs[k]? =none\/ys[k]? =none) (q: ∀h',K4 z TO i1 i2 s.heap h'->Q none {s with heap:=h'}):wpAny (model prog w) A (pyNext (.ref z)) Q E s:=by
 have hT:s.TypeIs (.ref z) "zip":=⟨_,hz,rfl⟩;unfold pyNext;refine zA (uL (xV (name:=Str.ofString "__next__") hT Be (jR Be hT F.entry_zip_next
  (Qm (A:=A.in1) hh D N1 N2 hz hTI hTO s1 s2 he λh' e hk ⟨o,ho,hc⟩=>?_) (F.args_zip_next_1 _))))
 refine zA (Dv (T:="StopIteration") (b:=true) ⟨o,ho,hc⟩ isSubtype_stop ?_);exact zL (q _ hk)
end
def Qh (b:Bool)(K:PySem.W.Frag)(H:Hp)(a:Addr)(xs:List V):Prop:=if b=true then DX K H a xs else Ef K H a xs
def FV (b:Bool)(h:Heap)(a:Addr)(xs:Array Value):Prop:=if b=true then h.IsTuple a xs else h.IsList a xs
def SI (b:Bool)(h:Heap)(it a:Addr)(k:Nat):Prop:=if b=true then h.IsTupleIter it a k else h.IsListIter it a k
def Mc (b:Bool)(a:Addr):Obj:={cls:=.type (if b=true then "tuple_iterator" else "list_iterator"),data:=.fields #[.ref a,.int 0 0]}
section
variable {prog:Program}{w:World}{A:Around}{E:Value->Shared->Prop}{s:Shared}{b:Bool}{it a:Addr}{xs:Array Value}{k:Nat}{h h':Heap}
theorem Oz {Q:Value->Shared->Prop}(hl:FV b s.heap a xs)(hQ:Q (.ref s.heap.objs.size) {s with heap:=s.heap.push (Mc b a)}):wpAny (model prog w) A (pyIter (.ref a)) Q E s:=by
 cases b with
 |true=>exact wpAny_pyIter_tuple (show s.heap.IsTuple a xs from hl) hQ
 |false=>exact CA (show s.heap.IsList a xs from hl) hQ
theorem Nx.sq (ne:a≠it):Nx prog w it a xs (λk h=>SI b h it a k/\FV b h a xs):=by
 cases b with
 |true=>exact Nx.tuple ne
 |false=>exact Nx.list ne
theorem SI.keep (st:SI b h it a k)(k1: ∀o,h.get? it=some o->h'.get? it=some o):SI b h' it a k:=by
 cases b with
 |true=>obtain⟨o,e,r⟩:=(show h.IsTupleIter it a k from st);exact⟨o,k1 o e,r⟩
 |false=>obtain⟨o,e,r⟩:=(show h.IsListIter it a k from st);exact⟨o,k1 o e,r⟩
theorem SI.obj (st:SI b h it a k): ∃o,h.get? it=some o/\ ∀v,o.data≠ .cell v:=by
 cases b with
 |true=>obtain⟨o,e,_,r⟩:=(show h.IsTupleIter it a k from st);exact⟨o,e,λv z=>by rw[r]at z;cases z⟩
 |false=>obtain⟨o,e,_,r⟩:=(show h.IsListIter it a k from st);exact⟨o,e,λv z=>by rw[r]at z;cases z⟩
theorem SI.new {h:Heap}(g:h.get? it=some (Mc b a)):SI b h it a 0:=by
 cases b with
 |true=>exact⟨_,g,rfl,rfl⟩
 |false=>exact⟨_,g,rfl,rfl⟩
theorem FV.push {o:Obj}(x:FV b h a xs):FV b (h.push o) a xs:=by
 cases b with
 |true=>obtain⟨q,e,r⟩:=(show h.IsTuple a xs from x);exact⟨q,zD _ e,r⟩
 |false=>obtain⟨q,e,r⟩:=(show h.IsList a xs from x);exact⟨q,zD _ e,r⟩
theorem FV.lt (x:FV b h a xs):a<h.objs.size:=by
 cases b with
 |true=>obtain⟨q,e,r⟩:=(show h.IsTuple a xs from x);exact zX e
 |false=>obtain⟨q,e,r⟩:=(show h.IsList a xs from x);exact zX e
end
section
variable {X:Cx}{pins:List (Addr×Obj)}{σ:St}{H:Hp}{s:Shared}{b:Bool}{a:Addr}{xs ys:List V}
theorem yV.sq (I:yV X pins σ H s)(h:Qh b X.K H a xs): ∃its:List Value,xT xs its/\FV b s.heap a its.toArray/\xs.length<=sizeLine:=by
 cases b with
 |true=>
  obtain⟨its,r,p,z⟩:=I.tuple (show DX X.K H a xs from h);exact⟨its,r,p,z⟩
 |false=>
  obtain⟨its,r,p,z⟩:=I.list (show Ef X.K H a xs from h);exact⟨its,r,p.isList,z⟩
theorem yV.sq_inj (I:yV X pins σ H s)(h:Qh b X.K H a xs)(h':Qh b X.K H a ys):xs=ys:=by
 cases b with
 |true=>exact I.tuple_inj h h'
 |false=>exact I.list_inj h h'
theorem yV.turnedL {h':Heap}{t':Nat}{L:List Addr}(I:yV X pins σ H s)(k: ∀b o,b∉L->s.heap.get? b=some o->h'.get? b=some o)(f: ∀b∈L,IU X pins H b):yV X pins σ H {s with heap:=h',toks:=t'}:=by
 have ne: ∀b u,H b=some u->b∉L:=λb u q z=>by
  have:=(f b z).1;rw[this]at q;cases q
 have nl:X.env.locals∉L:=λz=>(f _ z).2.1 rfl;refine I.step (g':=s.gens) (d':=s.drawn) (ch:=L) (λb hb=>⟨(f b hb).2.2.2.1,(f b hb).2.1,(f b hb).2.2.2.2.1,(f b hb).2.2.2.2.2⟩) (λb o _ _ hc q _=>k b o hc q) (λb o _ _ hc q _=>⟨o.slots,k b o hc q⟩) (λ_ _ _ _ n=>n)
  (λb o hc q=>⟨o,k b o hc q⟩) (λ_ _ q=>q) (λ_ _ _ q=>q) (λb ps q=>⟨#[],by rw[q];simp⟩) (λm hm=>?_) (λb u q=>?_) I.bare
 ·obtain⟨o,es,ep,ho,r⟩:=hm;exact⟨o,es,ep,k _ o nl ho,r⟩
 ·refine(I.hok b u q).stay (λc v hc x=>k c v ?_ x) (λ_ x=>x) λ_ _ x=>x
  rcases hc with z|z
  ·rw[z];exact ne b u q
  ·exact ne c _ z
end
def WP (K : PySem.W.Frag) (b1 b2 : Bool) (a1 a2 : Addr) : It :=
  ⟨λi H => ∃ xs ys x y, Qh b1 K H a1 xs /\ Qh b2 K H a2 ys /\ xs[i]? = some x /\ ys[i]? = some y, λi H v H' => ∃ t x y, v = .ref t /\ H t = none /\ H' = upd H t (.tup [x, y]) /\ ∀ xs ys, Qh b1 K H a1 xs -> Qh b2 K H a2 ys -> xs[i]? = some x /\ ys[i]? = some y,
   λi H => ∃ xs ys, Qh b1 K H a1 xs /\ Qh b2 K H a2 ys /\ (xs.length <= i \/ ys.length <= i)⟩
def Yb (b1 b2:Bool)(z TI TO i1 i2 a1 a2:Addr)(i:Nat)(h:Heap):Prop:=IsZip h z TI TO .none/\IsPair h TI (.ref i1) (.ref i2)/\(∃u v,IsPair h TO u v)/\SI b1 h i1 a1 i/\SI b2 h i2 a2 i
theorem Qr {P:Program}{w:World}{K:PySem.W.Frag}{elts:List Expr}{x1:Nat}{pos:Pos}{b1 b2:Bool}{z TI TO i1 i2 a1 a2:Addr}(D:ZA z TI TO i1 i2 a1 a2):
  KO P w K (.Tuple elts x1 pos) (WP K b1 b2 a1 a2) [z,TI,TO,i1,i2] z (Yb b1 b2 z TI TO i1 i2 a1 a2) where
 mem:=by simp
 obj:=λi h st b hb=>by
  obtain⟨hz,hTI,⟨u,v,hTO⟩,s1,s2⟩:=st
  rcases List.mem_cons.mp hb with e|hb
  ·rw[e];exact⟨_,hz,λv z=>by cases z⟩
  rcases List.mem_cons.mp hb with e|hb
  ·rw[e];exact⟨_,hTI,λv z=>by cases z⟩
  rcases List.mem_cons.mp hb with e|hb
  ·rw[e];exact⟨_,hTO,λv z=>by cases z⟩
  rcases List.mem_cons.mp hb with e|hb
  ·rw[e];exact s1.obj
  ·rw[List.mem_singleton.mp hb];exact s2.obj
 keep:=λi h h' st k=>by
  obtain⟨hz,hTI,⟨u,v,hTO⟩,s1,s2⟩:=st;exact⟨k z (by simp) _ hz,k TI (by simp) _ hTI,⟨u,v,k TO (by simp) _ hTO⟩,s1.keep λo e=>k i1 (by simp) o e,s2.keep λo e=>k i2 (by simp) o e⟩
 item:=by
  intro X hP hw hK hc i pins s σ H E I hf st hg;subst hP hw hK;obtain⟨xs,ys,x,y,q1,q2,hx,hy⟩:=hg;obtain⟨hz,hTI,⟨u,v,hTO⟩,s1,s2⟩:=st;obtain⟨its1,r1,p1,z1⟩:=I.sq q1;obtain⟨its2,r2,p2,z2⟩:=I.sq q2;obtain⟨u1,hu1,ru1⟩:=r1.get hx;obtain⟨u2,hu2,ru2⟩:=r2.get hy;refine Rq D (Nx.sq (b:=b1) (xs:=its1.toArray) D.a1i1) (Nx.sq (b:=b2) (xs:=its2.toArray) D.a2i2) hz hTI hTO ⟨s1,p1⟩ ⟨s2,p2⟩ (x:=u1) (y:=u2) (by simpa using hu1) (by simpa using hu2) λh' z' t' n1 n2 tp k4=>?_;refine⟨.ref s.heap.objs.size,rfl,wpAny_letOwnedTupleGo_zip z' λh'' z'' sb=>?_⟩;have fresh:=I.hok.fresh (zP s.heap.objs.size);have I1:=I.laid (a:=s.heap.objs.size) (o:=.tup [x,y]) (h':=s.heap.push {cls:=.type "tuple",data:=.seq #[u1,u2]}) (t':=s.toks) (λb o q=>zD _ q) (zP _)
   ⟨sm2,[u1,u2],.cons ru1 (.cons ru2 .nil),IsTup.new _ _⟩
  have lt: ∀b∈[z,TI,TO,i1,i2],b<s.heap.objs.size:=λb hb=>by
   rcases List.mem_cons.mp hb with e|hb
   ·rw[e];exact zX hz
   rcases List.mem_cons.mp hb with e|hb
   ·rw[e];exact zX hTI
   rcases List.mem_cons.mp hb with e|hb
   ·rw[e];exact zX hTO
   rcases List.mem_cons.mp hb with e|hb
   ·rw[e];obtain⟨o,e,_⟩:=s1.obj;exact zX e
   ·rw[List.mem_singleton.mp hb];obtain⟨o,e,_⟩:=s2.obj;exact zX e
  have f': ∀b∈[z,TI,TO,i1,i2],IU X pins (upd H s.heap.objs.size (.tup [x,y])) b:=λb hb=>⟨by rw[zT (xR (lt b hb))];exact(hf b hb).1,(hf b hb).2⟩;have I2:=I1.turnedL (h':=h'') (t':=s.toks) (L:=[z,TI,TO,i1,i2]) (λb o hb q=>?_) f'
  ·refine⟨.ref s.heap.objs.size,_,I2,rfl,⟨s.heap.objs.size,x,y,rfl,fresh,rfl,λxs' ys' e1 e2=>?_⟩,⟨z'',sb.extBut _ _ D.TIz (k4 _ _ D.TIz D.TITO D.TIi1 D.TIi2 hTI),⟨_,_,sb.extBut _ _ D.TOz t'⟩,n1.1.keep λo e=>sb.extBut _ _ D.i1z e,n2.1.keep λo e=>sb.extBut _ _ D.i2z e⟩,λb hb=>(f' b hb).1⟩;rw[I.sq_inj e1 q1,I.sq_inj e2 q2];exact⟨hx,hy⟩
  ·have nz:b≠z:=λe=>hb (by simp[e]);refine sb.extBut _ _ nz ?_
   by_cases e:b=s.heap.objs.size
   ·subst e;rw[tp,<-q];exact(yC _ rfl).symm
   ·rcases Heap.get?_push_cases q with⟨c,_⟩|c
    ·exact absurd c e
    ·exact k4 b o nz (λe=>hb (by simp[e])) (λe=>hb (by simp[e])) (λe=>hb (by simp[e])) c
 done:=by
  intro X hP hw hK hc i pins s σ H E I hf st hg;subst hP hw hK;obtain⟨xs,ys,q1,q2,he⟩:=hg;obtain⟨hz,hTI,⟨u,v,hTO⟩,s1,s2⟩:=st;obtain⟨its1,r1,p1,z1⟩:=I.sq q1;obtain⟨its2,r2,p2,z2⟩:=I.sq q2;have l1:=r1.length;have l2:=r2.length;refine Tt (I.ok.hd hc) D (Nx.sq (b:=b1) (xs:=its1.toArray) D.a1i1) (Nx.sq (b:=b2) (xs:=its2.toArray) D.a2i2) hz hTI hTO ⟨s1,p1⟩ ⟨s2,p2⟩ (he.imp (λh=>by simp;lia) (λh=>by simp;lia)) λh' k4=>⟨rfl,I.turnedL (t':=s.toks) (L:=[z,TI,TO,i1,i2]) (λb o hb q=>?_) hf⟩;exact k4 b o (λe=>hb (by simp[e])) (λe=>hb (by simp[e])) (λe=>hb (by simp[e])) (λe=>hb (by simp[e])) q
 self:=λ_ _ _ _ _ st h=>wpAny_pyIter_zip st.1 h
theorem VQ {n a1 a2:Nat}(m1:a1<n)(m2:a2<n):ZA (n+4) (n+2) (n+3) n (n+1) a1 a2:=by
 constructor<;>(show _≠(_:Nat);lia)
abbrev Xd (h:Heap)(b1:Bool)(a1:Addr):Heap:=h.push (Mc b1 a1)
abbrev Xc (h:Heap)(b1 b2:Bool)(a1 a2:Addr):Heap:=(Xd h b1 a1).push (Mc b2 a2)
abbrev Xb (h:Heap)(b1 b2:Bool)(a1 a2:Addr):Heap:=(Xc h b1 b2 a1 a2).push {cls:=.type "tuple",data:=.seq #[.ref h.objs.size,.ref (Xd h b1 a1).objs.size]}
abbrev Xa (h:Heap)(b1 b2:Bool)(a1 a2:Addr):Heap:=(Xb h b1 b2 a1 a2).push {cls:=.type "tuple",data:=.seq #[.none,.none]}
abbrev Uu (h:Heap)(b1 b2:Bool)(a1 a2:Addr):Heap:=(Xa h b1 b2 a1 a2).push {cls:=.type "zip",data:=.fields #[.none,.bool false,.bool false,.ref (Xc h b1 b2 a1 a2).objs.size,.ref (Xb h b1 b2 a1 a2).objs.size]}
theorem NB (b1 b2:Bool)(a1 a2:Addr)(xs ys:Array Value):Meets (Builtin.«zip.__new__» ⟨[.type "zip",.ref a1,.ref a2],[]⟩) (λ_ R s=>FV b1 s.heap a1 xs/\FV b2 s.heap a2 ys/\
  R (.ok (.ret (.ref (Xa s.heap b1 b2 a1 a2).objs.size))) {s with heap:=Uu s.heap b1 b2 a1 a2}):=
 .of_wp λprog w A R s h=>by
  obtain⟨hp,g,d,tk,os⟩:=s;obtain⟨l1,l2,h⟩:=h;have hsub:=sub_zip;have L1:FV b1 (Shared.heap ⟨hp,g,d,tk,os⟩) a1 xs:=l1;have L2:FV b2 (Shared.heap ⟨hp.push (Mc b1 a1),g,d,tk,os⟩) a2 ys:=FV.push l2
  wp_walk using Oz L1,Oz L2
  exact⟨_,rfl,h⟩
section
variable {prog:Program}{w:World}{A:Around}{E:Value->Shared->Prop}{s:Shared}{b1 b2:Bool}{a1 a2:Addr}{xs ys:Array Value}
theorem Qc {Q:Value->Shared->Prop}(l1:FV b1 s.heap a1 xs)(l2:FV b2 s.heap a2 ys)
  (q: ∀h' z TI TO i1 i2,ZA z TI TO i1 i2 a1 a2->Yb b1 b2 z TI TO i1 i2 a1 a2 0 h'->(∀c∈[z,TI,TO,i1,i2],s.heap.objs.size<=c)->(∀c o,s.heap.get? c=some o->h'.get? c=some o)->Q (.ref z) {s with heap:=h'}):
  wpAny (model prog w) A (call (.type "zip") [.ref a1,.ref a2]) Q E s:=by
 refine callType_new F.called_zip (by decide) (F.typeCall_zip_2 _ _) (F.newCall_zip_2 _ _) (λobj=>F.args_object_init_3 obj _ _) F.entry_zip_new (NB b1 b2 a1 a2 xs ys) ⟨l1,l2,?_⟩;have z1:(Xd s.heap b1 a1).objs.size =s.heap.objs.size+1:=vM ..;have z2:(Xc s.heap b1 b2 a1 a2).objs.size =s.heap.objs.size+2:=by rw[vM,z1]
 have z3:(Xb s.heap b1 b2 a1 a2).objs.size =s.heap.objs.size+3:=by rw[vM,z2]
 have z4:(Xa s.heap b1 b2 a1 a2).objs.size =s.heap.objs.size+4:=by rw[vM,z3]
 have g5:(Uu s.heap b1 b2 a1 a2).get? (Xa s.heap b1 b2 a1 a2).objs.size =some _:=yC _ rfl;have g4:(Uu s.heap b1 b2 a1 a2).get? (Xb s.heap b1 b2 a1 a2).objs.size =some _:=zD _ (yC _ rfl);have g3:(Uu s.heap b1 b2 a1 a2).get? (Xc s.heap b1 b2 a1 a2).objs.size =some _:=zD _ (zD _ (yC _ rfl));have g2:(Uu s.heap b1 b2 a1 a2).get? (Xd s.heap b1 a1).objs.size =some _:=zD _ (zD _ (zD _ (yC _ (by cases b2<;>rfl))));have g1:(Uu s.heap b1 b2 a1 a2).get? s.heap.objs.size=some _:=zD _ (zD _ (zD _ (zD _ (yC _ (by cases b1<;>rfl)))));have m1:=l1.lt;have m2:=l2.lt;have up: ∀c o,s.heap.get? c=some o->(Uu s.heap b1 b2 a1 a2).get? c=some o:=λc o x=>zD _ (zD _ (zD _ (zD _ (zD _ x))));rw[z2,z3,z4]at g5;rw[z1,z2]at g3;rw[z3]at g4;rw[z1]at g2;show _/\_;rw[z4];refine⟨⟨_,g5,rfl⟩,q _ (s.heap.objs.size+4) (s.heap.objs.size+2) (s.heap.objs.size+3) s.heap.objs.size (s.heap.objs.size+1) ?_ ⟨g5,g3,⟨_,_,g4⟩,SI.new g1,SI.new g2⟩ (λc hc=>?_) up⟩
 ·exact VQ m1 m2
 ·simp at hc
  rcases hc with e|e|e|e|e<;>(rw[e];lia)
end
theorem Vw:bootBuiltins "zip"=some (.type "zip"):=by decide+kernel
inductive Ug (K:PySem.W.Frag) (b1 b2:Bool) (vs:List V) (H1:Hp) (R:It->Hp->Prop):Prop
 |mk (a1 a2 xs ys:_) (h0:vs=[.ref a1,.ref a2]) (h1:Qh b1 K H1 a1 xs) (h2:Qh b2 K H1 a2 ys) (h3:R (WP K b1 b2 a1 a2) H1):Ug K b1 b2 vs H1 R
def XL (K:PySem.W.Frag)(b1 b2:Bool)(ta:TA):TI:=λσ H R=>ta σ H λvs H1=>Ug K b1 b2 vs H1 R
section
variable {X:Cx}
theorem UN (b1 b2:Bool){elts:List Expr}{x1:Nat}{tpos:Pos}{l m:Expr}{ta:TA}{p pos:Pos}(hg:Gl X "zip")(hm:X.mg "zip"=none)(ha:PA X [l,m] ta)(hs:starEach [l,m] X.env=(false,eval l X.env)::starEach [m] X.env:=by rfl)(hpl:(backTo pos (starEach [m] X.env)).any (·.1)=false:=by rfl):
  PI X (.Tuple elts x1 tpos) (.Call (.Name "zip" p) [l,m] [] pos) (XL X.K b1 b2 ta):=by
 refine⟨?_⟩;intro pins s σ H R I h;refine Call_ (FL I hg hm Vw (jT (kB (ha pos pins s σ H _ I h) λus s1 ⟨vs,H1,I1,r1,q1⟩=>?_) hs hpl));obtain⟨a1,a2,xs,ys,e,k1,k2,q⟩:=q1;subst e;obtain⟨u1,u2,rfl,ru1,ru2⟩:=Qp r1;cases ru1;cases ru2;obtain⟨i1,r1,p1,z1⟩:=I1.sq k1;obtain⟨i2,r2,p2,z2⟩:=I1.sq k2;refine Qc p1 p2 λh' z TI TO j1 j2 D st lt hk=>?_;refine wpAny_pyIter_zip (s:={s1 with heap:=h'}) st.1 ?_;exact⟨z,[z,TI,TO,j1,j2],_,_,H1,rfl,I1.kept (t':=s1.toks) hk,Qr D,st,λb hb=>I1.fpOk (lt b hb) (I1.hok.fresh (lt b hb)),q⟩
theorem To {K:PySem.W.Frag}{b1 b2:Bool}{a1 a2:Addr}{xs ys:List V}{g:TG}{tb:TS}{D:Eg}{σ:St}{H:Hp}(Pv:Nat->St->Hp->Prop)(h0:Pv 0 σ H)(hle:xs.length=ys.length)(hl: ∀i σ H,i<=xs.length->Pv i σ H->Qh b1 K H a1 xs/\Qh b2 K H a2 ys)
  (hs: ∀i x y σ H t,xs[i]? =some x->ys[i]? =some y->Pv i σ H->H t=none->g (.ref t) σ (upd H t (.tup [x,y])) λσ2 H2=>tb {D with nx:=Pv (i+1),ct:=Pv (i+1),bk:=D.nx} σ2 H2) (hd: ∀σ H,Pv xs.length σ H->D.nx σ H):
  ∃W:Nat->Nat->St->Hp->Prop,(∃m,W 0 m σ H)/\ ∀i m σ H,W i m σ H->
   ((WP K b1 b2 a1 a2).stop i H/\D.nx σ H)\/((WP K b1 b2 a1 a2).go i H/\ ∃N:St->Hp->Prop,(∀σ' H',N σ' H'-> ∃m',m'<m/\W (i+1) m' σ' H')/\ ∀x H',(WP K b1 b2 a1 a2).yld i H x H'->g x σ H' λσ2 H2=>tb {D with nx:=N,ct:=N,bk:=D.nx} σ2 H2):=by
 refine⟨λi m σ H=>m=xs.length-i/\i<=xs.length/\Pv i σ H,⟨xs.length,by simp,xA _,h0⟩,?_⟩;rintro i m σ H ⟨rfl,hi,p⟩;obtain⟨q1,q2⟩:=hl i σ H hi p
 by_cases hlt:i<xs.length
 ·refine .inr ⟨⟨xs,ys,xs[i],ys[i],q1,q2,zG hlt,zG (by lia)⟩,Pv (i+1),λσ' H' p'=>⟨xs.length-(i+1),by lia,rfl,hlt,p'⟩,λv H' yd=>?_⟩;obtain⟨t,x,y,rfl,ht,rfl,hx⟩:=yd;obtain⟨e1,e2⟩:=hx xs ys q1 q2;exact hs i x y σ H t e1 e2 p ht
 ·have e:i=xs.length:=by lia
  subst e;exact .inl ⟨⟨xs,ys,q1,q2,.inl (zP _)⟩,hd σ H p⟩
end
end L2
namespace L2
open PySem
def Ya:List Str:=kwH++kwW
theorem Ma:lettersS.cps.toList=(List.range 26).map (97+·):=by decide+kernel
def MH (W:List Str)(a:Nat)(ws:List Str):Prop:= ∃post,W.drop a=ws++post
theorem MH.cons {W:List Str}{a:Nat}{x:Str}{r:List Str}(h:MH W a (x::r)):W[a]? =some x/\MH W (a+1) r:=by
 obtain⟨post,e⟩:=h;have e1:(W.drop a)[0]? =some x:=by rw[e];rfl
 rw[List.getElem?_drop]at e1;refine⟨by simpa using e1,post,?_⟩;have:=xM (List.drop 1) e;rw[List.drop_drop]at this
 simpa using this
theorem MH.app {W:List Str}{a:Nat}{u v:List Str}(h:MH W a (u++v)):MH W a u/\MH W (a+u.length) v:=by
 obtain⟨post,e⟩:=h;refine⟨⟨v++post,by rw[e,yT]⟩,post,?_⟩;have:=xM (List.drop u.length) e;rw[List.drop_drop,yT,List.drop_left]at this;exact this
abbrev KR:=Str×List Str×Nat
structure Qk (bs:List Str):Prop where
 nd:bs.Nodup
 ok: ∀b∈bs,jU b=true
 few:bs.length<=12
structure VI (h:KR):Prop where
 nm:jU h.1=true
 bx:Qk h.2.1
 p4:h.2.2<=4
 pb:h.2.2<=h.2.1.length
structure VP (hs:List KR)(num:List (Str×Int))(cnt:List Int):Prop where
 num: ∀(i:Nat) (h:KR),hs[i]? =some h->kQ num h.1=some (i:Int)
 cnt: ∀(i:Nat) (h:KR),hs[i]? =some h->cnt[i]? =some (h.2.2:Int)
 ok: ∀h∈hs,VI h
def Hu (hs:List KR)(bs:List Str)(d:Nat)(ws:List Str)(zs:List Int):Prop:= ∀W num cnt a bd,MH W a ws->VP hs num cnt->Bi W num cnt bs d a bd=.ok (a+ws.length,bd++zs)
theorem Dj {w:Str}(h:jU w=true):Bk w lettersS=true/\1<=w.length/\w.length<=8/\w∉kwH/\w∉kwW:=by
 unfold jU at h;rw[jH,jH,jH,jH]at h;obtain⟨⟨⟨⟨h1,h2⟩,h3⟩,h4⟩,h5⟩:=h;refine⟨h3,zO h1,zO h2,λz=>?_,λz=>?_⟩
 ·rw[yA z]at h4;cases h4
 ·rw[yA z]at h5;cases h5
theorem Hg {w:Str}(h:jU w=true): ∀c∈w.cps.toList,97<=c/\c<=122:=λc hc=>by
 have h1:=(Dj h).1;unfold Bk at h1;rw[wD]at h1;have:=zO (h1 c hc);rw[Ma,List.mem_map]at this;obtain⟨j,hj,e⟩:=this;have:=List.mem_range.mp hj;lia
theorem Fp {w:Str}(h: ∀c∈w.cps.toList,97<=c/\c<=122)(h0:1<=w.length):uF w 60=false:=by
 refine Bool.eq_false_iff.mpr λz=>?_;obtain⟨h1,h2,h3⟩:=Jk z;have hw:w.cps.toList.length=w.length:=yI;have hp:vA w=w:=BI (λe=>by
  have:=h 45 (zU e);lia)
 rw[hp]at h3;cases e:w.cps.toList with
 |nil=>rw[e]at hw;have:([]:List Nat).length =0:=rfl;lia
 |cons c r=>
  have a:=h c (by rw[e];exact zM ..);have b:=h3 c (by rw[e];exact zM ..);lia
theorem Kx {w:Str}(h:jU w=true):uF w 60=false:=Fp (Hg h) (Dj h).2.1
theorem FM: ∀w∈Ya,(∀c∈w.cps.toList,97<=c/\c<=122)/\1<=w.length:=by decide+kernel
theorem Rw {w:Str}(h:w∈Ya):uF w 60=false:=Fp (FM w h).1 (FM w h).2
section
variable {hs:List KR}{bs:List Str}{W:List Str}{num:List (Str×Int)}{cnt:List Int}{a d:Nat}{bd:List Int}
theorem FF {f:VF}:vY f 0 a bd=.ok (a,bd):=rfl
theorem OZ {n:Int}(hn:n.natAbs<10^60):Hu hs bs (d+1) [AC n] [0,n]:=λW num cnt a bd hw ag=>by
 obtain⟨e,_⟩:=hw.cons;have ok:uF (AC n) 60=true:=Jj (k:=59) hn (by decide);have ek:Ea W a bs=.ok (0,a):=by unfold Ea;rw[e];dsimp only;rw[zR ok]
 have eo:Ed W num a 0 bs=.ok ([n],a+1):=by
  unfold Ed Il;rw[zR rfl,e];dsimp only;rw[zR ok,Lj (Am hn (by decide+kernel))]
 unfold Bi;rw[ek];dsimp only;rw[eo];dsimp only;rw[show(ID cnt 0 [n]).toNat =0 from rfl,FF];rfl
theorem Ky {b:Str}: ∀{bs:List Str} {i:Nat},bs.Nodup->bs[i]? =some b->bs.idxOf b=i
 |[],i,_,h=>by simp at h
 |x::r,0,_,h=>by
  have:x=b:=by simpa using h
  rw[this,List.idxOf_cons_self]
 |x::r,i+1,nd,h=>by
  rw[List.nodup_cons]at nd;have h':r[i]? =some b:=by simpa using h
  have:x≠b:=λz=>nd.1 (z▸zU h');rw[List.idxOf_cons,Ky nd.2 h'];have:(x==b)=false:=by simpa using this
  rw[this];rfl
theorem Pa (hb:Qk bs){i:Nat}{b:Str}(hi:bs[i]? =some b):Hu hs bs (d+1) [b] [1,(i:Int)]:=λW num cnt a bd hw ag=>by
 obtain⟨e,_⟩:=hw.cons;have m:=zU hi;have ek:Ea W a bs=.ok (1,a):=by
  unfold Ea;rw[e];dsimp only;rw[zH (by rw[Kx (hb.ok b m)];decide),zR m]
 have eo:Ed W num a 1 bs=.ok ([(i:Int)],a+1):=by
  unfold Ed KM;rw[zH (by decide),zR (.inl rfl),e];dsimp only;rw[zR m,Ky (i:=i) hb.nd hi]
 unfold Bi;rw[ek];dsimp only;rw[eo];dsimp only;rw[show(ID cnt 1 [(i:Int)]).toNat =0 from rfl,FF];rfl
inductive EH (hs:List KR) (bs:List Str) (d:Nat):Nat->List Str->List Int->Prop
 |nil:EH hs bs d 0 [] []
 |snoc {n:Nat} {ws ws':List Str} {zs zs':List Int}:EH hs bs d n ws zs->Hu hs bs d ws' zs'->EH hs bs d (n+1) (ws++ws') (zs++zs')
theorem Jg {f:VF}: ∀(n m a:Nat) (bd:List Int),vY f (n+m) a bd=(match vY f n a bd with| .ok q=>vY f m q.1 q.2| .error e=>.error e)
 |0,m,a,bd=>by rw[Nat.zero_add];rfl
 |n+1,m,a,bd=>by
  rw[show n+1+m=(n+m)+1 by lia];rw[vY,vY];cases f a bd with
  |error e=>rfl
  |ok q=>exact Jg n m q.1 q.2
theorem EH.read {n:Nat}{ws:List Str}{zs:List Int}(h:EH hs bs d n ws zs): ∀W num cnt a bd,MH W a ws->VP hs num cnt->vY (Bi W num cnt bs d) n a bd=.ok (a+ws.length,bd++zs):=by
 induction h with
 |nil=>intro W num cnt a bd _ _;rw[yY];rfl
 |@snoc n ws ws' zs zs' h r ih=>
  intro W num cnt a bd hw ag;obtain⟨h1,h2⟩:=hw.app;rw[Jg,ih W num cnt a bd h1 ag];dsimp only;rw[vY,r W num cnt (a+ws.length) (bd++zs) h2 ag];dsimp only;rw[FF,zC,Da,yT]
def IJ (hs:List KR)(bs:List Str)(k:Int)(ow:List Str)(on:List Int)(n:Nat):Prop:= ∀W num cnt a,MH W a ow->VP hs num cnt->Ed W num a k bs=.ok (on,a+ow.length)/\ID cnt k on=(n:Int)
theorem Nf (hb:Qk bs){j:Nat}{w:Str}(hj:kwW[j]? =some w){ow:List Str}{on:List Int}{n:Nat}(ho:IJ hs bs (2+(j:Int)) ow on n){ws:List Str}{zs:List Int}(hp:EH hs bs d n ws zs):
  Hu hs bs (d+1) (w::(ow++ws)) ((2+(j:Int))::(on++zs)):=λW num cnt a bd hw ag=>by
 obtain⟨e,h1⟩:=hw.cons;obtain⟨h2,h3⟩:=h1.app;have m:=zU hj;have nb:w∉bs:=λz=>(Dj (hb.ok w z)).2.2.2.2 m;have ei:kwW.idxOf w=j:=Ky (i:=j) (by decide+kernel) hj;have ek:Ea W a bs=.ok (2+(j:Int),a+1):=by
  unfold Ea;rw[e];dsimp only;rw[zH (by rw[Rw (xB _ m)];decide),zH nb,zR m,ei]
 obtain⟨eo,ed⟩:=ho W num cnt (a+1) h2 ag;unfold Bi;rw[ek];dsimp only;rw[eo];dsimp only;rw[ed,kI,hp.read W num cnt _ _ h3 ag,zJ,zC];refine xM Except.ok (Prod.ext ?_ ?_)
 ·show a+1+ow.length+ws.length=a+(ow.length+ws.length+1);lia
 ·show bd++(2+(j:Int))::on++zs=bd++(2+(j:Int))::(on++zs)
  simp
theorem Md {k:Int}{n:Nat}(h5:k≠0/\k≠1/\k≠2/\k≠3/\k≠4/\k≠6)(hn:(if k=5 then 2 else(partsW[(k-7).toNat]?).getD 0)=(n:Int)):IJ hs bs k [] [] n:=λW num cnt a _ _=>by
 obtain⟨h0,h1,h2,h3,h4,h6⟩:=h5;refine⟨?_,?_⟩
 ·unfold Ed;rw[zH h0,zH (by lia),zH h3,zH h4,zH h6];rfl
 ·unfold ID;rw[zH (by lia),zH h2,zH h3,zH h4];rw[<-hn]
  by_cases c:k=5
  ·rw[zR c,zR c]
  ·rw[zH c,zH c,zH h6]
theorem NH (hb:Qk bs){i:Nat}{b:Str}(hi:bs[i]? =some b):IJ hs bs 2 [b] [(i:Int)] 1:=λW num cnt a hw ag=>by
 obtain⟨e,_⟩:=hw.cons;refine⟨?_,rfl⟩;unfold Ed KM;rw[zH (by decide),zR (.inr rfl),e];dsimp only;rw[zR (zU hi),Ky (i:=i) hb.nd hi];rfl
theorem Hk {k:Int}{c:Int}(hk:k=3\/k=4)(h1:k-2<=c)(h2:c<=12):IJ hs bs k [AC c] [c] (c+k-3).toNat:=λW num cnt a hw ag=>by
 obtain⟨e,_⟩:=hw.cons;have hn:c.natAbs<10^60:=Am (show c.natAbs<100 by lia) (by decide+kernel);have ok:uF (AC c) 60=true:=Jj (k:=59) hn (by decide);have en:Il W a=.ok c:=by
  unfold Il;rw[e];dsimp only;rw[zR ok,Lj (Am hn (by decide+kernel))]
 rcases hk with rfl|rfl
 ·refine⟨?_,?_⟩
  ·unfold Ed Fo;rw[zH (by decide),zH (by decide),zR rfl,en];dsimp only;rw[zH (by lia)];rfl
  ·show c=_;lia
 ·refine⟨?_,?_⟩
  ·unfold Ed Fo;rw[zH (by decide),zH (by decide),zH (by decide),zR rfl,en];dsimp only;rw[zH (by lia)];rfl
  ·show 1+c=_;lia
theorem Me {i:Nat}{h:KR}(hi:hs[i]? =some h):IJ hs bs 6 [h.1] [(i:Int)] h.2.2:=λW num cnt a hw ag=>by
 obtain⟨e,_⟩:=hw.cons;have ok:=ag.ok h (zU hi);refine⟨?_,?_⟩
 ·unfold Ed Bp;rw[zH (by decide),zH (by decide),zH (by decide),zH (by decide),zR rfl,e];dsimp only;rw[zR ok.nm,ag.num i h hi];rfl
 ·show(cnt[((i:Int)).toNat]?).getD 0=_;rw[kI,ag.cnt i h hi];rfl
end
structure IH (w:Str):Prop where
 nf:w≠"fun"
 nw:w≠"with"
 ne:w.cps.toList≠[]
 nb: ∀c∈w.cps.toList,¬AO c
 sh:w.length<=61
theorem Iv {w:Str}(h: ∀c∈w.cps.toList,97<=c/\c<=122)(h0:1<=w.length):w.cps.toList≠[]/\ ∀c∈w.cps.toList,¬AO c:=by
 have hw:w.cps.toList.length=w.length:=yI;refine⟨λz=>?_,λc hc b=>?_⟩
 ·rw[z]at hw;have:([]:List Nat).length =0:=rfl;lia
 ·have:=h c hc
  rcases b with b|b<;>lia
theorem AF {w:Str}(h:jU w=true):IH w:=by
 obtain⟨h1,h2,h3,h4,h5⟩:=Dj h;obtain⟨a,b⟩:=Iv (Hg h) h2;refine⟨λz=>h4 (z▸zM ..),λz=>h4 (z▸zN _ (zM ..)),a,b,by lia⟩
theorem Wr: ∀w∈kwW,w≠"fun"/\w≠"with"/\w.length<=61:=by decide+kernel
theorem Tj {w:Str}(h:w∈kwW):IH w:=by
 obtain⟨a,b⟩:=FM w (xB _ h);obtain⟨c,d⟩:=Iv a b;obtain⟨e1,e2,e3⟩:=Wr w h;exact⟨e1,e2,c,d,e3⟩
theorem Vf {n:Int}(hn:n.natAbs<10^60):IH (AC n):=by
 have sg:=λc (h:c∈(AC n).cps.toList)=>Ps h;have dl:=Gr (k:=59) hn;have hw:(AC n).cps.toList.length =(AC n).length:=yI;have l:1<=(AC n).cps.toList.length/\(AC n).cps.toList.length<=61:=by
  obtain⟨c,r,ed,_⟩:=Fc n.natAbs
  rcases Gk n with⟨_,e⟩|⟨_,e⟩
  ·rw[e,ed,zJ];rw[ed,zJ]at dl;lia
  ·rw[e,zJ];lia
 have nl: ∀{w:Str} {c:Nat},c∈w.cps.toList->97<=c->AC n≠w:=λhc h z=>by
  have:=sg _ (z▸hc);lia
 refine⟨nl (w:="fun") (c:=102) (by decide) (by decide),nl (w:="with") (c:=119) (by decide) (by decide),λz=>by rw[z]at l;have:([]:List Nat).length =0:=rfl;lia,λc hc b=>?_,by lia⟩;have:=sg c hc
 rcases b with b|b<;>lia
abbrev Pg:=KR×List Str×List Int
def xO (x:Pg):List Str:=("fun":Str)::x.1.1::(x.1.2.1.take x.1.2.2++("with":Str)::(x.1.2.1.drop x.1.2.2++("is":Str)::x.2.1))
def jF (pr:List Pg):List Str:=(pr.map xO).flatten
def EB (pr:List Pg):List (Str×List Str):=pr.map λx=>(x.1.1,x.1.2.1)
def EF (pr:List Pg):List Int:=(pr.map λx=>[(x.1.2.2:Int),(x.1.2.1.length:Int)]).flatten
def BY (pr:List Pg):List Int:=(pr.map λx=>x.2.2).flatten
structure KQ (hs:List KR)(x:Pg):Prop where
 hd:VI x.1
 rd:Hu hs x.1.2.1 10 x.2.1 x.2.2
 wd: ∀w∈x.2.1,IH w
structure WE (x:Pg):Prop where
 hd:VI x.1
 wd: ∀w∈x.2.1,IH w
theorem KQ.w {hs:List KR}{x:Pg}(h:KQ hs x):WE x:=⟨h.hd,h.wd⟩
structure OO (pr:List Pg):Prop where
 all: ∀x∈pr,KQ (pr.map (·.1)) x
 nd:(pr.map λx=>x.1.1).Nodup
 ne:pr≠[]
 few:pr.length<=16
 first: ∀x,pr[0]? =some x->x.1.2.2=0
def Wp (r:List Str)(f:Int)(acc:List (Str×Int)):List (Str×Int):=match r with|[]=>acc|n::_=>if(kQ acc n).isSome then acc else acc++[(n,f)]
theorem Jn (w:Str)(r:List Str)(f:Int)(acc:List (Str×Int)):FK (w::r) f acc=if w="fun" then FK r (f+1) (Wp r f acc)else FK r f acc:=by
 cases r<;>rfl
def Us (u:List Str):Prop:= ∀w∈u,w≠"fun"
theorem Jm: ∀(u R:List Str) (f:Int) (acc:List (Str×Int)),Us u->FK (u++R) f acc=FK R f acc
 |[],R,f,acc,_=>rfl
 |w::u,R,f,acc,h=>by
  rw[jL,Jn,zH (h w (zM ..))];exact Jm u R f acc (λx hx=>h x (zN _ hx))
theorem PD {x:Pg}(ok:WE x):Us (x.1.1::(x.1.2.1.take x.1.2.2++("with":Str)::(x.1.2.1.drop x.1.2.2++("is":Str)::x.2.1))):=λw hw=>by
 have bx: ∀b∈x.1.2.1,b≠"fun":=λb hb=>(AF (ok.hd.bx.ok b hb)).nf
 rcases List.mem_cons.mp hw with z|hw
 ·rw[z];exact(AF ok.hd.nm).nf
 rcases List.mem_append.mp hw with z|hw
 ·exact bx w (kE z)
 rcases List.mem_cons.mp hw with z|hw
 ·rw[z];decide
 rcases List.mem_append.mp hw with z|hw
 ·exact bx w (qP z)
 rcases List.mem_cons.mp hw with z|hw
 ·rw[z];decide
 ·exact(ok.wd w hw).nf
def Pu:List Pg->Int->List (Str×Int)
 |[],_=>[]
 |x::r,f=>(x.1.1,f)::Pu r (f+1)
theorem Ir {acc m:List (Str×Int)}{x:Str}(h:kQ acc x=none):kQ (acc++m) x=kQ m x:=by
 induction acc with
 |nil=>rfl
 |cons p r ih=>
  unfold kQ at h;split at h
  ·cases h
  ·rename_i c;rw[jL,kQ,zH c];exact ih h
theorem Jl: ∀(pr:List Pg) (f:Int) (acc:List (Str×Int)),(∀x∈pr,WE x)->(pr.map λx=>x.1.1).Nodup->(∀x∈pr,kQ acc x.1.1=none)->FK (jF pr) f acc=acc++Pu pr f
 |[],f,acc,_,_,_=>by rw[show jF []=[]from rfl,show Pu [] f=[]from rfl,yY];rfl
 |x::r,f,acc,ok,nd,fr=>by
  have okx:=ok x (zM ..);rw[yM,List.nodup_cons]at nd;show FK (xO x++jF r) f acc=_;unfold xO;rw[jL,Jn,zR rfl];rw[jL];unfold Wp;dsimp only;rw[fr x (zM ..)];show FK (x.1.1::((x.1.2.1.take x.1.2.2++("with":Str)::(x.1.2.1.drop x.1.2.2++("is":Str)::x.2.1))++jF r)) (f+1) (acc++[(x.1.1,f)])=_;rw[<-jL,Jm _ _ _ _ (PD okx),Jl r (f+1) _ (λy hy=>ok y (zN _ hy)) nd.2 ?_,yT]
  ·rfl
  ·intro y hy;rw[Ir (fr y (zN _ hy)),kQ,zH]
   ·rfl
   ·intro z;have z':x.1.1=y.1.1:=z;exact nd.1 (z'▸List.mem_map.mpr ⟨y,hy,rfl⟩)
theorem Ov: ∀(pr:List Pg) (f:Int) (i:Nat) (x:Pg),(pr.map λx=>x.1.1).Nodup->pr[i]? =some x->kQ (Pu pr f) x.1.1=some (f+(i:Int))
 |[],f,i,x,_,h=>by simp at h
 |y::r,f,0,x,nd,h=>by
  have:y=x:=by simpa using h
  rw[this,Pu,kQ,zR rfl];show some f=some (f+((0:Nat):Int));rw[show f+((0:Nat):Int)=f by lia]
 |y::r,f,i+1,x,nd,h=>by
  rw[yM,List.nodup_cons]at nd;have h':r[i]? =some x:=by simpa using h
  rw[Pu,kQ,zH,Ov r (f+1) i x nd.2 h']
  ·rw[show f+1+(i:Int)=f+((i+1:Nat):Int)by lia]
  ·intro z;have z':y.1.1=x.1.1:=z;exact nd.1 (z'▸List.mem_map.mpr ⟨x,zU h',rfl⟩)
theorem GS (w:Str)(r:List Str)(n:Nat):AW (w::r) n=((if w="with" then(n:Int)else(AW r (n+1)).1),if w="fun" then((if w="with" then(n:Int)else(AW r (n+1)).1)-n-2)::(AW r (n+1)).2 else(AW r (n+1)).2):=rfl
def VE (u:List Str):Prop:= ∀w∈u,w≠"fun"/\w≠"with"
theorem GR: ∀(u R:List Str) (n:Nat),VE u->AW (u++R) n=AW R (n+u.length)
 |[],R,n,_=>rfl
 |w::u,R,n,h=>by
  obtain⟨h1,h2⟩:=h w (zM ..);rw[jL,GS,zH h2,zH h1,GR u R (n+1) (λx hx=>h x (zN _ hx)),zJ,show n+1+u.length=n+(u.length+1)by lia]
theorem Qa {x:Pg}(ok:WE x)(R:List Str)(n:Nat):(AW (xO x++R) n).2=(x.1.2.2:Int)::(AW R (n+(xO x).length)).2:=by
 have nb: ∀b∈x.1.2.1,b≠"fun"/\b≠"with":=λb hb=>⟨(AF (ok.hd.bx.ok b hb)).nf,(AF (ok.hd.bx.ok b hb)).nw⟩;have nn:VE (x.1.1::x.1.2.1.take x.1.2.2):=λw hw=>by
  rcases List.mem_cons.mp hw with z|z
  ·rw[z];exact⟨(AF ok.hd.nm).nf,(AF ok.hd.nm).nw⟩
  ·exact nb w (kE z)
 have nt:VE (x.1.2.1.drop x.1.2.2++("is":Str)::x.2.1):=λw hw=>by
  rcases List.mem_append.mp hw with z|hw
  ·exact nb w (qP z)
  rcases List.mem_cons.mp hw with z|hw
  ·rw[z];exact⟨by decide,by decide⟩
  ·exact⟨(ok.wd w hw).nf,(ok.wd w hw).nw⟩
 have el:xO x++R=("fun":Str)::((x.1.1::x.1.2.1.take x.1.2.2)++("with":Str)::((x.1.2.1.drop x.1.2.2++("is":Str)::x.2.1)++R)):=by
  unfold xO
  simp
 have lt:(x.1.1::x.1.2.1.take x.1.2.2).length =x.1.2.2+1:=by
  rw[zJ,yX,Bc ok.hd.pb]
 have ll:(xO x).length =1+(x.1.2.2+1)+1+(x.1.2.1.drop x.1.2.2++("is":Str)::x.2.1).length:=by
  have:=xM List.length (show xO x=("fun":Str)::((x.1.1::x.1.2.1.take x.1.2.2)++("with":Str)::(x.1.2.1.drop x.1.2.2++("is":Str)::x.2.1))by unfold xO;simp);rw[this,zJ,zC,lt,zJ];lia
 rw[el,GS,zR rfl,zH (show ¬(("fun":Str)="with")by decide),GR _ _ _ nn,GS,zR rfl,zH (show ¬(("with":Str)="fun")by decide),GR _ _ _ nt,lt,ll];rw[show((n+1+(x.1.2.2+1):Nat):Int)-(n:Int)-2=(x.1.2.2:Int)by lia]
 ·rw[show n+1+(x.1.2.2+1)+1+(x.1.2.1.drop x.1.2.2++("is":Str)::x.2.1).length =n+(1+(x.1.2.2+1)+1+(x.1.2.1.drop x.1.2.2++("is":Str)::x.2.1).length)by lia]
theorem JE: ∀(pr:List Pg) (n:Nat),(∀x∈pr,WE x)->(AW (jF pr) n).2=pr.map λx=>(x.1.2.2:Int)
 |[],n,_=>rfl
 |x::r,n,ok=>by
  show(AW (xO x++jF r) n).2=_;rw[Qa (ok x (zM ..)),JE r _ (λy hy=>ok y (zN _ hy)),yM]
theorem QK {pr:List Pg}(p:OO pr):VP (pr.map (·.1)) (EA (jF pr)) (Ee (jF pr)):=by
 refine⟨λi h hi=>?_,λi h hi=>?_,λh hh=>?_⟩
 ·rw[zW]at hi;cases e:pr[i]? with
  |none=>rw[e]at hi;cases hi
  |some x=>
   rw[e]at hi;cases hi;unfold EA;rw[Jl pr 0 [] (λx hx=>(p.all x hx).w) p.nd (λ_ _=>rfl),jB,Ov pr 0 i x p.nd e,Int.zero_add]
 ·rw[zW]at hi;cases e:pr[i]? with
  |none=>rw[e]at hi;cases hi
  |some x=>
   rw[e]at hi;cases hi;unfold Ee;rw[JE pr 0 (λx hx=>(p.all x hx).w),zW,e];rfl
 ·obtain⟨x,hx,rfl⟩:=List.mem_map.mp hh;exact(p.all x hx).hd
theorem FS {W:List Str}{most:Nat}{last:Str}: ∀(us:List Str) (n a:Nat) (bs:List Str),MH W a (us++[last])->(∀u∈us,jU u=true/\u≠last)->(bs++us).Nodup->(bs++us).length<=most->us.length<n->
  qT W most last n a bs=.ok (a+us.length+1,bs++us)
 |_,0,_,_,_,_,_,_,h=>absurd h (Nat.not_lt_zero _)
 |[],n+1,a,bs,hw,_,_,_,_=>by
  obtain⟨e,_⟩:=hw.cons;rw[qT,e];dsimp only;rw[zR rfl,yY];rfl
 |u::us,n+1,a,bs,hw,ok,nd,hl,hn=>by
  obtain⟨e,h1⟩:=hw.cons;obtain⟨o1,o2⟩:=ok u (zM ..);rw[zC,zJ]at hl;rw[zJ]at hn;have nu:u∉bs:=λz=>by
   rw[List.nodup_append]at nd;exact nd.2.2 u z u (zM ..) rfl
  rw[qT,e];dsimp only;rw[zH o2,zH (by lia),zR ⟨o1,nu⟩,FS us n (a+1) (bs++[u]) h1 (λv hv=>ok v (zN _ hv)) (by rw[yT];exact nd) (by rw[zC,zC];show bs.length+1+us.length<=most;lia) (by lia),yT,zJ];refine xM Except.ok (Prod.ext ?_ rfl);show a+1+us.length+1=a+(us.length+1)+1;lia
theorem RE {W:List Str}{a:Nat}{ws:List Str}(h:MH W a ws)(h0:ws≠[]):a+ws.length<=W.length:=by
 obtain⟨post,e⟩:=h;have:=xM List.length e;rw[jK,zC]at this;have:0<ws.length:=List.length_pos_iff.mpr h0;lia
theorem Mg {W:List Str}{num:List (Str×Int)}{cnt:List Int}{hs:List KR}(ag:VP hs num cnt){x:Pg}(ok:KQ hs x){s:RS}(hw:MH W s.at_ (xO x))(nm:x.1.1∉s.names.map (·.1))(few:s.names.length<16)(p0:s.names=[]->x.1.2.2=0):
  IS W num cnt s=.ok ⟨s.at_+(xO x).length,s.names++[(x.1.1,x.1.2.1)],s.heads++[(x.1.2.2:Int),(x.1.2.1.length:Int)],s.bodies++x.2.2⟩:=by
 have lw:=RE hw (by unfold xO;exact λz=>nomatch z);have e0:xO x=("fun":Str)::x.1.1::((x.1.2.1.take x.1.2.2++[("with":Str)])++((x.1.2.1.drop x.1.2.2++[("is":Str)])++x.2.1)):=by unfold xO;simp
 have ll:(xO x).length =x.1.2.1.length+4+x.2.1.length:=by
  unfold xO;simp only[zJ,zC,yX,jK];have:=ok.hd.pb;lia
 rw[e0]at hw;obtain⟨e1,h1⟩:=hw.cons;obtain⟨e2,h2⟩:=h1.cons;obtain⟨h3,h4⟩:=h2.app;obtain⟨h5,h6⟩:=h4.app;have pb:=ok.hd.pb;have p4:=ok.hd.p4;have b12:=ok.hd.bx.few;have lt:(x.1.2.1.take x.1.2.2).length =x.1.2.2:=by rw[yX,Bc pb]
 have ld:(x.1.2.1.drop x.1.2.2).length =x.1.2.1.length-x.1.2.2:=jK ..;have kw: ∀b∈x.1.2.1,jU b=true/\b≠"with"/\b≠"is":=λb hb=>by
  have o:=ok.hd.bx.ok b hb;have:=(Dj o).2.2.2.1;exact⟨o,λz=>this (z▸by decide),λz=>this (z▸by decide)⟩
 have en:Fg W (s.at_+1) (s.names.map (·.1))=.ok x.1.1:=by
  unfold Fg;rw[e2];dsimp only;rw[zR ⟨ok.hd.nm,nm⟩]
 have eb1:=FS (W:=W) (most:=if s.names=[]then 0 else 4) (last:="with") (x.1.2.1.take x.1.2.2) (W.length+1) (s.at_+1+1) [] h3 (λu hu=>⟨(kw u (kE hu)).1,(kw u (kE hu)).2.1⟩)
  (by rw[jB];exact ok.hd.bx.nd.sublist (List.take_sublist _ _)) (by rw[jB,lt];split;(· rename_i z;rw[p0 z];exact zP _);(· exact p4)) (by lia)
 rw[jB,lt]at eb1;have ta:x.1.2.1.take x.1.2.2++x.1.2.1.drop x.1.2.2=x.1.2.1:=List.take_append_drop _ _;rw[zC,lt]at h5 h6;have eb2:=FS (W:=W) (most:=12) (last:="is") (x.1.2.1.drop x.1.2.2) (W.length+1) (s.at_+1+1+(x.1.2.2+[("with":Str)].length)) (x.1.2.1.take x.1.2.2) h5 (λu hu=>⟨(kw u (qP hu)).1,(kw u (qP hu)).2.2⟩)
  (by rw[ta];exact ok.hd.bx.nd) (by rw[ta];exact b12) (by lia)
 rw[ta,ld]at eb2;rw[zC,ld]at h6;have eb2':qT W 12 "is" (W.length+1) (s.at_+1+1+x.1.2.2+1) (x.1.2.1.take x.1.2.2)=.ok (s.at_+1+1+(x.1.2.2+[("with":Str)].length)+(x.1.2.1.length-x.1.2.2)+1,x.1.2.1):=eb2;have er:=ok.rd W num cnt _ s.bodies h6 ag;have er':Bi W num cnt x.1.2.1 10 (s.at_+1+1+(x.1.2.2+[("with":Str)].length)+(x.1.2.1.length-x.1.2.2)+1) s.bodies=.ok (s.at_+(xO x).length,s.bodies++x.2.2):=by
  refine er.trans (xM Except.ok (Prod.ext ?_ rfl));show s.at_+1+1+(x.1.2.2+1)+(x.1.2.1.length-x.1.2.2+1)+x.2.1.length=s.at_+(xO x).length;lia
 have eb1':qT W (if s.names=[]then 0 else 4) "with" (W.length+1) (s.at_+2) []=.ok (s.at_+1+1+x.1.2.2+1,x.1.2.1.take x.1.2.2):=eb1;unfold IS;rw[e1];dsimp only;rw[zH (λz=>z.elim (λz=>z rfl) (λz=>by lia)),en];dsimp only;rw[eb1'];dsimp only;rw[eb2'];dsimp only;rw[er'];dsimp only;rw[lt]
theorem JB {W:List Str}{num:List (Str×Int)}{cnt:List Int}{hs:List KR}(ag:VP hs num cnt): ∀(pr:List Pg) (n:Nat) (s:RS),(∀x∈pr,KQ hs x)->MH W s.at_ (jF pr)->s.at_+(jF pr).length =W.length->pr.length<=n->s.names.length+pr.length<=16->
  (s.names.map (·.1)++pr.map λx=>x.1.1).Nodup->s.names≠[]->Fq W num cnt n s=.ok ⟨W.length,s.names++EB pr,s.heads++EF pr,s.bodies++BY pr⟩
 |[],n,s,_,_,hl,_,_,_,_=>by
  have hl':s.at_=W.length:=hl;have:Fq W num cnt n s=.ok s:=by
   cases n with
   |zero=>rfl
   |succ n=>rw[Fq,zH (by lia)]
  rw[this,<-hl'];show Except.ok s=.ok ⟨s.at_,s.names++[],s.heads++[],s.bodies++[]⟩;rw[yY,yY,yY]
 |x::r,0,s,_,_,_,h,_,_,_=>by simp at h
 |x::r,n+1,s,ok,hw,hl,hn,few,nd,ne=>by
  obtain⟨h1,h2⟩:=(show MH W s.at_ (xO x++jF r)from hw).app;have le:=RE h1 (by unfold xO;exact λz=>nomatch z);have l0:0<(xO x).length:=by unfold xO;exact Nat.succ_pos _
  rw[zJ]at few hn;have nm:x.1.1∉s.names.map (·.1):=λz=>by
   rw[List.nodup_append]at nd;exact nd.2.2 _ z _ (zM ..) rfl
  rw[Fq,zR (by lia),Mg ag (ok x (zM ..)) h1 nm (by lia) (λz=>absurd z ne)];dsimp only;have hl':s.at_+(xO x++jF r).length =W.length:=hl;rw[zC]at hl';rw[JB ag r n _ (λy hy=>ok y (zN _ hy)) h2 (by show s.at_+(xO x).length +_=_;lia) (by lia) (by show(s.names++_).length +_<=_;rw[zC];show s.names.length+1+r.length<=16;lia) ?_ ?_]
  ·show Except.ok (RS.mk _ _ _ _)=_;unfold EB EF BY
   simp[yT]
  ·show((s.names++[(x.1.1,x.1.2.1)]).map (·.1)++_).Nodup;rw[xH,yT];exact nd
  ·show s.names++_≠[];exact λz=>by simp at z
theorem Pc {pr:List Pg}(p:OO pr):LA (jF pr)=.ok ⟨(jF pr).length,EB pr,EF pr,BY pr⟩:=by
 have ag:=QK p;cases e:pr with
 |nil=>exact absurd e p.ne
 |cons x r=>
  have ok:=p.all;have nd:=p.nd;have few:=p.few;have fs:=p.first;rw[e]at ag ok nd few fs;have hw:MH (jF (x::r)) 0 (xO x++jF r):=⟨[],by rw[yY];rfl⟩;obtain⟨h1,h2⟩:=hw.app;rw[zJ]at few;have e1:=Mg (s:=⟨0,[],[],[]⟩) ag (ok x (zM ..)) h1 (λz=>nomatch z) (by show 0<16;decide) (λ_=>fs x rfl);unfold LA;rw[e1];dsimp only;have lr:r.length<=(jF r).length:=by
   have: ∀l:List Pg,l.length<=(jF l).length:=λl=>by
    induction l with
    |nil=>exact zP _
    |cons y l ih=>
     show l.length+1<=(xO y++jF l).length;rw[zC];have:0<(xO y).length:=by unfold xO;exact Nat.succ_pos _
     lia
   exact this r
  rw[JB ag r _ _ (λy hy=>ok y (zN _ hy)) h2 ?_ ?_ ?_ ?_ (λz=>by simp at z)]
  ·show Except.ok (RS.mk _ _ _ _)=_;unfold EB EF BY
   simp
  ·show 0+(xO x).length +(jF r).length =(xO x++jF r).length;rw[zC];lia
  ·show r.length<=(xO x++jF r).length;rw[zC];lia
  ·show 1+r.length<=16;lia
  ·exact nd
abbrev VD:=List (Int×Int)
def ZD (rs:VD)(i:Nat):Prop:= ∃n,rs[i]? =some (4,n)
instance (rs:VD)(i:Nat):Decidable (ZD rs i):=
 match h:rs[i]? with
 |none=>isFalse fun⟨n,e⟩=>by rw[h]at e;cases e
 |some (op,n)=>if e:op=4 then isTrue ⟨n,by rw[h,e]⟩else isFalse fun⟨m,z⟩=>by rw[h]at z;cases z;exact e rfl
def Yl (rs:VD)(i:Nat):Nat:=match rs[i]? with
 |some (op,n)=>if op=4 then n.toNat else i
 |none=>i
def its (rs:VD):Nat->Nat->Nat
 |0,i=>i
 |k+1,i=>Yl rs (its rs k i)
inductive Ye where
 |go (pc:Nat) (held:List Int) (br:Int)
 |bad (w:Str) (n:Int)
 |done (v:Int)
def ZH (held:List Int)(f:List Int->Int->Ye):Ye:=match held.getLast? with
 |none=>.bad "stray" 0
 |some v=>f held.dropLast v
structure ZG where
 (m dm hd sp rw r0 r1 bd d dd bx hl:Addr)
inductive Ro where
 |m|bd|hd|sp|rw
 |row (i:Nat)
 |d (i:Nat)
 |bx (i:Nat)
 |hl (i:Nat)
structure Fr where
 pc:Nat
 bx:List Int
 hl:List Int
structure MS where
 rows:List (List Int)
 frs:List Fr
 br:Int
 va:Int
structure Pl where
 ad:Ro->Addr
 dd:Nat->Addr
 dm:Addr
 uh:List V
 us:List V
def MS.f (s:MS)(i:Nat):Fr:=s.frs.getD i ⟨0,[],[]⟩
def MG (CM:Addr)(A:Pl)(br va:Int):HO:=.ins CM A.dm [("heads",.ref (A.ad .hd)),("steps",.ref (A.ad .sp)),("rows",.ref (A.ad .rw)),("breaths",.int br),("being_done",.ref (A.ad .bd)),("value",.int va)]
def DG (CD:Addr)(A:Pl)(i:Nat)(pc:Int):HO:=.ins CD (A.dd i) [("at",.int pc),("boxes",.ref (A.ad (.bx i))),("held",.ref (A.ad (.hl i)))]
def ZF (A:Pl)(n:Nat):List V:=(List.range n).map λi=>V.ref (A.ad (.d i))
def Zz (A:Pl)(n:Nat):List Addr:=(List.range n).map λi=>A.ad (.row i)
def cont (CM CD:Addr)(A:Pl)(s:MS):Ro->HO
 | .m=>MG CM A s.br s.va
 | .bd=>.lst (ZF A s.frs.length)
 | .hd=>.lst A.uh
 | .sp=>.lst A.us
 | .rw=>.lst ((Zz A s.rows.length).map V.ref)
 | .row i=>.lst ((s.rows.getD i []).map V.int)
 | .d i=>DG CD A i (s.f i).pc
 | .bx i=>.lst ((s.f i).bx.map V.int)
 | .hl i=>.lst ((s.f i).hl.map V.int)
def Vb (v:Int):Prop:=v.natAbs<2^2000
abbrev Hn:=Int×List Int
abbrev Up:=List (Nat×Int)
def XQ:Nd->Hn
 | .mk k _ own _=>(k,own)
def XH:Nd->Nat
 | .mk _ p _ _=>p
def Wz (xs:List Hn):List Int:=xs.flatMap λx=>x.1::x.2
def Xj (n:Nd):List Hn:=(pre n).map XQ
inductive Sm (hs:AH):Up->List Hn->Up->Prop where
 |nil {S:Up}:Sm hs S [] S
 |cons {d:Nat} {b k:Int} {own:List Int} {r:Up} {xs:List Hn} {S:Up} (k0:0<=k) (k1:k<=19) (f:EI hs b k own) (h:Sm hs (List.replicate (Fh hs k own).toNat (d,b)++r) xs S):Sm hs ((d+1,b)::r) ((k,own)::xs) S
theorem Sm.append {hs:AH}{S S1 S2:Up}{xs ys:List Hn}(h:Sm hs S xs S1)(g:Sm hs S1 ys S2):Sm hs S (xs++ys) S2:=by
 induction h with
 |nil=>exact g
 |cons k0 k1 f _ ih=>exact .cons k0 k1 f (ih g)
mutual
def WB:Nd->Nat
 | .mk _ _ _ ps=>1+WC ps
def WC:List Nd->Nat
 |[]=>0
 |a::r=>max (WB a) (WC r)
end
mutual
def WW (hs:AH)(b:Int):Nd->Prop
 | .mk k _ own ps=>0<=k/\k<=19/\EI hs b k own/\ps.length=(Fh hs k own).toNat/\WX hs b ps
def WX (hs:AH)(b:Int):List Nd->Prop
 |[]=>True
 |a::r=>WW hs b a/\WX hs b r
end
structure Ctx (hs:AH)(S0 R:Up)(all:List Hn)(p0 i:Nat)(m:Nd)(e:Nat)(b:Int):Prop where
 ex: ∃X Y r,all=X++(Xj m++Y)/\X.length=i/\Sm hs S0 X ((e,b)::r)/\Sm hs r Y R/\XH m=p0+(Wz X).length
 fit:WW hs b m
 dep:WB m<=e
theorem Ctx.before {hs:AH}{S0 R1 R:Up}{Z all:List Hn}{p0 i:Nat}{m:Nd}{e:Nat}{b:Int}(c:Ctx hs S0 R1 all p0 i m e b)(h:Sm hs R1 Z R):Ctx hs S0 R (all++Z) p0 i m e b:=by
 obtain⟨⟨X,Y,r,e1,e2,e3,e4,e5⟩,f,d⟩:=c;exact⟨⟨X,Y++Z,r,by rw[e1,yT,yT],e2,e3,e4.append h,e5⟩,f,d⟩
structure ES where
 rows:List (List Int)
 br:Int
 bx:List Int
 ct:Nat
inductive ER where
 |val (v:Int) (s:ES)
 |bad (w:Str) (n:Int) (rows:List (List Int)) (ct:Nat×Int)
mutual
def CY (hs:AH)(b:Int):Nat->Tr->Prop
 |0,_=>False
 |n+1,.mk k own ps=>0<=k/\k<=19/\EI hs b k own/\ps.length=(Fh hs k own).toNat/\(∀v∈own,Vb v)/\Dq hs b n ps
def Dq (hs:AH)(b:Int):Nat->List Tr->Prop
 |_,[]=>True
 |n,a::r=>CY hs b n a/\Dq hs b n r
end
section
variable {ns:List Int}{hs:AH}{b:Int}
theorem Jh {n:Nat}(ih: ∀(t:Tr) (p:Nat),CY hs b n t->Sub ns p (BD t)-> ∃nd,Bj ns hs b n p=.ok (nd,p+(BD t).length)/\bare nd=t):
  ∀(ps:List Tr) (p:Nat),Dq hs b n ps->Sub ns p (At ps)-> ∃nds,BB (Bj ns hs b n) ps.length p=.ok (nds,p+(At ps).length)/\uI nds=ps
 |[],p,_,_=>⟨[],rfl,rfl⟩
 |t::ps,p,f,s=>by
  unfold Dq at f;have e:At (t::ps)=BD t++At ps:=rfl;rw[e]at s ⊢;obtain⟨s1,s2⟩:=Sub.append s;obtain⟨nd,e1,b1⟩:=ih t p f.1 s1;obtain⟨nds,e2,b2⟩:=Jh ih ps _ f.2 s2;refine⟨nd::nds,?_,?_⟩
  ·rw[zJ];unfold BB;rw[e1];dsimp only;rw[e2];dsimp only;rw[zC,Da]
  ·show bare nd::uI nds=_;rw[b1,b2]
theorem LW: ∀(n:Nat) (t:Tr) (p:Nat),CY hs b n t->Sub ns p (BD t)-> ∃nd,Bj ns hs b n p=.ok (nd,p+(BD t).length)/\bare nd=t
 |0,t,p,f,_=>by unfold CY at f;exact f.elim
 |n+1,.mk k own ps,p,f,s=>by
  unfold CY at f;obtain⟨k0,k1,of,lp,_,fp⟩:=f;have e:BD (.mk k own ps)=(k::own)++At ps:=rfl;rw[e]at s ⊢;obtain⟨s1,s2⟩:=Sub.append (xs:=k::own) s;obtain⟨nds,e2,b2⟩:=Jh (LW n) ps _ fp s2;refine⟨.mk k p own nds,?_,?_⟩
  ·unfold Bj;rw[vF s1.1 k0 k1];dsimp only;rw[ST of s1.2];dsimp only;rw[show p+1+own.length=p+(k::own).length by rw[zJ];lia,<-lp,e2];dsimp only;rw[zC,Da]
  ·show Tr.mk k own (uI nds)=_;rw[b2]
theorem IG: ∀(fs:List Fn) (p:Nat),(∀f∈fs,CY hs f.1.2 10 f.2)->Sub ns p (Bs fs)-> ∃nds,Ag ns hs (fs.map Prod.fst) p=.ok (nds,p+(Bs fs).length)/\uI nds=fs.map Prod.snd
 |[],p,_,_=>⟨[],rfl,rfl⟩
 |f::fs,p,h,s=>by
  have e:Bs (f::fs)=BD f.2++Bs fs:=CG ..;rw[e]at s ⊢;obtain⟨s1,s2⟩:=Sub.append s;obtain⟨nd,e1,b1⟩:=LW 10 f.2 p (h f (zM ..)) s1;obtain⟨nds,e2,b2⟩:=IG fs _ (λg hg=>h g (zN _ hg)) s2;refine⟨nd::nds,?_,?_⟩
  ·rw[yM];unfold Ag;rw[e1];dsimp only;rw[e2];dsimp only;rw[zC,Da]
  ·show bare nd::uI nds=_;rw[b1,b2]<;>rfl
theorem EE: ∀fs:List Fn,KA fs=flat (fs.map Prod.fst)
 |[]=>rfl
 |f::fs=>by
  show f.1.1::f.1.2::KA fs=f.1.1::f.1.2::flat (fs.map Prod.fst);rw[EE fs]
theorem Oa: ∀fs:List Fn,(fs.map Prod.fst).zip (fs.map Prod.snd)=fs
 |[]=>rfl
 |f::fs=>by
  show(f.1,f.2)::(fs.map Prod.fst).zip (fs.map Prod.snd)=_;rw[Oa fs]
theorem RI {fs:List Fn}(g:HJ (fs.map Prod.fst))(h: ∀f∈fs,CY (fs.map Prod.fst) f.1.2 10 f.2): ∃nds,vI (wr fs)=.ok (fs.map Prod.fst,nds)/\OA (fs.map Prod.fst,nds)=fs:=by
 have lm:(fs.map Prod.fst).length =fs.length:=zF ..;have ew:wr fs=((fs.length:Int)::flat (fs.map Prod.fst))++Bs fs:=by
  unfold wr;rw[EE]<;>rfl
 have s:=Sub.self (wr fs);rw[ew]at s ⊢;obtain⟨s1,s2⟩:=Sub.append (xs:=(fs.length:Int)::flat (fs.map Prod.fst)) s;have l:0+((fs.length:Int)::flat (fs.map Prod.fst)).length =1+2*(fs.map Prod.fst).length:=by rw[zJ,IB];lia
 rw[l]at s2;obtain⟨nds,e,bb⟩:=IG (hs:=fs.map Prod.fst) fs _ h s2;refine⟨nds,?_,?_⟩
 ·have g1:=g.lo;have g2:=g.hi;have eh:vR (((fs.length:Int)::flat (fs.map Prod.fst))++Bs fs)=.ok (fs.map Prod.fst):=by
   unfold vR;rw[vF s1.1 (by lia) (by lia)];dsimp only;rw[kI];have:=g.heads s1.2;rw[lm]at this;exact this
  unfold vI;rw[eh];dsimp only;rw[e];refine zH ?_;dsimp only;rw[zC,zJ,IB];lia
 ·show(fs.map Prod.fst).zip (uI nds)=fs;rw[bb];exact Oa fs
end
end L2
namespace L2
open PySem PySem.NumText PySem.W
def FG (nm bs:List Str)(k n:Int):Str:=if k=1\/k=2 then bs.getD n.toNat "" else if k=6 then nm.getD n.toNat "" else AC n
def JO (nm bs:List Str)(k:Int)(own:List Int):List Str:=(if k=0\/k=1 then[]else[kwW.getD (k-2).toNat ""])++own.map (FG nm bs k)
mutual
def Dc (nm bs:List Str):Tr->List Str
 | .mk k own ps=>JO nm bs k own++Db nm bs ps
def Db (nm bs:List Str):List Tr->List Str
 |[]=>[]
 |a::r=>Dc nm bs a++Db nm bs r
end
mutual
def Ql:Tr->Prop
 | .mk _ own ps=>(∀v∈own,v.natAbs<10^60)/\II ps
def II:List Tr->Prop
 |[]=>True
 |a::r=>Ql a/\II r
end
theorem getD_some {bs:List Str}{i:Nat}{w:Str}(h:bs[i]? =some w):bs.getD i ""=w:=by
 rw[xW,h];rfl
end L2
namespace L2
open PySem
abbrev OP:=Str×List Str
def IN (nm:List Str)(n:OP)(f:Fn):Pg:=((n.1,n.2,f.1.1.toNat),Dc nm n.2 f.2,BD f.2)
def EU (ns:List OP)(fs:List Fn):List Pg:=List.zipWith (IN (ns.map (·.1))) ns fs
structure VA (ns:List OP)(fs:List Fn):Prop where
 len:ns.length=fs.length
 nm: ∀n∈ns,jU n.1=true/\Qk n.2
 nd:(ns.map (·.1)).Nodup
 bx: ∀(i:Nat) (n:OP) (f:Fn),ns[i]? =some n->fs[i]? =some f->f.1.2=(n.2.length:Int)
 good:HJ (fs.map Prod.fst)
 fit: ∀f∈fs,CY (fs.map Prod.fst) f.1.2 10 f.2
 sm: ∀f∈fs,Ql f.2
section
variable {hs3:List KR}{bs nm:List Str}{hs:AH}
theorem Gp {nm:List Str}{i:Nat}(h:i<nm.length):nm[i]? =some (nm.getD i ""):=by
 rw[xW,zG h];rfl
theorem Rx {k:Int}(h2:2<=k)(h19:k<=19):kwW[(k-2).toNat]? =some (kwW.getD (k-2).toNat ""):=Gp (by show(k-2).toNat <18;lia)
theorem He {d:Nat}(ih: ∀t,CY hs (bs.length:Int) d t->Ql t->Hu hs3 bs d (Dc nm bs t) (BD t)): ∀(ts:List Tr) (n:Nat) (ws:List Str) (zs:List Int),EH hs3 bs d n ws zs->Dq hs (bs.length:Int) d ts->II ts->EH hs3 bs d (n+ts.length) (ws++Db nm bs ts) (zs++At ts)
 |[],n,ws,zs,h,_,_=>by simpa[Db,At]using h
 |t::ts,n,ws,zs,h,f,s=>by
  unfold Dq at f;unfold II at s;have:=He ih ts (n+1) _ _ (h.snoc (ih t f.1 s.1)) f.2 s.2;have e1:ws++Db nm bs (t::ts)=ws++Dc nm bs t++Db nm bs ts:=by rw[yT];rfl
  have e2:zs++At (t::ts)=zs++BD t++At ts:=by rw[yT];rfl
  rw[e1,e2,zJ,show n+(ts.length+1)=n+1+ts.length by lia];exact this
theorem JD (hn:nm=hs3.map (·.1))(hh:hs=hs3.map λh=>((h.2.2:Int),(h.2.1.length:Int)))(hb:Qk bs): ∀(d:Nat) (t:Tr),CY hs (bs.length:Int) d t->Ql t->Hu hs3 bs d (Dc nm bs t) (BD t)
 |0,t,f,_=>by unfold CY at f;exact f.elim
 |d+1,.mk k own ps,f,s=>by
  unfold CY at f;unfold Ql at s;obtain⟨k0,k1,of,lp,_,fp⟩:=f;obtain⟨s1,s2⟩:=s;have pr:=He (JD hn hh hb d) ps 0 [] [] .nil fp s2;rw[Nat.zero_add,jB,jB]at pr;have fin:2<=k->IJ hs3 bs k (own.map (FG nm bs k)) own ps.length->Hu hs3 bs (d+1) (Dc nm bs (.mk k own ps)) (BD (.mk k own ps)):=λh2 ho=>by
   have ek:2+(((k-2).toNat:Nat):Int)=k:=by lia
   have:=Nf (hs:=hs3) (d:=d) hb (Rx h2 k1) (ow:=own.map (FG nm bs k)) (on:=own) (n:=ps.length) (by rw[ek];exact ho) pr;rw[ek]at this;have e:Dc nm bs (.mk k own ps)=kwW.getD (k-2).toNat ""::(own.map (FG nm bs k)++Db nm bs ps):=by
    unfold Dc JO;rw[zH (by lia)]
    simp
   rw[e];exact this
  rcases of with⟨rfl,n,rfl⟩|⟨hk,n,rfl,a,b⟩|⟨rfl,n,rfl,a,b⟩|⟨rfl,n,rfl,a,b⟩|⟨rfl,n,rfl,a,b⟩|⟨hk,rfl⟩
  ·have e0:ps=[]:=List.length_eq_zero_iff.mp lp;subst e0;exact OZ (s1 n (by simp))
  ·have hi:n.toNat<bs.length:=by lia
   have eb:=Gp hi
   rcases hk with rfl|rfl
   ·have e0:ps=[]:=List.length_eq_zero_iff.mp lp;subst e0;have:=Pa (hs:=hs3) (d:=d) hb eb;rw[show((n.toNat:Nat):Int)=n by lia]at this;exact this
   ·have:=NH (hs:=hs3) hb eb;rw[show((n.toNat:Nat):Int)=n by lia]at this;refine fin (by decide) ?_;rw[lp];exact this
  ·refine fin (by decide) ?_;rw[lp];have:=Hk (hs:=hs3) (bs:=bs) (k:=3) (c:=n) (.inl rfl) (by lia) (by lia);rw[show(n+3-3).toNat =(Fh hs 3 [n]).toNat by show(n+3-3).toNat =n.toNat;lia]at this;exact this
  ·refine fin (by decide) ?_;rw[lp];have:=Hk (hs:=hs3) (bs:=bs) (k:=4) (c:=n) (.inr rfl) (by lia) (by lia);rw[show(n+4-3).toNat =(Fh hs 4 [n]).toNat by show(n+4-3).toNat =(1+n).toNat;lia]at this;exact this
  ·have lh:hs.length=hs3.length:=by rw[hh,zF]
   have hi:n.toNat<hs3.length:=by lia
   have e3:hs3[n.toNat]? =some hs3[n.toNat]:=zG hi;have en:FG nm bs 6 n=hs3[n.toNat].1:=by
    unfold FG;rw[zH (by decide),zR rfl,hn];refine getD_some ?_;rw[zW,e3];rfl
   refine fin (by decide) ?_;rw[lp];have:=Me (bs:=bs) e3;rw[show((n.toNat:Nat):Int)=n by lia]at this;have ed:(Fh hs 6 [n]).toNat =hs3[n.toNat].2.2:=by
    show((hs.getD n.toNat (0,0)).1).toNat =_;rw[xW,hh,zW,e3];exact kI _
   rw[ed];show IJ hs3 bs 6 [FG nm bs 6 n] [n] _;rw[en];exact this
  ·refine fin (by lia) ?_;refine Md (by lia) ?_;rw[lp];unfold Fh;rw[zH (show ¬(k=0\/k=1)by lia),zH (show ¬k=2 by lia),zH (show ¬k=3 by lia),zH (show ¬k=4 by lia)]
   by_cases c:k=5
   ·rw[zR c,zR c];rfl
   ·rw[zH c,zH c,zH (show ¬k=6 by lia)];have tab: ∀j:Fin 13,(partsW[j.1]?).getD 0=(((partsN.getD j.1 0).toNat:Nat):Int):=by decide
    exact tab ⟨(k-7).toNat,by lia⟩
theorem Ws {k:Int}(h2:2<=k)(h19:k<=19):kwW.getD (k-2).toNat ""∈kwW:=zU (Rx h2 h19)
theorem Pj (hm:nm.length=hs.length){k:Int}{own:List Int}(of:EI hs (bs.length:Int) k own)(sm: ∀v∈own,v.natAbs<10^60): ∀v∈own,(∃b∈bs,FG nm bs k v=b)\/(∃b∈nm,FG nm bs k v=b)\/(FG nm bs k v=AC v/\v.natAbs<10^60):=λv hv=>by
 rcases of with⟨rfl,n,rfl⟩|⟨hk,n,rfl,a,b⟩|⟨rfl,n,rfl,a,b⟩|⟨rfl,n,rfl,a,b⟩|⟨rfl,n,rfl,a,b⟩|⟨hk,rfl⟩
 ·exact .inr (.inr ⟨rfl,sm v hv⟩)
 ·have ev:=List.mem_singleton.mp hv;subst ev;refine .inl ⟨_,zU (Gp (nm:=bs) (i:=v.toNat) (by lia)),?_⟩;unfold FG;rw[zR hk]
 ·exact .inr (.inr ⟨rfl,sm v hv⟩)
 ·exact .inr (.inr ⟨rfl,sm v hv⟩)
 ·have ev:=List.mem_singleton.mp hv;subst ev;exact .inr (.inl ⟨_,zU (Gp (nm:=nm) (i:=v.toNat) (by lia)),rfl⟩)
 ·cases hv
theorem Sn (hm:nm.length=hs.length)(hb: ∀b∈bs,jU b=true)(hn: ∀b∈nm,jU b=true){k:Int}{own:List Int}(k0:0<=k)(k1:k<=19)(of:EI hs (bs.length:Int) k own)(sm: ∀v∈own,v.natAbs<10^60): ∀w∈JO nm bs k own,IH w:=λw hw=>by
 unfold JO at hw
 rcases List.mem_append.mp hw with z|z
 ·split at z
  ·cases z
  ·rename_i c;rw[List.mem_singleton.mp z];exact Tj (Ws (by lia) k1)
 ·obtain⟨v,hv,rfl⟩:=List.mem_map.mp z
  rcases Pj hm of sm v hv with⟨b,m,e⟩|⟨b,m,e⟩|⟨e,h⟩
  ·rw[e];exact AF (hb b m)
  ·rw[e];exact AF (hn b m)
  ·rw[e];exact Vf h
theorem Le {d:Nat}(ih: ∀t,CY hs (bs.length:Int) d t->Ql t-> ∀w∈Dc nm bs t,IH w): ∀ts:List Tr,Dq hs (bs.length:Int) d ts->II ts-> ∀w∈Db nm bs ts,IH w
 |[],_,_,w,hw=>nomatch hw
 |t::ts,f,s,w,hw=>by
  unfold Dq at f;unfold II at s
  rcases List.mem_append.mp (show w∈Dc nm bs t++Db nm bs ts from hw)with z|z
  ·exact ih t f.1 s.1 w z
  ·exact Le ih ts f.2 s.2 w z
theorem RL (hm:nm.length=hs.length)(hb: ∀b∈bs,jU b=true)(hn: ∀b∈nm,jU b=true): ∀(d:Nat) (t:Tr),CY hs (bs.length:Int) d t->Ql t-> ∀w∈Dc nm bs t,IH w
 |0,t,f,_=>by unfold CY at f;exact f.elim
 |d+1,.mk k own ps,f,s=>by
  unfold CY at f;unfold Ql at s;obtain⟨k0,k1,of,lp,_,fp⟩:=f;intro w hw;unfold Dc at hw
  rcases List.mem_append.mp hw with z|z
  ·exact Sn hm hb hn k0 k1 of s.1 w z
  ·exact Le (RL hm hb hn d) ps fp s.2 w z
end
theorem AS {α β γ δ:Type}{f:α->β->γ}{g:γ->δ}{h:α->δ}(e: ∀a b,g (f a b)=h a): ∀(as:List α) (bs:List β),as.length=bs.length->(List.zipWith f as bs).map g=as.map h
 |[],[],_=>rfl
 |a::as,b::bs,l=>by
  rw[List.zipWith_cons_cons,yM,yM,e,AS e as bs (by simpa using l)]
theorem MI {α β γ:Type}{f:α->β->γ}{as:List α}{bs:List β}{i:Nat}{x:γ}(h:(List.zipWith f as bs)[i]? =some x): ∃a b,as[i]? =some a/\bs[i]? =some b/\x=f a b:=by
 rw[Aw]at h;split at h
 ·rename_i a b e1 e2;exact⟨a,b,e1,e2,(xP h).symm⟩
 ·cases h
section
variable {ns:List OP}{fs:List Fn}
theorem Gi (l:ns.length=fs.length):(EU ns fs).length =fs.length:=by
 unfold EU;rw[List.length_zipWith];lia
theorem Pe (l:ns.length=fs.length):EB (EU ns fs)=ns:=by
 unfold EB EU;rw[AS (h:=λn=>n) (λa b=>rfl) ns fs l,List.map_id']
theorem QN (l:ns.length=fs.length):((EU ns fs).map λx=>x.1.1)=ns.map (·.1):=AS (h:=λn:OP=>n.1) (g:=λx:Pg=>x.1.1) (λa b=>rfl) ns fs l
theorem VA.hds (h:VA ns fs):((EU ns fs).map (·.1)).map (λh=>((h.2.2:Int),(h.2.1.length:Int)))=fs.map Prod.fst:=by
 refine List.ext_getElem? λi=>?_;rw[zW,zW];have hl:=Gi h.len
 by_cases c:i<fs.length
 ·have e1:fs[i]? =some fs[i]:=zG c;have e2:ns[i]? =some (ns[i]'(by rw[h.len];exact c)):=zG _;have e3:(EU ns fs)[i]? =some (IN (ns.map (·.1)) (ns[i]'(by rw[h.len];exact c)) fs[i]):=by
   unfold EU;rw[Aw,e1,e2]
  rw[e3,zW,e1];have b:=h.bx i _ _ e2 e1;have g:=h.good.all i fs[i].1 (by rw[zW,e1];rfl);refine xM some (Prod.ext ?_ ?_)
  ·show((fs[i].1.1.toNat:Nat):Int)=fs[i].1.1;lia
  ·exact b.symm
 ·rw[qG (by lia),qG (by rw[zF];lia)];rfl
theorem VA.prog (h:VA ns fs):OO (EU ns fs) where
 all:=λx hx=>by
  obtain⟨i,e⟩:=AR hx;obtain⟨n,f,e1,e2,rfl⟩:=MI e;obtain⟨o1,o2⟩:=h.nm n (zU e1);have b:=h.bx i n f e1 e2;have g:=h.good.all i f.1 (by rw[zW,e2];rfl);have ft:=h.fit f (zU e2);have st:=h.sm f (zU e2);rw[b]at ft;have en:ns.map (·.1)=((EU ns fs).map (·.1)).map (·.1):=by rw[qQ];exact(QN h.len).symm
  refine⟨⟨o1,o2,by show f.1.1.toNat<=4;lia,by show f.1.1.toNat<=n.2.length;lia⟩,?_,?_⟩
  ·exact JD en h.hds.symm o2 10 f.2 ft st
  ·refine RL ?_ o2.ok ?_ 10 f.2 ft st
   ·rw[zF,zF,h.len]
   ·intro b hb;obtain⟨m,hm,rfl⟩:=List.mem_map.mp hb;exact(h.nm m hm).1
 nd:=by rw[QN h.len];exact h.nd
 ne:=λz=>by
  have:=Gi h.len;rw[z]at this;have g:=h.good.lo;rw[zF]at g;have:([]:List Pg).length =0:=rfl;lia
 few:=by
  rw[Gi h.len];have g:=h.good.hi
  rwa [zF]at g
 first:=λx hx=>by
  obtain⟨n,f,e1,e2,rfl⟩:=MI hx;have g:=h.good.all 0 f.1 (by rw[zW,e2];rfl);have:=g.2.2.2.2 rfl;show f.1.1.toNat=0;lia
end
def Ww (pr:List Pg):AH:=pr.map λx=>((x.1.2.2:Int),(x.1.2.1.length:Int))
theorem Hl: ∀pr:List Pg,EF pr=flat (Ww pr)
 |[]=>rfl
 |x::r=>by
  show[(x.1.2.2:Int),(x.1.2.1.length:Int)]++EF r=(x.1.2.2:Int)::(x.1.2.1.length:Int)::flat (Ww r);rw[Hl r];rfl
theorem Hr (nm:List Str): ∀(ns:List OP) (fs:List Fn),ns.length=fs.length->BY (List.zipWith (IN nm) ns fs)=Bs fs
 |[],[],_=>rfl
 |n::ns,f::fs,l=>by
  show BD f.2++BY (List.zipWith (IN nm) ns fs)=_;rw[Hr nm ns fs (by simpa using l)];rfl
theorem Uv {ns:List OP}{fs:List Fn}(h:VA ns fs):wr fs=((EU ns fs).length:Int)::(EF (EU ns fs)++BY (EU ns fs)):=by
 have e1:EF (EU ns fs)=KA fs:=by
  have:=h.hds;rw[qQ]at this;rw[Hl,EE,<-this];rfl
 have e2:BY (EU ns fs)=Bs fs:=Hr _ ns fs h.len;unfold wr;rw[e1,e2,Gi h.len]
def TB (t:Str):Prop:= ∀c∈t.cps.toList,AO c
instance (t:Str):Decidable (TB t):=inferInstanceAs (Decidable (∀c∈_,_))
structure TD (w:Str):Prop where
 ne:w.cps.toList≠[]
 nb: ∀c∈w.cps.toList,¬AO c
 sh:w.length<=61
theorem IH.t {w:Str}(h:IH w):TD w:=⟨h.ne,h.nb,h.sh⟩
theorem GY {t:Str}(h:t.length<=1000000):(∀w∈wordsT t,TD w)->(wordsT t).length<=1000000->(Txt.replace t "\n" " ").length<=1000000/\(Txt.split (Txt.replace t "\n" " ") " ").length<=2000000:=λ_ _=>by
 have e1:=Sz t;have e2:=OW (Txt.replace t "\n" " ") 32;rw[<-FT]at e2;lia
theorem BG {hs:List KR}{x:Pg}(h:KQ hs x): ∀w∈xO x,TD w:=λw hw=>by
 have bx: ∀b∈x.1.2.1,TD b:=λb hb=>(AF (h.hd.bx.ok b hb)).t
 rcases List.mem_cons.mp hw with z|hw
 ·rw[z];exact⟨by decide,by decide,by decide⟩
 rcases List.mem_cons.mp hw with z|hw
 ·rw[z];exact(AF h.hd.nm).t
 rcases List.mem_append.mp hw with z|hw
 ·exact bx w (kE z)
 rcases List.mem_cons.mp hw with z|hw
 ·rw[z];exact⟨by decide,by decide,by decide⟩
 rcases List.mem_append.mp hw with z|hw
 ·exact bx w (qP z)
 rcases List.mem_cons.mp hw with z|hw
 ·rw[z];exact⟨by decide,by decide,by decide⟩
 ·exact(h.wd w hw).t
theorem ML (c:Nat)(hc:AO c): ∀(p acc r:List Nat),wl acc (p++c::r)=wl acc p++wl [] r
 |[],acc,r=>by
  rw[jB]
  conv=>lhs;unfold wl
  rw[zR hc];unfold wl
  by_cases z:acc=[]
  ·rw[zR z,zR z];rfl
  ·rw[zH z,zH z];rfl
 |d::p,acc,r=>by
  rw[jL];have e: ∀l,wl acc (d::l)=if AO d then(if acc=[]then wl [] l else acc::wl [] l)else wl (acc++[d]) l:=λl=>by rw[wl]
  rw[e,e,ML c hc p,ML c hc p]
  by_cases b:AO d
  ·rw[zR b,zR b]
   by_cases z:acc=[]
   ·rw[zR z,zR z]
   ·rw[zH z,zH z];rfl
  ·rw[zH b,zH b]
theorem Ft (c:Nat)(hc:AO c): ∀ps:List (List Nat),wl [] (wB c ps)=(ps.map (wl [])).flatten
 |[]=>rfl
 |[p]=>by
  show wl [] p=[wl [] p].flatten
  simp
 |p::p2::r=>by
  show wl [] (p++c::wB c (p2::r))=_;rw[ML c hc,Ft c hc (p2::r)];rfl
theorem Uw {w:List Nat}(h0:w≠[])(hb: ∀c∈w,¬AO c):wl [] w=[w]:=by
 have:=Hy w [] [] hb;rw[yY,jB]at this;rw[this];unfold wl;rw[zH h0]
theorem Qo {ws:List Str}(h: ∀w∈ws,TD w)(c:Nat)(hc:AO c):wl [] (wB c (ws.map λx=>x.cps.toList))=ws.map λx=>x.cps.toList:=by
 rw[Ft c hc,qQ];have: ∀l:List Str,(∀w∈l,TD w)->(l.map (wl []∘λx=>x.cps.toList)).flatten =l.map λx=>x.cps.toList:=λl=>by
  induction l with
  |nil=>exact λ_=>rfl
  |cons x l ih=>
   intro hl;have hx:=hl x (zM ..);rw[yM,CF,ih (λw hw=>hl w (zN _ hw)),yM];show wl [] x.cps.toList++_=_;rw[Uw hx.ne hx.nb];rfl
 exact this ws h
theorem NG {lss:List (List Str)}(h: ∀ls∈lss,∀w∈ls,TD w):wordsT (Txt.join "\n" (lss.map (Txt.join " ")))=lss.flatten:=by
 refine Tx ?_;have e:(Txt.join "\n" (lss.map (Txt.join " "))).cps.toList =wB 10 ((lss.map (Txt.join " ")).map λx=>x.cps.toList):=by
  rw[Nw];have:=uH 10 (lss.map (Txt.join " "));rw[<-this];exact xM (λt:Str=>t.cps.toList) (qD _ _)
 rw[Lh,e,Ft 10 (.inr rfl),qQ,qQ]
 induction lss with
 |nil=>rfl
 |cons ls lss ih=>
  rw[yM,CF,CF,xH];congr 1
  ·show wl [] (Txt.join " " ls).cps.toList =_;have e:(Txt.join " " ls).cps.toList =wB 32 (ls.map λx=>x.cps.toList):=by
    rw[FT];have:=uH 32 ls;rw[<-this];exact xM (λt:Str=>t.cps.toList) (qD _ _)
   rw[e,Qo (h ls (zM ..)) 32 (.inl rfl)]
  ·refine ih (λl hl=>h l (zN _ hl)) ?_;have e:(Txt.join "\n" (lss.map (Txt.join " "))).cps.toList =wB 10 ((lss.map (Txt.join " ")).map λx=>x.cps.toList):=by
    rw[Nw];have:=uH 10 (lss.map (Txt.join " "));rw[<-this];exact xM (λt:Str=>t.cps.toList) (qD _ _)
   exact e
def ownN:List OP:=[("main",["f"]),("next",[]),("take",["least","most","n"]),("row",["place"]),("emit",["op","n"]),("jumps",["many"]),("node",["boxes","deep","kind","own","many","begin","end"])]
abbrev jE (i:Int):Tr:=.mk 0 [i] []
abbrev Au (i:Int):Tr:=.mk 1 [i] []
def ownF:List Fn:=[((0,1),Tr.mk 3 [5] [Tr.mk 19 [] [],Tr.mk 15 [] [jE 1,Tr.mk 6 [2] [jE 1,jE 16]],Tr.mk 5 [] [Tr.mk 13 [] [Tr.mk 18 [] [jE 1],Tr.mk 10 [] [jE 3,Tr.mk 16 [] [jE 1,jE 0]]],Tr.mk 3 [3] [Tr.mk 15 [] [jE 1,jE 0],Tr.mk 15 [] [jE 1,Tr.mk 6 [2] [jE 0,Tr.mk 10 [] [jE 4,Tr.mk 13 [] [jE 1,Tr.mk 18 [] [jE 2]]]]],Tr.mk 15 [] [jE 1,Tr.mk 6 [2] [Tr.mk 16 [] [jE 1,Tr.mk 9 [] [Tr.mk 18 [] [jE 1],jE 1]],jE 12]]]],Tr.mk 5 [] [Tr.mk 13 [] [Au 0,Tr.mk 16 [] [jE 1,jE 0]],Tr.mk 3 [4] [Tr.mk 17 [] [jE 1,Tr.mk 8 [] [jE 1,Tr.mk 10 [] [jE 3,Au 0]],Tr.mk 6 [3] [Tr.mk 18 [] [jE 1]]],Tr.mk 6 [6] [Tr.mk 16 [] [jE 1,Tr.mk 8 [] [jE 3,Tr.mk 10 [] [jE 3,Au 0]]],jE 1],Tr.mk 6 [4] [jE 7,jE 0],Tr.mk 2 [0] [Tr.mk 8 [] [Au 0,jE 1]]]],Tr.mk 4 [2] [Tr.mk 13 [] [Tr.mk 18 [] [jE 2],Tr.mk 18 [] [jE 0]],jE 0,Tr.mk 7 [] [Tr.mk 8 [] [Tr.mk 10 [] [jE 4,Tr.mk 18 [] [jE 2]],jE 3]]]]),
 ((0,0),Tr.mk 15 [] [jE 2,Tr.mk 4 [2] [Tr.mk 13 [] [Tr.mk 18 [] [jE 2],Tr.mk 18 [] [jE 0]],Tr.mk 7 [] [Tr.mk 10 [] [jE 4,Tr.mk 18 [] [jE 2]]],Tr.mk 16 [] [jE 0,Tr.mk 18 [] [jE 2]]]]),
 ((2,3),Tr.mk 3 [2] [Tr.mk 2 [2] [Tr.mk 6 [1] []],Tr.mk 4 [2] [Tr.mk 8 [] [Tr.mk 13 [] [Au 2,Au 0],Tr.mk 13 [] [Au 1,Au 2]],Au 2,Tr.mk 7 [] [Tr.mk 9 [] [Tr.mk 10 [] [jE 4,Tr.mk 18 [] [jE 2]],jE 3]]]]),
 ((1,1),Tr.mk 11 [] [Tr.mk 9 [] [Au 0,Tr.mk 10 [] [jE 3,Tr.mk 16 [] [jE 1,jE 0]]],jE 2]),
 ((2,2),Tr.mk 3 [2] [Tr.mk 15 [] [jE 1,Au 0],Tr.mk 15 [] [jE 1,Au 1]]),
 ((1,1),Tr.mk 5 [] [Au 0,Tr.mk 3 [3] [Tr.mk 15 [] [jE 1,jE 4],Tr.mk 15 [] [jE 1,jE 0],Tr.mk 2 [0] [Tr.mk 9 [] [Au 0,jE 1]]]]),
 ((2,7),Tr.mk 3 [4] [Tr.mk 4 [2] [Tr.mk 13 [] [Au 1,jE 11],Tr.mk 7 [] [Tr.mk 8 [] [Tr.mk 10 [] [jE 4,Tr.mk 18 [] [jE 2]],jE 2]],jE 0],Tr.mk 2 [2] [Tr.mk 6 [2] [jE 0,jE 19]],Tr.mk 2 [3] [Tr.mk 4 [9] [Au 2,Tr.mk 6 [1] [],Tr.mk 6 [2] [jE 0,Tr.mk 9 [] [Au 0,jE 1]],Tr.mk 6 [2] [jE 0,Tr.mk 9 [] [Au 0,jE 1]],Tr.mk 6 [2] [jE 1,jE 12],Tr.mk 6 [2] [jE 2,jE 12],jE 0,Tr.mk 6 [2] [jE 0,Tr.mk 9 [] [Tr.mk 16 [] [jE 1,jE 0],jE 1]],jE 0,Au 2]],Tr.mk 4 [4] [Tr.mk 9 [] [Au 2,jE 3],Tr.mk 3 [2] [Tr.mk 6 [6] [Au 0,Tr.mk 8 [] [Au 1,jE 1]],Tr.mk 5 [] [Tr.mk 2 [3] [Tr.mk 9 [] [Au 3,jE 1]],Tr.mk 3 [2] [Tr.mk 6 [4] [jE 3,jE 0],Tr.mk 6 [6] [Au 0,Tr.mk 8 [] [Au 1,jE 1]]]]],Tr.mk 3 [7] [Tr.mk 6 [6] [Au 0,Tr.mk 8 [] [Au 1,jE 1]],Tr.mk 6 [4] [jE 11,Au 3],Tr.mk 2 [5] [Tr.mk 8 [] [Tr.mk 18 [] [jE 1],jE 1]],Tr.mk 2 [6] [Tr.mk 8 [] [Au 3,Tr.mk 6 [3] [Tr.mk 18 [] [jE 1]]]],Tr.mk 6 [5] [Tr.mk 8 [] [Au 3,jE 1]],Tr.mk 5 [] [Tr.mk 13 [] [Au 4,Au 3],Tr.mk 3 [4] [Tr.mk 4 [2] [Au 4,jE 0,Tr.mk 6 [4] [jE 4,Au 6]],Tr.mk 17 [] [jE 1,Tr.mk 8 [] [Au 5,Tr.mk 10 [] [jE 2,Au 4]],Tr.mk 6 [3] [Tr.mk 18 [] [jE 1]]],Tr.mk 6 [6] [Au 0,Tr.mk 8 [] [Au 1,jE 1]],Tr.mk 2 [4] [Tr.mk 8 [] [Au 4,jE 1]]]],Tr.mk 17 [] [jE 1,Tr.mk 8 [] [Au 5,Tr.mk 10 [] [jE 2,Au 3]],Tr.mk 6 [3] [Tr.mk 18 [] [jE 1]]]],Tr.mk 3 [10] [Tr.mk 2 [5] [Tr.mk 6 [3] [Tr.mk 18 [] [jE 1]]],Tr.mk 6 [4] [jE 9,jE 0],Tr.mk 6 [6] [Au 0,Tr.mk 8 [] [Au 1,jE 1]],Tr.mk 2 [6] [Tr.mk 18 [] [jE 1]],Tr.mk 6 [4] [jE 5,jE 0],Tr.mk 6 [6] [Au 0,Tr.mk 8 [] [Au 1,jE 1]],Tr.mk 6 [4] [jE 3,jE 0],Tr.mk 6 [4] [jE 4,Au 5],Tr.mk 17 [] [jE 1,Tr.mk 8 [] [Au 6,jE 1],Tr.mk 6 [3] [Tr.mk 18 [] [jE 1]]],Tr.mk 6 [4] [jE 0,jE 0]],Tr.mk 3 [3] [Tr.mk 2 [4] [Tr.mk 4 [9] [Au 2,jE 0,jE 0,jE 1,jE 0,jE 0,jE 0,Tr.mk 16 [] [jE 1,Tr.mk 8 [] [jE 2,Tr.mk 10 [] [jE 3,Au 3]]],jE 1,Tr.mk 4 [4] [Tr.mk 9 [] [Au 2,jE 17],jE 3,jE 1,jE 0,jE 2]]],Tr.mk 5 [] [Au 4,Tr.mk 3 [2] [Tr.mk 6 [6] [Au 0,Tr.mk 8 [] [Au 1,jE 1]],Tr.mk 2 [4] [Tr.mk 9 [] [Au 4,jE 1]]]],Tr.mk 6 [4] [Tr.mk 4 [9] [Au 2,jE 0,jE 1,jE 2,jE 0,jE 0,jE 0,jE 6,jE 8,jE 10],Au 3]]]])]
def ownC:List Nat:=[102,117,110,32,109,97,105,110,32,119,105,116,104,32,102,32,105,115,32,97,108,108,32,53,10,32,32,110,101,119,10,32,32,112,117,115,104,32,49,32,99,97,108,108,32,116,97,107,101,32,49,32,49,54,10,32,32,108,111,111,112,32,108,101,115,115,32,115,105,122,101,32,49,32,109,117,108,32,51,32,97,116,32,49,32,48,10,32,32,32,32,97,108,108,32,51,10,32,32,32,32,32,32,112,117,115,104,32,49,32,48,10,32,32,32,32,32,32,112,117,115,104,32,49,32,99,97,108,108,32,116,97,107,101,32,48,32,109,117,108,32,52,32,108,101,115,115,32,49,32,115,105,122,101,32,50,10,32,32,32,32,32,32,112,117,115,104,32,49,32,99,97,108,108,32,116,97,107,101,32,97,116,32,49,32,115,117,98,32,115,105,122,101,32,49,32,49,32,49,50,10,32,32,108,111,111,112,32,108,101,115,115,32,102,32,97,116,32,49,32,48,10,32,32,32,32,97,108,108,32,52,10,32,32,32,32,32,32,112,117,116,32,49,32,97,100,100,32,49,32,109,117,108,32,51,32,102,32,99,97,108,108,32,114,111,119,32,115,105,122,101,32,49,10,32,32,32,32,32,32,99,97,108,108,32,110,111,100,101,32,97,116,32,49,32,97,100,100,32,51,32,109,117,108,32,51,32,102,32,49,10,32,32,32,32,32,32,99,97,108,108,32,101,109,105,116,32,55,32,48,10,32,32,32,32,32,32,115,101,116,32,102,32,97,100,100,32,102,32,49,10,32,32,112,105,99,107,32,50,32,108,101,115,115,32,115,105,122,101,32,50,32,115,105,122,101,32,48,10,32,32,32,32,48,10,32,32,32,32,102,97,105,108,32,97,100,100,32,109,117,108,32,52,32,115,105,122,101,32,50,32,51,10,10,102,117,110,32,110,101,120,116,32,119,105,116,104,32,105,115,10,32,32,112,117,115,104,32,50,32,112,105,99,107,32,50,32,108,101,115,115,32,115,105,122,101,32,50,32,115,105,122,101,32,48,10,32,32,32,32,102,97,105,108,32,109,117,108,32,52,32,115,105,122,101,32,50,10,32,32,32,32,97,116,32,48,32,115,105,122,101,32,50,10,10,102,117,110,32,116,97,107,101,32,108,101,97,115,116,32,109,111,115,116,32,119,105,116,104,32,110,32,105,115,32,97,108,108,32,50,10,32,32,115,101,116,32,110,32,99,97,108,108,32,110,101,120,116,10,32,32,112,105,99,107,32,50,32,97,100,100,32,108,101,115,115,32,110,32,108,101,97,115,116,32,108,101,115,115,32,109,111,115,116,32,110,10,32,32,32,32,110,10,32,32,32,32,102,97,105,108,32,115,117,98,32,109,117,108,32,52,32,115,105,122,101,32,50,32,51,10,10,102,117,110,32,114,111,119,32,112,108,97,99,101,32,119,105,116,104,32,105,115,10,32,32,113,117,111,32,115,117,98,32,112,108,97,99,101,32,109,117,108,32,51,32,97,116,32,49,32,48,32,50,10,10,102,117,110,32,101,109,105,116,32,111,112,32,110,32,119,105,116,104,32,105,115,32,97,108,108,32,50,10,32,32,112,117,115,104,32,49,32,111,112,10,32,32,112,117,115,104,32,49,32,110,10,10,102,117,110,32,106,117,109,112,115,32,109,97,110,121,32,119,105,116,104,32,105,115,10,32,32,108,111,111,112,32,109,97,110,121,32,97,108,108,32,51,10,32,32,32,32,112,117,115,104,32,49,32,52,10,32,32,32,32,112,117,115,104,32,49,32,48,10,32,32,32,32,115,101,116,32,109,97,110,121,32,115,117,98,32,109,97,110,121,32,49,10,10,102,117,110,32,110,111,100,101,32,98,111,120,101,115,32,100,101,101,112,32,119,105,116,104,32,107,105,110,100,32,111,119,110,32,109,97,110,121,32,98,101,103,105,110,32,101,110,100,32,105,115,32,97,108,108,32,52,10,32,32,112,105,99,107,32,50,32,108,101,115,115,32,100,101,101,112,32,49,49,10,32,32,32,32,102,97,105,108,32,97,100,100,32,109,117,108,32,52,32,115,105,122,101,32,50,32,50,10,32,32,32,32,48,10,32,32,115,101,116,32,107,105,110,100,32,99,97,108,108,32,116,97,107,101,32,48,32,49,57,10,32,32,115,101,116,32,111,119,110,32,112,105,99,107,32,57,32,107,105,110,100,10,32,32,32,32,99,97,108,108,32,110,101,120,116,10,32,32,32,32,99,97,108,108,32,116,97,107,101,32,48,32,115,117,98,32,98,111,120,101,115,32,49,10,32,32,32,32,99,97,108,108,32,116,97,107,101,32,48,32,115,117,98,32,98,111,120,101,115,32,49,10,32,32,32,32,99,97,108,108,32,116,97,107,101,32,49,32,49,50,10,32,32,32,32,99,97,108,108,32,116,97,107,101,32,50,32,49,50,10,32,32,32,32,48,10,32,32,32,32,99,97,108,108,32,116,97,107,101,32,48,32,115,117,98,32,97,116,32,49,32,48,32,49,10,32,32,32,32,48,10,32,32,32,32,107,105,110,100,10,32,32,112,105,99,107,32,52,32,115,117,98,32,107,105,110,100,32,51,10,32,32,32,32,97,108,108,32,50,10,32,32,32,32,32,32,99,97,108,108,32,110,111,100,101,32,98,111,120,101,115,32,97,100,100,32,100,101,101,112,32,49,10,32,32,32,32,32,32,108,111,111,112,32,115,101,116,32,111,119,110,32,115,117,98,32,111,119,110,32,49,32,97,108,108,32,50,10,32,32,32,32,32,32,32,32,99,97,108,108,32,101,109,105,116,32,51,32,48,10,32,32,32,32,32,32,32,32,99,97,108,108,32,110,111,100,101,32,98,111,120,101,115,32,97,100,100,32,100,101,101,112,32,49,10,32,32,32,32,97,108,108,32,55,10,32,32,32,32,32,32,99,97,108,108,32,110,111,100,101,32,98,111,120,101,115,32,97,100,100,32,100,101,101,112,32,49,10,32,32,32,32,32,32,99,97,108,108,32,101,109,105,116,32,49,49,32,111,119,110,10,32,32,32,32,32,32,115,101,116,32,98,101,103,105,110,32,97,100,100,32,115,105,122,101,32,49,32,49,10,32,32,32,32,32,32,115,101,116,32,101,110,100,32,97,100,100,32,111,119,110,32,99,97,108,108,32,114,111,119,32,115,105,122,101,32,49,10,32,32,32,32,32,32,99,97,108,108,32,106,117,109,112,115,32,97,100,100,32,111,119,110,32,49,10,32,32,32,32,32,32,108,111,111,112,32,108,101,115,115,32,109,97,110,121,32,111,119,110,32,97,108,108,32,52,10,32,32,32,32,32,32,32,32,112,105,99,107,32,50,32,109,97,110,121,32,48,32,99,97,108,108,32,101,109,105,116,32,52,32,101,110,100,10,32,32,32,32,32,32,32,32,112,117,116,32,49,32,97,100,100,32,98,101,103,105,110,32,109,117,108,32,50,32,109,97,110,121,32,99,97,108,108,32,114,111,119,32,115,105,122,101,32,49,10,32,32,32,32,32,32,32,32,99,97,108,108,32,110,111,100,101,32,98,111,120,101,115,32,97,100,100,32,100,101,101,112,32,49,10,32,32,32,32,32,32,32,32,115,101,116,32,109,97,110,121,32,97,100,100,32,109,97,110,121,32,49,10,32,32,32,32,32,32,112,117,116,32,49,32,97,100,100,32,98,101,103,105,110,32,109,117,108,32,50,32,111,119,110,32,99,97,108,108,32,114,111,119,32,115,105,122,101,32,49,10,32,32,32,32,97,108,108,32,49,48,10,32,32,32,32,32,32,115,101,116,32,98,101,103,105,110,32,99,97,108,108,32,114,111,119,32,115,105,122,101,32,49,10,32,32,32,32,32,32,99,97,108,108,32,101,109,105,116,32,57,32,48,10,32,32,32,32,32,32,99,97,108,108,32,110,111,100,101,32,98,111,120,101,115,32,97,100,100,32,100,101,101,112,32,49,10,32,32,32,32,32,32,115,101,116,32,101,110,100,32,115,105,122,101,32,49,10,32,32,32,32,32,32,99,97,108,108,32,101,109,105,116,32,53,32,48,10,32,32,32,32,32,32,99,97,108,108,32,110,111,100,101,32,98,111,120,101,115,32,97,100,100,32,100,101,101,112,32,49,10,32,32,32,32,32,32,99,97,108,108,32,101,109,105,116,32,51,32,48,10,32,32,32,32,32,32,99,97,108,108,32,101,109,105,116,32,52,32,98,101,103,105,110,10,32,32,32,32,32,32,112,117,116,32,49,32,97,100,100,32,101,110,100,32,49,32,99,97,108,108,32,114,111,119,32,115,105,122,101,32,49,10,32,32,32,32,32,32,99,97,108,108,32,101,109,105,116,32,48,32,48,10,32,32,32,32,97,108,108,32,51,10,32,32,32,32,32,32,115,101,116,32,109,97,110,121,32,112,105,99,107,32,57,32,107,105,110,100,10,32,32,32,32,32,32,32,32,48,32,48,32,49,32,48,32,48,32,48,32,97,116,32,49,32,97,100,100,32,50,32,109,117,108,32,51,32,111,119,110,32,49,10,32,32,32,32,32,32,32,32,112,105,99,107,32,52,32,115,117,98,32,107,105,110,100,32,49,55,32,51,32,49,32,48,32,50,10,32,32,32,32,32,32,108,111,111,112,32,109,97,110,121,32,97,108,108,32,50,10,32,32,32,32,32,32,32,32,99,97,108,108,32,110,111,100,101,32,98,111,120,101,115,32,97,100,100,32,100,101,101,112,32,49,10,32,32,32,32,32,32,32,32,115,101,116,32,109,97,110,121,32,115,117,98,32,109,97,110,121,32,49,10,32,32,32,32,32,32,99,97,108,108,32,101,109,105,116,32,112,105,99,107,32,57,32,107,105,110,100,32,48,32,49,32,50,32,48,32,48,32,48,32,54,32,56,32,49,48,32,111,119,110,10]
def ownTx:Str:=⟨ownC.toArray⟩
abbrev ownT0:Str:=ownTx
def UY (hs:AH)(b k:Int)(own:List Int):Bool:=match own with
 |[]=>decide (k=5\/7<=k)
 |[n]=>decide (k=0) || (decide (k=1\/k=2)&&decide (0<=n/\n<=b-1)) || (decide (k=3)&&decide (1<=n/\n<=12)) || (decide (k=4)&&decide (2<=n/\n<=12)) || (decide (k=6)&&decide (0<=n/\n<=(hs.length:Int)-1))
 |_=>false
theorem SV {hs:AH}{b k:Int}{own:List Int}(h:UY hs b k own=true):EI hs b k own:=by
 unfold UY at h;split at h
 ·exact .inr (.inr (.inr (.inr (.inr ⟨zO h,rfl⟩))))
 ·rename_i n;rw[wX,wX,wX,wX,yP,yP,yP,yP]at h
  rcases h with(((h|h)|h)|h)|h
  ·exact .inl ⟨zO h,n,rfl⟩
  ·exact .inr (.inl ⟨zO h.1,n,rfl,zO h.2⟩)
  ·exact .inr (.inr (.inl ⟨zO h.1,n,rfl,zO h.2⟩))
  ·exact .inr (.inr (.inr (.inl ⟨zO h.1,n,rfl,zO h.2⟩)))
  ·exact .inr (.inr (.inr (.inr (.inl ⟨zO h.1,n,rfl,zO h.2⟩))))
 ·cases h
mutual
def RM (hs:AH)(b:Int):Nat->Tr->Bool
 |0,_=>false
 |n+1,.mk k own ps=>decide (0<=k/\k<=19)&&UY hs b k own&&decide (ps.length=(Fh hs k own).toNat)&&own.all (λv=>decide (v.natAbs<1000))&&OC hs b n ps
def OC (hs:AH)(b:Int):Nat->List Tr->Bool
 |_,[]=>true
 |n,a::r=>RM hs b n a&&OC hs b n r
end
theorem Vy {v:Int}(h:v.natAbs<1000):Vb v:=yG h (Nat.pow_le_pow_right (n:=2) (by decide) (show 10<=2000 by decide)|> yJ (by decide))
theorem Vz {v:Int}(h:v.natAbs<1000):v.natAbs<10^60:=yG h (by decide)
mutual
theorem KC {hs:AH}{b:Int}: ∀(n:Nat) (t:Tr),RM hs b n t=true->CY hs b n t/\Ql t
 |0,_,h=>by unfold RM at h;cases h
 |n+1,.mk k own ps,h=>by
  unfold RM at h;rw[yP,yP,yP,yP,wD]at h;obtain⟨⟨⟨⟨h1,h2⟩,h3⟩,h4⟩,h5⟩:=h;have z:=zO h1;have q:=Mj n ps h5;have v: ∀v∈own,v.natAbs<1000:=λv hv=>zO (h4 v hv);unfold CY Ql;exact⟨⟨z.1,z.2,SV h2,zO h3,λx hx=>Vy (v x hx),q.1⟩,λx hx=>Vz (v x hx),q.2⟩
theorem Mj {hs:AH}{b:Int}: ∀(n:Nat) (ts:List Tr),OC hs b n ts=true->Dq hs b n ts/\II ts
 |n,[],_=>by unfold Dq II;exact⟨trivial,trivial⟩
 |n,a::r,h=>by
  unfold OC at h;rw[yP]at h;have q:=KC n a h.1;have q2:=Mj n r h.2;unfold Dq II;exact⟨⟨q.1,q2.1⟩,q.2,q2.2⟩
end
theorem LN: ∀f∈ownF,RM (ownF.map Prod.fst) f.1.2 10 f.2=true:=by decide+kernel
theorem Pm:(ownC.map Char.ofNat).map Char.toNat=ownC:=by decide+kernel
theorem own_lit:Str.ofString "fun main with f is all 5\n  new\n  push 1 call take 1 16\n  loop less size 1 mul 3 at 1 0\n    all 3\n      push 1 0\n      push 1 call take 0 mul 4 less 1 size 2\n      push 1 call take at 1 sub size 1 1 12\n  loop less f at 1 0\n    all 4\n      put 1 add 1 mul 3 f call row size 1\n      call node at 1 add 3 mul 3 f 1\n      call emit 7 0\n      set f add f 1\n  pick 2 less size 2 size 0\n    0\n    fail add mul 4 size 2 3\n\nfun next with is\n  push 2 pick 2 less size 2 size 0\n    fail mul 4 size 2\n    at 0 size 2\n\nfun take least most with n is all 2\n  set n call next\n  pick 2 add less n least less most n\n    n\n    fail sub mul 4 size 2 3\n\nfun row place with is\n  quo sub place mul 3 at 1 0 2\n\nfun emit op n with is all 2\n  push 1 op\n  push 1 n\n\nfun jumps many with is\n  loop many all 3\n    push 1 4\n    push 1 0\n    set many sub many 1\n\nfun node boxes deep with kind own many begin end is all 4\n  pick 2 less deep 11\n    fail add mul 4 size 2 2\n    0\n  set kind call take 0 19\n  set own pick 9 kind\n    call next\n    call take 0 sub boxes 1\n    call take 0 sub boxes 1\n    call take 1 12\n    call take 2 12\n    0\n    call take 0 sub at 1 0 1\n    0\n    kind\n  pick 4 sub kind 3\n    all 2\n      call node boxes add deep 1\n      loop set own sub own 1 all 2\n        call emit 3 0\n        call node boxes add deep 1\n    all 7\n      call node boxes add deep 1\n      call emit 11 own\n      set begin add size 1 1\n      set end add own call row size 1\n      call jumps add own 1\n      loop less many own all 4\n        pick 2 many 0 call emit 4 end\n        put 1 add begin mul 2 many call row size 1\n        call node boxes add deep 1\n        set many add many 1\n      put 1 add begin mul 2 own call row size 1\n    all 10\n      set begin call row size 1\n      call emit 9 0\n      call node boxes add deep 1\n      set end size 1\n      call emit 5 0\n      call node boxes add deep 1\n      call emit 3 0\n      call emit 4 begin\n      put 1 add end 1 call row size 1\n      call emit 0 0\n    all 3\n      set many pick 9 kind\n        0 0 1 0 0 0 at 1 add 2 mul 3 own 1\n        pick 4 sub kind 17 3 1 0 2\n      loop many all 2\n        call node boxes add deep 1\n        set many sub many 1\n      call emit pick 9 kind 0 1 2 0 0 0 6 8 10 own\n"=ownTx:=by
 have h: ∀{s:String},s=String.ofList (ownC.map Char.ofNat)->Str.ofString s=ownTx:=fun{s} h=>by
  rw[Str.ofString_eq_toList,h,String.toList_ofList,Pm];rfl
 exact h (by rfl)
theorem Oq:ownTx.cps.toList=ownC:=rfl
theorem SO:wl [] ownC=(jF (EU ownN ownF)).map (λx=>x.cps.toList):=by decide+kernel
theorem UV:wl [] ownTx.cps.toList=(jF (EU ownN ownF)).map (λx=>x.cps.toList):=by rw[Oq,SO]
theorem BC:wordsT ownTx=jF (EU ownN ownF):=by
 have h:=(Lh ownTx).trans UV;refine List.map_inj_right (f:=λx:Str=>x.cps.toList) (λa b e=>?_) |>.mp h
 cases a;cases b;exact xM Str.mk (Array.toList_inj.mp e)
theorem Ex:VA ownN ownF where
 len:=by decide+kernel
 nm:=by
  have h: ∀n∈ownN,jU n.1=true/\n.2.Nodup/\(∀b∈n.2,jU b=true)/\n.2.length<=12:=by decide+kernel
  exact λn hn=>⟨(h n hn).1,(h n hn).2.1,(h n hn).2.2.1,(h n hn).2.2.2⟩
 nd:=by decide+kernel
 bx:=λi n f e1 e2=>by
  have h: ∀z∈ownN.zip ownF,z.2.1.2=(z.1.2.length:Int):=by decide+kernel
  refine h (n,f) (zU (i:=i) ?_);rw[vU];exact⟨e1,e2⟩
 good:=by
  refine⟨by decide+kernel,by decide+kernel,λi h e=>?_⟩;have a: ∀z∈(ownF.map Prod.fst).zipIdx,0<=z.1.1/\z.1.1<=4/\z.1.1<=z.1.2/\z.1.2<=12/\(z.2=0->z.1.1=0):=by decide+kernel
  exact a (h,i) (List.mk_mem_zipIdx_iff_getElem?.mpr e)
 fit:=λf hf=>(KC _ _ (LN f hf)).1
 sm:=λf hf=>(KC _ _ (LN f hf)).2
theorem LL:(wr ownF).length<=900:=by decide+kernel
theorem Pk: ∀f∈ownF,(BD f.2).length<=3000:=by decide+kernel
theorem SU: ∀x∈EU ownN ownF,x.2.1.length<=700:=by decide+kernel
theorem LM:ownTx.length<=1000000:=by
 have h:ownTx.length=ownC.length:=by
  show ownTx.cps.size=_;rw[<-Oq,yI]
 rw[h];decide+kernel
theorem SQ:(jF (EU ownN ownF)).length<=1000000:=by decide+kernel
end L2
namespace L2
open PySem PySem.W
theorem Ip (lk:PySem.W.Look): ∀l1 l2:List Stmt,noRoadLSs lk l1=true->noRoadLSs lk l2=true->noRoadLSs lk (l1++l2)=true
 |[],_,_,h=>h
 |s::r,l2,h,h2=>by
  rw[noRoadLSs,yP]at h;rw[jL,noRoadLSs,yP];exact⟨h.1,Ip lk r l2 h.2 h2⟩
theorem QV:roadStr ownT0=false:=by
 unfold roadStr;rw[<-DC,<-DC,<-DC,show ownT0.cps.toList=ownC from rfl];decide+kernel
theorem QU {b:Bool}{l:List Str}:PySem.W.Look.word {strict:=b,foot:=none,bare:=l} ownT0=true:=by
 have h: ∀b,PySem.W.Look.word {strict:=b,foot:=none,bare:=[]} ownT0=true:=by decide+kernel
 exact h b
theorem SR {b:Bool}{l:List Str}:PySem.W.Look.str {strict:=b,foot:=none,bare:=l} ownT0=true:=by
 unfold PySem.W.Look.str;rw[QV,QU,Bool.or_true];rfl
theorem UX {b:Bool}{l:List Str}{q q1 q2:Pos}(h0:noRoadLs {strict:=b,foot:=none,bare:=l} [.Name "OWN_TEXT" q]=true):noRoadLS {strict:=b,foot:=none,bare:=l} (.Assign [.Name "OWN_TEXT" q] (.Constant (.str ownT0) 0 q1) q2)=true:=by
 rw[noRoadLS,yP,yP];exact⟨⟨rfl,h0⟩,SR⟩
theorem road_own {b:Bool}{l:List Str}{k:Nat}{B:List Stmt}{q q1 q2:Pos}(h0:noRoadLs {strict:=b,foot:=none,bare:=l} [.Name "OWN_TEXT" q]=true)(h1:noRoadLSs {strict:=b,foot:=none,bare:=l} (B.take k)=true)(h2:noRoadLSs {strict:=b,foot:=none,bare:=l} (B.drop (k+1))=true)(e:B[k]? =some (.Assign [.Name "OWN_TEXT" q] (.Constant (.str ownT0) 0 q1) q2)):noRoadLSs {strict:=b,foot:=none,bare:=l} B=true:=by
 rw[<-List.take_append_drop k B];refine Ip _ _ _ h1 ?_;have hk:=(List.getElem?_eq_some_iff.mp e).1;rw[xY hk,(List.getElem?_eq_some_iff.mp e).2,noRoadLSs,yP];exact⟨UX h0,h2⟩
structure WI (K:Frag):Prop where
 is:nsIn K mainGlobals "OWN_TEXT"=some (some (.str ownTx 740))
end L2
namespace L2
open PySem PySem.Spec PyProof.Rows
abbrev uP (P:Program)(w:World)(K:PySem.W.Frag)(mg:Str->Option Value)(base:Heap):=TM P w K mg base (Fd P w)
abbrev AX (P:Program)(w:World)(K:PySem.W.Frag)(mg:Str->Option Value)(base:Heap):=Ap P w K mg base (Fd P w)
section
variable {P:Program}{w:World}{K:PySem.W.Frag}{mg:Str->Option Value}{base:Heap}
theorem wQ.oN {CX:Gy}{x qual:Str}{st:Stmt}{f:Addr}{fd:FuncData}{N ps:List Str}{k:Nat}{sp:Sp}(F:wQ K x qual st f fd)(S:yW N ps (zY st))
  (hbody: ∀(cdv:Value) (A:Around) (outer:List Env) (s:Shared) (H:Hp) (vs:List V) (Q:VK) (E:XK),wK k (A.deeper (envOfC qual (zY st) s.heap.objs.size f cdv))->sp vs H Q E->
   ∃t,JK (GO CX P w K mg base N qual (zY st) f cdv A outer s H E).nox (qZ st) t/\t {nx:=λ_ H'=>Q .non H',rt:=Q} (BS N vs) H) (len: ∀vs H Q E,sp vs H Q E->vs.length=ps.length:=by intro _ _ _ _ h;cases h;subst_vars;rfl):Ap P w K mg base CX (k+1) f fd ps sp:=F.okN S len hbody
theorem wQ.oX {x qual:Str}{st:Stmt}{f:Addr}{fd:FuncData}{N ps:List Str}{k:Nat}{sp:Sp}(F:wQ K x qual st f fd)(S:yW N ps (zY st))
  (hbody: ∀(cdv:Value) (A:Around) (outer:List Env) (s:Shared) (H:Hp) (vs:List V) (Q:VK) (E:XK),wK k (A.deeper (envOfC qual (zY st) s.heap.objs.size f cdv))->sp vs H Q E->
   ∃t,JK ((GO (Fd P w) P w K mg base N qual (zY st) f cdv A outer s H E).exc E) (qZ st) t/\t {nx:=λ_ H'=>Q .non H',rt:=Q} (BS N vs) H) (len: ∀vs H Q E,sp vs H Q E->vs.length=ps.length:=by intro _ _ _ _ h;cases h;subst_vars;rfl):Ap P w K mg base (Fd P w) (k+1) f fd ps sp:=F.okX S len hbody
end
end L2
namespace L2
open PySem PySem.W PySem.W.X
theorem walkX_of {q:Program}{loose:List Str}{XP:(Str->Option Value)->Heap->Prop}{as:List Addr}{K:Params->Frag}{n t:Nat}{r:RowW}{d:DefRec}{kwd:List (Str×Expr)}{run:Value->List Value->Sem Value}(e: ∀P,as=(K P).map (·.1))
  (h:WalkO q loose XP (λw h=>(K w.params).In h) r d kwd run):WalkX q loose XP (obsZ as) (valZ K n t) r d kwd run:=by
 intro w s₀ s₁ mg mb G y a o pm cd doc dV kV h1 h2 h3 h4 h5 h6 args vals as' L h7 h8 h9 h10 h11;have Y:(K w.params).In s₁.heap:=InK.keeps (K:=K) w s₀.heap s₁.heap (z_facts e y).2.1 L.keeps;exact h w s₀ s₁ mg mb G Y a o pm cd doc dV kV h1 h2 h3 h4 h5 h6 args vals as' h7 h8 h9 h10 h11
end L2
namespace OcL
open PySem L2
def top (i:Nat):Stmt:=PySem.Challenge.pw_ownchain_k44_own_text.main.body.getD i (.Pass ⟨0,0,0,0⟩)
abbrev uT:Stmt:=Fa (top 2) 0
theorem Ff:yW ["self","place","word"] ["self","place","word"] (zY uT):=⟨rfl,rfl,rfl,by decide+kernel,rfl,by decide+kernel,by decide+kernel⟩
abbrev Ae:Stmt:=Fa (top 3) 0
theorem Fz:yW ["self","at"] ["self","at"] (zY Ae):=⟨rfl,rfl,rfl,by decide+kernel,rfl,by decide+kernel,by decide+kernel⟩
abbrev DK:Stmt:=top 16
theorem Hc:yW ["kind"] ["kind"] (zY DK):=⟨rfl,rfl,rfl,by decide+kernel,rfl,by decide+kernel,by decide+kernel⟩
abbrev GG:Stmt:=top 17
theorem Na:yW ["kind"] ["kind"] (zY GG):=⟨rfl,rfl,rfl,by decide+kernel,rfl,by decide+kernel,by decide+kernel⟩
abbrev GH:Stmt:=top 18
theorem Nb:yW ["word"] ["word"] (zY GH):=⟨rfl,rfl,rfl,by decide+kernel,rfl,by decide+kernel,by decide+kernel⟩
abbrev FE:Stmt:=top 27
theorem Lx:yW ["thing"] ["thing"] (zY FE):=⟨rfl,rfl,rfl,by decide+kernel,rfl,by decide+kernel,by decide+kernel⟩
abbrev AV:Stmt:=Fa (top 28) 0
theorem GF:yW ["self","numbers"] ["self","numbers"] (zY AV):=⟨rfl,rfl,rfl,by decide+kernel,rfl,by decide+kernel,by decide+kernel⟩
abbrev Ev:Stmt:=Fa (top 28) 1
theorem Gf:yW ["self","number"] ["self"] (zY Ev):=⟨rfl,rfl,rfl,by decide+kernel,rfl,by decide+kernel,by decide+kernel⟩
abbrev uU:Stmt:=Fa (top 28) 2
theorem vW:yW ["self","least","most","place","number"] ["self","least","most"] (zY uU):=⟨rfl,rfl,rfl,by decide+kernel,rfl,by decide+kernel,by decide+kernel⟩
abbrev DI:Stmt:=top 29
theorem wY:yW ["look","heads","most_params","function","params"] ["look"] (zY DI):=⟨rfl,rfl,rfl,by decide+kernel,rfl,by decide+kernel,by decide+kernel⟩
abbrev Ad:Stmt:=top 30
theorem Fx:yW ["look","kind","heads","boxes"] ["look","kind","heads","boxes"] (zY Ad):=⟨rfl,rfl,rfl,by decide+kernel,rfl,by decide+kernel,by decide+kernel⟩
abbrev BX:Stmt:=top 32
theorem Gd:yW ["kind","numbers","heads"] ["kind","numbers","heads"] (zY BX):=⟨rfl,rfl,rfl,by decide+kernel,rfl,by decide+kernel,by decide+kernel⟩
abbrev BV:Stmt:=top 33
theorem vO:yW ["look","heads","boxes","deep","place","kind","numbers","parts","part"] ["look","heads","boxes","deep"] (zY BV):=⟨rfl,rfl,rfl,by decide+kernel,rfl,by decide+kernel,by decide+kernel⟩
abbrev Et:Stmt:=top 34
theorem vP:yW ["sheet","look","heads","told","params","boxes"] ["sheet"] (zY Et):=⟨rfl,rfl,rfl,by decide+kernel,rfl,by decide+kernel,by decide+kernel⟩
abbrev Kg:Stmt:=top 35
theorem Ls:yW ["numbers","e"] ["numbers"] (zY Kg):=⟨rfl,rfl,rfl,by decide+kernel,rfl,by decide+kernel,by decide+kernel⟩
abbrev FD:Stmt:=top 36
theorem AJ:yW ["body","told","waiting","node","part"] ["body"] (zY FD):=⟨rfl,rfl,rfl,by decide+kernel,rfl,by decide+kernel,by decide+kernel⟩
abbrev DH:Stmt:=top 43
theorem Lu:yW ["text"] ["text"] (zY DH):=⟨rfl,rfl,rfl,by decide+kernel,rfl,by decide+kernel,by decide+kernel⟩
abbrev AU:Stmt:=top 44
theorem Dh:yW ["word","signs","sign"] ["word","signs"] (zY AU):=⟨rfl,rfl,rfl,by decide+kernel,rfl,by decide+kernel,by decide+kernel⟩
abbrev GI:Stmt:=top 45
theorem Nc:yW ["word"] ["word"] (zY GI):=⟨rfl,rfl,rfl,by decide+kernel,rfl,by decide+kernel,by decide+kernel⟩
abbrev By:Stmt:=top 46
theorem DZ:yW ["word","most_figures","figures"] ["word","most_figures"] (zY By):=⟨rfl,rfl,rfl,by decide+kernel,rfl,by decide+kernel,by decide+kernel⟩
abbrev Es:Stmt:=top 47
theorem Kf:yW ["word"] ["word"] (zY Es):=⟨rfl,rfl,rfl,by decide+kernel,rfl,by decide+kernel,by decide+kernel⟩
abbrev uS:Stmt:=Fa (top 48) 0
theorem Fe:yW ["self","words"] ["self","words"] (zY uS):=⟨rfl,rfl,rfl,by decide+kernel,rfl,by decide+kernel,by decide+kernel⟩
abbrev Bx:Stmt:=top 49
theorem wR:yW ["words","numbered","function","at"] ["words"] (zY Bx):=⟨rfl,rfl,rfl,by decide+kernel,rfl,by decide+kernel,by decide+kernel⟩
abbrev Bz:Stmt:=top 50
theorem wS:yW ["words","counted","ended","at"] ["words"] (zY Bz):=⟨rfl,rfl,rfl,by decide+kernel,rfl,by decide+kernel,by decide+kernel⟩
abbrev QD:Stmt:=top 51
theorem UE:yW ["reading"] ["reading"] (zY QD):=⟨rfl,rfl,rfl,by decide+kernel,rfl,by decide+kernel,by decide+kernel⟩
abbrev AT:Stmt:=top 52
theorem Df:yW ["reading","there","name"] ["reading","there"] (zY AT):=⟨rfl,rfl,rfl,by decide+kernel,rfl,by decide+kernel,by decide+kernel⟩
abbrev DJ:Stmt:=top 53
theorem IM:yW ["reading","boxes","most","last"] ["reading","boxes","most","last"] (zY DJ):=⟨rfl,rfl,rfl,by decide+kernel,rfl,by decide+kernel,by decide+kernel⟩
abbrev FA:Stmt:=top 54
theorem GZ:yW ["reading","boxes","name"] ["reading","boxes"] (zY FA):=⟨rfl,rfl,rfl,by decide+kernel,rfl,by decide+kernel,by decide+kernel⟩
abbrev CO:Stmt:=top 55
theorem Ej:yW ["reading","word"] ["reading"] (zY CO):=⟨rfl,rfl,rfl,by decide+kernel,rfl,by decide+kernel,by decide+kernel⟩
abbrev El:Stmt:=top 56
theorem DE:yW ["reading","least","at","many"] ["reading","least"] (zY El):=⟨rfl,rfl,rfl,by decide+kernel,rfl,by decide+kernel,by decide+kernel⟩
abbrev CP:Stmt:=top 57
theorem Ek:yW ["reading","name"] ["reading"] (zY CP):=⟨rfl,rfl,rfl,by decide+kernel,rfl,by decide+kernel,by decide+kernel⟩
abbrev Az:Stmt:=top 58
theorem Gb:yW ["reading","kind","boxes"] ["reading","kind","boxes"] (zY Az):=⟨rfl,rfl,rfl,by decide+kernel,rfl,by decide+kernel,by decide+kernel⟩
abbrev Em:Stmt:=top 60
theorem DF:yW ["reading","boxes","word","kind"] ["reading","boxes"] (zY Em):=⟨rfl,rfl,rfl,by decide+kernel,rfl,by decide+kernel,by decide+kernel⟩
abbrev BW:Stmt:=top 61
theorem Bo:yW ["reading","boxes","deep","kind","numbers","part"] ["reading","boxes","deep"] (zY BW):=⟨rfl,rfl,rfl,by decide+kernel,rfl,by decide+kernel,by decide+kernel⟩
abbrev uN:Stmt:=top 62
theorem Ay:yW ["reading","name","boxes"] ["reading"] (zY uN):=⟨rfl,rfl,rfl,by decide+kernel,rfl,by decide+kernel,by decide+kernel⟩
abbrev Ep:Stmt:=top 63
theorem Gc:yW ["text","reading"] ["text"] (zY Ep):=⟨rfl,rfl,rfl,by decide+kernel,rfl,by decide+kernel,by decide+kernel⟩
abbrev FB:Stmt:=top 64
theorem Lv:yW ["kind","number","boxes","names"] ["kind","number","boxes","names"] (zY FB):=⟨rfl,rfl,rfl,by decide+kernel,rfl,by decide+kernel,by decide+kernel⟩
abbrev Eo:Stmt:=top 65
theorem wH:yW ["body","boxes","names","words","kind","place","numbers","parts","number"] ["body","boxes","names"] (zY Eo):=⟨rfl,rfl,rfl,by decide+kernel,rfl,by decide+kernel,by decide+kernel⟩
abbrev En:Stmt:=top 66
theorem kD:yW ["names","sheet","lines","named","told","name","boxes","params","many","body","words"] ["names","sheet"] (zY En):=⟨rfl,rfl,rfl,by decide+kernel,rfl,by decide+kernel,by decide+kernel⟩
abbrev FC:Stmt:=top 70
theorem Lw:yW [] [] (zY FC):=⟨rfl,rfl,rfl,by decide+kernel,rfl,by decide+kernel,by decide+kernel⟩
abbrev Er:Stmt:=top 71
theorem Ke:yW [] [] (zY Er):=⟨rfl,rfl,rfl,by decide+kernel,rfl,by decide+kernel,by decide+kernel⟩
abbrev CQ:Stmt:=top 72
theorem Ia:yW ["numbers"] ["numbers"] (zY CQ):=⟨rfl,rfl,rfl,by decide+kernel,rfl,by decide+kernel,by decide+kernel⟩
abbrev DL:Stmt:=top 74
theorem CK:yW ["_law_cell","_law_k","_law_one","_law_two"] ["_law_cell","_law_k"] (zY DL):=⟨rfl,rfl,rfl,by decide+kernel,rfl,by decide+kernel,by decide+kernel⟩
abbrev Eu:Stmt:=top 75
theorem wI:yW ["_law_state","_law_many","_law_script","_law_k","_law_cell","_law_found"] ["_law_state","_law_many"] (zY Eu):=⟨rfl,rfl,rfl,by decide+kernel,rfl,by decide+kernel,by decide+kernel⟩
abbrev qL:Stmt:=top 76
theorem qB:yW ["_law_state","_law_numbers","_law_handed","_law_found"] ["_law_state"] (zY qL):=⟨rfl,rfl,rfl,by decide+kernel,rfl,by decide+kernel,by decide+kernel⟩
abbrev AA:Stmt:=top 77
theorem Ge:yW ["_law_state"] ["_law_state"] (zY AA):=⟨rfl,rfl,rfl,by decide+kernel,rfl,by decide+kernel,by decide+kernel⟩
abbrev QC:Stmt:=top 78
theorem Fy:yW ["_law_script","_law_state","_law_text","_law_sheet","_law_names","_law_read","_law_kept"] ["_law_script"] (zY QC):=⟨rfl,rfl,rfl,by decide+kernel,rfl,by decide+kernel,by decide+kernel⟩
structure VB (K:PySem.W.Frag)(mg:Str->Option Value):Prop where
 n_len:mg "len"=none
 m_FIGURES:Si mg "FIGURES" "0123456789"
 m_MOST_FIGURES:wE mg "MOST_FIGURES" 60
structure Txt (K:PySem.W.Frag)(mg:Str->Option Value)(aP aW aH CT CR:Addr):Prop where
 n_len:mg "len"=none
 n_range:mg "range"=none
 n_int:mg "int"=none
 n_tuple:mg "tuple"=none
 n_str:mg "str"=none
 n_isinstance:mg "isinstance"=none
 m_NUMBER:wE mg "NUMBER" 0
 m_GET:wE mg "GET" 1
 m_SET:wE mg "SET" 2
 m_ALL:wE mg "ALL" 3
 m_PICK:wE mg "PICK" 4
 m_LOOP:wE mg "LOOP" 5
 m_CALL:wE mg "CALL" 6
 m_FAIL:wE mg "FAIL" 7
 m_MOST_FUNCTIONS:wE mg "MOST_FUNCTIONS" 16
 m_MOST_PARAMS:wE mg "MOST_PARAMS" 4
 m_MOST_BOXES:wE mg "MOST_BOXES" 12
 m_MOST_DEEP:wE mg "MOST_DEEP" 10
 m_MOST_MANY:wE mg "MOST_MANY" 12
 m_LEAST_ALL:wE mg "LEAST_ALL" 1
 m_LEAST_PICK:wE mg "LEAST_PICK" 2
 m_MOST_LETTERS:wE mg "MOST_LETTERS" 8
 m_MOST_FIGURES:wE mg "MOST_FIGURES" 60
 m_LETTERS:Si mg "LETTERS" lettersS
 m_FIGURES:Si mg "FIGURES" "0123456789"
 m_WORDS:mg "WORDS"=some (.ref aW)
 m_HEAD_WORDS:mg "HEAD_WORDS"=some (.ref aH)
 m_PARTS:mg "PARTS"=some (.ref aP)
 words: ∀H,DX K H aW (kwW.map V.str)
 wordsT: ∃o,K.lookup aW=some o/\o.cls=.type "tuple"/\o.dict=none
 hwords: ∀H,DX K H aH (kwH.map V.str)
 parts: ∀H,DX K H aP (partsW.map V.int)
 kstr:PySem.W.kitOne K (.type "str") (.type "str")=some true
 exc:Fs K CT
 xat:qV K CT "at"
 cls:OR K CR
 f_words:qV K CR "words"
 f_at:qV K CR "at"
 f_names:qV K CR "names"
 f_heads:qV K CR "heads"
 f_bodies:qV K CR "bodies"
 f_numbered:qV K CR "numbered"
 f_counted:qV K CR "counted"
structure Fi (K:PySem.W.Frag)(mg:Str->Option Value)(aP CL CN:Addr):Prop where
 n_len:mg "len"=none
 n_abs:mg "abs"=none
 n_range:mg "range"=none
 n_isinstance:mg "isinstance"=none
 n_int:mg "int"=none
 n_bool:mg "bool"=none
 n_list:mg "list"=none
 n_tuple:mg "tuple"=none
 m_NUMBER:wE mg "NUMBER" 0
 m_GET:wE mg "GET" 1
 m_SET:wE mg "SET" 2
 m_ALL:wE mg "ALL" 3
 m_PICK:wE mg "PICK" 4
 m_LOOP:wE mg "LOOP" 5
 m_CALL:wE mg "CALL" 6
 m_FAIL:wE mg "FAIL" 7
 m_NEW:wE mg "NEW" 19
 m_MOST_FUNCTIONS:wE mg "MOST_FUNCTIONS" 16
 m_MOST_PARAMS:wE mg "MOST_PARAMS" 4
 m_MOST_BOXES:wE mg "MOST_BOXES" 12
 m_MOST_DEEP:wE mg "MOST_DEEP" 10
 m_MOST_MANY:wE mg "MOST_MANY" 12
 m_LEAST_ALL:wE mg "LEAST_ALL" 1
 m_LEAST_PICK:wE mg "LEAST_PICK" 2
 m_PARTS:mg "PARTS"=some (.ref aP)
 m_NoSheet:mg "NoSheet"=some (.ref CN)
 parts: ∀H,DX K H aP (partsN.map V.int)
 kint:PySem.W.kitOne K (.type "int") (.type "int")=some true
 kbool:PySem.W.kitOne K (.type "int") (.type "bool")=some false
 klist:PySem.W.kitOne K (.type "list") (.type "list")=some true
 ktup:PySem.W.kitOne K (.type "tuple") (.type "tuple")=some true
 look:OR K CL
 lnum:qV K CL "numbers"
 lplace:qV K CL "place"
 exc:Fs K CN
 xplace:qV K CN "place"
 xword:qV K CN "word"
 mch:XV K CN CN
section
variable {P:Program}{w:World}{K:PySem.W.Frag}{mg:Str->Option Value}{base:Heap}{f:Addr}{fd:FuncData}{aP aW aH CT CR CL CN:Addr}
inductive BT (vs:List V) (H:Hp) (Q:VK) (E:XK):Prop
 |mk (w sg:Str) (h0:vs=[.str w,.str sg]) (h1:Q (.bl (Bk w sg)) H):BT vs H Q E
theorem IQ (F:wQ K "is_written_in" "is_written_in" AU f fd):AX P w K mg base 1 f fd ["word","signs"] BT:=by
 refine F.oN Dh λcdv A outer s H vs Q E hr h=>?_;obtain⟨x,sg,rfl,q⟩:=h;refine⟨_,(zE (BA kK rfl (UP (pv 0)) (jP (i:=2) Dh.nd rfl (Or.inl rfl)) (zQ (xS (yH Kq (pv 2) (pv 1) rfl) (zQ (yO Hd)) yR)))
   (zQ (yO Hd))),?_⟩
 try dsimp only[Cx.nox,Cx.exc,Cx.wish,xQ]
 refine⟨_,rfl,x,rfl,Tq (λi σ' H'=>(∃v2,σ'=[some (.str x),some (.str sg),v2])/\H'=H/\ ∀j c,j<i->x.cps[j]? =some c->c∈sg.cps.toList) ⟨⟨_,rfl⟩,rfl,λj c hj=>absurd hj (Nat.not_lt_zero _)⟩ ?_ ?_⟩
 ·rintro i c σ' H' hc ⟨⟨v2,rfl⟩,rfl,hi⟩;refine⟨_,rfl,_,rfl,_,_,rfl,rfl,_,rfl,?_⟩;rw[Sv]
  by_cases m:c∈sg.cps.toList
  ·rw[yA m];refine AM ⟨⟨_,rfl⟩,rfl,λj d hj hd=>?_⟩
   by_cases z:j=i
   ·subst z;rw[hc]at hd;cases hd;exact m
   ·exact hi j d (by lia) hd
  ·rw[yD m];refine AD ?_;have:Bk x sg=false:=by
    unfold Bk;rw[List.all_eq_false];refine⟨c,?_,by rw[yD m];exact zZ⟩;rw[<-Ax]at hc;exact zU hc
   rw[this]at q;exact q
 ·rintro σ' H' ⟨⟨v2,rfl⟩,rfl,hi⟩;have:Bk x sg=true:=by
   unfold Bk;rw[wD];intro c hc;obtain⟨j,hj⟩:=AR hc;rw[Ax]at hj;have hl:j<x.cps.size:=by
    rw[Array.getElem?_eq_some_iff]at hj;exact hj.1
   exact yA (hi j c hl hj)
  rw[this]at q;exact q
inductive JW (vs:List V) (H:Hp) (Q:VK) (E:XK):Prop
 |mk (x:Str) (most:Int) (h0:vs=[.str x,.int most]) (h1:x.length<=sizeLine) (h2:Q (.bl (uF x most)) H):JW vs H Q E
theorem Kw (T:VB K mg)(F:wQ K "is_number_of" "is_number_of" By f fd)(Cj:uP P w K mg base 1 "is_written_in" ["word","signs"] BT):AX P w K mg base 2 f fd ["word","most_figures"] JW:=by
 refine F.oN DZ λcdv A outer s H vs Q E hr h=>?_;obtain⟨x,most,rfl,hz,q⟩:=h;refine⟨_,(zE (Nj (xI (i:=2) DZ.nd rfl (Or.inl rfl) (QP (AB (uE wL PySem.F.slot_str_startswith PySem.F.type_str_startswith Px (pv 0) (zB qR zI))) (Ih UD (pv 0) (Kj yE) Kk) (pv 0))))
   (zE (xS (PW.pt (uD (yH Gj (xL Br rfl T.n_len kN (zB (pv 2) zI)) yE (yU _)) (uD (yH Hf (xL Br rfl T.n_len kN (zB (pv 2) zI)) (pv 1) (yU _)) (vX (CS (AB (yF Cj hr rfl (zB (pv 2) (zB (HE rfl T.m_FIGURES) zI)) qI))))))) (zQ (yO Hd)) yR)
   (zQ (yO (Wm (EV jY (pv 0) qR (yU _)) (Km (EV Ik (kG Vn (pv 2) yE (λ_ _=>rfl)) qR (yU _)))))))),?_⟩
 try dsimp only[Cx.nox,Cx.exc,Cx.wish,xQ]
 refine⟨λσ' H'=>σ'=[some (.str x),some (.int most),some (.str (vA x))]/\H'=H,?_,?_⟩
 ·refine⟨_,rfl,rfl,x,_,rfl,rfl,_,rfl,jV (λc=>?_) (λc=>?_)⟩
  ·have c':=(FZ x).mp c;obtain⟨r,er⟩: ∃r,x.cps.toList=45::r:=by
    cases e:x.cps.toList with
    |nil=>rw[e]at c';cases c'
    |cons a r=>rw[e]at c';cases c';exact⟨r,rfl⟩
   obtain⟨e1,e2⟩:=DW er;refine⟨_,rfl,_,rfl,x,rfl,hz,?_⟩;rw[e2,e1];exact⟨rfl,rfl⟩
  ·rw[BI (λz=>c ((FZ x).mpr z))];exact⟨_,rfl,rfl,rfl⟩
 rintro _ _ ⟨rfl,rfl⟩;rename_i H;have no: ∀{b:Bool},uF x most=b->Q (.bl b) H:=λe=>by rw[<-e];exact q
 have hzf:(vA x).length<=sizeLine:=yJ (RO x) hz;refine⟨_,rfl,_,rfl,hzf,_,_,rfl,rfl,_,rfl,jV (λc1=>?_) (λc1=>?_)⟩
 ·exact AD (no (by
   have:=zO c1;unfold uF;rw[yD (by lia)];rfl))
 have l1:1<=(vA x).length:=by
  have n1: ¬((vA x).length:Int)<1:=λz=>c1 (yA z);lia
 refine⟨_,rfl,_,rfl,hzf,_,rfl,_,_,rfl,rfl,_,rfl,jV (λc2=>?_) (λc2=>?_)⟩
 ·exact AD (no (by
   have:=zO c2;unfold uF;rw[yD (show ¬((vA x).length:Int)<=most by lia),Bool.and_false];rfl))
 have l2:((vA x).length:Int)<=most:=by
  have n2: ¬most<((vA x).length:Int):=λz=>c2 (yA z);lia
 have e0:uF x most=(Bk (vA x) "0123456789"&&(decide (x="0") || !decide ((vA x).cps.toList[0]? =some 48))):=by
  unfold uF;rw[yA l1,yA l2];rfl
 refine⟨_,rfl,vA x,_,rfl,_,rfl,?_⟩;cases ci:Bk (vA x) "0123456789" with
 |false=>exact AD (no (by rw[e0,ci];rfl))
 |true=>
  have hl:(vA x).cps.toList.length =(vA x).length:=yI;obtain⟨c0,r,ec⟩: ∃c0 r,(vA x).cps.toList =c0::r:=by
   cases e:(vA x).cps.toList with
   |nil=>rw[e]at hl;have:([]:List Nat).length =0:=rfl;lia
   |cons a r=>exact⟨a,r,rfl⟩
  rw[ci,ec]at e0;refine AM ⟨_,rfl,rfl,_,rfl,jV (λc=>?_) (λc=>?_)⟩
  ·have ex:x="0":=by
    have:=zO c;injection this
   exact no (by rw[e0,yA ex];rfl)
  ·have nx: ¬x="0":=λz=>c (yA (xM V.str z));have ez:(Str.ofString "0")=⟨#[48]⟩:=by decide
   refine⟨_,rfl,vA x,0,c0,rfl,rfl,hzf,(by rw[ec];exact Bt (xs:=c0::r) (j:=0) rfl),rfl,?_⟩;refine no ?_;rw[e0,yD nx];show(true&&(false || !decide (some c0=some 48)))=!decide (V.str ⟨#[c0]⟩=V.str (Str.ofString "0"));rw[ez]
   by_cases z:c0=48
   ·subst z;decide
   ·rw[yD (λh=>z (by injection h)),yD (λh=>z (by injection h with h;injection h with h;injection h with h;injection h with h))];rfl
inductive Of (vs:List V) (H:Hp) (Q:VK) (E:XK):Prop
 |mk (x:Str) (h0:vs=[.str x]) (h1:x.length<=sizeLine) (h2:Q (.bl (uF x 60)) H):Of vs H Q E
theorem Pp (T:VB K mg)(F:wQ K "is_number" "is_number" Es f fd)(Ca3:uP P w K mg base 2 "is_number_of" ["word","most_figures"] JW):AX P w K mg base 3 f fd ["word"] Of:=by
 refine F.oN Kf λcdv A outer s H vs Q E hr h=>?_;obtain⟨x,rfl,hz,q⟩:=h;refine⟨_,(zQ (yO (yF Ca3 hr rfl (zB (pv 0) (zB (yS rfl T.m_MOST_FIGURES) zI)) qI))),?_⟩
 try dsimp only[Cx.nox,Cx.exc,Cx.wish,xQ]
 exact⟨_,rfl,x,60,rfl,hz,q⟩
theorem Wt {c:Bool}{A B:Prop}(e:c=false)(h:B):if c=true then A else B:=by
 rw[e];exact AM h
theorem Rj (T:Txt K mg aP aW aH CT CR)(F:wQ K "__init__" "NoText.__init__" Ae f fd):AX P w K mg base 1 f fd ["self","at"] (wG CT):=by
 refine F.oN Fz λcdv A outer s H vs Q E hr h=>?_;obtain⟨x,y,rfl,hx,q⟩:=h;refine⟨_,(zQ (Ki (pv 0) (pv 1))),?_⟩
 try dsimp only[Cx.nox,Cx.exc,Cx.wish,xQ]
 refine⟨_,rfl,_,rfl,x,CT,none,rfl,hx,T.exc,T.xat,.inl ⟨rfl,λd hd=>?_⟩⟩;have nd:d≠x:=λe=>by rw[e,hx]at hd;cases hd
 refine q d _ nd hd (λb o nb e=>?_) zK (by rw[zT nd];exact zK);rw[zT nb,zT (zS e hd)];exact e
inductive Gz (vs:List V) (H:Hp) (Q:VK) (E:XK):Prop
 |mk (t:Str) (h0:vs=[.str t]) (h1:t.length<=1000000) (h2:(Txt.replace t "\n" " ").length<=1000000) (h3:(Txt.split (Txt.replace t "\n" " ") " ").length<=2000000) (h4: ∀p H',H p=none->qH H H'->H' p=some (.lst ((wordsT t).map V.str))->Q (.ref p) H'):Gz vs H Q E
theorem LP (F:wQ K "words_of" "words_of" DH f fd):AX P w K mg base 1 f fd ["text"] Gz:=by
 obtain⟨oc,od,kV,doc,pm,an,cdv,ct,osl,rfl,lk,hcd⟩:=F.ex;refine Vr lk hcd Lu rfl (λvs H Q E h=>?_) (λA outer s H vs Q E hr h=>?_)
 ·obtain⟨t,rfl,_⟩:=h;rfl
 obtain⟨t,rfl,tl,rl,sl,q⟩:=h;refine⟨_,QI (QS (own:=["word"]) (ys:=[]) rfl (QM (UU wL PySem.F.slot_str_split PySem.F.type_str_split Rr (LI (by decide) (by decide) (pv 0)) (zB qR zI)))
  (GQ (sc:=zY DH) rfl (by decide+kernel)) .nil (λ_ _ _ _ _=>(jP (i:=0) (show List.Nodup [("word":Str)]from(by decide+kernel)) rfl (Or.inl rfl))) (λ_ _ _ _ _=>SD (yH Ik (pv 0) qR (yU _))) (λ_ _ _ _ _=>(pv 0))),?_⟩
 refine⟨_,rfl,t,rfl,by lia,rfl,_," ",rfl,rfl,rfl,EY (by lia),EY (by lia),λa ha=>⟨a,rfl,⟨_,.of zK⟩,λp hp=>?_⟩⟩;have np:p≠a:=λz=>by rw[z,zK]at hp;cases hp
 have hpH:H p=none:=(yQ ha _).free hp;refine My (xs:=(Txt.split (Txt.replace t "\n" " ") " ").map V.str) (λi σ' H'=>H'=upd (upd H a (.lst ((Txt.split (Txt.replace t "\n" " ") " ").map V.str))) p (.lst ((((Txt.split (Txt.replace t "\n" " ") " ").take i).filter Nv).map V.str))/\ ∃x,σ'=[x]) ⟨rfl,_,rfl⟩ ?_ ?_ ?_
 ·rintro i σ' H' hi ⟨rfl,_⟩;exact .of (by rw[zT (Ne.symm np)];exact zK)
 ·rintro i x σ' H' hi hx ⟨rfl,x0,rfl⟩;rw[zF]at hi;rw[zW,zG hi]at hx;cases hx;generalize ey:(Txt.split (Txt.replace t "\n" " ") " ")[i]=y;have et:(Txt.split (Txt.replace t "\n" " ") " ").take (i+1)=(Txt.split (Txt.replace t "\n" " ") " ").take i++[y]:=by
   rw[<-ey];rw[An,zG hi];rfl
  refine⟨_,rfl,rfl,_,rfl,jV (λc=>?_) (λc=>?_)⟩
  ·have c': ¬y="":=λz=>by rw[z]at c;exact absurd c (by decide)
   refine⟨_,rfl,_,zK,Af ?_,CW.next (by rw[zF];exact hi) ⟨?_,_,rfl⟩⟩
   ·rw[zF];exact yJ (List.length_filter_le _ _) (yJ (List.length_take_le ..) (by lia))
   ·rw[FW,et,List.filter_append,xH]
    simp[Nv,c']
  ·have c':y="":=by
    by_cases z:y=""
    ·exact z
    ·exact absurd (by show(!decide (V.str y=V.str ""))=true;rw[yD (λe=>z (by injection e))];rfl) c
   refine CW.next (by rw[zF];exact hi) ⟨?_,_,rfl⟩;rw[et,List.filter_append]
   simp[Nv,c']
 ·rintro σ' H' ⟨rfl,_⟩;rw[zF,wC];refine q p _ hpH (λb o e=>?_) zK;rw[zT (zS e hpH),zT (zS e ha)];exact e
theorem Nr (T:Txt K mg aP aW aH CT CR)(F:wQ K "is_name" "is_name" GI f fd)(Cj:uP P w K mg base 1 "is_written_in" ["word","signs"] BT):AX P w K mg base 2 f fd ["word"] Ga:=by
 refine F.oN Nc λcdv A outer s H vs Q E hr h=>?_;obtain⟨x,rfl,hz,q⟩:=h;refine⟨_,(zE (xS (PW.pt (uD (yH Gj (xL Br rfl T.n_len kN (zB (pv 0) zI)) yE (yU _)) (uD (yH Hf (xL Br rfl T.n_len kN (zB (pv 0) zI)) (yS rfl T.m_MOST_LETTERS) (yU _)) (vX (CS (AB (yF Cj hr rfl (zB (pv 0) (zB (HE rfl T.m_LETTERS) zI)) qI))))))) (zQ (yO Hd)) yR)
   (zQ (yO (Kp (EV DS (pv 0) (DP rfl T.m_HEAD_WORDS) rfl) (Km (EV DS (pv 0) (DP rfl T.m_WORDS) rfl)))))),?_⟩
 try dsimp only[Cx.nox,Cx.exc,Cx.wish,xQ]
 have no: ∀{b:Bool},jU x=b->Q (.bl b) H:=λe=>by rw[<-e];exact q
 refine⟨_,rfl,_,rfl,hz,_,_,rfl,rfl,_,rfl,jV (λc1=>?_) (λc1=>?_)⟩
 ·exact AD (no (by
   have:=zO c1;unfold jU;rw[yD (by lia)];rfl))
 have l1:1<=x.length:=by
  have n1: ¬(x.length:Int)<1:=λz=>c1 (yA z);lia
 refine⟨_,rfl,_,rfl,hz,_,_,rfl,rfl,_,rfl,jV (λc2=>?_) (λc2=>?_)⟩
 ·exact AD (no (by
   have:=zO c2;unfold jU;rw[yD (show ¬x.length<=8 by lia),Bool.and_false];rfl))
 have l2:x.length<=8:=by
  have n2: ¬(8:Int)<(x.length:Int):=λz=>c2 (yA z);lia
 have e0:jU x=(Bk x lettersS&&!decide (x∈kwH)&&!decide (x∈kwW)):=by
  unfold jU;rw[yA l1,yA l2];rfl
 refine⟨_,rfl,x,_,rfl,_,rfl,?_⟩;cases ci:Bk x lettersS with
 |false=>exact AD (no (by rw[e0,ci];rfl))
 |true=>
  refine AM ⟨_,rfl,aH,_,rfl,.inr (T.hwords H),rfl,vS _,_,rfl,?_⟩;rw[BH];rw[ci]at e0;cases c3:decide (x∈kwH)with
  |true=>exact AM (no (by rw[e0,c3];rfl))
  |false=>
   refine AD ⟨_,rfl,aW,_,rfl,.inr (T.words H),rfl,vS _,?_⟩;rw[BH];exact no (by rw[e0,c3];rfl)
theorem Nq (T:Txt K mg aP aW aH CT CR)(F:wQ K "kind_of" "kind_of" GH f fd):AX P w K mg base 1 f fd ["word"] HV:=by
 refine F.oN Nb λcdv A outer s H vs Q E hr h=>?_;obtain⟨x,rfl,q1,q2⟩:=h;refine⟨_,(zE (xS (yH GM (pv 0) (DP rfl T.m_WORDS) rfl) (zQ (yO (xZ uV (yS rfl T.m_SET) (uE PySem.F.plainAttrs_tuple PySem.F.slot_tuple_index PySem.F.type_tuple_index Py (DP rfl T.m_WORDS) (zB (pv 0) zI))))) yR)
   (zQ (yO Kn))),?_⟩
 try dsimp only[Cx.nox,Cx.exc,Cx.wish,xQ]
 refine⟨_,rfl,aW,_,rfl,.inr (T.words H),rfl,vS _,_,rfl,?_⟩;rw[BH];refine jV (λc=>?_) (λc=>?_)
 ·have c':=zO c;exact⟨.inr (.inl ⟨rfl,T.wordsT⟩),_,rfl,aW,_,_,_,rfl,rfl,T.words H,rfl,vS _,IC c',_,_,rfl,rfl,q1 c'⟩
 ·exact q2 (kZ (Bool.eq_false_iff.mpr c))
theorem Tf (T:Txt K mg aP aW aH CT CR)(F:wQ K "due" "due" QD f fd)(Ca:Ds P w K mg base 1 "NoText" CT ["self","at"] (wG CT)):AX P w K mg base 3 f fd ["reading"] (DD CR CT):=by
 refine F.oX UE λcdv A outer s H vs Q E hr h=>?_;obtain⟨A,W,a,rfl,R,q⟩:=h;refine⟨_,(zE (xS (yH Ud (xU (pv 0) rfl) (xL xJ rfl T.n_len kN (zB (xU (pv 0) rfl) zI)) (yU _)) (zQ (jW Ca hr rfl (zB (xU (pv 0) rfl) zI))) yR)
   (zQ (yO (kG qY (xU (pv 0) rfl) (xU (pv 0) rfl) (λ_ _=>rfl))))),?_⟩
 try dsimp only[Cx.nox,Cx.exc,Cx.wish,xQ]
 have hz:(W.map V.str).length =W.length:=zF ..;refine⟨_,rfl,A.rd,CR,A.dr,_,_,rfl,R.rd,T.cls,T.f_at,rfl,_,rfl,A.rd,CR,A.dr,_,_,rfl,R.rd,T.cls,T.f_words,rfl,A.wd,_,rfl,.inl (.of R.wd),_,_,rfl,rfl,_,rfl,jV (λc=>?_) (λc=>?_)⟩
 ·have c':=zO c;have e:uA W a=.error a:=by unfold uA;rw[qG (by lia)]
  rw[e]at q;exact⟨_,rfl,A.rd,CR,A.dr,_,_,rfl,R.rd,T.cls,T.f_at,rfl,sm1,vC q⟩
 ·have c':=df c;have hl:a<W.length:=by lia
  have e1:W[a]? =some W[a]:=zG hl;generalize W[a]=x at e1;have e:uA W a=.ok x:=by unfold uA;rw[e1]
  rw[e]at q;exact⟨_,rfl,A.rd,CR,A.dr,_,_,rfl,R.rd,T.cls,T.f_words,rfl,_,rfl,A.rd,CR,A.dr,_,_,rfl,R.rd,T.cls,T.f_at,rfl,A.wd,_,_,_,rfl,rfl,.of R.wd,R.at e1,q⟩
theorem Tc (T:Txt K mg aP aW aH CT CR)(F:wQ K "take_new_name" "take_new_name" AT f fd)(Ca:Ds P w K mg base 1 "NoText" CT ["self","at"] (wG CT))(Ci:uP P w K mg base 3 "due" ["reading"] (DD CR CT))
  (Cw:uP P w K mg base 2 "is_name" ["word"] Ga):AX P w K mg base 4 f fd ["reading","there"] (JX CR CT):=by
 refine F.oX Df λcdv A outer s H vs Q E hr h=>?_;obtain⟨A,W,a,th,ts,rfl,R,hth,q⟩:=h;refine⟨_,(zE (xI (i:=2) Df.nd rfl (Or.inl rfl) (yF Ci hr rfl (zB (pv 0) zI) jC))
   (zE (xS (PW.pt (uD (CS (AB (yF Cw hr rfl (zB (pv 2) zI) jC))) (vX (yH GM (pv 2) (pv 1) rfl)))) (zQ (jW Ca hr rfl (zB (xU (pv 0) rfl) zI))) yR)
   (zE (Aa (pv 0) yE ED)
   (zQ (yO (pv 2)))))),?_⟩
 try dsimp only[Cx.nox,Cx.exc,Cx.wish,xQ]
 refine⟨_,rfl,A,W,a,rfl,R,?_⟩;cases e1:W[a]? with
 |none=>
  have e:Fg W a ts=.error a:=by unfold Fg;rw[e1]
  rw[e]at q;rw[show uA W a=.error a by unfold uA;rw[e1]];exact q
 |some x=>
  rw[show uA W a=.ok x by unfold uA;rw[e1]];have no:jU x=true/\x∉ts\/Fg W a ts=.error a:=by
   unfold Fg;rw[e1]
   by_cases z:jU x=true/\x∉ts
   ·exact .inl z
   ·exact .inr (zH z)
  have fail:Fg W a ts=.error a->AY CT H E (a:Int):=λe=>by rw[e]at q;exact q
  refine⟨_,rfl,x,rfl,R.ok.at e1,_,rfl,?_⟩;cases c1:jU x with
  |false=>
   refine AD ?_;exact⟨_,rfl,A.rd,CR,A.dr,_,_,rfl,R.rd,T.cls,T.f_at,rfl,sm1,vC (fail (no.resolve_left (λz=>by rw[c1]at z;exact absurd z.1 (by decide))))⟩
  |true=>
   refine AM ⟨_,rfl,_,rfl,th,_,rfl,.inl (.of hth),rfl,vS _,_,rfl,?_⟩;rw[BH];refine jV (λc=>?_) (λc=>?_)
   ·have m:=zO c;exact⟨_,rfl,A.rd,CR,A.dr,_,_,rfl,R.rd,T.cls,T.f_at,rfl,sm1,vC (fail (no.resolve_left (λz=>z.2 m)))⟩
   ·have m:x∉ts:=kZ (Bool.eq_false_iff.mpr c);have e:Fg W a ts=.ok x:=by unfold Fg;rw[e1];exact zR ⟨c1,m⟩
    rw[e]at q;exact⟨_,rfl,A.rd,CR,A.dr,_,_,rfl,R.rd,T.cls,T.f_at,rfl,_,_,rfl,rfl,A.dr,_,R.rd,(show 7<1000 by decide),_,rfl,q⟩
theorem Pq (T:Txt K mg aP aW aH CT CR)(F:wQ K "take_boxes" "take_boxes" DJ f fd)(Ca:Ds P w K mg base 1 "NoText" CT ["self","at"] (wG CT))(Ci:uP P w K mg base 3 "due" ["reading"] (DD CR CT))
  (Ch:uP P w K mg base 4 "take_new_name" ["reading","there"] (JX CR CT)):AX P w K mg base 5 f fd ["reading","boxes","most","last"] (HW CR CT):=by
 refine F.oX IM λcdv A outer s H vs Q E hr h=>?_;obtain⟨A,W,a,bx,bs,most,last,rfl,R,hbx,nbw,hbm,hm,q⟩:=h;refine⟨_,(zE (Ic (EX rfl rfl) (yH Ik (yF Ci hr rfl (zB (pv 0) zI) jC) (pv 3) (yU _)) (zE (xS (yH jY (xL xJ rfl T.n_len kN (zB (pv 1) zI)) (pv 2) (yU _)) (zQ (jW Ca hr rfl (zB (xU (pv 0) rfl) zI))) yR)
   (zQ (jO (uE yB yL yK jX (pv 1) (zB (yF Ch hr rfl (zB (pv 0) (zB (pv 1) zI)) jC) zI))))))
   (zQ (Aa (pv 0) yE ED))),?_⟩
 try dsimp only[Cx.nox,Cx.exc,Cx.wish,xQ]
 refine⟨λm σ' H'=> ∃a' bs',σ'=[some (.ref A.rd),some (.ref bx),some (.int (most:Int)),some (.str last)]/\jG [A.rd,bx] H H'/\(∀b,H' b=none->H b=none)/\IT CR A W H' a'/\H' bx=some (.lst (bs'.map V.str))/\bs'.length<=most/\
  qT W most last m a' bs'=qT W most last (W.length+1) a bs/\W.length<a'+m,⟨W.length+1,a,bs,rfl,jG.refl _ _,λ_ z=>z,R,hbx,hbm,rfl,by lia⟩,?_⟩
 rintro m σ' H' ⟨a',bs',rfl,kp,lv,R',hbx',hbm',eb,hlt⟩;refine⟨_,rfl,A,W,a',rfl,R',?_⟩;rw[<-eb]at q;cases e1:W[a']? with
 |none=>
  rw[show uA W a'=.error a' by unfold uA;rw[e1]];have e:qT W most last m a' bs'=.error a':=by
   cases m with
   |zero=>rfl
   |succ m=>unfold qT;rw[e1]
  rw[e]at q;exact(kA.mono q kp).one
 |some x=>
  rw[show uA W a'=.ok x by unfold uA;rw[e1]];have hl:=FN e1;obtain⟨m,rfl⟩: ∃m',m=m'+1:=⟨m-1,by lia⟩;unfold qT at q;rw[e1]at q;dsimp only at q;refine⟨_,rfl,rfl,_,rfl,jV (λc=>?_) (λc=>?_)⟩
  ·have c': ¬x=last:=λz=>by rw[z]at c;exact absurd c (by simp)
   rw[zH c']at q;refine⟨_,λσ2 H2 z=>z,?_⟩;refine⟨_,rfl,bx,_,rfl,.inl (.of hbx'),_,rfl,rfl,_,rfl,?_⟩;have hz:(bs'.map V.str).length =bs'.length:=zF ..;refine jV (λc2=>?_) (λc2=>?_)
   ·have c2':=vt c2;rw[zR (by lia)]at q;exact⟨_,rfl,A.rd,CR,A.dr,_,_,rfl,R'.rd,T.cls,T.f_at,rfl,sm1,vC (kA.mono q kp).one⟩
   ·have c2':=vf c2;have ne: ¬bs'.length=most:=by lia
    rw[zH ne]at q;refine⟨_,rfl,.inl ⟨rfl,_,.of hbx'⟩,_,rfl,_,rfl,A,W,a',bx,bs',rfl,R',hbx',?_⟩
    by_cases c3:jU x=true/\x∉bs'
    ·rw[show Fg W a' bs'=.ok x by unfold Fg;rw[e1];exact zR c3];rw[zR c3]at q;have hb2:upd H' A.rd (BQ CR A (a'+1)) bx=some (.lst (bs'.map V.str)):=by rw[zT (R'.ne hbx')];exact hbx'
     have R2:=R'.put (a'+1);have st:qT W most last (m+1) a' bs'=qT W most last m (a'+1) (bs'++[x]):=by
      rw[qT,e1];dsimp only;rw[zH c',zH ne,zR c3]
     refine⟨bx,_,_,rfl,rfl,hb2,Af (by lia),m,kS m,a'+1,bs'++[x],rfl,?_,?_,⟨?_,?_,R.ok⟩,?_,?_,st.symm.trans eb,by lia⟩
     ·exact kp.fst.trans (jG.upd (zN _ (zM ..)))
     ·exact vG (vG lv R'.rd) hb2
     ·rw[zT (Ne.symm (R'.ne hbx'))];exact R2.rd
     ·rw[zT (Ne.symm nbw)];exact R2.wd
     ·rw[zK,xH];rfl
     ·rw[zC];show bs'.length+1<=most;lia
    ·rw[show Fg W a' bs'=.error a' by unfold Fg;rw[e1];exact zH c3];rw[zH c3]at q;exact(kA.mono q kp).one
  ·have c':x=last:=by
    by_cases z:x=last
    ·exact z
    ·exact absurd (by show(!decide (V.str x=V.str last))=true;rw[yD (λe=>z (by injection e))];rfl) c
   rw[zR c']at q;refine⟨_,rfl,A.rd,CR,A.dr,_,_,rfl,R'.rd,T.cls,T.f_at,rfl,_,_,rfl,rfl,A.dr,_,R'.rd,(show 7<1000 by decide),?_⟩;refine q _ kp.fst (vG lv R'.rd) zK ?_;rw[zT (R'.ne hbx')];exact hbx'
theorem Th (T:Txt K mg aP aW aH CT CR)(F:wQ K "take_box" "take_box" FA f fd)(Ca:Ds P w K mg base 1 "NoText" CT ["self","at"] (wG CT))(Ci:uP P w K mg base 3 "due" ["reading"] (DD CR CT)):AX P w K mg base 4 f fd ["reading","boxes"] (MX CR CT):=by
 refine F.oX GZ λcdv A outer s H vs Q E hr h=>?_;obtain⟨A,W,a,bx,bs,rfl,R,hbx,q⟩:=h;refine⟨_,(zE (xI (i:=2) GZ.nd rfl (Or.inl rfl) (yF Ci hr rfl (zB (pv 0) zI) jC))
   (zE (xS (yH DS (pv 2) (pv 1) rfl) (zQ (jW Ca hr rfl (zB (xU (pv 0) rfl) zI))) yR)
   (zE (Aa (pv 0) yE ED)
   (zQ (yO (uE yB PySem.F.slot_list_index PySem.F.type_list_index Pz (pv 1) (zB (pv 2) zI))))))),?_⟩
 try dsimp only[Cx.nox,Cx.exc,Cx.wish,xQ]
 refine⟨_,rfl,A,W,a,rfl,R,?_⟩;unfold KM at q;cases e1:W[a]? with
 |none=>
  rw[e1]at q;rw[show uA W a=.error a by unfold uA;rw[e1]];exact q
 |some x=>
  rw[e1]at q;dsimp only at q;rw[show uA W a=.ok x by unfold uA;rw[e1]];refine⟨_,rfl,_,rfl,bx,_,rfl,.inl (.of hbx),rfl,vS _,_,rfl,?_⟩;rw[BH]
  by_cases m:x∈bs
  ·rw[yA m];rw[zR m]at q;refine AM ⟨_,rfl,A.rd,CR,A.dr,_,_,rfl,R.rd,T.cls,T.f_at,rfl,_,_,rfl,rfl,A.dr,_,R.rd,(show 7<1000 by decide),?_⟩;have hb2:upd H A.rd (BQ CR A (a+1)) bx=some (.lst (bs.map V.str)):=by rw[zT (R.ne hbx)];exact hbx
   exact⟨_,rfl,.inl ⟨rfl,_,.of hb2⟩,_,rfl,bx,_,_,_,rfl,rfl,.of hb2,rfl,vS _,IC m,q⟩
  ·rw[yD m];rw[zH m]at q;exact AD ⟨_,rfl,A.rd,CR,A.dr,_,_,rfl,R.rd,T.cls,T.f_at,rfl,sm1,vC q⟩
theorem SZ (T:Txt K mg aP aW aH CT CR)(F:wQ K "take_number" "take_number" CO f fd)(Ca:Ds P w K mg base 1 "NoText" CT ["self","at"] (wG CT))(Ci:uP P w K mg base 3 "due" ["reading"] (DD CR CT))
  (Cs:uP P w K mg base 3 "is_number" ["word"] Of):AX P w K mg base 4 f fd ["reading"] (JV CR CT):=by
 refine F.oX Ej λcdv A outer s H vs Q E hr h=>?_;obtain⟨A,W,a,rfl,R,q⟩:=h;refine⟨_,(zE (xI (i:=1) Ej.nd rfl (Or.inl rfl) (yF Ci hr rfl (zB (pv 0) zI) jC))
   (zE (xS (CS (AB (yF Cs hr rfl (zB (pv 1) zI) jC))) (zQ (jW Ca hr rfl (zB (xU (pv 0) rfl) zI))) yR)
   (zE (Aa (pv 0) yE ED)
   (zQ (yO (vQ KL rfl T.n_int NT (zB (pv 1) zI))))))),?_⟩
 try dsimp only[Cx.nox,Cx.exc,Cx.wish,xQ]
 refine⟨_,rfl,A,W,a,rfl,R,?_⟩;unfold Il at q;cases e1:W[a]? with
 |none=>
  rw[e1]at q;rw[show uA W a=.error a by unfold uA;rw[e1]];exact q
 |some x=>
  rw[e1]at q;dsimp only at q;rw[show uA W a=.ok x by unfold uA;rw[e1]];refine⟨_,rfl,x,rfl,R.ok.at e1,_,rfl,?_⟩;cases m:uF x 60 with
  |true=>
   rw[m,zR rfl]at q;obtain⟨i1,i2⟩:=Pt m;refine AM ⟨_,rfl,A.rd,CR,A.dr,_,_,rfl,R.rd,T.cls,T.f_at,rfl,_,_,rfl,rfl,A.dr,_,R.rd,(show 7<1000 by decide),?_⟩;exact⟨_,rfl,x,_,rfl,i1,i2,q⟩
  |false=>
   rw[m,zH (by decide)]at q;exact AD ⟨_,rfl,A.rd,CR,A.dr,_,_,rfl,R.rd,T.cls,T.f_at,rfl,sm1,vC q⟩
theorem Rc (T:Txt K mg aP aW aH CT CR)(F:wQ K "take_many" "take_many" El f fd)(Ca:Ds P w K mg base 1 "NoText" CT ["self","at"] (wG CT))(Co:uP P w K mg base 4 "take_number" ["reading"] (JV CR CT)):AX P w K mg base 5 f fd ["reading","least"] (JY CR CT):=by
 refine F.oX DE λcdv A outer s H vs Q E hr h=>?_;obtain⟨A,W,a,least,rfl,R,q⟩:=h;refine⟨_,(zE (xI (i:=2) DE.nd rfl (Or.inl rfl) (xU (pv 0) rfl))
   (zE (xI (i:=3) DE.nd rfl (Or.inl rfl) (yF Co hr rfl (zB (pv 0) zI) jC))
   (zE (xS (PW.pt (uD (yH Gj (pv 3) (pv 1) (yU _)) (vX (yH Hf (pv 3) (yS rfl T.m_MOST_MANY) (yU _))))) (zQ (jW Ca hr rfl (zB (pv 2) zI))) yR)
   (zQ (yO (pv 3)))))),?_⟩
 try dsimp only[Cx.nox,Cx.exc,Cx.wish,xQ]
 refine⟨_,rfl,A.rd,CR,A.dr,_,_,rfl,R.rd,T.cls,T.f_at,rfl,?_⟩;refine⟨_,rfl,A,W,a,rfl,R,?_⟩;unfold Fo at q;cases e1:Il W a with
 |error e=>
  rw[e1]at q;exact kA.one q
 |ok n=>
  rw[e1]at q;dsimp only at q;have R2:=R.put (a+1);have kp:jG [A.rd] H (upd H A.rd (BQ CR A (a+1))):=jG.upd (zM ..);refine⟨_,rfl,_,rfl,_,_,rfl,rfl,_,rfl,jV (λc=>?_) (λc=>?_)⟩
  ·have c':=zO c;rw[zR (.inl c')]at q;exact AD ⟨_,rfl,sm1,vC (kA.mono q kp).one⟩
  ·have c':=df c;refine⟨_,rfl,_,_,rfl,rfl,_,rfl,jV (λc2=>?_) (λc2=>?_)⟩
   ·have c2':=zO c2;rw[zR (.inr c2')]at q;exact⟨_,rfl,sm1,vC (kA.mono q kp).one⟩
   ·have c2':=df c2;rw[zH (by lia)]at q;exact⟨_,rfl,q⟩
theorem Nt (T:Txt K mg aP aW aH CT CR)(F:wQ K "take_called" "take_called" CP f fd)(Ca:Ds P w K mg base 1 "NoText" CT ["self","at"] (wG CT))(Ci:uP P w K mg base 3 "due" ["reading"] (DD CR CT))
  (Cw:uP P w K mg base 2 "is_name" ["word"] Ga):AX P w K mg base 4 f fd ["reading"] (GD CR CT):=by
 refine F.oX Ek λcdv A outer s H vs Q E hr h=>?_;obtain⟨A,W,a,num,rfl,R,hnu,q⟩:=h;refine⟨_,(zE (xI (i:=1) Ek.nd rfl (Or.inl rfl) (yF Ci hr rfl (zB (pv 0) zI) jC))
   (zE (xS (PW.pt (uD (CS (AB (yF Cw hr rfl (zB (pv 1) zI) jC))) (vX (UJ (Pf (Ul hr) (pv 1) (xU (pv 0) rfl)))))) (zQ (jW Ca hr rfl (zB (xU (pv 0) rfl) zI))) yR)
   (zE (Aa (pv 0) yE ED)
   (zQ (yO (SL (Ul hr) (xU (pv 0) rfl) (pv 1) (λ_ _=>rfl))))))),?_⟩
 try dsimp only[Cx.nox,Cx.exc,Cx.wish,xQ]
 refine⟨_,rfl,A,W,a,rfl,R,?_⟩;unfold Bp at q;cases e1:W[a]? with
 |none=>
  rw[e1]at q;rw[show uA W a=.error a by unfold uA;rw[e1]];exact q
 |some x=>
  rw[e1]at q;dsimp only at q;rw[show uA W a=.ok x by unfold uA;rw[e1]];refine⟨_,rfl,x,rfl,R.ok.at e1,_,rfl,?_⟩;cases m:jU x with
  |false=>
   rw[m,zH (by decide)]at q;exact AD ⟨_,rfl,A.rd,CR,A.dr,_,_,rfl,R.rd,T.cls,T.f_at,rfl,sm1,vC q⟩
  |true=>
   rw[m,zR rfl]at q;have dg:IK H A.nu (.str x) ((kQ num x).map V.int):=by
    have:=IK.k (k:=Sum.inr x) hnu;rw[Eh]at this;exact this
   refine AM ⟨_,rfl,_,rfl,A.rd,CR,A.dr,_,_,rfl,R.rd,T.cls,T.f_numbered,rfl,A.nu,_,rfl,dg,_,rfl,?_⟩;cases e2:kQ num x with
   |none=>
    rw[e2]at q;exact AD ⟨_,rfl,A.rd,CR,A.dr,_,_,rfl,R.rd,T.cls,T.f_at,rfl,sm1,vC q⟩
   |some n=>
    rw[e2]at q;have nn:A.nu≠A.rd:=λz=>by rw[z,R.rd]at hnu;cases hnu
    have dg2:IK (upd H A.rd (BQ CR A (a+1))) A.nu (.str x) (some (.int n)):=by
     have:=IK.k (k:=Sum.inr x) (show upd H A.rd (BQ CR A (a+1)) A.nu=some (.dK (Gm num))by rw[zT nn];exact hnu);rw[Eh,e2]at this;exact this
    refine AM ⟨_,rfl,A.rd,CR,A.dr,_,_,rfl,R.rd,T.cls,T.f_at,rfl,_,_,rfl,rfl,A.dr,_,R.rd,(show 7<1000 by decide),?_⟩;exact⟨_,rfl,A.rd,CR,A.dr,_,_,rfl,zK,T.cls,T.f_numbered,rfl,_,rfl,A.nu,_,rfl,dg2,q⟩
theorem Rf (T:Txt K mg aP aW aH CT CR)(F:wQ K "take_kind" "take_kind" Em f fd)(Ca:Ds P w K mg base 1 "NoText" CT ["self","at"] (wG CT))(Ci:uP P w K mg base 3 "due" ["reading"] (DD CR CT))
  (Cs:uP P w K mg base 3 "is_number" ["word"] Of) (Cb5:uP P w K mg base 1 "kind_of" ["word"] HV):AX P w K mg base 4 f fd ["reading","boxes"] (HD CR CT):=by
 refine F.oX DF λcdv A outer s H vs Q E hr h=>?_;obtain⟨A,W,a,bx,bs,rfl,R,hbx,q⟩:=h;refine⟨_,(zE (xI (i:=2) DF.nd rfl (Or.inl rfl) (yF Ci hr rfl (zB (pv 0) zI) jC))
   (zE (xS (AB (yF Cs hr rfl (zB (pv 2) zI) jC)) (zQ (yO (yS rfl T.m_NUMBER))) yR)
   (zE (xS (yH GM (pv 2) (pv 1) rfl) (zQ (yO (yS rfl T.m_GET))) yR)
   (zE (xI (i:=3) DF.nd rfl (Or.inl rfl) (yF Cb5 hr rfl (zB (pv 2) zI) jC))
   (zE (xS (yH UZ (pv 3) Kn (yU _)) (zQ (jW Ca hr rfl (zB (xU (pv 0) rfl) zI))) yR)
   (zE (Aa (pv 0) yE ED)
   (zQ (yO (pv 3))))))))),?_⟩
 try dsimp only[Cx.nox,Cx.exc,Cx.wish,xQ]
 refine⟨_,rfl,A,W,a,rfl,R,?_⟩;unfold Ea at q;cases e1:W[a]? with
 |none=>
  rw[e1]at q;rw[show uA W a=.error a by unfold uA;rw[e1]];exact q
 |some x=>
  rw[e1]at q;dsimp only at q;rw[show uA W a=.ok x by unfold uA;rw[e1]];refine⟨_,rfl,x,rfl,R.ok.at e1,_,rfl,?_⟩;cases m:uF x 60 with
  |true=>
   rw[m,zR rfl]at q;have q':Q (.int 0) (upd H A.rd (BQ CR A a)):=q;rw[Lk R.rd]at q';exact AD q'
  |false=>
   rw[m,zH (by decide)]at q;refine AM ⟨_,rfl,_,rfl,bx,_,rfl,.inl (.of hbx),rfl,vS _,_,rfl,?_⟩;rw[BH]
   by_cases mb:x∈bs
   ·rw[yA mb];rw[zR mb]at q;have q':Q (.int 1) (upd H A.rd (BQ CR A a)):=q;rw[Lk R.rd]at q';exact AD q'
   ·rw[yD mb];rw[zH mb]at q;refine AM ⟨_,rfl,x,rfl,λmk=>?_,λmk=>?_⟩
    ·rw[zR mk]at q;refine⟨_,rfl,rfl,_,rfl,AM ?_⟩;exact⟨_,rfl,A.rd,CR,A.dr,_,_,rfl,R.rd,T.cls,T.f_at,rfl,_,_,rfl,rfl,A.dr,_,R.rd,(show 7<1000 by decide),_,rfl,q⟩
    ·rw[zH mk]at q;refine⟨_,rfl,rfl,_,rfl,AD ?_⟩;exact⟨_,rfl,A.rd,CR,A.dr,_,_,rfl,R.rd,T.cls,T.f_at,rfl,sm1,vC q⟩
theorem SY (T:Txt K mg aP aW aH CT CR)(F:wQ K "take_own" "take_own" Az f fd)(Cb3:uP P w K mg base 4 "take_box" ["reading","boxes"] (MX CR CT))(Co:uP P w K mg base 4 "take_number" ["reading"] (JV CR CT))
  (Cy:uP P w K mg base 5 "take_many" ["reading","least"] (JY CR CT)) (Ca5:uP P w K mg base 4 "take_called" ["reading"] (GD CR CT)):AX P w K mg base 6 f fd ["reading","kind","boxes"] (JU CR CT):=by
 refine F.oX Gb λcdv A outer s H vs Q E hr h=>?_;obtain⟨A,W,a,k,bx,bs,num,rfl,R,hbx,hnu,q⟩:=h;refine⟨_,(zE (xS (yH jY (pv 1) (yS rfl T.m_NUMBER) (yU _)) (zQ (yO (wA (zB (yF Co hr rfl (zB (pv 0) zI) jC) zI)))) yR)
   (zE (xS (PW.pt (uD (yH jY (pv 1) (yS rfl T.m_GET) (yU _)) (vX (yH jY (pv 1) (yS rfl T.m_SET) (yU _))))) (zQ (yO (wA (zB (yF Cb3 hr rfl (zB (pv 0) (zB (pv 2) zI)) jC) zI)))) yR)
   (zE (xS (yH jY (pv 1) (yS rfl T.m_ALL) (yU _)) (zQ (yO (wA (zB (yF Cy hr rfl (zB (pv 0) (zB (yS rfl T.m_LEAST_ALL) zI)) jC) zI)))) yR)
   (zE (xS (yH jY (pv 1) (yS rfl T.m_PICK) (yU _)) (zQ (yO (wA (zB (yF Cy hr rfl (zB (pv 0) (zB (yS rfl T.m_LEAST_PICK) zI)) jC) zI)))) yR)
   (zE (xS (yH jY (pv 1) (yS rfl T.m_CALL) (yU _)) (zQ (yO (wA (zB (yF Ca5 hr rfl (zB (pv 0) zI) jC) zI)))) yR)
   (zQ (yO (wA zI)))))))),?_⟩
 try dsimp only[Cx.nox,Cx.exc,Cx.wish,xQ]
 have kp:jG [A.rd] H (upd H A.rd (BQ CR A (a+1))):=jG.upd (zM ..);have lv: ∀b,upd H A.rd (BQ CR A (a+1)) b=none->H b=none:=vG (λ_ z=>z) R.rd;have one: ∀(n:Int),Gx (λr:List Int×Nat=> ∀t H',jG [A.rd] H H'->(∀b,H' b=none->H b=none)->H' A.rd=some (BQ CR A r.2)->H' t=some (.tup (r.1.map V.int))->Q (.ref t) H') (kA CT [A.rd] H E) (.ok ([n],a+1))->
   ∀p,upd H A.rd (BQ CR A (a+1)) p=none->Q (.ref p) (upd (upd H A.rd (BQ CR A (a+1))) p (.tup [.int n])):=λn q p hp=>by
  refine q p _ (kp.trans (jG.same (yQ hp _))) (λb z=>lv b ((yQ hp _).free z)) ?_ zK;rw[zT (λz=>by rw[<-z,zK]at hp;cases hp)];exact zK
 unfold Ed at q;refine⟨_,rfl,rfl,_,rfl,jV (λc=>?_) (λc0=>?_)⟩
 ·rw[zR (vt c)]at q;refine⟨_,rfl,A,W,a,rfl,R,?_⟩;cases e:Il W a with
  |error n=>rw[e]at q;exact kA.one q
  |ok n=>rw[e]at q;exact⟨sm1,one n q⟩
 rw[zH (vf c0)]at q;refine⟨_,rfl,rfl,_,rfl,jV (λc=>AD ?_) (λc1=>?_)⟩
 ·rw[zR (.inl (vt c))]at q;refine⟨_,rfl,_,rfl,A,W,a,bx,bs,rfl,R,hbx,?_⟩;cases e:KM W a bs with
  |error n=>rw[e]at q;exact kA.one q
  |ok n=>rw[e]at q;exact⟨sm1,one n q⟩
 refine⟨_,rfl,rfl,_,rfl,jV (λc=>?_) (λc2=>?_)⟩
 ·rw[zR (.inr (vt c))]at q;refine⟨_,rfl,_,rfl,A,W,a,bx,bs,rfl,R,hbx,?_⟩;cases e:KM W a bs with
  |error n=>rw[e]at q;exact kA.one q
  |ok n=>rw[e]at q;exact⟨sm1,one n q⟩
 rw[zH (λz=>z.elim (vf c1) (vf c2))]at q;refine⟨_,rfl,rfl,_,rfl,jV (λc=>?_) (λc3=>?_)⟩
 ·rw[zR (vt c)]at q;refine⟨_,rfl,A,W,a,1,rfl,R,?_⟩;cases e:Fo W a 1 with
  |error n=>rw[e]at q;exact q
  |ok n=>rw[e]at q;exact⟨sm1,one n q⟩
 rw[zH (vf c3)]at q;refine⟨_,rfl,rfl,_,rfl,jV (λc=>?_) (λc4=>?_)⟩
 ·rw[zR (vt c)]at q;refine⟨_,rfl,A,W,a,2,rfl,R,?_⟩;cases e:Fo W a 2 with
  |error n=>rw[e]at q;exact q
  |ok n=>rw[e]at q;exact⟨sm1,one n q⟩
 rw[zH (vf c4)]at q;refine⟨_,rfl,rfl,_,rfl,jV (λc=>?_) (λc6=>?_)⟩
 ·rw[zR (vt c)]at q;refine⟨_,rfl,A,W,a,num,rfl,R,hnu,?_⟩;cases e:Bp W num a with
  |error n=>rw[e]at q;exact kA.one q
  |ok n=>rw[e]at q;exact⟨sm1,one n q⟩
 rw[zH (vf c6)]at q;exact⟨sm0,λp hp=>q p _ (jG.same (yQ hp _)) (λb z=>(yQ hp _).free z) (by rw[zT (zS R.rd hp)];exact R.rd) zK⟩
theorem Po (T:Txt K mg aP aW aH CT CR)(F:wQ K "parts_of" "parts_of" DK f fd):AX P w K mg base 1 f fd ["kind"] HS:=by
 refine F.oN Hc λcdv A outer s H vs Q E hr h=>?_;obtain⟨k,rfl,k0,k1,q⟩:=h;refine⟨_,(zQ (yO (kG vH (DP rfl T.m_PARTS) (xZ DR (pv 0) (yS rfl T.m_FAIL)) (λ_ _=>rfl)))),?_⟩
 try dsimp only[Cx.nox,Cx.exc,Cx.wish,xQ]
 refine⟨_,rfl,_,_,rfl,rfl,aP,_,_,_,rfl,rfl,T.parts _,?_,q⟩;refine GV (by lia) ?_;have hl:(k-7).toNat <partsW.length:=by show(k-7).toNat <13;lia
 rw[zW,zG hl];rfl
theorem Te (T:Txt K mg aP aW aH CT CR)(F:wQ K "parts_due" "parts_due" BX f fd)(Cu:uP P w K mg base 1 "parts_of" ["kind"] HS):
  AX P w K mg base 2 f fd ["kind","numbers","heads"] Kc:=by
 refine F.oN Gd λcdv A outer s H vs Q E hr h=>?_;obtain⟨k,t,c,ns,cnt,rfl,ht,⟨rs,eh,pr⟩,h0,h1,hk,hk6,q⟩:=h;refine⟨_,(zE (xS (PW.pt (uD (yH jY (pv 0) (yS rfl T.m_NUMBER) (yU _)) (vX (yH jY (pv 0) (yS rfl T.m_GET) (yU _))))) (zQ (yO yE)) yR)
   (zE (xS (yH jY (pv 0) (yS rfl T.m_SET) (yU _)) (zQ (yO yE)) yR)
   (zE (xS (yH jY (pv 0) (yS rfl T.m_ALL) (yU _)) (zQ (yO (kG vH (pv 1) yE (λ_ _=>rfl)))) yR)
   (zE (xS (yH jY (pv 0) (yS rfl T.m_PICK) (yU _)) (zQ (yO (xZ uV yE (kG vH (pv 1) yE (λ_ _=>rfl))))) yR)
   (zE (xS (yH jY (pv 0) (yS rfl T.m_LOOP) (yU _)) (zQ (yO yE)) yR)
   (zE (xS (yH jY (pv 0) (yS rfl T.m_CALL) (yU _)) (zQ (yO (kG vH (kG qY (pv 2) (kG vH (pv 1) yE (λ_ _=>rfl)) (λ_ _=>rfl)) yE (λ_ _=>rfl)))) yR)
   (zQ (yO (yF Cu hr rfl (zB (pv 0) zI) qI))))))))),?_⟩
 try dsimp only[Cx.nox,Cx.exc,Cx.wish,xQ]
 have hd1:ns.length=1-> ∃n,ns=[n]:=λl=>by
  cases ns with
  |nil=>cases l
  |cons n r=>cases r with
   |nil=>exact⟨n,rfl⟩
   |cons m r=>cases l
 unfold ID at q;refine⟨_,rfl,rfl,_,rfl,jV (λc=>AD ?_) (λc0=>?_)⟩
 ·rw[zR (.inl (vt c))]at q;exact q
 refine⟨_,rfl,rfl,_,rfl,jV (λc=>?_) (λc1=>?_)⟩
 ·rw[zR (.inr (vt c))]at q;exact q
 have n01: ¬(k=0\/k=1):=λz=>z.elim (vf c0) (vf c1);rw[zH n01]at q;refine⟨_,rfl,rfl,_,rfl,jV (λc=>?_) (λc2=>?_)⟩
 ·rw[zR (vt c)]at q;exact q
 rw[zH (vf c2)]at q;refine⟨_,rfl,rfl,_,rfl,jV (λc=>?_) (λc3=>?_)⟩
 ·rw[zR (vt c)]at q;obtain⟨n,rfl⟩:=hd1 (hk (.inl (vt c)));exact⟨_,rfl,t,_,_,_,rfl,rfl,.of ht,rfl,q⟩
 rw[zH (vf c3)]at q;refine⟨_,rfl,rfl,_,rfl,jV (λc=>?_) (λc4=>?_)⟩
 ·rw[zR (vt c)]at q;obtain⟨n,rfl⟩:=hd1 (hk (.inr (.inl (vt c))));exact⟨_,rfl,t,_,_,_,rfl,rfl,.of ht,rfl,_,_,rfl,rfl,q⟩
 rw[zH (vf c4)]at q;refine⟨_,rfl,rfl,_,rfl,jV (λc=>?_) (λc5=>?_)⟩
 ·rw[zR (vt c)]at q;exact q
 rw[zH (vf c5)]at q;refine⟨_,rfl,rfl,_,rfl,jV (λcc=>?_) (λc6=>?_)⟩
 ·rw[zR (vt cc)]at q;obtain⟨n,rfl⟩:=hd1 (hk (.inr (.inr (vt cc))));obtain⟨n0,n1⟩:=hk6 (vt cc);have n1':n.toNat<cnt.length:=n1;have n0':0<=n:=n0;have ln:rs.length=cnt.length:=Paired.len pr;have e1:cnt[n.toNat]? =some cnt[n.toNat]:=zG n1';have e2:rs[n.toNat]? =some rs[n.toNat]:=zG (by lia);obtain⟨tt,er,et⟩:=Paired.get pr _ _ _ e2 e1;have av:KW rs n=some (.ref tt):=GV n0' (by rw[e2,er]);refine⟨_,rfl,_,rfl,t,_,_,_,rfl,rfl,.of ht,rfl,c,rs,n,_,rfl,rfl,.of eh,av,tt,_,_,_,rfl,rfl,.of et,rfl,?_⟩;have:(cnt[([n].headD 0).toNat]?).getD 0=cnt[n.toNat]:=by
   show(cnt[n.toNat]?).getD 0=_;rw[e1];rfl
  rw[this]at q;exact q
 ·rw[zH (vf c6)]at q;have n0:=vf c0;have n1:=vf c1;have n2:=vf c2;have n3:=vf c3;have n4:=vf c4;have n5:=vf c5;have n6:=vf c6;exact⟨_,rfl,k,rfl,by lia,h1,q⟩
theorem LV (d:Nat)(hd10:d<=10)(T:Txt K mg aP aW aH CT CR)(F:wQ K "read_node" "read_node" BW f fd)(Ca:Ds P w K mg base 1 "NoText" CT ["self","at"] (wG CT))(Cf:uP P w K mg base 4 "take_kind" ["reading","boxes"] (HD CR CT))
  (Cd:uP P w K mg base 6 "take_own_texts" ["reading","kind","boxes"] (JU CR CT)) (Cb:uP P w K mg base 2 "parts_due" ["kind","numbers","heads"] Kc)
  (Cq:uP P w K mg base (6+d) "read_node" ["reading","boxes","deep"] (Su CR CT d)):AX P w K mg base (6+d+1) f fd ["reading","boxes","deep"] (EN CR CT d):=by
 refine F.oX Bo λcdv A outer s H vs Q E hr h=>?_;obtain⟨A,bx,W,bs,num,cnt,a,bd,rfl,_,N,nok,q⟩:=h;refine⟨_,(zE (xS (yH Hf (pv 2) (yS rfl T.m_MOST_DEEP) (yU _)) (zQ (jW Ca hr rfl (zB (xU (pv 0) rfl) zI))) yR)
   (zE (xI (i:=3) Bo.nd rfl (Or.inl rfl) (yF Cf hr rfl (zB (pv 0) (zB (pv 1) zI)) jC))
   (zE (xI (i:=4) Bo.nd rfl (Or.inl rfl) (yF Cd hr rfl (zB (pv 0) (zB (pv 3) (zB (pv 1) zI))) jC))
   (zE (jO (uE yB yL yK jX (xU (pv 0) rfl) (zB (pv 3) zI)))
   (zE (jO (uE yB PySem.F.slot_list_extend PySem.F.type_list_extend NA (xU (pv 0) rfl) (zB (pv 4) zI)))
   (zQ (BA (EX rfl rfl) rfl (Di rfl T.n_range (zB (yF Cb hr rfl (zB (pv 3) (zB (pv 4) (zB (xU (pv 0) rfl) zI))) jC) zI)) (jP (i:=5) Bo.nd rfl (Or.inl rfl)) (zQ (jO (yF Cq hr rfl (zB (pv 0) (zB (pv 1) (zB (xZ uV (pv 2) yE) zI))) jC)))))))))),?_⟩
 try dsimp only[Cx.nox,Cx.exc,Cx.wish,xQ]
 refine⟨_,rfl,_,_,rfl,rfl,_,rfl,jV (λc=>?_) (λc=>?_)⟩
 ·have c':=zO c;obtain rfl:d=0:=by lia
  exact⟨_,rfl,A.rd,CR,A.dr,_,_,rfl,N.w.rd,T.cls,T.f_at,rfl,sm1,vC (kA.one q)⟩
 have c':=df c;obtain⟨d,rfl⟩: ∃d',d=d'+1:=⟨d-1,by lia⟩;refine⟨_,rfl,_,rfl,A,W,a,bx,bs,rfl,N.w,N.box,?_⟩;unfold Bi at q;cases e1:Ea W a bs with
 |error n=>rw[e1]at q;exact kA.one q
 |ok k=>
 rw[e1]at q;dsimp only at q;obtain⟨al,kq⟩:=Mb e1;have R1:=N.w.put k.2;have k1:jG [A.rd,A.bd] H (upd H A.rd (BQ CR A k.2)):=jG.upd (zM ..);have lv1: ∀b,upd H A.rd (BQ CR A k.2) b=none->H b=none:=vG (λ_ z=>z) N.w.rd;have nun:A.nu≠A.rd:=λz=>by have:=N.nu;rw[z,N.w.rd]at this;cases this
 refine⟨_,rfl,_,rfl,_,rfl,A,W,k.2,k.1,bx,bs,num,rfl,R1,by rw[zT (N.w.ne N.box)];exact N.box,by rw[zT nun];exact N.nu,?_⟩;cases e2:Ed W num k.2 k.1 bs with
 |error n=>rw[e2]at q;exact(kA.mono q k1).sub (λx hx=>by rw[List.mem_singleton.mp hx];exact zM ..)
 |ok r=>
 rw[e2]at q;dsimp only at q;intro t H2 kp2 lv2 rd2 et2;obtain⟨o1,o2,o3,o4,o5,o6,o7⟩:=Os e2 (by lia);have k2:jG [A.rd,A.bd] H H2:=k1.trans (λb o nb e=>kp2 b o (λz=>nb (by rw[List.mem_singleton.mp z];exact zM ..)) e);have lst2: ∀{x:Addr} {xs:List V},H x=some (.lst xs)->H2 x=some (.lst xs):=fun{x xs} e=>kp2 x _ (λz=>N.w.ne e (List.mem_singleton.mp z)) (by rw[zT (N.w.ne e)];exact e);have bd2:=lst2 N.bd;have ht2:uJ H H2:=λb xs e=>by
  have nb:b≠A.rd:=λz=>by rw[z,N.w.rd]at e;cases e
  exact kp2 b _ (λz=>nb (List.mem_singleton.mp z)) (by rw[zT nb];exact e)
 have nu2:H2 A.nu=some (.dK (Gm num)):=kp2 _ _ (λz=>nun (List.mem_singleton.mp z)) (by rw[zT nun];exact N.nu);have nrb:A.rd≠A.bd:=Ne.symm (N.w.ne N.bd);have few:=N.few;have le:=N.le;have hWk:=N.w.ok.few;have hbl:(bd.map V.int).length =bd.length:=zF ..;refine⟨_,rfl,A.rd,CR,A.dr,_,_,rfl,rd2,T.cls,T.f_bodies,rfl,.inl ⟨rfl,_,.of bd2⟩,_,rfl,A.bd,_,_,rfl,rfl,bd2,Af (by lia),?_⟩;have rd3:upd H2 A.bd (.lst (bd.map V.int++[.int k.1])) A.rd=some (BQ CR A r.2):=by rw[zT nrb];exact rd2
 have tb:t≠A.bd:=λz=>by rw[z,bd2]at et2;cases et2
 have et3:upd H2 A.bd (.lst (bd.map V.int++[.int k.1])) t=some (.tup (r.1.map V.int)):=by rw[zT tb];exact et2
 refine⟨_,rfl,A.rd,CR,A.dr,_,_,rfl,rd3,T.cls,T.f_bodies,rfl,.inl ⟨rfl,_,.of zK⟩,_,rfl,A.bd,t,_,_,rfl,rfl,zK,et3,EY (by rw[zC,zF,zF];show bd.length+1+r.1.length<=_;lia),?_⟩;rw[FW];have eb:bd.map V.int++[V.int k.1]++r.1.map V.int=(bd++k.1::r.1).map V.int:=by simp
 rw[eb];have et4:upd H2 A.bd (.lst ((bd++k.1::r.1).map V.int)) t=some (.tup (r.1.map V.int)):=by rw[zT tb];exact et2
 have k4:jG [A.rd,A.bd] H (upd H2 A.bd (.lst ((bd++k.1::r.1).map V.int))):=k2.trans (jG.upd (zN _ (zM ..)));have lv4: ∀b,upd H2 A.bd (.lst ((bd++k.1::r.1).map V.int)) b=none->H b=none:=vG (λb z=>lv1 b (lv2 b z)) bd2;have ht4:uJ H (upd H2 A.bd (.lst ((bd++k.1::r.1).map V.int))):=λb xs e=>by
  have:=ht2 b xs e;rw[zT (λz=>by rw[z,bd2]at this;cases this)];exact this
 have N4:Sg CR A (upd H2 A.bd (.lst ((bd++k.1::r.1).map V.int))) bx W bs num cnt r.2 (bd++k.1::r.1):=by
  refine⟨⟨by rw[zT nrb];exact rd2,by rw[zT (Ne.symm N.n1)];exact lst2 N.w.wd,N.w.ok⟩,by rw[zT (Ne.symm N.n2)];exact lst2 N.box,?_,N.cn.tups (λxs e=>by rw[zT (Ne.symm N.n3)];exact lst2 e) ht4,zK,N.n1,N.n2,N.n3,o1,?_⟩
  ·rw[zT (λz=>by rw[z,bd2]at nu2;cases nu2)];exact nu2
  ·rw[zC,zJ]
   rcases kq with⟨ka,kb⟩|⟨ka,kb,kc⟩
   ·have:=o3 ka;lia
   ·lia
 generalize upd H2 A.bd (.lst ((bd++k.1::r.1).map V.int))=H4 at *
 generalize bd++k.1::r.1=bd4 at *
 have d6:k.1=6->0<=r.1.headD 0/\(r.1.headD 0).toNat <cnt.length:=λz=>by
  rw[z]at e2;obtain⟨x,ex⟩:=SS e2;exact nok.there _ _ ex
 refine⟨_,rfl,_,rfl,_,rfl,A.rd,CR,A.dr,_,_,rfl,N4.w.rd,T.cls,T.f_counted,rfl,k.1,t,A.cn,r.1,cnt,rfl,et4,N4.cn,?_,?_,o6,d6,?_⟩
 ·rcases kq with⟨ka,kb⟩|⟨ka,kb,kc⟩<;>lia
 ·rcases kq with⟨ka,kb⟩|⟨ka,kb,kc⟩<;>lia
 obtain⟨n1,n2⟩:=RT nok.near o7;generalize ID cnt k.1 r.1=nd at *
 generalize er:vY (Bi W num cnt bs d) nd.toNat r.2 bd4=res at q;refine⟨_,rfl,by lia,by lia,Fb (λi σ' H'=> ∃a' bd' v5,σ'=[some (.ref A.rd),some (.ref bx),some (.int (11-((d+1:Nat):Int))),some (.int k.1),some (.ref t),v5]/\jG [A.rd,A.bd] H H'/\(∀b,H' b=none->H b=none)/\Sg CR A H' bx W bs num cnt a' bd'/\
  vY (Bi W num cnt bs d) (nd.toNat-i) a' bd'=res) ⟨_,_,_,rfl,k4,lv4,N4,er⟩ ?_ ?_⟩
 ·rintro i σ' H' hi ⟨a',bd',v5,rfl,kp',lv',N',ep⟩;refine⟨_,rfl,_,rfl,_,rfl,_,_,rfl,rfl,A,bx,W,bs,num,cnt,a',bd',?_,by lia,N',nok,?_⟩
  ·show[V.ref A.rd,.ref bx,.int (11-((d+1:Nat):Int)+1)]=[V.ref A.rd,.ref bx,.int (11-(d:Int))];rw[show(11-((d+1:Nat):Int)+1)=11-(d:Int)by lia]
  have hs:nd.toNat-i=(nd.toNat-(i+1))+1:=by lia
  rw[hs]at ep;unfold vY at ep;cases e3:Bi W num cnt bs d a' bd' with
  |error n=>
   rw[e3]at ep;rw[<-ep]at q;exact kA.mono q kp'
  |ok z=>
   rw[e3]at ep;dsimp only at ep;exact λH5 k5 lv5 N5=>⟨_,_,_,rfl,kp'.trans k5,λb e=>lv' b (lv5 b e),N5,ep⟩
 ·rintro σ' H' ⟨a',bd',v5,rfl,kp',lv',N',ep⟩;rw[Nat.sub_self]at ep;unfold vY at ep;rw[<-ep]at q;exact q H' kp' lv' N'
theorem RH {lo:Int}{n:Nat}{g:TG}{tb:TS}{D:Eg}{σ:St}{H:Hp}(Pv:Nat->St->Hp->Prop)(h0:Pv 0 σ H)
  (hs: ∀i σ H,i<n->Pv i σ H->g (.int (lo-(i:Nat))) σ H λσ2 H2=>tb {D with nx:=Pv (i+1),ct:=Pv (i+1),bk:=D.nx} σ2 H2) (hd: ∀σ H,Pv n σ H->D.nx σ H):
  ∃W:Nat->Nat->St->Hp->Prop,(∃m,W 0 m σ H)/\ ∀i m σ H,W i m σ H->
   ((WS lo n).stop i H/\D.nx σ H)\/((WS lo n).go i H/\ ∃N:St->Hp->Prop,(∀σ' H',N σ' H'-> ∃m',m'<m/\W (i+1) m' σ' H')/\ ∀x H',(WS lo n).yld i H x H'->g x σ H' λσ2 H2=>tb {D with nx:=N,ct:=N,bk:=D.nx} σ2 H2):=by
 refine⟨λi m σ H=>m=n-i/\i<=n/\Pv i σ H,⟨n,by simp,xA _,h0⟩,?_⟩;rintro i m σ H ⟨rfl,hi,p⟩
 by_cases hlt:i<n
 ·refine .inr ⟨hlt,Pv (i+1),λσ' H' p'=>⟨n-(i+1),by lia,rfl,hlt,p'⟩,λx H' y=>?_⟩;obtain⟨e,y⟩:=y;subst e y;exact hs i σ _ hlt p
 ·have e:i=n:=by lia
  subst e;exact .inl ⟨zP _,hd σ H p⟩
inductive Fw (vs:List V) (H:Hp) (Q:VK) (E:XK):Prop
 |mk (wd:Addr) (W:List Str) (h0:vs=[.ref wd]) (h1:H wd=some (.lst (W.map V.str))) (h2:W.length<=1000000) (h3: ∀p H',H p=none->qH H H'->H' p=some (.dK (Gm (EA W)))->Q (.ref p) H'):Fw vs H Q E
inductive Kd (vs:List V) (H:Hp) (Q:VK) (E:XK):Prop
 |mk (wd:Addr) (W:List Str) (h0:vs=[.ref wd]) (h1:H wd=some (.lst (W.map V.str))) (h2:W.length<=1000000) (h3: ∀p H',H p=none->qH H H'->Dr H' p (Ee W)->Q (.ref p) H'):Kd vs H Q E
theorem HH (x y:Str):decide (V.str x=V.str y)=decide (x=y):=by
 by_cases z:x=y
 ·rw[z,yA rfl,yA rfl]
 ·rw[yD z,yD (λe=>z (by injection e))]
theorem LS (T:Txt K mg aP aW aH CT CR)(F:wQ K "number_names" "number_names" Bx f fd):AX P w K mg base 1 f fd ["words"] Fw:=by
 refine F.oN wR λcdv A outer s H vs Q E hr h=>?_;obtain⟨wd,W,rfl,hw,hl,q⟩:=h;refine⟨_,(zE (xI (i:=1) wR.nd rfl (Or.inl rfl) QR)
   (zE (xI (i:=2) wR.nd rfl (Or.inl rfl) yE)
   (zE (BA kK rfl (Di rfl T.n_range (zB (xL xJ rfl T.n_len kN (zB (pv 0) zI)) zI)) (jP (i:=3) wR.nd rfl (Or.inl rfl)) (zQ (xS (yH jY (kG qY (pv 0) (pv 3) (λ_ _=>rfl)) qR (yU _)) (zE (xS (yH Gj (xZ uV (pv 3) yE) (xL xJ rfl T.n_len kN (zB (pv 0) zI)) (yU _)) (zQ (jO (QQ (pv 1) (kG qY (pv 0) (xZ uV (pv 3) yE) (λ_ _=>rfl)) (pv 2) ⟨rfl,rfl,rfl,rfl⟩))) yR)
   (zQ (UL (i:=2) wR.nd rfl (Or.inl rfl) yE Vq))) yR)))
   (zQ (yO (pv 1)))))),?_⟩
 try dsimp only[Cx.nox,Cx.exc,Cx.wish,xQ]
 intro p hp;have nw:wd≠p:=zS hw hp;have hwp: ∀o,upd H p o wd=some (.lst (W.map V.str)):=λo=>by rw[zT nw];exact hw
 have hz:(W.map V.str).length =W.length:=zF ..;refine⟨_,rfl,wd,_,rfl,.inl (.of (hwp _)),_,rfl,by lia,by lia,Fb (λi σ' H'=> ∃(g:Int) (acc:List (Str×Int)) (v3:Option V),σ'=[some (.ref wd),some (.ref p),some (.int g),v3]/\H'=upd H p (.dK (Gm acc))/\FK (W.drop i) g acc=EA W/\acc.length<=i) ⟨0,[],none,rfl,rfl,rfl,zP _⟩ ?_ ?_⟩
 ·rintro i σ' H' hi ⟨g,acc,v3,rfl,rfl,eg,la⟩;have hi':i<W.length:=by lia
  have e1:W[i]? =some W[i]:=zG hi';rw[xY hi']at eg;generalize W[i]=x at e1 eg;have atx:KW (W.map V.str) ((0:Int)+(i:Int))=some (.str x):=by
   rw[Int.zero_add];exact Bt (by rw[zW,e1];rfl)
  refine⟨_,rfl,_,rfl,wd,_,_,_,rfl,rfl,.of (hwp _),atx,rfl,_,rfl,?_⟩;rw[HH];unfold FK at eg;refine jV (λc=>?_) (λc=>?_)
  ·rw[zR (zO c)]at eg;refine⟨_,rfl,_,_,rfl,rfl,_,rfl,wd,_,rfl,.inl (.of (hwp _)),_,_,rfl,rfl,_,rfl,jV (λc2=>?_) (λc2=>?_)⟩
   ·have c2':=zO c2;have hi2:i+1<W.length:=by lia
    have e2:W[i+1]? =some W[i+1]:=zG hi2;rw[xY hi2]at eg;generalize ey:W[i+1]=y at e2 eg;have aty:KW (W.map V.str) ((0:Int)+(i:Int)+1)=some (.str y):=by
     have:=Bt (xs:=W.map V.str) (j:=i+1) (v:=.str y) (by rw[zW,e2];rfl);rw[show(((i+1:Nat):Int))=(0:Int)+(i:Int)+1 by lia]at this;exact this
    dsimp only at eg;refine⟨_,rfl,p,rfl,.inl ⟨_,.inl zK⟩,_,rfl,_,rfl,_,_,rfl,rfl,wd,_,_,_,rfl,rfl,.of (hwp _),aty,_,rfl,Gm acc,Sum.inr y,zK,rfl,Af (by unfold Gm;rw[zF];lia),λv hv=>?_,λhv=>?_⟩
    ·rw[Eh]at hv;have hs:(kQ acc y).isSome =true:=by
      cases z:kQ acc y with
      |none=>rw[z]at hv;cases hv
      |some n=>rfl
     rw[hs,zR rfl]at eg;refine⟨_,rfl,_,_,rfl,rfl,?_⟩;exact⟨_,_,_,rfl,rfl,by rw[xY hi2,ey];exact eg,by lia⟩
    ·rw[Eh]at hv;have hs:(kQ acc y).isSome =false:=by
      cases z:kQ acc y with
      |none=>rfl
      |some n=>rw[z]at hv;cases hv
     rw[hs,zH (by decide)]at eg;rw[FW];refine⟨_,rfl,_,_,rfl,rfl,?_⟩;exact⟨_,acc++[(y,g)],_,rfl,by unfold Gm;rw[xH];rfl,by rw[xY hi2,ey];exact eg,by rw[zC];show acc.length+1<=i+1;lia⟩
   ·have c2':=df c2;have hn:W.drop (i+1)=[]:=Ao (by lia);rw[hn]at eg;refine⟨_,rfl,_,_,rfl,rfl,?_⟩;exact⟨_,_,_,rfl,rfl,by rw[hn];exact eg,by lia⟩
  ·rw[zH (kZ (Bool.eq_false_iff.mpr c))]at eg;exact⟨_,_,_,rfl,rfl,eg,by lia⟩
 ·rintro σ' H' ⟨g,acc,v3,rfl,rfl,eg,la⟩;rw[Ao (by lia)]at eg;have eg':acc=EA W:=eg;refine⟨_,rfl,q p _ hp (yQ hp _) ?_⟩;rw[zK,eg']
theorem Rl (T:Txt K mg aP aW aH CT CR)(F:wQ K "count_params" "count_params" Bz f fd):AX P w K mg base 1 f fd ["words"] Kd:=by
 refine F.oN wS λcdv A outer s H vs Q E hr h=>?_;obtain⟨wd,W,rfl,hw,hl,q⟩:=h;refine⟨_,(zE (xI (i:=1) wS.nd rfl (Or.inl rfl) (wJ zI))
   (zE (xI (i:=2) wS.nd rfl (Or.inl rfl) (xL xJ rfl T.n_len kN (zB (pv 0) zI)))
   (zE (BA kK rfl (SG rfl T.n_range (zB (xZ DR (xL xJ rfl T.n_len kN (zB (pv 0) zI)) yE) (zB (Uc Qq yE) (zB (Uc Qq yE) zI)))) (jP (i:=3) wS.nd rfl (Or.inl rfl)) (zE (Nj (xS (yH jY (kG qY (pv 0) (pv 3) (λ_ _=>rfl)) qR (yU _)) (zQ (xI (i:=2) wS.nd rfl (Or.inl rfl) (pv 3))) yR))
   (zQ (xS (yH jY (kG qY (pv 0) (pv 3) (λ_ _=>rfl)) qR (yU _)) (zQ (jO (uE yB yL yK jX (pv 1) (zB (wA (zB (xZ DR (xZ DR (pv 2) (pv 3)) yE) zI)) zI)))) yR))))
   (zE (jO (Nm yB PySem.F.slot_list_reverse PySem.F.type_list_reverse Nz (pv 1)))
   (zQ (yO (pv 1))))))),?_⟩
 try dsimp only[Cx.nox,Cx.exc,Cx.wish,xQ]
 refine⟨sm0,λp hp=>?_⟩;have nw:wd≠p:=zS hw hp;have hwp:upd H p (.lst []) wd=some (.lst (W.map V.str)):=by rw[zT nw];exact hw
 have hz:(W.map V.str).length =W.length:=zF ..;refine⟨_,rfl,wd,_,rfl,.inl (.of hwp),?_⟩;refine⟨_,rfl,wd,_,rfl,.inl (.of hwp),_,_,rfl,rfl,_,rfl,_,rfl,_,_,rfl,⟨by lia,by lia,by lia,by lia⟩,?_⟩;refine RH (λi σ' H'=> ∃(e:Int) (cs:List Int) (vs:List V) (v3:Option V),σ'=[some (.ref wd),some (.ref p),some (.int e),v3]/\qH H H'/\H' p=some (.lst vs)/\Paired (Ur H') vs cs.reverse/\i<=W.length/\AW (W.drop (W.length-i)) (W.length-i)=(e,cs)/\cs.length<=i)
  ⟨_,[],[],none,rfl,yQ hp _,zK,.nil,xA _,?_,zP _⟩ ?_ ?_
 ·rw[Nat.sub_zero,List.drop_length];show(((W.length:Nat):Int),([]:List Int))=_;rw[hz]
 ·rintro i σ' H' hi ⟨e,cs,vs,v3,rfl,sm,ep,pr,hil,ec,lc⟩;have hi':i<W.length:=by lia
  have hj:W.length-(i+1)<W.length:=by lia
  have e1:W[W.length-(i+1)]? =some W[W.length-(i+1)]:=zG hj;have ed:W.drop (W.length-(i+1))=W[W.length-(i+1)]::W.drop (W.length-i):=by
   rw[xY hj,show W.length-(i+1)+1=W.length-i by lia]
  have en:W.length-i=W.length-(i+1)+1:=by lia
  rw[en]at ec;rw[en]at ed;generalize W[W.length-(i+1)]=x at e1 ed;have atx:KW (W.map V.str) (((W.map V.str).length:Int)-1-(i:Int))=some (.str x):=by
   refine GV (by lia) ?_;rw[show(((W.map V.str).length:Int)-1-(i:Int)).toNat =W.length-(i+1)by lia,zW,e1];rfl
  have hw':=sm _ _ hw;have np: ∀{H2:Hp},qH H' H2->True:=λ_=>trivial;have step:AW (W.drop (W.length-(i+1))) (W.length-(i+1))=((if x="with" then((W.length-(i+1):Nat):Int)else e),if x="fun" then((if x="with" then((W.length-(i+1):Nat):Int)else e)-((W.length-(i+1):Nat):Int)-2)::cs else cs):=by
   rw[ed];unfold AW;rw[ec]
  have ej:((W.map V.str).length:Int)-1-(i:Int)=((W.length-(i+1):Nat):Int):=by lia
  generalize ee:(if x="with" then((W.length-(i+1):Nat):Int)else e)=e' at step;refine⟨λσ2 H2=>σ2=[some (.ref wd),some (.ref p),some (.int e'),some (.int (((W.map V.str).length:Int)-1-(i:Int)))]/\H2=H',?_,?_⟩
  ·refine⟨_,rfl,_,rfl,wd,_,_,_,rfl,rfl,.of hw',atx,rfl,_,rfl,?_⟩;rw[HH];refine jV (λc=>?_) (λc=>?_)
   ·rw[zR (zO c)]at ee;rw[ej,<-ee];exact⟨_,rfl,rfl,rfl⟩
   ·rw[zH (kZ (Bool.eq_false_iff.mpr c))]at ee;rw[<-ee];exact⟨rfl,rfl⟩
  rintro _ _ ⟨rfl,rfl⟩;rename_i H';refine⟨_,rfl,_,rfl,wd,_,_,_,rfl,rfl,.of hw',atx,rfl,_,rfl,?_⟩;rw[HH];refine jV (λc=>?_) (λc=>?_)
  ·rw[zR (zO c)]at step;refine⟨_,rfl,.inl ⟨rfl,_,.of ep⟩,_,rfl,_,rfl,_,_,rfl,rfl,_,_,rfl,rfl,sm1,λt ht=>?_⟩;have nt:p≠t:=zS ep ht;have lv:=Paired.len pr;rw[uB]at lv;have sm2: ∀o u,qH H (upd (upd H' t o) p u):=λo u b z ez=>by
    rw[zT (zS ez hp),zT (zS (sm _ _ ez) ht)];exact sm _ _ ez
   refine⟨p,_,_,rfl,rfl,by rw[zT nt];exact ep,Af (by lia),_,_,_,_,rfl,sm2 _ _,zK,?_,by lia,step,?_⟩
   ·rw[vE];refine Ac (Paired.imp (λv n z=>?_) pr) ⟨t,rfl,?_⟩
    ·obtain⟨t',rfl,et⟩:=z;refine⟨t',rfl,?_⟩;rw[zT (λz=>by rw[z,ep]at et;cases et),zT (zS et ht)];exact et
    ·rw[zT (Ne.symm nt),zK,ej]
   ·rw[zJ];lia
  ·rw[zH (kZ (Bool.eq_false_iff.mpr c))]at step;exact⟨_,_,_,_,rfl,sm,ep,pr,by lia,step,by lia⟩
 ·rintro σ' H' ⟨e,cs,vs,v3,rfl,sm,ep,pr,hil,ec,lc⟩;refine⟨_,rfl,.inl ⟨rfl,_,.of ep⟩,p,_,rfl,rfl,ep,_,rfl,q p _ hp (λb z ez=>?_) ⟨_,zK,?_⟩⟩
  ·rw[zT (zS ez hp)];exact sm _ _ ez
  ·have e0:cs=Ee W:=by
    have:W.length-(((W.map V.str).length:Int)-1- -1).toNat =0:=by lia
    rw[this,List.drop_zero]at ec;unfold Ee;rw[ec]
   rw[<-e0];have pr2:=Paired.rev pr;rw[List.reverse_reverse]at pr2;refine Paired.imp (λv n z=>?_) pr2;obtain⟨t',rfl,et⟩:=z;refine⟨t',rfl,?_⟩;rw[zT (λz=>by rw[z,ep]at et;cases et)];exact et
structure WM (C:Addr)(A:RA)(H H':Hp)(W:List Str):Prop where
 rd:H' A.rd=some (BQ C A 0)
 keep:jA A.rd H H'
 nm:H' A.nm=some (.lst [])
 hd:H' A.hd=some (.lst [])
 bd:H' A.bd=some (.lst [])
 nu:H' A.nu=some (.dK (Gm (EA W)))
 cn:Dr H' A.cn (Ee W)
 n1:A.nm≠A.hd
 n2:A.nm≠A.bd
 n3:A.hd≠A.bd
 n4:A.cn≠A.nm
 n5:A.cn≠A.hd
 n6:A.cn≠A.bd
 f1:H A.nm=none
 f2:H A.hd=none
 f3:H A.bd=none
 f4:H A.cn=none
theorem Lq {G G1:Hp}{x p:Addr}{i o:HO}(u:HO)(sm:qH G G1)(gx:G x=some i)(a:G p=none)(ep:G1 p=some o):G1 x=some i/\jA x G (upd G1 x u)/\upd G1 x u p=some o/\upd G1 x u x=some u/\ ∀b,upd G1 x u b=none->G b=none:=by
 have n:p≠x:=Ne.symm (zS gx a);refine⟨sm _ _ gx,λb v nb e=>?_,?_,zK,λb e=>?_⟩
 ·rw[zT nb];exact sm _ _ e
 ·rw[zT n];exact ep
 ·by_cases z:b=x
  ·rw[z,zK]at e;cases e
  ·rw[zT z]at e;exact sm.free e
theorem Dr.keep {H H':Hp}{x c:Addr}{cnt:List Int}{C dx:Addr}{fs:List (Str×V)}(h:Dr H c cnt)(k:jA x H H')(hx:H x=some (.ins C dx fs)):Dr H' c cnt:=
 h.tups (λxs e=>k _ _ (λz=>by rw[z,hx]at e;cases e) e) λb xs e=>k _ _ (λz=>by rw[z,hx]at e;cases e) e
inductive JZ (C:Addr) (vs:List V) (H:Hp) (Q:VK) (E:XK):Prop
 |mk (x dx wd:Addr) (W:List Str) (h0:vs=[.ref x,.ref wd]) (h1:H x=some (.ins C dx [])) (h2:H wd=some (.lst (W.map V.str))) (h3:W.length<=1000000) (h4: ∀A H',A.rd=x->A.dr=dx->A.wd=wd->WM C A H H' W->Q .non H'):JZ C vs H Q E
theorem Rh (T:Txt K mg aP aW aH CT CR)(F:wQ K "__init__" "Reading.__init__" uS f fd)(Ca4:uP P w K mg base 1 "number_names" ["words"] Fw)
  (Ca2:uP P w K mg base 1 "count_params" ["words"] Kd):AX P w K mg base 2 f fd ["self","words"] (JZ CR):=by
 refine F.oN Fe λcdv A outer s H vs Q E hr h=>?_;obtain⟨x,dx,wd,W,rfl,hx,hw,hl,q⟩:=h;refine⟨_,(zE (DN (pv 0) (pv 1) rfl)
   (zE (DN (pv 0) yE rfl)
   (zE (DN (pv 0) (wJ zI) rfl)
   (zE (DN (pv 0) (wJ zI) rfl)
   (zE (DN (pv 0) (wJ zI) rfl)
   (zE (DN (pv 0) (yF Ca4 hr rfl (zB (pv 1) zI) qI) rfl)
   (zQ (DN (pv 0) (yF Ca2 hr rfl (zB (pv 1) zI) qI) rfl)))))))),?_⟩
 try dsimp only[Cx.nox,Cx.exc,Cx.wish,xQ]
 have nwx:wd≠x:=λz=>by rw[z,hx]at hw;cases hw
 refine⟨_,rfl,_,rfl,x,CR,dx,_,rfl,hx,T.cls,T.f_words,(show 0<1000 by decide),?_⟩;refine⟨_,rfl,x,CR,dx,_,rfl,zK,T.cls,T.f_at,(show 1<1000 by decide),?_⟩;rw[FW];have live0: ∀{b:Addr} {o:HO},upd H x o b=none->H b=none:=fun{b o} e=>by
  by_cases z:b=x
  ·rw[z,zK]at e;cases e
  ·rw[zT z]at e;exact e
 have K0: ∀{o:HO},jA x H (upd H x o):=fun{o}=>jA.upd;generalize hG:upd H x _=G at *
 have gx:G x=some (.ins CR dx [("words",.ref wd),("at",.int 0)]):=by rw[<-hG];exact zK
 have gk:jA x H G:=by rw[<-hG];exact jA.upd
 have gl: ∀b,G b=none->H b=none:=λb e=>by rw[<-hG]at e;exact live0 e
 clear hG live0 K0;refine⟨sm0,λnm a1=>?_⟩;obtain⟨x1,k1,p1,y1,l1⟩:=Lq (.ins CR dx [("words",.ref wd),("at",.int 0),("names",.ref nm)]) (yQ a1 (.lst [])) gx a1 zK;refine⟨_,rfl,x,CR,dx,_,rfl,x1,T.cls,T.f_names,(show 2<1000 by decide),sm0,λhd a2=>?_⟩;obtain⟨x2,k2,p2,y2,l2⟩:=Lq (.ins CR dx [("words",.ref wd),("at",.int 0),("names",.ref nm),("heads",.ref hd)]) (yQ a2 (.lst [])) y1 a2 zK;refine⟨_,rfl,x,CR,dx,_,rfl,x2,T.cls,T.f_heads,(show 3<1000 by decide),sm0,λbd a3=>?_⟩;obtain⟨x3,k3,p3,y3,l3⟩:=Lq (.ins CR dx [("words",.ref wd),("at",.int 0),("names",.ref nm),("heads",.ref hd),("bodies",.ref bd)]) (yQ a3 (.lst [])) y2 a3 zK;refine⟨_,rfl,x,CR,dx,_,rfl,x3,T.cls,T.f_bodies,(show 4<1000 by decide),?_⟩;have k03:=gk.trans (k1.trans (k2.trans k3));refine⟨_,rfl,wd,W,rfl,k03 _ _ nwx hw,hl,λnu G4 a4 s4 e4=>?_⟩;obtain⟨x4,k4,p4,y4,l4⟩:=Lq (.ins CR dx [("words",.ref wd),("at",.int 0),("names",.ref nm),("heads",.ref hd),("bodies",.ref bd),("numbered",.ref nu)]) s4 y3 a4 e4;refine⟨_,rfl,x,CR,dx,_,rfl,x4,T.cls,T.f_numbered,(show 5<1000 by decide),?_⟩;refine⟨_,rfl,wd,W,rfl,(k03.trans k4) _ _ nwx hw,hl,λcn G5 a5 s5 e5=>?_⟩;obtain⟨vs,ev,pv⟩:=id e5;obtain⟨x5,k5,p5,y5,l5⟩:=Lq (.ins CR dx [("words",.ref wd),("at",.int 0),("names",.ref nm),("heads",.ref hd),("bodies",.ref bd),("numbered",.ref nu),("counted",.ref cn)]) s5 y4 a5 ev;refine⟨_,rfl,x,CR,dx,_,rfl,x5,T.cls,T.f_counted,(show 6<1000 by decide),?_⟩;have nx: ∀{G:Hp} {b:Addr} {i:HO},G x=some i->G b=none->b≠x:=λe a=>Ne.symm (zS e a);have m1:=nx gx a1;have m2:=nx y1 a2;have m3:=nx y2 a3;have m4:=nx y3 a4;have h2:=k2 _ _ m1 p1;have h3:=k3 _ _ m1 h2;have h4:=k4 _ _ m1 h3;have i3:=k3 _ _ m2 p2;have i4:=k4 _ _ m2 i3;have j4:=k4 _ _ m3 p3;refine q ⟨x,dx,wd,nm,hd,bd,nu,cn⟩ _ rfl rfl rfl ⟨y5,k03.trans (k4.trans k5),k5 _ _ m1 h4,k5 _ _ m2 i4,k5 _ _ m3 j4,k5 _ _ m4 p4,Dr.keep e5 jA.upd x5,zS p1 a2,zS h2 a3,zS p2 a3,
  Ne.symm (zS h4 a5),Ne.symm (zS i4 a5),Ne.symm (zS j4 a5),gl _ a1,gl _ (l1 _ a2),gl _ (l1 _ (l2 _ a3)),gl _ (l1 _ (l2 _ (l3 _ (l4 _ a5))))⟩
def FU (H:Hp)(v:V)(p:Str×List Str):Prop:= ∃t b,v=.ref t/\H t=some (.tup [.str p.1,.ref b])/\H b=some (.tup (p.2.map V.str))
theorem FU.tups {H H':Hp}{v:V}{p:Str×List Str}(h:FU H v p)(g:uJ H H'):FU H' v p:=by
 obtain⟨t,b,rfl,e1,e2⟩:=h;exact⟨t,b,rfl,g _ _ e1,g _ _ e2⟩
structure Xp (C:Addr)(A:RA)(H:Hp)(W:List Str)(num:List (Str×Int))(cnt:List Int)(s:RS):Prop where
 w:IT C A W H s.at_
 nm: ∃vs,H A.nm=some (.lst vs)/\Paired (FU H) vs s.names
 hd:H A.hd=some (.lst (s.heads.map V.int))
 bd:H A.bd=some (.lst (s.bodies.map V.int))
 nu:H A.nu=some (.dK (Gm num))
 cn:Dr H A.cn cnt
 n1:A.nm≠A.hd
 n2:A.nm≠A.bd
 n3:A.hd≠A.bd
 n4:A.cn≠A.nm
 n5:A.cn≠A.hd
 n6:A.cn≠A.bd
 w1:A.wd≠A.nm
 w2:A.wd≠A.hd
 w3:A.wd≠A.bd
 le:s.at_<=W.length
 few:s.bodies.length<=2*s.at_
 hfew:s.heads.length=2*s.names.length
 nfew:s.names.length<=16
def Qb (A:RA):List Addr:=[A.rd,A.bd,A.nm,A.hd]
inductive MW (C CT:Addr) (vs:List V) (H:Hp) (Q:VK) (E:XK):Prop
 |mk (A:RA) (W:List Str) (num:List (Str×Int)) (cnt:List Int) (s:RS) (h0:vs=[.ref A.rd]) (h1:Xp C A H W num cnt s) (h2:NW num cnt) (h3:Gx (λs'=> ∀H',jG (Qb A) H H'->(∀b,H' b=none->H b=none)->Xp C A H' W num cnt s'->Q .non H') (kA CT (Qb A) H E) (IS W num cnt s)):MW C CT vs H Q E
theorem GU {A:RA}:A.rd∈Qb A:=zM ..
theorem RZ {A:RA}:A.bd∈Qb A:=zN _ (zM ..)
theorem Vu {A:RA}:A.nm∈Qb A:=zN _ (zN _ (zM ..))
theorem Vv {A:RA}:A.hd∈Qb A:=zN _ (zN _ (zN _ (zM ..)))
structure KZ (C:Addr)(A:RA)(H Hi:Hp)(W:List Str)(num:List (Str×Int))(cnt:List Int)(bx:Addr)(bs:List Str)(a:Nat)(nv:List V)(hds bds:List Int):Prop where
 w:IT C A W Hi a
 nm:Hi A.nm=some (.lst nv)
 hd:Hi A.hd=some (.lst (hds.map V.int))
 bd:Hi A.bd=some (.lst (bds.map V.int))
 nu:Hi A.nu=some (.dK (Gm num))
 cn:Dr Hi A.cn cnt
 box:Hi bx=some (.lst (bs.map V.str))
 tup:uJ H Hi
 keep:jG (Qb A) H Hi
 live: ∀b,Hi b=none->H b=none
structure WZ (A:RA)(H:Hp)(bx:Addr):Prop where
 n1:A.nm≠A.hd
 n2:A.nm≠A.bd
 n3:A.hd≠A.bd
 n4:A.cn≠A.nm
 n5:A.cn≠A.hd
 n6:A.cn≠A.bd
 w1:A.wd≠A.nm
 w2:A.wd≠A.hd
 w3:A.wd≠A.bd
 b1:bx≠A.nm
 b2:bx≠A.hd
 b3:bx≠A.bd
 b4:bx≠A.wd
 b5:bx≠A.cn
 bn:H bx=none
section
variable {C:Addr}{A:RA}{H Hi Hj:Hp}{W:List Str}{num:List (Str×Int)}{cnt:List Int}{bx:Addr}{bs bs':List Str}{a a':Nat}{nv:List V}{hds bds:List Int}
theorem KZ.fail (m:KZ C A H Hi W num cnt bx bs a nv hds bds){E:XK}{n:Nat}(f:kA CT (Qb A) H E n)(hb:H bx=none):kA CT [A.rd,bx] Hi E n:=λd H' g e=>f d H' (λb o nb q=>g b o (λz=>by
 rcases List.mem_cons.mp z with z|z
 ·exact nb (z▸GU)
 ·rw[List.mem_singleton.mp z,hb]at q;cases q) (m.keep b o nb q)) e
theorem KZ.boxes (m:KZ C A H Hi W num cnt bx bs a nv hds bds)(p:WZ A H bx)(k:jG [A.rd,bx] Hi Hj)(lv: ∀b,Hj b=none->Hi b=none)(e1:Hj A.rd=some (BQ C A a'))(e2:Hj bx=some (.lst (bs'.map V.str))):KZ C A H Hj W num cnt bx bs' a' nv hds bds:=by
 have nx: ∀{b:Addr} {xs:List V},Hi b=some (.lst xs)->b≠bx->Hj b=some (.lst xs):=fun{b xs} e n=>k b _ (λz=>by
  rcases List.mem_cons.mp z with z|z
  ·exact m.w.ne e z
  ·exact n (List.mem_singleton.mp z)) e
 have tp:uJ Hi Hj:=λb xs e=>k b _ (λz=>by
  rcases List.mem_cons.mp z with z|z
  ·rw[z,m.w.rd]at e;cases e
  ·rw[List.mem_singleton.mp z,m.box]at e;cases e) e
 refine⟨⟨e1,nx m.w.wd (Ne.symm p.b4),m.w.ok⟩,nx m.nm (Ne.symm p.b1),nx m.hd (Ne.symm p.b2),nx m.bd (Ne.symm p.b3),k _ _ (λz=>?_) m.nu,m.cn.tups (λxs e=>nx e (Ne.symm p.b5)) tp,e2,λb xs e=>tp _ _ (m.tup _ _ e),λb o nb e=>k b o (λz=>?_) (m.keep b o nb e),λb e=>m.live b (lv b e)⟩
 ·have:=m.nu
  rcases List.mem_cons.mp z with z|z
  ·rw[z,m.w.rd]at this;cases this
  ·rw[List.mem_singleton.mp z,m.box]at this;cases this
 ·rcases List.mem_cons.mp z with z|z
  ·exact nb (z▸GU)
  ·rw[List.mem_singleton.mp z,p.bn]at e;cases e
theorem KZ.heads (m:KZ C A H Hi W num cnt bx bs a nv hds bds)(p:WZ A H bx)(hds':List Int):KZ C A H (upd Hi A.hd (.lst (hds'.map V.int))) W num cnt bx bs a nv hds' bds:=by
 have nx: ∀{b:Addr} {o:HO},b≠A.hd->Hi b=some o->upd Hi A.hd (.lst (hds'.map V.int)) b=some o:=λn e=>by rw[zT n];exact e
 have tp:uJ Hi (upd Hi A.hd (.lst (hds'.map V.int))):=λb xs e=>nx (λz=>by rw[z,m.hd]at e;cases e) e;exact⟨⟨nx (Ne.symm (m.w.ne m.hd)) m.w.rd,nx p.w2 m.w.wd,m.w.ok⟩,nx p.n1 m.nm,zK,nx (Ne.symm p.n3) m.bd,nx (λz=>by have:=m.nu;rw[z,m.hd]at this;cases this) m.nu,m.cn.tups (λxs e=>nx p.n5 e) tp,nx p.b2 m.box,λb xs e=>tp _ _ (m.tup _ _ e),
  m.keep.trans (jG.upd Vv),vG m.live m.hd⟩
theorem KZ.same (m:KZ C A H Hi W num cnt bx bs a nv hds bds)(g:qH Hi Hj):KZ C A H Hj W num cnt bx bs a nv hds bds:=
 ⟨⟨g _ _ m.w.rd,g _ _ m.w.wd,m.w.ok⟩,g _ _ m.nm,g _ _ m.hd,g _ _ m.bd,g _ _ m.nu,m.cn.tups (λxs e=>g _ _ e) λb xs e=>g _ _ e,g _ _ m.box,λb xs e=>g _ _ (m.tup _ _ e),m.keep.trans (jG.same g),λb e=>m.live b (g.free e)⟩
theorem KZ.named (m:KZ C A H Hi W num cnt bx bs a nv hds bds)(p:WZ A H bx)(nv':List V):KZ C A H (upd Hi A.nm (.lst nv')) W num cnt bx bs a nv' hds bds:=by
 have nx: ∀{b:Addr} {o:HO},b≠A.nm->Hi b=some o->upd Hi A.nm (.lst nv') b=some o:=λn e=>by rw[zT n];exact e
 have tp:uJ Hi (upd Hi A.nm (.lst nv')):=λb xs e=>nx (λz=>by rw[z,m.nm]at e;cases e) e;exact⟨⟨nx (Ne.symm (m.w.ne m.nm)) m.w.rd,nx p.w1 m.w.wd,m.w.ok⟩,zK,nx (Ne.symm p.n1) m.hd,nx (Ne.symm p.n2) m.bd,nx (λz=>by have:=m.nu;rw[z,m.nm]at this;cases this) m.nu,m.cn.tups (λxs e=>nx p.n4 e) tp,nx p.b1 m.box,λb xs e=>tp _ _ (m.tup _ _ e),
  m.keep.trans (jG.upd Vu),vG m.live m.nm⟩
theorem KZ.nd (m:KZ C A H Hi W num cnt bx bs a nv hds bds)(p:WZ A H bx)(le:a<=W.length)(few:bds.length<=2*a):Sg C A Hi bx W bs num cnt a bds:=
 ⟨m.w,m.box,m.nu,m.cn,m.bd,Ne.symm p.w3,Ne.symm p.b3,Ne.symm p.n6,le,few⟩
end
theorem Td (T:Txt K mg aP aW aH CT CR)(F:wQ K "read_function" "read_function" uN f fd)(Ca:Ds P w K mg base 1 "NoText" CT ["self","at"] (wG CT))(Ci:uP P w K mg base 3 "due" ["reading"] (DD CR CT))
  (Ch:uP P w K mg base 4 "take_new_name" ["reading","there"] (JX CR CT)) (Cv:uP P w K mg base 5 "take_boxes" ["reading","boxes","most","last"] (HW CR CT))
  (Cq:uP P w K mg base 17 "read_node" ["reading","boxes","deep"] (EN CR CT 10)):AX P w K mg base 18 f fd ["reading"] (MW CR CT):=by
 refine F.okX Ay (λvs H Q E h=>?_) (λcdv Ar outer s0 H vs Q E hr h=>?_)
 ·obtain⟨A,W,num,cnt,s,rfl,_⟩:=h;rfl
 obtain⟨A,W,num,cnt,s,rfl,R,nok,q⟩:=h;refine⟨_,(zE (xS (PW.pt (uD (yH Ik (yF Ci hr rfl (zB (pv 0) zI) jC) qR (yU _)) (vX (yH jY (xL xJ rfl T.n_len kN (zB (xU (pv 0) rfl) zI)) (yS rfl T.m_MOST_FUNCTIONS) (yU _))))) (zQ (jW Ca hr rfl (zB (xU (pv 0) rfl) zI))) yR)
   (zE (Aa (pv 0) yE ED)
   (zE (xI (i:=1) Ay.nd rfl (Or.inl rfl) (yF Ch hr rfl (zB (pv 0) (zB (SM (own:=["named"]) (ys:=[]) rfl (Kl (xU (pv 0) rfl)) (GQ (sc:=zY uN) rfl (by decide+kernel)) .nil (λ_ _ _ _ _=>(jP (i:=0) (show List.Nodup [("named":Str)]from(by decide+kernel)) rfl (Or.inl rfl))) (λ_ _ _ _ _=>Oo) (λ_ _ _ _ _=>(kG (Tk K rfl) (pv 0) yE (λ_ _=>rfl)))) zI)) jC))
   (zE (xI (i:=2) Ay.nd rfl (Or.inl rfl) (wJ zI))
   (zE (jO (yF Cv hr rfl (zB (pv 0) (zB (pv 2) (zB (UT (LF (xU (pv 0) rfl) (λ_=>rfl)) (yS rfl T.m_MOST_PARAMS) yE) (zB qR zI)))) jC))
   (zE (jO (uE yB yL yK jX (xU (pv 0) rfl) (zB (xL xJ rfl T.n_len kN (zB (pv 2) zI)) zI)))
   (zE (jO (yF Cv hr rfl (zB (pv 0) (zB (pv 2) (zB (yS rfl T.m_MOST_BOXES) (zB qR zI)))) jC))
   (zE (jO (uE yB yL yK jX (xU (pv 0) rfl) (zB (xL xJ rfl T.n_len kN (zB (pv 2) zI)) zI)))
   (zE (jO (uE yB yL yK jX (xU (pv 0) rfl) (zB (wA (zB (pv 1) (zB (vQ CV rfl T.n_tuple IF (zB (pv 2) zI)) zI))) zI)))
   (zQ (jO (yF Cq hr rfl (zB (pv 0) (zB (pv 2) (zB yE zI))) jC)))))))))))),?_⟩
 try dsimp only[Cx.nox,Cx.exc,Cx.wish,xQ]
 obtain⟨nv,env,pnv⟩:=R.nm;have hnl:=Paired.len pnv;refine⟨_,rfl,A,W,s.at_,rfl,R.w,?_⟩;unfold IS at q;cases e1:W[s.at_]? with
 |none=>
  rw[e1]at q;rw[show uA W s.at_=.error s.at_ by unfold uA;rw[e1]];exact kA.one q
 |some x=>
 rw[e1]at q;dsimp only at q;rw[show uA W s.at_=.ok x by unfold uA;rw[e1]];have al:=FN e1;have fail:AY CT H E (s.at_:Int)-> ∀(D:Eg) (σ:St),True:=λ_ _ _=>trivial;refine⟨rfl,_,rfl,?_⟩;rw[HH]
 by_cases cx:x="fun"
 ·rw[yA cx];have hnv:((nv.length:Nat):Int)=(s.names.length:Int):=by lia
  refine AM ⟨_,rfl,A.rd,CR,A.dr,_,_,rfl,R.w.rd,T.cls,T.f_names,rfl,A.nm,_,rfl,.inl (.of env),rfl,_,rfl,jV (λc=>?_) (λc=>?_)⟩
  ·have c':=vt c;rw[zR (.inr (by lia))]at q;exact⟨_,rfl,A.rd,CR,A.dr,_,_,rfl,R.w.rd,T.cls,T.f_at,rfl,sm1,vC (kA.one q)⟩
  have c':=vf c;have nf:=R.nfew;rw[zH (λz=>z.elim (λz=>z cx) (λz=>by lia))]at q;refine⟨_,rfl,A.rd,CR,A.dr,_,_,rfl,R.w.rd,T.cls,T.f_at,rfl,_,_,rfl,rfl,A.dr,_,R.w.rd,(show 7<1000 by decide),?_⟩;have R1:=R.w.put (s.at_+1);have nm1:upd H A.rd (BQ CR A (s.at_+1)) A.nm=some (.lst nv):=by rw[zT (R.w.ne env)];exact env
  have np1: ∀{b:Addr},upd H A.rd (BQ CR A (s.at_+1)) b=none->H b=none:=fun{b} e=>vG (λ_ z=>z) R.w.rd b e;have k1:jG (Qb A) H (upd H A.rd (BQ CR A (s.at_+1))):=jG.upd GU;have tp1:uJ H (upd H A.rd (BQ CR A (s.at_+1))):=λb xs e=>by rw[zT (λz=>by rw[z,R.w.rd]at e;cases e)];exact e
  refine⟨_,rfl,_,rfl,A.rd,CR,A.dr,_,_,rfl,zK,T.cls,T.f_names,rfl,A.nm,rfl,⟨_,.of nm1⟩,λp hp=>?_⟩;have pm:A.nm≠p:=zS nm1 hp;have pr:A.rd≠p:=zS R1.rd hp;refine My (xs:=nv) (λi σ' H'=>H'=upd (upd H A.rd (BQ CR A (s.at_+1))) p (.lst (((s.names.map (·.1)).take i).map V.str))/\ ∃x,σ'=[x]) ⟨rfl,_,rfl⟩ ?_ ?_ ?_
  ·rintro i σ' H' hi ⟨rfl,_⟩;exact .of (by rw[zT pm];exact nm1)
  ·rintro i v σ' H' hi hv ⟨rfl,x0,rfl⟩;have hi2:i<s.names.length:=by lia
   obtain⟨t,b,rfl,et,eb⟩:=Paired.get pnv _ _ _ hv (zG hi2);have et1:=tp1 _ _ et;refine⟨_,rfl,t,_,_,_,rfl,rfl,.of (by rw[zT (zS et1 hp)];exact et1),rfl,_,zK,Af ?_,CW.next hi ⟨?_,_,rfl⟩⟩
   ·rw[zF];have:=List.length_take_le i (s.names.map (·.1));lia
   ·rw[FW,An,zW,zG hi2,xH];rfl
  rintro σ' H' ⟨rfl,_⟩;rw[kO (by rw[zF];lia)];have s2:qH (upd H A.rd (BQ CR A (s.at_+1))) (upd (upd H A.rd (BQ CR A (s.at_+1))) p (.lst ((s.names.map (·.1)).map V.str))):=yQ hp _;have R2:IT CR A W (upd (upd H A.rd (BQ CR A (s.at_+1))) p (.lst ((s.names.map (·.1)).map V.str))) (s.at_+1):=⟨s2 _ _ R1.rd,s2 _ _ R1.wd,R1.ok⟩;refine⟨A,W,s.at_+1,p,s.names.map (·.1),rfl,R2,zK,?_⟩;cases e2:Fg W (s.at_+1) (s.names.map (·.1))with
  |error n=>rw[e2]at q;exact(kA.mono q (k1.trans (jG.same s2))).one
  |ok name=>
  rw[e2]at q;dsimp only at q;have R3:=R2.put (s.at_+1+1);refine⟨sm0,λbx hb=>?_⟩;have s4:=yQ hb (.lst []);have kb: ∀{b:Addr} {o:HO},b≠A.rd->H b=some o->upd (upd (upd (upd H A.rd (BQ CR A (s.at_+1))) p (.lst ((s.names.map (·.1)).map V.str))) A.rd (BQ CR A (s.at_+1+1))) bx (.lst []) b=some o:=fun{b o} n e=>
   s4 _ _ (by rw[zT n];exact s2 _ _ (by rw[zT n];exact e))
  have lv4: ∀b,upd (upd (upd (upd H A.rd (BQ CR A (s.at_+1))) p (.lst ((s.names.map (·.1)).map V.str))) A.rd (BQ CR A (s.at_+1+1))) bx (.lst []) b=none->H b=none:=λb e=>np1 (s2.free (vG (λ_ z=>z) R2.rd b (s4.free e)));have hbn:H bx=none:=np1 (s2.free (vG (λ_ z=>z) R2.rd bx hb));have ap:WZ A H bx:=⟨R.n1,R.n2,R.n3,R.n4,R.n5,R.n6,R.w1,R.w2,R.w3,Ne.symm (zS env hbn),Ne.symm (zS R.hd hbn),Ne.symm (zS R.bd hbn),Ne.symm (zS R.w.wd hbn),Ne.symm (by obtain⟨vs,e,_⟩:=R.cn;exact zS e hbn),hbn⟩;have tp4:uJ H (upd (upd (upd (upd H A.rd (BQ CR A (s.at_+1))) p (.lst ((s.names.map (·.1)).map V.str))) A.rd (BQ CR A (s.at_+1+1))) bx (.lst [])):=λb xs e=>kb (λz=>by rw[z,R.w.rd]at e;cases e) e;have M:KZ CR A H (upd (upd (upd (upd H A.rd (BQ CR A (s.at_+1))) p (.lst ((s.names.map (·.1)).map V.str))) A.rd (BQ CR A (s.at_+1+1))) bx (.lst [])) W num cnt bx [] (s.at_+2) nv s.heads s.bodies:=
   ⟨⟨s4 _ _ R3.rd,s4 _ _ R3.wd,R.w.ok⟩,kb (R.w.ne env) env,kb (R.w.ne R.hd) R.hd,kb (R.w.ne R.bd) R.bd,kb (λz=>by have:=R.nu;rw[z,R.w.rd]at this;cases this) R.nu,R.cn.tups (λxs e=>kb (R.w.ne e) e) tp4,zK,tp4,λb o nb e=>kb (λz=>nb (z▸GU)) e,lv4⟩
  generalize upd (upd (upd (upd H A.rd (BQ CR A (s.at_+1))) p (.lst ((s.names.map (·.1)).map V.str))) A.rd (BQ CR A (s.at_+1+1))) bx (.lst [])=H4 at M;clear s4 kb lv4 tp4 s2 R2 R3;obtain⟨mo,emo⟩: ∃mo:Nat,mo=(if s.names=[]then 0 else 4):=⟨_,rfl⟩;rw[<-emo]at q;have hmo:mo<=4:=by rw[emo];split<;>lia
  have em:(if(!nv.isEmpty)=true then V.int 4 else V.int 0)=V.int (mo:Int):=by
   cases en:s.names with
   |nil=>rw[en]at hnl emo;rw[List.eq_nil_of_length_eq_zero hnl,emo];rfl
   |cons a b=>
    rw[en]at hnl emo;cases nv with
    |nil=>cases hnl
    |cons x y=>rw[emo];rfl
  refine⟨_,rfl,_,rfl,_,rfl,A.rd,CR,A.dr,_,_,rfl,M.w.rd,T.cls,T.f_names,rfl,_,.inl ⟨nv,.of M.nm,rfl⟩,A,W,s.at_+2,bx,[],mo,"with",by rw[em];rfl,M.w,M.box,ap.b4,xA _,by lia,?_⟩;cases e3:qT W mo "with" (W.length+1) (s.at_+2) []with
  |error n=>rw[e3]at q;exact M.fail q hbn
  |ok z=>
  rw[e3]at q;dsimp only at q;intro H5 k5 lv5 rd5 bx5;have M5:=M.boxes ap k5 lv5 rd5 bx5;obtain⟨zl,_,zg,zw⟩:=AE _ _ _ _ e3 (xA _);have hf:=R.hfew;have lh:(s.heads.map V.int).length =s.heads.length:=zF ..;have lz:((z.2.map V.str).length:Int)=(z.2.length:Int):=by rw[zF]
  refine⟨_,rfl,A.rd,CR,A.dr,_,_,rfl,M5.w.rd,T.cls,T.f_heads,rfl,.inl ⟨rfl,_,.of M5.hd⟩,_,rfl,bx,_,rfl,.inl (.of M5.box),A.hd,_,_,rfl,rfl,M5.hd,Af (by lia),?_⟩;rw[lz];have M6:=M5.heads ap (s.heads++[(z.2.length:Int)]);rw[xH]at M6;refine⟨_,rfl,_,rfl,A,W,z.1,bx,z.2,12,"is",rfl,M6.w,M6.box,ap.b4,by lia,by lia,?_⟩;cases e4:qT W 12 "is" (W.length+1) z.1 z.2 with
  |error n=>rw[e4]at q;exact M6.fail q hbn
  |ok r=>
  rw[e4]at q;dsimp only at q;intro H7 k7 lv7 rd7 bx7;have M7:=M6.boxes ap k7 lv7 rd7 bx7;obtain⟨rl,_,rg,rw'⟩:=AE _ _ _ _ e4 (by lia);have lr:((r.2.map V.str).length:Int)=(r.2.length:Int):=by rw[zF]
  refine⟨_,rfl,A.rd,CR,A.dr,_,_,rfl,M7.w.rd,T.cls,T.f_heads,rfl,.inl ⟨rfl,_,.of M7.hd⟩,_,rfl,bx,_,rfl,.inl (.of M7.box),A.hd,_,_,rfl,rfl,M7.hd,Af (by rw[zF,zC];show s.heads.length+1<=_;lia),?_⟩;rw[lr];have M8:=M7.heads ap (s.heads++[(z.2.length:Int)]++[(r.2.length:Int)]);rw[xH]at M8;refine⟨_,rfl,A.rd,CR,A.dr,_,_,rfl,M8.w.rd,T.cls,T.f_names,rfl,.inl ⟨rfl,_,.of M8.nm⟩,_,rfl,_,rfl,bx,_,rfl,.inl ⟨.of M8.box,λbt hbt=>⟨sm2,λt ht=>?_⟩⟩⟩;have sa:=yQ hbt (.tup (r.2.map V.str));have sb:=yQ ht (.tup [.str name,.ref bt]);have M9:=M8.same (sa.trans sb);have et9:=(show upd (upd (upd H7 A.hd (.lst ((s.heads++[(z.2.length:Int)]).map V.int++[V.int (r.2.length:Int)]))) bt (.tup (r.2.map V.str))) t (.tup [.str name,.ref bt]) t=some (.tup [.str name,.ref bt])from zK);have eb9:=sb _ _ (show upd (upd H7 A.hd (.lst ((s.heads++[(z.2.length:Int)]).map V.int++[V.int (r.2.length:Int)]))) bt (.tup (r.2.map V.str)) bt=some (.tup (r.2.map V.str))from zK);have M9':KZ CR A H _ W num cnt bx r.2 r.1 nv (s.heads++[(z.2.length:Int)]++[(r.2.length:Int)]) s.bodies:=M9;refine⟨A.nm,_,_,rfl,rfl,M9.nm,Af (by lia),?_⟩;have M10:=M9.named ap (nv++[.ref t]);have tp10: ∀{b:Addr} {xs:List V},upd (upd (upd H7 A.hd (.lst ((s.heads++[(z.2.length:Int)]).map V.int++[V.int (r.2.length:Int)]))) bt (.tup (r.2.map V.str))) t (.tup [.str name,.ref bt]) b=some (.tup xs)->upd (upd (upd (upd H7 A.hd (.lst ((s.heads++[(z.2.length:Int)]).map V.int++[V.int (r.2.length:Int)]))) bt (.tup (r.2.map V.str))) t (.tup [.str name,.ref bt])) A.nm (.lst (nv++[.ref t])) b=some (.tup xs):=fun{b xs} e=>by
   rw[zT (λz=>by rw[z,M9.nm]at e;cases e)];exact e
  have et10:=tp10 et9;have eb10:=tp10 eb9;generalize upd (upd (upd (upd H7 A.hd (.lst ((s.heads++[(z.2.length:Int)]).map V.int++[V.int (r.2.length:Int)]))) bt (.tup (r.2.map V.str))) t (.tup [.str name,.ref bt])) A.nm (.lst (nv++[.ref t]))=H10 at *
  have fw:=R.few;refine⟨_,rfl,_,rfl,A,bx,W,r.2,num,cnt,r.1,s.bodies,rfl,by lia,M10.nd ap (by lia) (by lia),nok,?_⟩;cases e5:Bi W num cnt r.2 10 r.1 s.bodies with
  |error n=>
   rw[e5]at q;exact(kA.mono q M10.keep).sub (λy hy=>by
    rcases List.mem_cons.mp hy with z|z
    ·exact z▸GU
    ·exact(List.mem_singleton.mp z)▸RZ)
  |ok y=>
  rw[e5]at q;dsimp only at q;intro H11 k11 lv11 N11;have tp11:uJ H10 H11:=λb xs e=>k11 b _ (λz=>by
   rcases List.mem_cons.mp z with z|z
   ·rw[z,M10.w.rd]at e;cases e
   ·rw[List.mem_singleton.mp z,M10.bd]at e;cases e) e
  have ls11: ∀{b:Addr} {xs:List V},b≠A.bd->H10 b=some (.lst xs)->H11 b=some (.lst xs):=fun{b xs} n e=>k11 b _ (λz=>by
   rcases List.mem_cons.mp z with z|z
   ·exact M10.w.ne e z
   ·exact n (List.mem_singleton.mp z)) e
  refine q H11 (M10.keep.trans (λb o nb e=>k11 b o (λz=>by
    rcases List.mem_cons.mp z with z|z
    ·exact nb (z▸GU)
    ·exact nb ((List.mem_singleton.mp z)▸RZ)) e)) (λb e=>M10.live b (lv11 b e))
   ⟨N11.w,⟨_,ls11 ap.n2 M10.nm,Ac (Paired.imp (λv p z=>FU.tups (FU.tups z M10.tup) tp11) pnv) ⟨t,bt,rfl,tp11 _ _ et10,tp11 _ _ eb10⟩⟩,?_,N11.bd,N11.nu,N11.cn,R.n1,R.n2,R.n3,R.n4,R.n5,R.n6,R.w1,R.w2,R.w3,N11.le,N11.few,?_,?_⟩
  ·have:=ls11 ap.n3 M10.hd;rw[yT]at this;exact this
  ·show(s.heads++_).length =2*(s.names++_).length;rw[zC,zC];show s.heads.length+2=2*(s.names.length+1);lia
  ·show(s.names++_).length<=16;rw[zC];show s.names.length+1<=16;lia
 ·rw[zR (.inl cx)]at q;rw[yD cx];exact AD ⟨_,rfl,A.rd,CR,A.dr,_,_,rfl,R.w.rd,T.cls,T.f_at,rfl,sm1,vC (kA.one q)⟩
theorem Jp {x:Str}{f:Int}{n:Str}{g:Int}: ∀{acc:List (Str×Int)},kQ (acc++[(n,g)]) x=some f->kQ acc x=some f\/f=g
 |[],h=>by
  simp only[jB,kQ]at h;split at h
  ·cases h;exact .inr rfl
  ·cases h
 |p::r,h=>by
  rw[jL]at h;unfold kQ at h ⊢;split at h
  ·rename_i c;rw[zR c];exact .inl h
  ·rename_i c;rw[zH c];exact Jp h
theorem FJ: ∀(l:List Str) (g:Int) (acc:List (Str×Int)) (n:Nat) (x:Str) (f:Int),kQ (FK l g acc) x=some f->kQ acc x=some f\/g<=f/\f<g+((AW l n).2.length:Int)
 |[],g,acc,n,x,f,h=>.inl h
 |w::r,g,acc,n,x,f,h=>by
  unfold FK at h;unfold AW;dsimp only;split at h
  ·rename_i c;rw[zR c,zJ];have ih:=FJ r (g+1) _ (n+1) x f h
   rcases ih with ih|ih
   ·split at ih
    ·exact .inl ih
    ·split at ih
     ·exact .inl ih
     ·rcases Jp ih with z|z
      ·exact .inl z
      ·exact .inr ⟨by lia,by lia⟩
   ·exact .inr ⟨by lia,by lia⟩
  ·rename_i c;rw[zH c];exact FJ r g acc (n+1) x f h
theorem JF: ∀(l:List Str) (n:Nat),(n:Int)<=(AW l n).1/\(AW l n).1<=n+l.length/\ ∀c∈(AW l n).2,-2<=c/\c<=n+l.length
 |[],n=>⟨Int.le_refl _,by show(n:Int)<=n+((0:Nat):Int);lia,λc h=>by cases h⟩
 |w::r,n=>by
  obtain⟨i1,i2,i3⟩:=JF r (n+1);have e1:(n:Int)<=(AW (w::r) n).1/\(AW (w::r) n).1<=n+(w::r).length:=by
   unfold AW;dsimp only;rw[zJ];split<;>lia
  refine⟨e1.1,e1.2,λc hc=>?_⟩;have e2:=e1;unfold AW at hc e2;dsimp only at hc e2;rw[zJ]at e2 ⊢;split at hc
  ·rcases List.mem_cons.mp hc with z|z
   ·lia
   ·have:=i3 c z;lia
  ·have:=i3 c hc;lia
theorem Vg {W:List Str}(h:W.length<=1000000):NW (EA W) (Ee W):=by
 refine⟨λx f e=>?_,λc hc=>?_⟩
 ·rcases FJ W 0 [] 0 x f e with z|⟨z1,z2⟩
  ·cases z
  ·unfold Ee;lia
 ·have:=(JF W 0).2.2 c hc;lia
theorem PN {W:List Str}{num:List (Str×Int)}{cnt:List Int}{s s':RS}(h:IS W num cnt s=.ok s'):s.at_<s'.at_:=by
 unfold IS at h;split at h
 ·cases h
 split at h
 ·cases h
 split at h
 ·cases h
 split at h
 ·cases h
 rename_i q e2;split at h
 ·cases h
 rename_i r e3;split at h
 ·cases h
 rename_i z e4;cases h;obtain⟨_,_,g1,g2⟩:=AE _ _ _ _ e2 (xA _);obtain⟨_,_,g3,g4⟩:=AE _ _ _ _ e3 (yJ (AE _ _ _ _ e2 (xA _)).1 (by split<;>lia));have:=Jo 10 r.1 s.bodies z g4 e4;show s.at_<z.1;lia
structure KP (t:Str):Prop where
 len:t.length<=1000000
 rep:(Txt.replace t "\n" " ").length<=1000000
 spl:(Txt.split (Txt.replace t "\n" " ") " ").length<=2000000
 ok:Xk (wordsT t)
def Se (H':Hp)(p sp:Addr)(s:RS):Prop:= ∃np vs,H' p=some (.tup [.ref np,.ref sp])/\H' np=some (.tup vs)/\Paired (FU H') vs s.names/\H' sp=some (.lst ((MZ s).map V.int))
inductive HA (CT:Addr) (vs:List V) (H:Hp) (Q:VK) (E:XK):Prop
 |mk (t:Str) (h0:vs=[.str t]) (h1:KP t) (h2:Gx (λs=> ∀p sp H',qH H H'->Se H' p sp s->H sp=none->Q (.ref p) H') (λn=>AY CT H E (n:Int)) (LA (wordsT t))):HA CT vs H Q E
theorem QY (T:Txt K mg aP aW aH CT CR)(F:wQ K "read_text" "read_text" Ep f fd)(Ca:Ds P w K mg base 1 "NoText" CT ["self","at"] (wG CT))(Cb4:uP P w K mg base 1 "words_of" ["text"] Gz)
  (Cb7:Sl P w K mg base (Fd P w) 2 "Reading" CR ["self","words"] (JZ CR)) (Cp:uP P w K mg base 18 "read_function" ["reading"] (MW CR CT)):AX P w K mg base 19 f fd ["text"] (HA CT):=by
 refine F.okX Gc (λvs H Q E h=>?_) (λcdv Ar outer s0 H vs Q E hr h=>?_)
 ·obtain⟨t,rfl,_⟩:=h;rfl
 obtain⟨t,rfl,ok,q⟩:=h;refine⟨_,(zE (xS (CS (AB (xL BJ rfl T.n_isinstance qS (zB (pv 0) (zB (DQ (v:=.ty "str") rfl T.n_str NS rfl) zI))))) (zQ (jW Ca hr rfl (zB yE zI))) yR)
   (zE (xI (i:=1) Gc.nd rfl (Or.inl rfl) (LJ Cb7 hr rfl (zB (yF Cb4 hr rfl (zB (pv 0) zI) jC) zI) jC))
   (zE (jO (yF Cp hr rfl (zB (pv 1) zI) jC))
   (zE (Ic (EX rfl rfl) (yH Gj (xU (pv 1) rfl) (xL xJ rfl T.n_len kN (zB (xU (pv 1) rfl) zI)) (yU _)) (zQ (jO (yF Cp hr rfl (zB (pv 1) zI) jC))))
   (zQ (yO (wA (zB (vQ CV rfl T.n_tuple IF (zB (xU (pv 1) rfl) zI)) (zB (xZ FI (xZ FI (wJ (zB (xL xJ rfl T.n_len kN (zB (xU (pv 1) rfl) zI)) zI)) (xU (pv 1) rfl)) (xU (pv 1) rfl)) zI))))))))),?_⟩
 try dsimp only[Cx.nox,Cx.exc,Cx.wish,xQ]
 refine⟨_,rfl,.inl ⟨_,_,_,true,rfl,.str t,T.kstr,_,rfl,AM ?_⟩⟩;refine⟨_,rfl,t,rfl,ok.len,ok.rep,ok.spl,λwd H1 hwd s1 e1=>?_⟩;have hW:=ok.ok;generalize wordsT t=W at *
 intro rd dr h1 h2 h3;have nd:wd≠dr:=zS e1 h2;have nr:wd≠rd:=zS e1 h1;refine⟨rd,dr,wd,W,rfl,zK,by rw[zT nr,zT nd];exact e1,hW.few,λA H2 er ed ew M=>⟨rfl,?_⟩⟩;subst er ed ew;have sH:qH H H2:=λb o e=>by
  have e':=s1 _ _ e;have n:b≠A.rd:=zS e' h1;exact M.keep _ _ n (by rw[zT n,zT (zS e' h2)];exact e')
 have wd2:H2 A.wd=some (.lst (W.map V.str)):=M.keep _ _ nr (by rw[zT nr,zT nd];exact e1);have free: ∀{b:Addr},upd (upd H1 A.dr (.own A.rd)) A.rd (.ins CR A.dr []) b=none->b≠A.wd/\H b=none:=fun{b} e=>by
  have n1:b≠A.rd:=λz=>by rw[z,zK]at e;cases e
  rw[zT n1]at e;have n2:b≠A.dr:=λz=>by rw[z,zK]at e;cases e
  rw[zT n2]at e;exact⟨(λz=>by rw[z,e1]at e;cases e),s1.free e⟩
 have nok:=Vg hW.few;have R0:Xp CR A H2 W (EA W) (Ee W) ⟨0,[],[],[]⟩:=⟨⟨M.rd,wd2,hW⟩,⟨[],M.nm,.nil⟩,M.hd,M.bd,M.nu,M.cn,M.n1,M.n2,M.n3,M.n4,M.n5,M.n6,Ne.symm (free M.f1).1,Ne.symm (free M.f2).1,Ne.symm (free M.f3).1,xA _,zP _,rfl,xA _⟩;have nc: ∀x∈Qb A,H x=none:=λx hx=>by
  rcases List.mem_cons.mp hx with z|hx
  ·rw[z];exact s1.free h1
  rcases List.mem_cons.mp hx with z|hx
  ·rw[z];exact(free M.f3).2
  rcases List.mem_cons.mp hx with z|hx
  ·rw[z];exact(free M.f1).2
  ·rw[List.mem_singleton.mp hx];exact(free M.f2).2
 have sK: ∀{G:Hp},jG (Qb A) H2 G->qH H G:=λk b o e=>k b o (λz=>by rw[nc b z]at e;cases e) (sH _ _ e);have fl: ∀{n:Nat},AY CT H E (n:Int)->kA CT (Qb A) H2 E n:=λf d H' g e=>f d H' (sK g) e;unfold LA at q;refine⟨_,rfl,A,W,EA W,Ee W,_,rfl,R0,nok,?_⟩;cases e2:IS W (EA W) (Ee W) ⟨0,[],[],[]⟩with
 |error n=>rw[e2]at q;exact fl q
 |ok s=>
 rw[e2]at q;dsimp only at q;intro H3 k3 lv3 R3;generalize er:Fq W (EA W) (Ee W) W.length s=res at q;refine⟨λm σ' H'=> ∃s',σ'=[some (.str t),some (.ref A.rd)]/\jG (Qb A) H2 H'/\Xp CR A H' W (EA W) (Ee W) s'/\Fq W (EA W) (Ee W) m s'=res/\W.length<=s'.at_+m,⟨W.length,s,rfl,k3,R3,er,Nat.le_add_left _ _⟩,?_⟩;rintro m σ' H' ⟨s',rfl,k',R',em,hm⟩;have lW:((W.map V.str).length:Int)=(W.length:Int):=by rw[zF]
 refine⟨_,rfl,A.rd,CR,A.dr,_,_,rfl,R'.w.rd,T.cls,T.f_at,rfl,_,rfl,A.rd,CR,A.dr,_,_,rfl,R'.w.rd,T.cls,T.f_words,rfl,A.wd,_,rfl,.inl (.of R'.w.wd),_,_,rfl,rfl,_,rfl,jV (λc=>?_) (λc=>?_)⟩
 ·have c':=zO c;obtain⟨m,rfl⟩: ∃m',m=m'+1:=⟨m-1,by lia⟩;unfold Fq at em;rw[zR (by lia)]at em;refine⟨_,λσ2 H2 z=>z,?_⟩;refine⟨_,rfl,A,W,EA W,Ee W,s',rfl,R',nok,?_⟩;cases e3:IS W (EA W) (Ee W) s' with
  |error n=>
   rw[e3]at em;rw[<-em]at q;exact kA.mono (fl q) k'
  |ok s2=>
   rw[e3]at em;dsimp only at em;have:=PN e3;exact λH4 k4 lv4 R4=>⟨m,kS m,s2,rfl,k'.trans k4,R4,em,by lia⟩
 ·have c':=df c;have ee:res=.ok s':=by
   rw[<-em];cases m with
   |zero=>rfl
   |succ m=>unfold Fq;rw[zH (by lia)]
  rw[ee]at q;obtain⟨nv,env,pnv⟩:=R'.nm;have hnl:=Paired.len pnv;have nf:=R'.nfew;have hf:=R'.hfew;have bf:=R'.few;have le:=R'.le;have wf:=hW.few;refine⟨_,rfl,A.rd,CR,A.dr,_,_,rfl,R'.w.rd,T.cls,T.f_names,rfl,A.nm,nv,rfl,.inl ⟨.of env,λnp hnp=>?_⟩⟩;have g1:=yQ hnp (.tup nv);refine⟨_,rfl,A.rd,CR,A.dr,_,_,rfl,g1 _ _ R'.w.rd,T.cls,T.f_names,rfl,A.nm,_,rfl,.inl (.of (g1 _ _ env)),sm1,λl0 h0=>?_⟩;have g2:=g1.trans (yQ h0 (.lst [.int (nv.length:Int)]));refine⟨_,rfl,A.rd,CR,A.dr,_,_,rfl,g2 _ _ R'.w.rd,T.cls,T.f_heads,rfl,l0,A.hd,_,_,rfl,rfl,zK,g2 _ _ R'.hd,EY (by rw[zF];show 1+_<=_;lia),λl1 h1=>?_⟩;have g3:=g2.trans (yQ h1 (.lst ([.int (nv.length:Int)]++s'.heads.map V.int)));refine⟨_,rfl,A.rd,CR,A.dr,_,_,rfl,g3 _ _ R'.w.rd,T.cls,T.f_bodies,rfl,l1,A.bd,_,_,rfl,rfl,zK,g3 _ _ R'.bd,EY (by rw[zC,zF,zF];show 1+_+_<=_;lia),λl2 h2=>⟨sm2,λp hp=>?_⟩⟩;have Xg:=yQ h2 (.lst ([.int (nv.length:Int)]++s'.heads.map V.int++s'.bodies.map V.int));have g4:=g3.trans Xg;have Wc:=yQ hp (.tup [.ref np,.ref l2]);have g5:=g4.trans Wc;have lv2:H l2=none:=(sK k').free (g3.free h2);have enp:upd H' np (.tup nv) np=some (.tup nv):=zK;refine q p l2 _ ((sK k').trans g5) ⟨np,nv,zK,?_,Paired.imp (λv x z=>FU.tups z λb xs e=>g5 _ _ e) pnv,?_⟩ lv2
  ·exact Wc _ _ (Xg _ _ ((yQ h1 _) _ _ ((yQ h0 _) _ _ enp)))
  ·rw[Wc _ _ zK];unfold MZ;rw[yM,xH,<-hnl];rfl
theorem Rg (T:Fi K mg aP CL CN)(F:wQ K "__init__" "NoSheet.__init__" uT f fd):AX P w K mg base 1 f fd ["self","place","word"] (BU CN):=by
 refine F.oN Ff λcdv A outer s H vs Q E hr h=>?_;obtain⟨x,y,z,rfl,hx,q⟩:=h;refine⟨_,(zE (Ki (pv 0) (pv 1))
   (zQ (Ki (pv 0) (pv 2)))),?_⟩
 try dsimp only[Cx.nox,Cx.exc,Cx.wish,xQ]
 refine⟨_,rfl,_,rfl,x,CN,none,rfl,hx,T.exc,T.xplace,.inl ⟨rfl,λd hd=>?_⟩⟩;have nd:d≠x:=λe=>by rw[e,hx]at hd;cases hd
 refine⟨_,rfl,_,rfl,x,CN,some d,rfl,zK,T.exc,T.xword,.inr ⟨d,[("place",y)],rfl,by rw[zT nd];exact zK,(show 1<1000 by decide),?_⟩⟩;refine q d _ nd hd (λb o nb e=>?_) ?_ zK
 ·rw[zT (zS e hd),zT nb,zT (zS e hd)];exact e
 ·rw[zT (Ne.symm nd)];exact zK
theorem Ri (T:Fi K mg aP CL CN)(F:wQ K "__init__" "Look.__init__" AV f fd):AX P w K mg base 1 f fd ["self","numbers"] (Ka CL):=by
 refine F.oN GF λcdv A outer s H vs Q E hr h=>?_;obtain⟨x,dx,a,rfl,hx,q⟩:=h;refine⟨_,(zE (DN (pv 0) (pv 1) rfl)
   (zQ (DN (pv 0) yE rfl))),?_⟩
 try dsimp only[Cx.nox,Cx.exc,Cx.wish,xQ]
 refine⟨_,rfl,_,rfl,x,CL,dx,_,rfl,hx,T.look,T.lnum,(show 0<1000 by decide),?_⟩;refine⟨_,rfl,x,CL,dx,_,rfl,zK,T.look,T.lplace,(show 1<1000 by decide),?_⟩;refine q _ (λb o nb e=>?_) zK;rw[zT nb,zT nb];exact e
theorem QX (T:Fi K mg aP CL CN)(F:wQ K "is_whole" "is_whole" FE f fd):AX P w K mg base 1 f fd ["thing"] JS:=by
 refine F.oN Lx λcdv A outer s H vs Q E hr h=>?_;obtain⟨i,rfl,q⟩:=h;refine⟨_,(zQ (yO (Kp (xL BJ rfl T.n_isinstance qS (zB (pv 0) (zB (DQ (v:=.ty "int") rfl T.n_int NT rfl) zI))) (Km (US (xL BJ rfl T.n_isinstance qS (zB (pv 0) (zB (DQ (v:=.ty "bool") rfl T.n_bool OL rfl) zI)))))))),?_⟩
 try dsimp only[Cx.nox,Cx.exc,Cx.wish,xQ]
 refine⟨_,rfl,.inl ⟨_,_,_,true,rfl,.int i,T.kint,_,rfl,AD ?_⟩⟩;exact⟨_,rfl,.inl ⟨_,_,_,false,rfl,.int i,T.kbool,_,rfl,q⟩⟩
theorem Wo (T:Fi K mg aP CL CN)(F:wQ K "take" "Look.take" Ev f fd)(Cb0:uP P w K mg base 1 "is_whole" ["thing"] JS)(Cc:Ds P w K mg base 1 "NoSheet" CN ["self","place","word"] (BU CN)):
  AX P w K mg base 3 f fd ["self"] (Ss CL CN):=by
 refine F.oX Gf λcdv A outer s H vs Q E hr h=>?_;obtain⟨lk,dx,a,p,ns,rfl,⟨hl,ha⟩,t1,t2⟩:=h;refine⟨_,(zE (xS (yH Ud (xU (pv 0) rfl) (xL xJ rfl T.n_len kN (zB (xU (pv 0) rfl) zI)) (yU _)) (zQ (jW Cc hr rfl (zB (xU (pv 0) rfl) (zB qR zI)))) yR)
   (zE (xI (i:=1) Gf.nd rfl (Or.inl rfl) (kG qY (xU (pv 0) rfl) (xU (pv 0) rfl) (λ_ _=>rfl)))
   (zE (xS (CS (AB (yF Cb0 hr rfl (zB (pv 1) zI) jC))) (zQ (jW Cc hr rfl (zB (xU (pv 0) rfl) (zB qR zI)))) yR)
   (zE (Aa (pv 0) yE ED)
   (zQ (yO (pv 1))))))),?_⟩
 try dsimp only[Cx.nox,Cx.exc,Cx.wish,xQ]
 refine⟨_,rfl,lk,CL,dx,_,_,rfl,hl,T.look,T.lplace,rfl,_,rfl,lk,CL,dx,_,_,rfl,hl,T.look,T.lnum,rfl,a,_,rfl,.inl (.of ha),_,_,rfl,rfl,_,rfl,?_⟩;have hz:(ns.map V.int).length =ns.length:=zF ..;refine jV (λc=>?_) (λc=>?_)
 ·have c':=zO c;have e:Fl ns p=.error (p,"end"):=by
   unfold Fl;rw[qG (by lia)]
  exact⟨_,rfl,lk,CL,dx,_,_,rfl,hl,T.look,T.lplace,rfl,sm2,Ib (t2 _ _ e) (jA.refl _ _)⟩
 ·have hp:p<ns.length:=by
   refine Nat.lt_of_not_le λz=>c (yA ?_);lia
  have ep:ns[p]? =some ns[p]:=zG hp;generalize ns[p]=n at ep;have at_:KW (ns.map V.int) (p:Int)=some (.int n):=Bt (by rw[zW,ep];rfl);have e:Fl ns p=.ok n:=by unfold Fl;rw[ep]
  refine⟨_,rfl,lk,CL,dx,_,_,rfl,hl,T.look,T.lnum,rfl,_,rfl,lk,CL,dx,_,_,rfl,hl,T.look,T.lplace,rfl,a,_,_,_,rfl,rfl,.of ha,at_,?_⟩;refine⟨_,rfl,n,rfl,_,rfl,AM ?_⟩;refine⟨_,rfl,lk,CL,dx,_,_,rfl,hl,T.look,T.lplace,rfl,_,_,rfl,rfl,dx,_,hl,(show 2<1000 by decide),?_⟩;exact⟨_,rfl,t1 n e⟩
theorem Pn (T:Fi K mg aP CL CN)(F:wQ K "take_within" "Look.take_within" uU f fd)(Mtake:IV P w K mg base (Fd P w) 3 CL "take" ["self"] (Ss CL CN))(Cc:Ds P w K mg base 1 "NoSheet" CN ["self","place","word"] (BU CN)):
  AX P w K mg base 4 f fd ["self","least","most"] (Dd CL CN):=by
 refine F.oX vW λcdv A outer s H vs Q E hr h=>?_;obtain⟨lk,dx,a,p,ns,lo,hi,rfl,⟨hl,ha⟩,t1,t2⟩:=h;refine⟨_,(zE (xI (i:=3) vW.nd rfl (Or.inl rfl) (xU (pv 0) rfl))
   (zE (xI (i:=4) vW.nd rfl (Or.inl rfl) (Jf (pv 0) Mtake hr jC))
   (zE (xS (PW.pt (uD (yH Gj (pv 4) (pv 1) (yU _)) (vX (yH Hf (pv 4) (pv 2) (yU _))))) (zQ (jW Cc hr rfl (zB (pv 3) (zB qR zI)))) yR)
   (zQ (yO (pv 4)))))),?_⟩
 try dsimp only[Cx.nox,Cx.exc,Cx.wish,xQ]
 refine⟨_,rfl,lk,CL,dx,_,_,rfl,hl,T.look,T.lplace,rfl,?_⟩;refine⟨_,rfl,lk,dx,_,rfl,hl,rfl,lk,dx,a,p,ns,rfl,⟨hl,ha⟩,λn e=>?_,λpl wd e=>?_⟩
 ·have ep:ns[p]? =some n:=by
   unfold Fl at e;cases q:ns[p]? with
   |none=>rw[q]at e;cases e
   |some m=>rw[q]at e;cases e;rfl
  have bad:n<lo\/hi<n->jS ns p lo hi=.error (p,"range"):=λc=>by unfold jS;rw[ep];exact zR c
  have k1:jA lk H (upd H lk (vJ CL dx a (p+1))):=jA.upd;refine⟨_,rfl,_,rfl,_,_,rfl,rfl,_,rfl,jV (λc=>?_) (λc=>?_)⟩
  ·exact AD ⟨_,rfl,sm2,Ib (t2 _ _ (bad (.inl (zO c)))) k1⟩
  ·refine⟨_,rfl,_,rfl,_,_,rfl,rfl,_,rfl,jV (λc2=>?_) (λc2=>?_)⟩
   ·exact⟨_,rfl,sm2,Ib (t2 _ _ (bad (.inr (zO c2)))) k1⟩
   ·refine⟨_,rfl,t1 n ?_⟩;unfold jS;rw[ep];exact zH (λz=>z.elim (λz=>c (yA z)) λz=>c2 (yA z))
 ·refine t2 pl wd ?_;unfold Fl at e;unfold jS;cases q:ns[p]? with
  |none=>rw[q]at e;exact e
  |some m=>rw[q]at e;cases e
def Sh (lk hd dx a:Addr)(H:Hp)(ns:List Int)(n:Int)(i:Nat)(σ':St)(H':Hp):Prop:= ∃(done:AH) (rs:List V) (most:Int) (v3 v4:Option V),σ'=[some (.ref lk),some (.ref hd),some (.int most),v3,v4]/\most<=4/\done.length=i/\jA lk H H'/\
   H' lk=some (vJ CL dx a (1+2*i))/\H' hd=some (.lst rs)/\Paired (GW H') rs done/\vZ ns n.toNat 0 1=Uf done (vZ ns (n.toNat-i) most (1+2*i))
theorem Rk (T:Fi K mg aP CL CN)(F:wQ K "take_heads" "take_heads" DI f fd)(Mtake_within:IV P w K mg base (Fd P w) 4 CL "take_within" ["self","least","most"] (Dd CL CN)):
  AX P w K mg base 5 f fd ["look"] (Kb CL CN):=by
 refine F.oX wY λcdv A outer s H vs Q E hr h=>?_;obtain⟨lk,dx,a,ns,rfl,⟨hl,ha⟩,t1,t2⟩:=h;refine⟨_,(zE (xI (i:=1) wY.nd rfl (Or.inl rfl) (wJ zI))
   (zE (xI (i:=2) wY.nd rfl (Or.inl rfl) yE)
   (zE (BA (EX rfl rfl) rfl (Di rfl T.n_range (zB (AL (pv 0) Mtake_within hr (zB yE (zB (yS rfl T.m_MOST_FUNCTIONS) zI)) jC) zI)) (jP (i:=3) wY.nd rfl (Or.inl rfl)) (zE (xI (i:=4) wY.nd rfl (Or.inl rfl) (AL (pv 0) Mtake_within hr (zB yE (zB (pv 2) zI)) jC))
   (zE (jO (uE yB yL yK jX (pv 1) (zB (wA (zB (pv 4) (zB (AL (pv 0) Mtake_within hr (zB (pv 4) (zB (yS rfl T.m_MOST_BOXES) zI)) jC) zI))) zI)))
   (zQ (xI (i:=2) wY.nd rfl (Or.inl rfl) (yS rfl T.m_MOST_PARAMS))))))
   (zQ (yO (pv 1)))))),?_⟩
 try dsimp only[Cx.nox,Cx.exc,Cx.wish,xQ]
 refine⟨sm0,λhd hhd=>?_⟩;have nlh:lk≠hd:=zS hl hhd;have k1:jA lk H (upd H hd (.lst [])):=jA.new _ hhd;have l1:Looks CL (upd H hd (.lst [])) lk dx a 0 ns:=Looks.go ⟨hl,ha⟩ k1 (by rw[zT nlh];exact hl);refine⟨_,rfl,lk,dx,_,rfl,l1.1,rfl,lk,dx,a,0,ns,1,16,rfl,l1,λn e=>?_,λp wd e=>?_⟩
 ·obtain⟨_,n1,n16⟩:=uR e;have eh:vR ns=vZ ns n.toNat 0 1:=by unfold vR;rw[e]
  refine⟨n,rfl,by lia,by lia,Fb (lo:=0) (n:=n.toNat) (Sh (CL:=CL) lk hd dx a H ns n) ⟨[],[],0,_,_,rfl,by decide,rfl,k1.trans jA.upd,zK,?_,.nil,(PL _).symm⟩ ?_ ?_⟩
  ·rw[zT (Ne.symm nlh)];exact zK
  ·rintro i σ' H' hi ⟨done,rs,most,v3,v4,rfl,hm,hn,kp,el,eh',pr,eq⟩;obtain⟨m,em⟩: ∃m,n.toNat-i=m+1:=⟨n.toNat-i-1,by lia⟩;have L1:Looks CL H' lk dx a (1+2*i) ns:=Looks.go ⟨hl,ha⟩ kp el;refine⟨_,rfl,lk,dx,_,rfl,el,rfl,_,rfl,lk,dx,a,_,ns,0,most,rfl,L1,λx ex=>?_,λp wd ex=>?_⟩
   ·have L2':Looks CL (upd H' lk (vJ CL dx a (1+2*i+1))) lk dx a (1+2*i+1) ns:=L1.go jA.upd zK;have eh2:(upd H' lk (vJ CL dx a (1+2*i+1))) hd=some (.lst rs):=by rw[zT (Ne.symm nlh)];exact eh'
    refine⟨_,rfl,.inl ⟨rfl,_,.of eh2⟩,_,rfl,_,rfl,lk,dx,_,rfl,zK,rfl,_,rfl,lk,dx,a,_,ns,x,12,rfl,L2',λy ey=>?_,λp wd ey=>?_⟩
    ·refine⟨sm2,λq hq=>?_⟩;generalize hH2:upd (upd H' lk (vJ CL dx a (1+2*i+1))) lk (vJ CL dx a (1+2*i+1+1))=H2 at hq;have k2:jA lk H' H2:=by rw[<-hH2];exact jA.trans jA.upd jA.upd
     have e2:H2 lk=some (vJ CL dx a (1+2*i+1+1)):=by rw[<-hH2];exact zK
     have h2:H2 hd=some (.lst rs):=k2 hd _ (Ne.symm nlh) eh';have nq:hd≠q:=zS h2 hq;have ql:lk≠q:=zS e2 hq;have h3:upd H2 q (.tup [.int x,.int y]) hd=some (.lst rs):=by rw[zT nq];exact h2
     have len:rs.length<=16:=by have:=Paired.len pr;lia
     refine⟨hd,rs,_,rfl,rfl,h3,EQ (by lia),?_⟩;have tp:uJ H' (upd (upd H2 q (.tup [.int x,.int y])) hd (.lst (rs++[.ref q]))):=.trans (.keep el k2) (.trans (.new hq) (.upd h3));refine⟨done++[(x,y)],_,4,_,_,rfl,by decide,by simp[hn],(kp.trans (k2.trans (jA.new _ hq))).fresh hhd,?_,zK,Ac (Paired.imp (λ_ _ z=>z.tups tp) pr) ⟨q,rfl,?_⟩,?_⟩
     ·rw[zT nlh,zT ql];exact e2
     ·rw[zT (Ne.symm nq)];exact zK
     ·rw[eq,em,show n.toNat-(i+1)=m by lia,show 1+2*(i+1)=1+2*i+2 by lia]
      conv=>lhs;unfold vZ
      rw[ex];simp only;rw[ey];simp only;cases vZ ns m 4 (1+2*i+2)with
      |error b=>rfl
      |ok r=>show Except.ok _=Except.ok _;rw[yT];rfl
    ·refine(t2 p wd ?_).keep (kp.trans jA.upd);rw[eh,eq,em];unfold vZ;rw[ex];simp only;rw[ey];rfl
   ·refine(t2 p wd ?_).keep kp;rw[eh,eq,em];unfold vZ;rw[ex];rfl
  ·rintro σ' H' ⟨done,rs,most,v3,v4,rfl,hm,hn,kp,el,eh',pr,eq⟩;refine⟨_,rfl,t1 done ?_ hd H' kp (by rw[hn];exact el) ⟨rs,eh',pr⟩⟩;rw[eh,eq,Nat.sub_self];show Except.ok (done++[])=_;rw[yY]
 ·exact(t2 p wd (by unfold vR;rw[e])).keep k1
theorem vt {i j:Int}(c:decide (V.int i=V.int j)=true):i=j:=by
 have:=zO c;injection this
theorem vf {i j:Int}(c: ¬decide (V.int i=V.int j)=true):i≠j:=λz=>c (yA (xM V.int z))
theorem Vc (T:Fi K mg aP CL CN)(F:wQ K "take_own" "take_own" Ad f fd)(Mtake:IV P w K mg base (Fd P w) 3 CL "take" ["self"] (Ss CL CN))(Mtake_within:IV P w K mg base (Fd P w) 4 CL "take_within" ["self","least","most"] (Dd CL CN)):
  AX P w K mg base 5 f fd ["look","kind","heads","boxes"] (Oe CL CN):=by
 refine F.oX Fx λcdv A outer s H vs Q E hr h=>?_;obtain⟨lk,dx,a,p,ns,hd,hs,boxes,k,rfl,L1,hh,t1,t2⟩:=h;refine⟨_,(zE (xS (yH jY (pv 1) (yS rfl T.m_NUMBER) (yU _)) (zQ (yO (wA (zB (Jf (pv 0) Mtake hr jC) zI)))) yR)
   (zE (xS (PW.pt (uD (yH jY (pv 1) (yS rfl T.m_GET) (yU _)) (vX (yH jY (pv 1) (yS rfl T.m_SET) (yU _))))) (zQ (yO (wA (zB (AL (pv 0) Mtake_within hr (zB yE (zB (xZ DR (pv 3) yE) zI)) jC) zI)))) yR)
   (zE (xS (yH jY (pv 1) (yS rfl T.m_ALL) (yU _)) (zQ (yO (wA (zB (AL (pv 0) Mtake_within hr (zB (yS rfl T.m_LEAST_ALL) (zB (yS rfl T.m_MOST_MANY) zI)) jC) zI)))) yR)
   (zE (xS (yH jY (pv 1) (yS rfl T.m_PICK) (yU _)) (zQ (yO (wA (zB (AL (pv 0) Mtake_within hr (zB (yS rfl T.m_LEAST_PICK) (zB (yS rfl T.m_MOST_MANY) zI)) jC) zI)))) yR)
   (zE (xS (yH jY (pv 1) (yS rfl T.m_CALL) (yU _)) (zQ (yO (wA (zB (AL (pv 0) Mtake_within hr (zB yE (zB (xZ DR (xL xJ rfl T.n_len kN (zB (pv 2) zI)) yE) zI)) jC) zI)))) yR)
   (zQ (yO (wA zI)))))))),?_⟩
 try dsimp only[Cx.nox,Cx.exc,Cx.wish,xQ]
 have hl:=L1.1;have fin: ∀n,FH ns hs boxes k p=.ok [n]->Oc [.int n] (upd H lk (vJ CL dx a (p+1))) Q:=λn e=>by
  refine⟨sm1,λt ht=>t1 [n] e t _ (jA.trans jA.upd (jA.new _ ht)) ?_ zK⟩;rw[zT (zS (zK (H:=H) (a:=lk) (o:=vJ CL dx a (p+1))) ht)];exact zK
 refine⟨_,rfl,rfl,_,rfl,jV (λc=>?_) (λc0=>?_)⟩
 ·have o:FH ns hs boxes k p=IP (Fl ns p):=zR (vt c);exact⟨_,rfl,lk,dx,_,rfl,hl,rfl,lk,dx,a,p,ns,rfl,L1,λn e=>fin n (by rw[o,e];rfl),λpl wd e=>t2 _ _ (by rw[o,e];rfl)⟩
 have n0:=vf c0;have one: ∀lo hi,(∀r,jS ns p lo hi=r->FH ns hs boxes k p=IP r)->Looks CL H lk dx a p ns/\Hs (jS ns p lo hi) (λn=>Oc [.int n] (upd H lk (vJ CL dx a (p+1))) Q) (EK CN lk H E):=
  λlo hi o=>⟨L1,λn e=>fin n (o _ e),λpl wd e=>t2 _ _ (o _ e)⟩
 have br12:k=1\/k=2-> ∀r,jS ns p 0 (boxes-1)=r->FH ns hs boxes k p=IP r:=λz r e=>by unfold FH;rw[zH n0,zR z,e]
 refine⟨_,rfl,rfl,_,rfl,jV (λc=>AD ?_) (λc1=>?_)⟩
 ·have o:=one (0) (boxes-1) ((br12 (.inl (vt c))));exact⟨_,rfl,lk,dx,_,rfl,hl,rfl,_,rfl,_,_,rfl,rfl,lk,dx,a,p,ns,0,boxes-1,rfl,o.1,o.2⟩
 refine⟨_,rfl,rfl,_,rfl,jV (λc=>?_) (λc2=>?_)⟩
 ·have o:=one (0) (boxes-1) ((br12 (.inr (vt c))));exact⟨_,rfl,lk,dx,_,rfl,hl,rfl,_,rfl,_,_,rfl,rfl,lk,dx,a,p,ns,0,boxes-1,rfl,o.1,o.2⟩
 have n12: ¬(k=1\/k=2):=λz=>z.elim (vf c1) (vf c2);refine⟨_,rfl,rfl,_,rfl,jV (λc=>?_) (λc3=>?_)⟩
 ·have o:=one (1) (12) (λr e=>by unfold FH;rw[zH n0,zH n12,zR (vt c),e]);exact⟨_,rfl,lk,dx,_,rfl,hl,rfl,lk,dx,a,p,ns,1,12,rfl,o.1,o.2⟩
 refine⟨_,rfl,rfl,_,rfl,jV (λc=>?_) (λc4=>?_)⟩
 ·have o:=one (2) (12) (λr e=>by unfold FH;rw[zH n0,zH n12,zH (vf c3),zR (vt c),e]);exact⟨_,rfl,lk,dx,_,rfl,hl,rfl,lk,dx,a,p,ns,2,12,rfl,o.1,o.2⟩
 refine⟨_,rfl,rfl,_,rfl,jV (λc=>?_) (λc6=>?_)⟩
 ·obtain⟨rs,eh,pr⟩:=id hh;have ln:rs.length=hs.length:=Paired.len pr;have o:=one (0) _ (λr e=>by unfold FH;rw[zH n0,zH n12,zH (vf c3),zH (vf c4),zR (vt c),<-ln,e]);exact⟨_,rfl,lk,dx,_,rfl,hl,rfl,_,rfl,hd,_,rfl,.inl (.of eh),_,_,rfl,rfl,lk,dx,a,p,ns,0,_,rfl,o.1,o.2⟩
 ·refine⟨sm0,λt ht=>t1 [] ?_ t _ (jA.new _ ht) ?_ zK⟩
  ·unfold FH;rw[zH n0,zH n12,zH (vf c3),zH (vf c4),zH (vf c6)]
  ·rw[zT (zS hl ht)];exact hl
inductive JT (vs:List V) (H:Hp) (Q:VK) (E:XK):Prop
 |mk (k:Nat) (v:Int) (h0:vs=[.int (7+(k:Int))]) (h1:partsN[k]? =some v) (h2:Q (.int v) H):JT vs H Q E
theorem QZ (T:Fi K mg aP CL CN)(F:wQ K "parts_of" "parts_of" DK f fd):AX P w K mg base 1 f fd ["kind"] JT:=by
 refine F.oN Hc λcdv A outer s H vs Q E hr h=>?_;obtain⟨k,v,rfl,hk,q⟩:=h;refine⟨_,(zQ (yO (kG vH (DP rfl T.m_PARTS) (xZ DR (pv 0) (yS rfl T.m_FAIL)) (λ_ _=>rfl)))),?_⟩
 try dsimp only[Cx.nox,Cx.exc,Cx.wish,xQ]
 refine⟨_,rfl,_,_,rfl,rfl,aP,_,_,_,rfl,rfl,T.parts _,?_,q⟩;rw[show(7:Int)+(k:Int)-7=(k:Int)by lia];exact Bt (by rw[zW,hk];rfl)
theorem Ve (T:Fi K mg aP CL CN)(F:wQ K "parts_due" "parts_due" BX f fd)(Cu:uP P w K mg base 1 "parts_of" ["kind"] JT):
  AX P w K mg base 2 f fd ["kind","numbers","heads"] Oh:=by
 refine F.oN Gd λcdv A outer s H vs Q E hr h=>?_;obtain⟨k,t,own,hd,hs,rfl,ht,⟨rs,eh,pr⟩,⟨h0,h1,hk⟩,q⟩:=h;refine⟨_,(zE (xS (PW.pt (uD (yH jY (pv 0) (yS rfl T.m_NUMBER) (yU _)) (vX (yH jY (pv 0) (yS rfl T.m_GET) (yU _))))) (zQ (yO yE)) yR)
   (zE (xS (yH jY (pv 0) (yS rfl T.m_SET) (yU _)) (zQ (yO yE)) yR)
   (zE (xS (yH jY (pv 0) (yS rfl T.m_ALL) (yU _)) (zQ (yO (kG vH (pv 1) yE (λ_ _=>rfl)))) yR)
   (zE (xS (yH jY (pv 0) (yS rfl T.m_PICK) (yU _)) (zQ (yO (xZ uV yE (kG vH (pv 1) yE (λ_ _=>rfl))))) yR)
   (zE (xS (yH jY (pv 0) (yS rfl T.m_LOOP) (yU _)) (zQ (yO yE)) yR)
   (zE (xS (yH jY (pv 0) (yS rfl T.m_CALL) (yU _)) (zQ (yO (kG vH (kG qY (pv 2) (kG vH (pv 1) yE (λ_ _=>rfl)) (λ_ _=>rfl)) yE (λ_ _=>rfl)))) yR)
   (zQ (yO (yF Cu hr rfl (zB (pv 0) zI) qI))))))))),?_⟩
 try dsimp only[Cx.nox,Cx.exc,Cx.wish,xQ]
 have due0:k=0\/k=1->Fh hs k own=0:=λz=>zR z;refine⟨_,rfl,rfl,_,rfl,jV (λc=>AD ?_) (λc0=>?_)⟩
 ·rw[due0 (.inl (vt c))]at q;exact q
 refine⟨_,rfl,rfl,_,rfl,jV (λc=>?_) (λc1=>?_)⟩
 ·rw[due0 (.inr (vt c))]at q;exact q
 have n01: ¬(k=0\/k=1):=λz=>z.elim (vf c0) (vf c1);unfold Fh at q;rw[zH n01]at q;refine⟨_,rfl,rfl,_,rfl,jV (λc=>?_) (λc2=>?_)⟩
 ·rw[zR (vt c)]at q;exact q
 rw[zH (vf c2)]at q;refine⟨_,rfl,rfl,_,rfl,jV (λc=>?_) (λc3=>?_)⟩
 ·rw[zR (vt c)]at q;obtain⟨n,rfl,_⟩:=hk (.inl (vt c));exact⟨_,rfl,t,_,_,_,rfl,rfl,.of ht,rfl,q⟩
 rw[zH (vf c3)]at q;refine⟨_,rfl,rfl,_,rfl,jV (λc=>?_) (λc4=>?_)⟩
 ·rw[zR (vt c)]at q;obtain⟨n,rfl,_⟩:=hk (.inr (.inl (vt c)));exact⟨_,rfl,t,_,_,_,rfl,rfl,.of ht,rfl,_,_,rfl,rfl,q⟩
 rw[zH (vf c4)]at q;refine⟨_,rfl,rfl,_,rfl,jV (λc=>?_) (λc5=>?_)⟩
 ·rw[zR (vt c)]at q;exact q
 rw[zH (vf c5)]at q;refine⟨_,rfl,rfl,_,rfl,jV (λc=>?_) (λc6=>?_)⟩
 ·rw[zR (vt c)]at q;obtain⟨n,rfl,n0,n1,_⟩:=hk (.inr (.inr (vt c)));have hn:n.toNat<hs.length:=by have:=n1 (vt c);lia
  have ln:rs.length=hs.length:=Paired.len pr;have e1:hs[n.toNat]? =some hs[n.toNat]:=zG hn;have e2:rs[n.toNat]? =some rs[n.toNat]:=zG (by lia);obtain⟨tt,er,et⟩:=Paired.get pr _ _ _ e2 e1;have av:KW rs n=some (.ref tt):=by
   have:=Bt (xs:=rs) e2;rw[show((n.toNat:Nat):Int)=n by lia,er]at this;exact this
  refine⟨_,rfl,_,rfl,t,_,_,_,rfl,rfl,.of ht,rfl,hd,rs,n,_,rfl,rfl,.of eh,av,tt,_,_,_,rfl,rfl,.of et,rfl,?_⟩;have:(hs.getD ([n].headD 0).toNat (0,0)).1=hs[n.toNat].1:=by
   show(hs.getD n.toNat (0,0)).1=_;rw[xW,e1];rfl
  rw[this]at q;exact q
 ·rw[zH (vf c6)]at q;have n0:=vf c0;have n1:=vf c1;have n2:=vf c2;have n3:=vf c3;have n4:=vf c4;have n5:=vf c5;have n6:=vf c6;have hk7:(k-7).toNat <13:=by lia
  have e1:partsN[(k-7).toNat]? =some (partsN.getD (k-7).toNat 0):=by
   rw[xW,zG (by exact hk7)];rfl
  exact⟨_,rfl,(k-7).toNat,_,(by rw[show(7:Int)+((k-7).toNat:Int)=k by lia];rfl),e1,q⟩
def UB (CL CN:Addr):Nat->Sp
 |0=>λ_ _ _ _=>False
 |d+1=>GC CL CN d
def TL (lk hd dx a t ps:Addr)(boxes k N:Int)(d p:Nat)(own:List Int)(H:Hp)(ns:List Int)(hs:AH)(i:Nat)(σ':St)(H':Hp):Prop:= ∃(done:List Nd) (vs:List V) (p':Nat) (v8:Option V),σ'=[some (.ref lk),some (.ref hd),some (.int boxes),some (.int (11-((d+1:Nat):Int))),some (.int (p:Int)),some (.int k),some (.ref t),some (.ref ps),v8]/\done.length=i/\jA lk H H'/\
   H' lk=some (vJ CL dx a p')/\H' t=some (.tup (own.map V.int))/\H' ps=some (.lst vs)/\Paired (qU H' d) vs done/\BB (Bj ns hs boxes d) N.toNat (p+1+own.length)=Ry done (BB (Bj ns hs boxes d) (N.toNat-i) p')
theorem Ot (d:Nat)(hd10:d<=10)(T:Fi K mg aP CL CN)(F:wQ K "take_node" "take_node" BV f fd)(Cc:Ds P w K mg base 1 "NoSheet" CN ["self","place","word"] (BU CN))(Mtake_within:IV P w K mg base (Fd P w) 4 CL "take_within" ["self","least","most"] (Dd CL CN))
  (Ce:uP P w K mg base 5 "take_own_sheets" ["look","kind","heads","boxes"] (Oe CL CN)) (Cb:uP P w K mg base 2 "parts_due" ["kind","numbers","heads"] Oh)
  (Cr:uP P w K mg base (5+d) "take_node" ["look","heads","boxes","deep"] (UB CL CN d)):AX P w K mg base (5+d+1) f fd ["look","heads","boxes","deep"] (GC CL CN d):=by
 refine F.oX vO λcdv A outer s H vs Q E hr h=>?_;obtain⟨lk,dx,a,p,ns,hd,hs,boxes,rfl,L1,hh,ho,t1,t2⟩:=h;refine⟨_,(zE (xI (i:=4) vO.nd rfl (Or.inl rfl) (xU (pv 0) rfl))
   (zE (xS (yH Hf (pv 3) (yS rfl T.m_MOST_DEEP) (yU _)) (zQ (jW Cc hr rfl (zB (pv 4) (zB qR zI)))) yR)
   (zE (xI (i:=5) vO.nd rfl (Or.inl rfl) (AL (pv 0) Mtake_within hr (zB (yS rfl T.m_NUMBER) (zB (yS rfl T.m_NEW) zI)) jC))
   (zE (xI (i:=6) vO.nd rfl (Or.inl rfl) (yF Ce hr rfl (zB (pv 0) (zB (pv 5) (zB (pv 1) (zB (pv 2) zI)))) jC))
   (zE (xI (i:=7) vO.nd rfl (Or.inl rfl) (wJ zI))
   (zE (BA (EX rfl rfl) rfl (Di rfl T.n_range (zB (yF Cb hr rfl (zB (pv 5) (zB (pv 6) (zB (pv 1) zI))) jC) zI)) (jP (i:=8) vO.nd rfl (Or.inl rfl)) (zQ (jO (uE yB yL yK jX (pv 7) (zB (yF Cr hr rfl (zB (pv 0) (zB (pv 1) (zB (pv 2) (zB (xZ uV (pv 3) yE) zI)))) jC) zI)))))
   (zQ (yO (wA (zB (pv 5) (zB (pv 4) (zB (pv 6) (zB (vQ CV rfl T.n_tuple IF (zB (pv 7) zI)) zI))))))))))))),?_⟩
 try dsimp only[Cx.nox,Cx.exc,Cx.wish,xQ]
 have hl:=L1.1;refine⟨_,rfl,lk,CL,dx,_,_,rfl,hl,T.look,T.lplace,rfl,?_⟩;refine⟨_,rfl,_,_,rfl,rfl,_,rfl,jV (λc=>?_) (λc=>?_)⟩
 ·have d0:d=0:=by have:=zO c;lia
  subst d0;exact⟨_,rfl,sm2,Ib (t2 p "deep" rfl) (jA.refl _ _)⟩
 cases d with
 |zero=>exact absurd (yA (by decide)) c
 |succ d=>
 refine⟨_,rfl,lk,dx,_,rfl,hl,rfl,lk,dx,a,p,ns,0,19,rfl,L1,λk ek=>?_,λpl wd ek=>t2 pl wd (by unfold Bj;rw[ek])⟩;obtain⟨_,k0,k19⟩:=uR ek;have ka:jA lk H (upd H lk (vJ CL dx a (p+1))):=jA.upd;have La:=L1.go ka zK;refine⟨_,rfl,_,rfl,_,rfl,_,rfl,lk,dx,a,p+1,ns,hd,hs,boxes,k,rfl,La,hh.keep hl ka,λown eo t H2 k2 el2 et2=>?_,λpl wd eo=>?_⟩
 rotate_left
 ·exact(t2 pl wd (by unfold Bj;rw[ek];simp only;rw[eo])).keep ka
 have oo:=UW k0 k19 eo;have kb:=ka.trans k2;refine⟨sm0,λps hps=>?_⟩;have g3:=yQ hps (.lst []);have nps:lk≠ps:=zS el2 hps;have ntp:t≠ps:=zS et2 hps;have kc:jA lk H (upd H2 ps (.lst [])):=kb.trans (jA.same g3);have elc:=g3 _ _ el2;obtain⟨j0,j13⟩:=Vs oo ho;generalize hN:Fh hs k own=N at j0 j13;have nHp:H ps=none:=by
  cases e:H ps with
  |none=>rfl
  |some o=>rw[kb ps o (Ne.symm nps) e]at hps;cases hps
 refine⟨_,rfl,_,rfl,_,rfl,k,t,own,hd,hs,rfl,g3 _ _ et2,hh.keep hl kc,oo,N,by rw[hN],by lia,by lia,?_⟩;have en:Bj ns hs boxes (d+1) p=match BB (Bj ns hs boxes d) N.toNat (p+1+own.length)with
   | .error b=>.error b
   | .ok r=>.ok (.mk k p own r.1,r.2):=by
  conv=>lhs;unfold Bj
  rw[ek];simp only;rw[eo];simp only;rw[hN]<;>rfl
 refine Fb (lo:=0) (n:=N.toNat) (TL (CL:=CL) lk hd dx a t ps boxes k N d p own H ns hs)
   ⟨[],[],_,_,rfl,rfl,kc,elc,g3 _ _ et2,zK,.nil,(Jt _).symm⟩ ?_ ?_
 ·rintro i σ' H' hi ⟨done,vs,p',v8,rfl,hn,kp,el,et,ep,pr,eq⟩;obtain⟨m,em⟩: ∃m,N.toNat-i=m+1:=⟨N.toNat-i-1,by lia⟩;have L2':Looks CL H' lk dx a p' ns:=L1.go kp el;have ed:(11-((d+1:Nat):Int))+1=11-(d:Int):=by lia
  refine⟨_,rfl,.inl ⟨rfl,_,.of ep⟩,_,rfl,_,rfl,_,rfl,_,rfl,_,_,rfl,rfl,lk,dx,a,p',ns,hd,hs,boxes,xM (λz=>[V.ref lk,V.ref hd,V.int boxes,V.int z]) ed,L2',hh.keep hl kp,ho,λr er v H3 k3 el3 nv=>?_,λpl wd er=>?_⟩
  ·have ep3:H3 ps=some (.lst vs):=k3 ps _ (Ne.symm nps) ep;have len:vs.length<=13:=by have:=Paired.len pr;lia
   refine⟨ps,vs,_,rfl,rfl,ep3,EQ (by lia),?_⟩;have tp:uJ H' (upd H3 ps (.lst (vs++[v]))):=.trans (.keep el k3) (.upd ep3);have ntl:t≠lk:=λz=>by rw[z,el]at et;cases et
   refine⟨done++[r.1],_,r.2,_,rfl,by simp[hn],(kp.trans k3).fresh nHp,?_,?_,zK,Ac (Paired.imp (λ_ _ z=>z.tups tp) pr) (nv.tups (.upd ep3)),?_⟩
   ·rw[zT nps];exact el3
   ·rw[zT ntp];exact k3 t _ ntl et
   ·rw[eq,em,show N.toNat-(i+1)=m by lia]
    conv=>lhs;unfold BB
    rw[er];simp only;cases BB (Bj ns hs boxes d) m r.2 with
    |error b=>rfl
    |ok r=>show Except.ok _=Except.ok _;rw[yT];rfl
  ·refine(t2 pl wd ?_).keep kp;rw[en,eq,em]
   conv=>lhs;unfold BB
   rw[er];rfl
 ·rintro σ' H' ⟨done,vs,p',v8,rfl,hn,kp,el,et,ep,pr,eq⟩;rw[Nat.sub_self]at eq;have eq':BB (Bj ns hs boxes d) N.toNat (p+1+own.length)=.ok (done,p'):=by rw[eq];show Except.ok (done++[],p')=_;rw[yY]
  refine⟨_,rfl,_,rfl,_,rfl,_,rfl,ps,vs,rfl,.inl ⟨.of ep,λq hq=>?_⟩⟩;refine⟨sm4,λu hu=>?_⟩;have s1:=yQ hq (.tup vs);have s2:=yQ hu (.tup [.int k,.int (p:Int),.ref t,.ref q]);refine t1 (.mk k p own done,p') (by rw[en,eq']) (.ref u) _ (kp.trans (jA.same (s1.trans s2))) (s2 _ _ (s1 _ _ el)) ?_;exact⟨u,t,q,vs,rfl,zK,s2 _ _ (s1 _ _ et),s2 _ _ zK,Paired.imp (λ_ _ z=>z.tups (.same (s1.trans s2))) pr⟩
theorem Ra (T:Fi K mg aP CL CN)(F:wQ K "take_node" "take_node" BV f fd)(Cc:Ds P w K mg base 1 "NoSheet" CN ["self","place","word"] (BU CN))(Mtake_within:IV P w K mg base (Fd P w) 4 CL "take_within" ["self","least","most"] (Dd CL CN))
  (Ce:uP P w K mg base 5 "take_own_sheets" ["look","kind","heads","boxes"] (Oe CL CN)) (Cb:uP P w K mg base 2 "parts_due" ["kind","numbers","heads"] Oh)
  (hm:mg "take_node"=some (.ref f)) (hk:PySem.W.keepIn K (.ref f)=true) (hb:wT K fd ["look","heads","boxes","deep"] []): ∀d,d<=10->AX P w K mg base (5+d+1) f fd ["look","heads","boxes","deep"] (GC CL CN d):=by
 intro d
 induction d with
 |zero=>exact λh=>Ot 0 h T F Cc Mtake_within Ce Cb ⟨⟨_,_,RK,hm,hk,hb⟩⟩
 |succ d ih=>exact λh=>Ot (d+1) h T F Cc Mtake_within Ce Cb ⟨⟨_,_,ih (by lia),hm,hk,hb⟩⟩
def VH (a lk hd tl dx:Addr)(rs:List V)(hs:AH)(ns:List Int)(H1:Hp)(i:Nat)(σ':St)(H':Hp):Prop:= ∃(done:List Nd) (vs:List V) (p':Nat) (v4 v5:Option V),σ'=[some (.ref a),some (.ref lk),some (.ref hd),some (.ref tl),v4,v5]/\i<=rs.length/\done.length=i/\jA lk H1 H'/\H' lk=some (vJ CL dx a p')/\
   H' hd=some (.lst rs)/\Paired (GW H') rs hs/\H' tl=some (.lst vs)/\Paired (Sj H') vs ((hs.take i).zip done)/\Ag ns hs hs (1+2*hs.length)=Ry done (Ag ns hs (hs.drop i) p')
theorem Vd (T:Fi K mg aP CL CN)(F:wQ K "functions" "functions" Et f fd)(Cc:Ds P w K mg base 1 "NoSheet" CN ["self","place","word"] (BU CN))(Cb9:Sl P w K mg base (Fd P w) 1 "Look" CL ["self","numbers"] (Ka CL))
  (Ca6:uP P w K mg base 5 "take_heads" ["look"] (Kb CL CN)) (Cr:uP P w K mg base 16 "take_node" ["look","heads","boxes","deep"] (GC CL CN 10)):
  AX P w K mg base 17 f fd ["sheet"] (Og CN):=by
 refine F.oX vP λcdv A outer s H vs Q E hr h=>?_;obtain⟨a,ns,rfl,ha,t1,t2⟩:=h;refine⟨_,(zE (xI (i:=1) vP.nd rfl (Or.inl rfl) (LJ Cb9 hr rfl (zB (pv 0) zI) jC))
   (zE (xI (i:=2) vP.nd rfl (Or.inl rfl) (yF Ca6 hr rfl (zB (pv 1) zI) jC))
   (zE (xI (i:=3) vP.nd rfl (Or.inl rfl) (wJ zI))
   (zE (BA (EX rfl rfl) rfl (Kl (pv 2)) (GL rfl (kT (jP (i:=4) vP.nd rfl (Or.inl rfl)) (kT (jP (i:=5) vP.nd rfl (Or.inl rfl)) ET))) (zQ (jO (uE yB yL yK jX (pv 3) (zB (wA (zB (pv 4) (zB (pv 5) (zB (yF Cr hr rfl (zB (pv 1) (zB (pv 2) (zB (pv 5) (zB yE zI)))) jC) zI)))) zI)))))
   (zE (xS (yH Gj (xU (pv 1) rfl) (xL xJ rfl T.n_len kN (zB (pv 0) zI)) (yU _)) (zQ (jW Cc hr rfl (zB (xU (pv 1) rfl) (zB qR zI)))) yR)
   (zQ (yO (pv 3)))))))),?_⟩
 try dsimp only[Cx.nox,Cx.exc,Cx.wish,xQ]
 refine⟨_,rfl,λlk dx hlk hdx ndx=>⟨lk,dx,a,rfl,zK,λH1 k1 el1=>⟨rfl,?_⟩⟩⟩;have nla:a≠lk:=zS ha hlk;have same0: ∀{H':Hp},jA lk (upd (upd H dx (.own lk)) lk (.ins CL dx [])) H'->qH H H':=fun{H'} k b o e=>by
  refine k b o (zS e hlk) ?_;rw[zT (zS e hlk),zT (zS e hdx)];exact e
 have L1:Looks CL H1 lk dx a 0 ns:=⟨el1,same0 k1 _ _ ha⟩;have bad: ∀{H':Hp} {p:Nat} {wd:Str},jA lk H1 H'->vI ns=.error (p,wd)->EK CN lk H' E p wd:=fun{H' p wd} k e d H'' k' ed=>t2 p wd e d H'' (same0 (k1.trans (k.trans k'))) ed;refine⟨_,rfl,lk,dx,a,ns,rfl,L1,λhs eh hd H2 k2 el2 hh=>?_,λp wd e=>bad (jA.refl _ _) (by unfold vI;rw[e])⟩;obtain⟨ho,_,l1,l16,_⟩:=KB eh;refine⟨sm0,λtl htl=>?_⟩;have g3:=yQ htl (.lst []);have nlt:lk≠tl:=zS el2 htl;have kc:jA lk H1 (upd H2 tl (.lst [])):=k2.trans (jA.same g3);obtain⟨rs,ehd,pr⟩:=id hh;have nht:hd≠tl:=zS ehd htl;have nhl:hd≠lk:=λz=>by rw[z,el2]at ehd;cases ehd
 have lr:rs.length=hs.length:=Paired.len pr;have ef:vI ns=match Ag ns hs hs (1+2*hs.length)with
   | .error b=>.error b
   | .ok r=>if r.2<ns.length then .error (r.2,"over")else .ok (hs,r.1):=by unfold vI;rw[eh]<;>rfl
 have nHt:H1 tl=none:=by
  cases e:H1 tl with
  |none=>rfl
  |some o=>rw[k2 tl o (Ne.symm nlt) e]at htl;cases htl
 have nH0:H tl=none:=(same0 k1).free nHt;refine⟨_,rfl,hd,rfl,⟨rs,.of (g3 _ _ ehd)⟩,Mh (xs:=rs) (VH (CL:=CL) a lk hd tl dx rs hs ns H1)
   ⟨[],[],_,_,_,rfl,xA _,rfl,kc,g3 _ _ el2,g3 _ _ ehd,Paired.imp (λ_ _ z=>z.tups (.same g3)) pr,zK,.nil,(Jt _).symm⟩ ?_ ?_ ?_⟩
 ·rintro i σ' H' _ ⟨done,vs,p',v4,v5,rfl,hi,hn,kp,el,eh',pr',et,pf,eq⟩;exact .of eh'
 ·rintro i x σ' H' hx ⟨done,vs,p',v4,v5,rfl,_,hn,kp,el,eh',pr',et,pf,eq⟩;have hi:i<rs.length:=(List.getElem?_eq_some_iff.mp hx).1;have e1:hs[i]? =some hs[i]:=zG (by lia);generalize hs[i]=hx1 at e1;obtain⟨u,rfl,eu⟩:=Paired.get pr' i _ _ hx e1;have dr:hs.drop i=hx1::hs.drop (i+1):=by
   have:=xY (l:=hs) (i:=i) (by lia);rw[this];congr 1;exact xP ((zG (by lia)).symm.trans e1)
  have tk:hs.take (i+1)=hs.take i++[hx1]:=by rw[List.take_add_one,e1];rfl
  refine⟨u,_,rfl,.of eu,rfl,_,_,rfl,_,_,rfl,rfl,?_⟩;have L2':Looks CL H' lk dx a p' ns:=L1.go kp el;refine⟨_,rfl,.inl ⟨rfl,_,.of et⟩,_,rfl,_,rfl,_,rfl,_,rfl,_,rfl,lk,dx,a,p',ns,hd,hs,hx1.2,rfl,L2',⟨rs,eh',pr'⟩,ho,λr er v H3 k3 el3 nv=>?_,λpl wd er=>?_⟩
  ·refine⟨sm3,λq hq=>?_⟩;have s1:=yQ hq (.tup [.int hx1.1,.int hx1.2,v]);have et3:=s1 _ _ (k3 tl _ (Ne.symm nlt) et);have len:vs.length<=16:=by
    have:=Paired.len pf;rw[List.length_zip,yX]at this;lia
   refine⟨tl,vs,_,rfl,rfl,et3,EQ (by lia),?_⟩;have tq:uJ H3 (upd (upd H3 q (.tup [.int hx1.1,.int hx1.2,v])) tl (.lst (vs++[.ref q]))):=.trans (.same s1) (.upd et3);have tp:=uJ.trans (.keep el k3) tq;have ntq:tl≠q:=zS (k3 tl _ (Ne.symm nlt) et) hq;have nql:lk≠q:=zS el3 hq;refine⟨done++[r.1],_,r.2,_,_,rfl,hi,by simp[hn],(kp.trans (k3.trans (jA.same s1))).fresh nHt,?_,?_,Paired.imp (λ_ _ z=>z.tups tp) pr',zK,?_,?_⟩
   ·rw[zT nlt];exact s1 _ _ el3
   ·rw[zT nht];exact s1 _ _ (k3 hd _ nhl eh')
   ·rw[tk,List.zip_append (by rw[yX];lia)];exact Ac (Paired.imp (λ_ _ z=>z.tups tp) pf) ⟨q,v,rfl,by rw[zT (Ne.symm ntq)];exact zK,nv.tups tq⟩
   ·rw[eq,dr]
    conv=>lhs;unfold Ag
    rw[er];simp only;cases Ag ns hs (hs.drop (i+1)) r.2 with
    |error b=>rfl
    |ok r=>show Except.ok _=Except.ok _;rw[yT];rfl
  ·refine bad kp ?_;rw[ef,eq,dr]
   conv=>lhs;unfold Ag
   rw[er];rfl
 ·rintro σ' H' ⟨done,vs,p',v4,v5,rfl,_,hn,kp,el,eh',pr',et,pf,eq⟩;rw[lr,List.drop_length]at eq;have eq':Ag ns hs hs (1+2*hs.length)=.ok (done,p'):=by rw[eq];show Except.ok (done++[],p')=_;rw[yY]
  have ea:H' a=some (.lst (ns.map V.int)):=kp a _ nla L1.2;have hz:(ns.map V.int).length =ns.length:=zF ..;refine⟨_,rfl,lk,CL,dx,_,_,rfl,el,T.look,T.lplace,rfl,_,rfl,a,_,rfl,.inl (.of ea),_,_,rfl,rfl,_,rfl,jV (λc=>?_) (λc=>?_)⟩
  ·have c':p'<ns.length:=by have:=zO c;lia
   refine⟨_,rfl,lk,CL,dx,_,_,rfl,el,T.look,T.lplace,rfl,sm2,Ib (bad (p:=p') (wd:="over") kp ?_) (jA.refl _ _)⟩;rw[ef,eq'];exact zR c'
  ·refine⟨_,rfl,t1 (hs,done) ?_ tl H' (same0 (k1.trans kp)) nH0 ⟨vs,et,by show hs.length=done.length;lia,?_⟩⟩
   ·rw[ef,eq'];exact zH λz=>c (yA (by lia))
   ·rw[lr,wC]at pf;exact pf
def NX (v:V)(tl wl:Addr)(H:Hp)(nd:Nd)(m:Nat)(σ':St)(H':Hp):Prop:= ∃(done st:List Nd) (us ws:List V) (v3 v4:Option V),σ'=[some v,some (.ref tl),some (.ref wl),v3,v4]/\m=(wZ st).length/\qH H H'/\H' tl=some (.lst us)/\H' wl=some (.lst ws)/\Paired (qU H' 10) us done/\Paired (qU H' 10) ws st/\done++wZ st.reverse=pre nd
theorem LU (T:Fi K mg aP CL CN)(n_reversed:mg "reversed"=none)(F:wQ K "nodes_in" "nodes_in" FD f fd):AX P w K mg base 1 f fd ["body"] GB:=by
 refine F.oN AJ λcdv A outer s H vs Q E hr h=>?_;obtain⟨v,nd,rfl,hv,hc,q⟩:=h;refine⟨_,(zE (xI (i:=1) AJ.nd rfl (Or.inl rfl) (wJ zI))
   (zE (xI (i:=2) AJ.nd rfl (Or.inl rfl) (wJ (zB (pv 0) zI)))
   (zE (Ic kK (LF (pv 2) (λ_=>rfl)) (zE (xI (i:=3) AJ.nd rfl (Or.inl rfl) (Nm yB PySem.F.slot_list_pop PySem.F.type_list_pop Vh (pv 2)))
   (zE (jO (uE yB yL yK jX (pv 1) (zB (pv 3) zI)))
   (zQ (BA kK rfl (UQ rfl n_reversed (zB (kG vH (pv 3) yE (λ_ _=>rfl)) zI)) (jP (i:=4) AJ.nd rfl (Or.inl rfl)) (zQ (jO (uE yB yL yK jX (pv 2) (zB (pv 4) zI)))))))))
   (zQ (yO (pv 1)))))),?_⟩
 try dsimp only[Cx.nox,Cx.exc,Cx.wish,xQ]
 refine⟨sm0,λtl htl=>?_⟩;have s1:=yQ htl (.lst []);refine⟨_,rfl,sm1,λwl hwl=>?_⟩;have s2:=yQ hwl (.lst [v]);have hwl0:H wl=none:=s1.free hwl;have ntw:tl≠wl:=zS zK hwl;have sl:sizeLine=16777216:=Ab;refine⟨NX v tl wl H nd,
  ⟨_,[],[nd],[],[v],_,_,rfl,rfl,s1.trans s2,s2 _ _ zK,zK,.nil,.cons (hv.tups (.same (s1.trans s2))) .nil,by simp[wZ]⟩,?_⟩
 rintro m σ' H' ⟨done,st,us,ws,v3,v4,rfl,rfl,g,et,ew,pu,pw,eq⟩;refine⟨_,rfl,!ws.isEmpty,.inl ⟨ws,.of ew,rfl⟩,?_⟩
 rcases List.eq_nil_or_concat ws with rfl|⟨ws',x,rfl⟩
 ·cases pw;refine AM ⟨_,rfl,q tl us H' g htl et ?_⟩;have:done=pre nd:=by simpa[wZ]using eq
  rw[<-this];exact pu
 rw[List.concat_eq_append]at *
 obtain⟨st',n,rfl,pw',nx⟩:=Paired.unsnoc pw;have ne:(!(ws'++[x]).isEmpty)=true:=by simp
 rw[ne];refine AD ⟨λσ'' H''=> ∃m',m'<(wZ (st'++[n])).length/\ ∃(done st:List Nd) (us ws:List V) (v3 v4:Option V),σ''=[some v,some (.ref tl),some (.ref wl),v3,v4]/\m'=(wZ st).length/\qH H H''/\H'' tl=some (.lst us)/\H'' wl=some (.lst ws)/\Paired (qU H'' 10) us done/\Paired (qU H'' 10) ws st/\done++wZ st.reverse=pre nd,λ_ _ z=>z,?_⟩;cases n with
 |mk k p own ps=>
 obtain⟨t,o,pq,vs,rfl,etn,eo,ep,pr⟩:=nx;have eq2:done++(.mk k p own ps::(wZ ps++wZ st'.reverse))=pre nd:=by
  rw[<-eq];simp[wZ,pre,AK]
 have tot:done.length+1+(wZ ps).length +(wZ st').length<=1000000:=by
  have:=xM List.length eq2;rw[<-DO st'];simp only[zC,zJ]at this;lia
 have lu:us.length=done.length:=Paired.len pu;have lw:ws'.length<=(wZ st').length:=by rw[Paired.len pw'];exact Ie st'
 have lv:vs.length<=(wZ ps).length:=by rw[Paired.len pr];exact Ie ps
 refine⟨_,rfl,.inl ⟨rfl,_,.of ew⟩,wl,_,.ref t,rfl,rfl,ew,by simp,?_⟩;have dl:(ws'++[V.ref t]).dropLast =ws':=by simp
 have et1:upd H' wl (.lst (ws'++[V.ref t]).dropLast) tl=some (.lst us):=by rw[zT ntw];exact et
 refine⟨_,rfl,.inl ⟨rfl,_,.of et1⟩,_,rfl,tl,us,_,rfl,rfl,et1,by lia,?_⟩;have tp2:uJ H' (upd (upd H' wl (.lst (ws'++[V.ref t]).dropLast)) tl (.lst (us++[V.ref t]))):=.trans (.upd ew) (.upd et1);have g2:qH H (upd (upd H' wl (.lst (ws'++[V.ref t]).dropLast)) tl (.lst (us++[V.ref t]))):=(g.fresh hwl0).fresh htl;refine⟨_,rfl,t,_,_,_,rfl,rfl,.of (tp2 _ _ etn),rfl,pq,vs,rfl,.of (tp2 _ _ ep),Ts (xs:=vs) (λi σ'' H''=> ∃v4,σ''=[some v,some (.ref tl),some (.ref wl),some (.ref t),v4]/\qH H H''/\H'' tl=some (.lst (us++[.ref t]))/\H'' wl=some (.lst (ws'++vs.reverse.take i))/\uJ H' H'')
  ⟨_,rfl,g2,zK,by rw[zT (Ne.symm ntw),zK,dl];simp,tp2⟩ ?_ ?_ ?_⟩
 ·rintro i σ'' H'' _ ⟨v4,rfl,_,_,_,tp⟩;exact .of (tp _ _ ep)
 ·rintro i x σ'' H'' hx ⟨v4,rfl,g3,et3,ew3,tp⟩;have hi:i<vs.length:=by have:=(List.getElem?_eq_some_iff.mp hx).1;simpa using this
  refine⟨_,rfl,.inl ⟨rfl,_,.of ew3⟩,_,rfl,wl,_,_,rfl,rfl,ew3,?_,?_⟩
  ·simp only[zC,yX,uB];lia
  ·refine⟨_,rfl,g3.fresh hwl0,by rw[zT ntw];exact et3,?_,.trans tp (.upd ew3)⟩;rw[zK,List.take_add_one,hx,yT];rfl
 ·rintro σ'' H'' ⟨v4,rfl,g3,et3,ew3,tp⟩;have tk:vs.reverse.take vs.length=vs.reverse:=by rw[<-uB (as:=vs),wC]
  rw[tk]at ew3;refine⟨_,?_,done++[.mk k p own ps],st'++ps.reverse,_,_,_,_,rfl,rfl,g3,et3,ew3,Ac (Paired.imp (λ_ _ z=>z.tups tp) pu) (qU.tups (d:=10) (n:=.mk k p own ps) tp ⟨t,o,pq,vs,rfl,etn,eo,ep,pr⟩),Paired.append (Paired.imp (λ_ _ z=>z.tups tp) pw') (Paired.imp (λ_ _ z=>(qU.tups tp z).more) (Paired.rev pr)),?_⟩
  ·simp only[AK,DO,zC,wZ,pre,zJ,qK];lia
  ·rw[<-eq2];simp[AK]
structure Sb (K:PySem.W.Frag)(mg:Str->Option Value)(aW:Addr):Prop where
 n_str:mg "str"=none
 n_zip:mg "zip"=none
 n_list:mg "list"=none
 m_NUMBER:wE mg "NUMBER" 0
 m_GET:wE mg "GET" 1
 m_SET:wE mg "SET" 2
 m_CALL:wE mg "CALL" 6
 m_WORDS:mg "WORDS"=some (.ref aW)
 words: ∀H,DX K H aW (kwW.map V.str)
inductive HR (vs:List V) (H:Hp) (Q:VK) (E:XK):Prop
 |mk (k:Int) (h0:vs=[.int k]) (h1:2<=k) (h2:k<=19) (h3:Q (.str (kwW.getD (k-2).toNat "")) H):HR vs H Q E
theorem Np (T:Sb K mg aW)(F:wQ K "word_of" "word_of" GG f fd):AX P w K mg base 1 f fd ["kind"] HR:=by
 refine F.oN Na λcdv A outer s H vs Q E hr h=>?_;obtain⟨k,rfl,h2,h19,q⟩:=h;refine⟨_,(zQ (yO (kG vH (DP rfl T.m_WORDS) (xZ DR (pv 0) (yS rfl T.m_SET)) (λ_ _=>rfl)))),?_⟩
 try dsimp only[Cx.nox,Cx.exc,Cx.wish,xQ]
 refine⟨_,rfl,_,_,rfl,rfl,aW,_,_,_,rfl,rfl,T.words _,?_,q⟩;exact GV (by lia) (by rw[zW,Rx h2 h19];rfl)
theorem Wq {n:Int}(h:n.natAbs<10^60):n.natAbs.log2<1920:=by
 refine kC (?_:n.natAbs.log2<=200) (by decide)
 by_cases z:n.natAbs=0
 ·rw[z];decide
 ·exact Bu ((Nat.log2_lt z).mpr (Am h (by decide+kernel)))
inductive GA (vs:List V) (H:Hp) (Q:VK) (E:XK):Prop
 |mk (k n:Int) (bx na:Addr) (bs:List Str) (ns:List OP) (us:List V) (h0:vs=[.int k,.int n,.ref bx,.ref na]) (h1:H bx=some (.tup (bs.map V.str))) (h2:H na=some (.tup us)) (h3:Paired (FU H) us ns) (h4:(k=1\/k=2->0<=n/\n.toNat<bs.length)) (h5:(k=6->0<=n/\n.toNat<ns.length)) (h6:n.natAbs<10^60) (h7:Q (.str (FG (ns.map (·.1)) bs k n)) H):GA vs H Q E
theorem LQ (T:Sb K mg aW)(F:wQ K "show_own" "show_own" FB f fd):AX P w K mg base 1 f fd ["kind","number","boxes","names"] GA:=by
 refine F.oN Lv λcdv A outer s H vs Q E hr h=>?_;obtain⟨k,n,bx,na,bs,ns,us,rfl,eb,en,pn,h12,h6,hn,q⟩:=h;refine⟨_,(zE (xS (PW.pt (uD (yH jY (pv 0) (yS rfl T.m_GET) (yU _)) (vX (yH jY (pv 0) (yS rfl T.m_SET) (yU _))))) (zQ (yO (kG vH (pv 2) (pv 1) (λ_ _=>rfl)))) yR)
   (zE (xS (yH jY (pv 0) (yS rfl T.m_CALL) (yU _)) (zQ (yO (kG vH (kG vH (pv 3) (pv 1) (λ_ _=>rfl)) yE (λ_ _=>rfl)))) yR)
   (zQ (yO (vQ KK rfl T.n_str NS (zB (pv 1) zI)))))),?_⟩
 try dsimp only[Cx.nox,Cx.exc,Cx.wish,xQ]
 unfold FG at q;have gb:k=1\/k=2-> ∃v,KW (bs.map V.str) n=some v/\Q v H:=λc=>by
  rw[zR c]at q;obtain⟨n0,n1⟩:=h12 c;exact⟨_,GV n0 (by rw[zW,Gp n1];rfl),q⟩
 refine⟨_,rfl,rfl,_,rfl,jV (λc=>?_) (λc=>⟨_,rfl,rfl,_,rfl,jV (λc2=>?_) (λc2=>?_)⟩)⟩
 ·obtain⟨v,e1,q1⟩:=gb (.inl (vt c));exact⟨_,rfl,_,rfl,bx,_,_,_,rfl,rfl,.of eb,e1,q1⟩
 ·obtain⟨v,e1,q1⟩:=gb (.inr (vt c2));exact⟨_,rfl,_,rfl,bx,_,_,_,rfl,rfl,.of eb,e1,q1⟩
 rw[zH (λz=>z.elim (vf c) (vf c2))]at q;refine⟨_,rfl,rfl,_,rfl,jV (λc3=>?_) (λc3=>?_)⟩
 ·rw[zR (vt c3)]at q;obtain⟨n0,n1⟩:=h6 (vt c3);have lu:=Paired.len pn;have hi:n.toNat<us.length:=by lia
  have e1:us[n.toNat]? =some us[n.toNat]:=zG hi;have e2:ns[n.toNat]? =some ns[n.toNat]:=zG n1;obtain⟨t,b,ev,h1,h2⟩:=Paired.get pn _ _ _ e1 e2;have eg:(ns.map (λx:OP=>x.1)).getD n.toNat ("":Str)=ns[n.toNat].1:=getD_some (by rw[zW,e2];rfl);rw[eg]at q;refine⟨_,rfl,_,rfl,na,_,_,_,rfl,rfl,.of en,GV n0 (by rw[e1,ev]),t,_,_,_,rfl,rfl,.of h1,rfl,q⟩
 ·rw[zH (vf c3)]at q;exact⟨_,rfl,n,rfl,Wq hn,q⟩
def MD (hs:AH)(b:Int)(nd:Nd):Prop:= ∃k p own ps,nd=.mk k p own ps/\0<=k/\k<=19/\EI hs b k own/\ ∀v∈own,v.natAbs<10^60
mutual
theorem OB {hs:AH}{b:Int}: ∀(nd:Nd) (d:Nat),CY hs b d (bare nd)->Ql (bare nd)-> ∀x∈pre nd,MD hs b x
 | .mk k p own ps,0,f,_,x,hx=>by unfold CY at f;exact f.elim
 | .mk k p own ps,d+1,f,s,x,hx=>by
  rw[L2.bare]at f s;unfold CY at f;unfold Ql at s;obtain⟨k0,k1,of,_,_,fp⟩:=f;rw[pre]at hx
  rcases List.mem_cons.mp hx with z|z
  ·exact⟨k,p,own,ps,z,k0,k1,of,s.1⟩
  ·exact Mi ps d fp s.2 x z
theorem Mi {hs:AH}{b:Int}: ∀(nds:List Nd) (d:Nat),Dq hs b d (uI nds)->II (uI nds)-> ∀x∈wZ nds,MD hs b x
 |[],d,f,_,x,hx=>by rw[wZ]at hx;cases hx
 |a::r,d,f,s,x,hx=>by
  rw[uI]at f s;unfold Dq at f;unfold II at s;rw[wZ]at hx
  rcases List.mem_append.mp hx with z|z
  ·exact OB a d f.1 s.1 x z
  ·exact Mi r d f.2 s.2 x z
end
def MJ (nm bs:List Str):Nd->List Str
 | .mk k _ own _=>JO nm bs k own
mutual
theorem Ob (nm bs:List Str): ∀nd:Nd,Dc nm bs (bare nd)=(pre nd).flatMap (MJ nm bs)
 | .mk k p own ps=>by
  rw[L2.bare,pre,CG,<-Ld nm bs ps,Dc];rfl
theorem Ld (nm bs:List Str): ∀nds:List Nd,Db nm bs (uI nds)=(wZ nds).flatMap (MJ nm bs)
 |[]=>by rw[uI,wZ];rfl
 |a::r=>by
  rw[uI,wZ,List.flatMap_append,<-Ob nm bs a,<-Ld nm bs r,Db]
end
theorem Lg {hs:AH}{b:Int}{nd:Nd}(h:MD hs b nd)(nm bs:List Str):(MJ nm bs nd).length<=2:=by
 obtain⟨k,p,own,ps,rfl,k0,k1,of,_⟩:=h;show(JO nm bs k own).length<=2;unfold JO;rw[zC,zF];have l1:(if k=0\/k=1 then[]else[kwW.getD (k-2).toNat ""]:List Str).length<=1:=by split<;>simp
 have l2:own.length<=1:=by
  rcases of with⟨rfl,n,rfl⟩|⟨hk,n,rfl,a,b⟩|⟨rfl,n,rfl,a,b⟩|⟨rfl,n,rfl,a,b⟩|⟨rfl,n,rfl,a,b⟩|⟨hk,rfl⟩<;>simp
 lia
theorem Lc {hs:AH}{b:Int}(nm bs:List Str): ∀nds:List Nd,(∀x∈nds,MD hs b x)->(nds.flatMap (MJ nm bs)).length<=2*nds.length
 |[],_=>zP _
 |a::r,h=>by
  rw[CG,zC,zJ];have h1:=Lg (h a (zM ..)) nm bs;have h2:=Lc nm bs r (λx hx=>h x (zN _ hx));lia
theorem XY {i j:Int}(c:(!decide (V.int i=V.int j))=true):i≠j:=λz=>by
 rw[z]at c
 simp at c
theorem XZ {i j:Int}(c: ¬(!decide (V.int i=V.int j))=true):i=j:=by
 by_cases h:i=j
 ·exact h
 ·refine absurd ?_ c;have: ¬V.int i=V.int j:=λz=>h (by injection z);rw[yD this];rfl
inductive Fv (vs:List V) (H:Hp) (Q:VK) (E:XK):Prop
 |mk (v:V) (nd:Nd) (bx na:Addr) (bs:List Str) (ns:List OP) (us:List V) (hs:AH) (h0:vs=[v,.ref bx,.ref na]) (h1:qU H 10 v nd) (h2:(pre nd).length<=100000) (h3:H bx=some (.tup (bs.map V.str))) (h4:H na=some (.tup us)) (h5:Paired (FU H) us ns) (h6:(∀x∈pre nd,MD hs (bs.length:Int) x)) (h7:ns.length=hs.length) (h8: ∀l H',qH H H'->H l=none->H' l=some (.lst ((Dc (ns.map (·.1)) bs (bare nd)).map V.str))->Q (.ref l) H'):Fv vs H Q E
theorem Ku (T:Sb K mg aW)(F:wQ K "show_body" "show_body" Eo f fd)(Cb1:uP P w K mg base 1 "nodes_in" ["body"] GB)(Cb6:uP P w K mg base 1 "word_of" ["kind"] HR)(Cb2:uP P w K mg base 1 "show_own" ["kind","number","boxes","names"] GA):AX P w K mg base 2 f fd ["body","boxes","names"] Fv:=by
 refine F.oN wH λcdv A outer s H vs Q E hr h=>?_;obtain⟨v,nd,bx,na,bs,ns,us,hs,rfl,hv,hc,eb,en,pn,ft,hl,q⟩:=h;refine⟨_,(zE (xI (i:=3) wH.nd rfl (Or.inl rfl) (wJ zI))
   (zE (BA kK rfl (Kl (yF Cb1 hr rfl (zB (pv 0) zI) qI)) (GL rfl (kT (jP (i:=4) wH.nd rfl (Or.inl rfl)) (kT (jP (i:=5) wH.nd rfl (Or.inl rfl)) (kT (jP (i:=6) wH.nd rfl (Or.inl rfl)) (kT (jP (i:=7) wH.nd rfl (Or.inl rfl)) ET))))) (zE (Nj (xS (PW.pt (UI (yH Ik (pv 4) (yS rfl T.m_NUMBER) (yU _)) (SB (yH Ik (pv 4) (yS rfl T.m_GET) (yU _))))) (zQ (jO (uE yB yL yK jX (pv 3) (zB (yF Cb6 hr rfl (zB (pv 4) zI) qI) zI)))) yR))
   (zQ (BA kK rfl (UO (pv 6)) (jP (i:=8) wH.nd rfl (Or.inl rfl)) (zQ (jO (uE yB yL yK jX (pv 3) (zB (yF Cb2 hr rfl (zB (pv 4) (zB (pv 8) (zB (pv 1) (zB (pv 2) zI)))) qI) zI))))))))
   (zQ (yO (pv 3))))),?_⟩
 try dsimp only[Cx.nox,Cx.exc,Cx.wish,xQ]
 refine⟨sm0,λl hl0=>?_⟩;have s1:=yQ hl0 (.lst []);refine⟨_,rfl,v,nd,rfl,hv.tups (.same s1),by lia,λll vs H1 s2 hll el pv=>?_⟩;rw[Ob]at q;have lv:=Paired.len pv;have nll:ll≠l:=λz=>by rw[z,zK]at hll;cases hll
 have el0:H1 l=some (.lst []):=s2 _ _ zK;have sl:sizeLine=16777216:=Ab;refine⟨ll,rfl,⟨_,.of el⟩,Mh (xs:=vs) (λi σ' H'=> ∃v4 v5 v6 v7 v8,σ'=[some v,some (.ref bx),some (.ref na),some (.ref l),v4,v5,v6,v7,v8]/\H' l=some (.lst ((((pre nd).take i).flatMap (MJ (ns.map (·.1)) bs)).map V.str))/\(∀b o,b≠l->H1 b=some o->H' b=some o)) ⟨_,_,_,_,_,rfl,el0,λb o _ e=>e⟩ ?_ ?_ ?_⟩
 ·rintro i σ' H' _ ⟨v4,v5,v6,v7,v8,rfl,_,kp⟩;exact .of (kp _ _ nll el)
 ·rintro i x σ' H' hx ⟨v4,v5,v6,v7,v8,rfl,ew,kp⟩;have hi:i<(pre nd).length:=by have:=(List.getElem?_eq_some_iff.mp hx).1;lia
  have ex:(pre nd)[i]? =some (pre nd)[i]:=zG hi;have fx:=ft _ (zU ex);have nx:=Paired.get pv _ _ _ hx ex;have et:(pre nd).take (i+1)=(pre nd).take i++[(pre nd)[i]]:=by rw[An,ex];rfl
  generalize(pre nd)[i]=nd1 at *
  have wl:=Lc (ns.map (·.1)) bs ((pre nd).take i) (λx hx=>ft x (kE hx));have tl:((pre nd).take i).length<=100000:=by rw[yX];lia
  have wl1:=Lg fx (ns.map (·.1)) bs;obtain⟨k,p,own,ps,rfl,k0,k1,of,sm⟩:=fx;obtain⟨t,o,pq,vs2,rfl,etn,eo,ep,pr⟩:=nx;have tp: ∀{b:Addr} {xs:List V} {G:Hp},(∀b o,b≠l->H1 b=some o->G b=some o)->H1 b=some (.tup xs)->G b=some (.tup xs):=λh e=>h _ _ (λz=>by rw[z,el0]at e;cases e) e;refine⟨t,_,rfl,.of (tp kp etn),rfl,_,_,rfl,_,_,rfl,_,_,rfl,_,_,rfl,rfl,?_⟩;have sz: ∀{xs:List Str},xs.length<=200010->(xs.map V.str).length +1<=sizeLine:=λh=>by rw[zF];lia
  have e2:MJ (ns.map (·.1)) bs (.mk k p own ps)=(if k=0\/k=1 then[]else[kwW.getD (k-2).toNat ""])++own.map (FG (ns.map (·.1)) bs k):=rfl;rw[et,List.flatMap_append,List.flatMap_singleton];generalize((pre nd).take i).flatMap (MJ (ns.map (·.1)) bs)=W0 at *
  refine⟨λσ' H'=>σ'=[some v,some (.ref bx),some (.ref na),some (.ref l),some (.int k),some (.int (p:Int)),some (.ref o),some (.ref pq),v8]/\H' l=some (.lst ((W0++(if k=0\/k=1 then[]else[kwW.getD (k-2).toNat ""])).map V.str))/\(∀b o,b≠l->H1 b=some o->H' b=some o),?_,?_⟩
  ·have no:(k=0\/k=1)->H' l=some (.lst ((W0++(if k=0\/k=1 then[]else[kwW.getD (k-2).toNat ""])).map V.str)):=λc=>by
    rw[zR c,yY];exact ew
   refine⟨_,rfl,rfl,_,rfl,jV (λc=>⟨_,rfl,rfl,_,rfl,jV (λc2=>?_) (λc2=>?_)⟩) (λc=>?_)⟩
   ·have h2: ¬(k=0\/k=1):=by
     have a:=XY c;have b:=XY c2;lia
    refine⟨_,rfl,.inl ⟨rfl,_,.of ew⟩,_,rfl,k,rfl,by lia,k1,l,_,_,rfl,rfl,ew,sz (by lia),rfl,?_,λb o nb e=>by rw[zT nb];exact kp b o nb e⟩;rw[zK,zH h2,xH];rfl
   ·have h2:k=1:=XZ c2;exact⟨rfl,no (.inr h2),kp⟩
   ·have h2:k=0:=XZ c;exact⟨rfl,no (.inl h2),kp⟩
  ·rintro σ' H2 ⟨rfl,ew2,kp2⟩;have lk:(W0++(if k=0\/k=1 then[]else[kwW.getD (k-2).toNat ""])).length<=200001:=by
    rw[zC];have:(if k=0\/k=1 then[]else[kwW.getD (k-2).toNat ""]:List Str).length<=1:=by split<;>simp
    lia
   have lo:own.length<=1:=by
    rcases of with⟨rfl,n,rfl⟩|⟨hk,n,rfl,a,b⟩|⟨rfl,n,rfl,a,b⟩|⟨rfl,n,rfl,a,b⟩|⟨rfl,n,rfl,a,b⟩|⟨hk,rfl⟩<;>simp
   rw[e2,<-yT];generalize W0++(if k=0\/k=1 then[]else[kwW.getD (k-2).toNat ""])=W1 at *
   refine⟨_,rfl,o,rfl,⟨_,.of (tp kp2 eo)⟩,Tp (xs:=own.map V.int) (λj σ' H'=> ∃v8,σ'=[some v,some (.ref bx),some (.ref na),some (.ref l),some (.int k),some (.int (p:Int)),some (.ref o),some (.ref pq),v8]/\H' l=some (.lst ((W1++(own.take j).map (FG (ns.map (·.1)) bs k)).map V.str))/\(∀b o,b≠l->H1 b=some o->H' b=some o)) ⟨_,rfl,by rw[List.take_zero,List.map_nil,yY];exact ew2,kp2⟩ ?_ ?_ ?_⟩
   ·rintro j σ' H' _ ⟨v8,rfl,_,kp3⟩;exact .of (tp kp3 eo)
   ·rintro j x σ' H' hx ⟨v8,rfl,ew3,kp3⟩;rw[zW]at hx;obtain⟨n,hn,rfl⟩:=Option.map_eq_some_iff.mp hx;have nm:=zU hn;have k3: ∀{b:Addr} {o:HO},H b=some o->H' b=some o:=fun{b o} e=>kp3 _ _ (zS e hl0) (s2 _ _ (s1 _ _ e));refine⟨_,rfl,.inl ⟨rfl,_,.of ew3⟩,_,rfl,_,rfl,_,rfl,_,rfl,k,n,bx,na,bs,ns,us,rfl,k3 eb,k3 en,Paired.imp (λv x ⟨t,b,h1,h2,h3⟩=>⟨t,b,h1,k3 h2,k3 h3⟩) pn,?_,?_,sm n nm,l,_,_,rfl,rfl,ew3,sz ?_,_,rfl,?_,λb o nb e=>by rw[zT nb];exact kp3 b o nb e⟩
    ·rintro c
     rcases of with⟨rfl,_⟩|⟨hk,n',rfl,a,b⟩|⟨rfl,_⟩|⟨rfl,_⟩|⟨rfl,_⟩|⟨hk,rfl⟩
     ·lia
     ·rw[List.mem_singleton.mp nm];lia
     ·lia
     ·lia
     ·lia
     ·cases nm
    ·rintro rfl
     rcases of with⟨z,_⟩|⟨hk,_⟩|⟨z,_⟩|⟨z,_⟩|⟨_,n',rfl,a,b⟩|⟨hk,rfl⟩
     ·lia
     ·lia
     ·lia
     ·lia
     ·rw[List.mem_singleton.mp nm];lia
     ·cases nm
    ·rw[zC,zF,yX];lia
    ·rw[zK,An,hn]
     simp
   ·rintro σ' H' ⟨v8,rfl,ew3,kp3⟩;rw[zF,wC]at ew3;exact⟨_,_,_,_,_,rfl,ew3,kp3⟩
 ·rintro σ' H' ⟨v4,v5,v6,v7,v8,rfl,ew,kp⟩;rw[lv,wC]at ew;exact⟨_,rfl,q l H' (λb o e=>kp _ _ (zS e hl0) (s2 _ _ (s1 _ _ e))) hl0 ew⟩
def Lm (pr:List Pg):Str:=Txt.join "\n" (pr.map λx=>Txt.join " " (xO x))
theorem MC: ∀(nds:List Nd) (i:Nat),(uI nds)[i]? =nds[i]?.map bare
 |[],i=>by rw[uI];rfl
 |a::r,0=>by rw[uI];rfl
 |a::r,i+1=>by rw[uI,DA,DA];exact MC r i
mutual
theorem Gh: ∀nd:Nd,(pre nd).length<=(BD (bare nd)).length
 | .mk k p own ps=>by
  rw[pre,L2.bare,BD,zJ,zJ,zC];have:=Jd ps;lia
theorem Jd: ∀nds:List Nd,(wZ nds).length<=(At (uI nds)).length
 |[]=>by rw[wZ];exact xA _
 |a::r=>by
  rw[wZ,uI,At,zC,zC];have:=Gh a;have:=Jd r;lia
end
theorem HP {α:Type}(g:α->Nat)(k:Nat): ∀l:List α,(∀x∈l,g x<=k)->(l.map g).sum<=k*l.length
 |[],_=>xA _
 |x::l,h=>by
  rw[yM,List.sum_cons,zJ,Nat.mul_add];have h1:=h x (zM ..);have h2:=HP g k l (λy hy=>h y (zN _ hy));lia
theorem Bw (c:Nat): ∀qs:List (List Nat),(wB c qs).length<=(qs.map λq=>q.length+1).sum
 |[]=>zP _
 |[q]=>by show q.length<=_;simp
 |q::q2::r=>by
  have:=Bw c (q2::r);show(q++c::wB c (q2::r)).length<=q.length+1+((q2::r).map λq=>q.length+1).sum;rw[zC,zJ];lia
theorem Jq {ws:List Str}(h: ∀w∈ws,w.length<=61):(Txt.join " " ws).length<=62*ws.length:=by
 have e:(Txt.join " " ws).cps.toList =wB 32 (ws.map λx=>x.cps.toList):=by
  have:=uH 32 ws;rw[show Txt.join " " ws=Str.join ⟨#[32]⟩ ws from qD _ _];exact this
 have hl:(Txt.join " " ws).cps.toList.length =(Txt.join " " ws).length:=yI;have:=Bw 32 (ws.map λx=>x.cps.toList);rw[<-e,hl,qQ]at this;refine yJ this (HP _ 62 ws λw hw=>?_);have h1:=h w hw;have h2:w.cps.toList.length=w.length:=yI;show w.cps.toList.length+1<=62;lia
def Sc (fs:List Fn):Prop:= ∀f∈fs,(BD f.2).length<=3000
mutual
theorem Lf (nm bs:List Str): ∀t:Tr,(Dc nm bs t).length<=(BD t).length
 | .mk k own ps=>by
  rw[Dc,BD,zC,zJ,zC];have h1:(JO nm bs k own).length<=1+own.length:=by
   unfold JO;rw[zC,zF];have:(if k=0\/k=1 then[]else[kwW.getD (k-2).toNat ""]:List Str).length<=1:=by split<;>simp
   lia
  have:=IW nm bs ps;lia
theorem IW (nm bs:List Str): ∀ts:List Tr,(Db nm bs ts).length<=(At ts).length
 |[]=>zP _
 |a::r=>by
  rw[Db,At,zC,zC];have:=Lf nm bs a;have:=IW nm bs r;lia
end
theorem Jr {hs:List KR}{x:Pg}(h:KQ hs x)(hl:x.2.1.length<=3000):(xO x).length<=3016:=by
 unfold xO;simp only[zJ,zC,yX,jK];have:=h.hd.pb;have:=h.hd.bx.few;lia
theorem Je {ns:List OP}{fs:List Fn}(h:Sc fs): ∀x∈EU ns fs,x.2.1.length<=3000:=λx hx=>by
 obtain⟨i,e⟩:=AR hx;obtain⟨n,f,e1,e2,rfl⟩:=MI e;exact yJ (Lf _ _ f.2) (h f (zU e2))
inductive Fu (vs:List V) (H:Hp) (Q:VK) (E:XK):Prop
 |mk (na sh:Addr) (ns:List OP) (fs:List Fn) (us:List V) (h0:vs=[.ref na,.ref sh]) (h1:H na=some (.tup us)) (h2:Paired (FU H) us ns) (h3:H sh=some (.lst ((wr fs).map V.int))) (h4:VA ns fs) (h5:Sc fs) (h6: ∀H',qH H H'->Q (.str (Lm (EU ns fs))) H'):Fu vs H Q E
theorem Kt (T:Sb K mg aW)(F:wQ K "show_text" "show_text" En f fd)(Ct:uP P w K mg base 17 "functions" ["sheet"] (Og CN))(Ca9:uP P w K mg base 2 "show_body" ["body","boxes","names"] Fv):AX P w K mg base 18 f fd ["names","sheet"] Fu:=by
 refine F.oN kD λcdv A outer s H vs Q E hr h=>?_;obtain⟨na,sh,ns,fs,us,rfl,en,pn,es,wf,shrt,q⟩:=h;refine⟨_,(zE (xI (i:=2) kD.nd rfl (Or.inl rfl) (wJ zI))
   (zE (BA kK rfl (UN true false rfl T.n_zip (zB (pv 0) (zB (yF Ct hr rfl (zB (pv 1) zI) qI) zI))) (GL rfl (kT (jP (i:=3) kD.nd rfl (Or.inl rfl)) (kT (jP (i:=4) kD.nd rfl (Or.inl rfl)) ET))) (zE (GK (pv 3) (GL rfl (kT (jP (i:=5) kD.nd rfl (Or.inl rfl)) (kT (jP (i:=6) kD.nd rfl (Or.inl rfl)) ET))))
   (zE (GK (pv 4) (GL rfl (kT (jP (i:=7) kD.nd rfl (Or.inl rfl)) (kT (jP (i:=8) kD.nd rfl (Or.inl rfl)) (kT (jP (i:=9) kD.nd rfl (Or.inl rfl)) ET)))))
   (zE (xI (i:=10) kD.nd rfl (Or.inl rfl) (xZ FI (xZ FI (xZ FI (xZ FI (wJ (zB qR (zB (pv 5) zI))) (vQ Bq rfl T.n_list Gs (zB (Ih Oi (pv 6) Kk (Kj (pv 7))) zI))) (wJ (zB qR zI))) (vQ Bq rfl T.n_list Gs (zB (Ih Oi (pv 6) (Kj (pv 7)) Kk) zI))) (wJ (zB qR zI))))
   (zQ (jO (uE yB yL yK jX (pv 2) (zB (uE wL PySem.F.slot_str_join PySem.F.type_str_join Ow qR (zB (xZ FI (pv 10) (yF Ca9 hr rfl (zB (pv 9) (zB (pv 6) (zB (pv 0) zI))) qI)) zI)) zI))))))))
   (zQ (yO (uE wL PySem.F.slot_str_join PySem.F.type_str_join Ow qR (zB (pv 2) zI)))))),?_⟩
 try dsimp only[Cx.nox,Cx.exc,Cx.wish,xQ]
 refine⟨sm0,λl hl=>?_⟩;have s1:=yQ hl (.lst []);obtain⟨nds,em,ef⟩:=RI wf.good wf.fit;refine⟨_,rfl,_,rfl,sh,wr fs,rfl,s1 _ _ es,⟨λr er=>?_,λp x er=>?_⟩⟩
 ·rw[em]at er;cases er;rintro fl H1 s2 hfl ⟨rs,efl,elen,pr⟩;have k1:=s1.trans s2;have en1:=k1 _ _ en;have el1:H1 l=some (.lst []):=s2 _ _ zK;have nfl:fl≠l:=λz=>by rw[z,zK]at hfl;cases hfl
  have nna:na≠l:=zS en hl;have lu:=Paired.len pn;have lr:=Paired.len pr;have ln:=wf.len;have lnd:nds.length=fs.length:=by
   have:=elen;rw[zF]at this;exact this.symm
  have lz:rs.length=fs.length:=by rw[lr];show((fs.map Prod.fst).zip nds).length =_;rw[List.length_zip,zF];lia
  have pgl:=Gi wf.len;have f16:fs.length<=16:=by have:=wf.good.hi;rwa [zF]at this
  have pok:=wf.prog;have sl:sizeLine=16777216:=Ab;refine⟨na,fl,us,rs,rfl,.of en1,.of efl,To (b1:=true) (b2:=false) (xs:=us) (ys:=rs) (λi σ' H'=> ∃v3 v4 v5 v6 v7 v8 v9 v10,σ'=[some (.ref na),some (.ref sh),some (.ref l),v3,v4,v5,v6,v7,v8,v9,v10]/\H' l=some (.lst ((((EU ns fs).take i).map λx=>Txt.join " " (xO x)).map V.str))/\(∀b o,b≠l->H1 b=some o->H' b=some o)) ⟨_,_,_,_,_,_,_,_,rfl,el1,λb o _ e=>e⟩ (by lia) ?_ ?_ ?_⟩
  ·rintro i σ' H' _ ⟨v3,v4,v5,v6,v7,v8,v9,v10,rfl,_,kp⟩;exact⟨.of (kp _ _ nna en1),.of (kp _ _ nfl efl)⟩
  ·rintro i x y σ' H' t hx hy ⟨v3,v4,v5,v6,v7,v8,v9,v10,rfl,ew,kp⟩ ht;have hi:i<fs.length:=by have:=(List.getElem?_eq_some_iff.mp hx).1;lia
   have e1:ns[i]? =some (ns[i]'(by lia)):=zG _;have e2:fs[i]? =some fs[i]:=zG hi;have e3:nds[i]? =some (nds[i]'(by lia)):=zG _;have epg:(EU ns fs)[i]? =some (IN (ns.map (·.1)) (ns[i]'(by lia)) fs[i]):=by
    unfold EU;rw[Aw,e1,e2]
   have ez:((fs.map Prod.fst).zip nds)[i]? =some (fs[i].1,nds[i]'(by lia)):=by
    rw[vU,zW,e2];exact⟨rfl,e3⟩
   have ebr:bare (nds[i]'(by lia))=fs[i].2:=by
    have:=xM (λl:List Fn=>l[i]?) ef;have t1:(OA (fs.map Prod.fst,nds))[i]? =some (fs[i].1,bare (nds[i]'(by lia))):=by
     unfold OA;rw[vU,zW,e2,MC,e3];exact⟨rfl,rfl⟩
    have this:(OA (fs.map Prod.fst,nds))[i]? =fs[i]?:=this;rw[t1,e2]at this;injection this with this
    rw[<-this]
   have bxl:=wf.bx i _ _ e1 e2;have gd:=wf.good.all i fs[i].1 (by rw[zW,e2];rfl);have hft:=wf.fit _ (zU e2);have hsm:=wf.sm _ (zU e2);have hsh:=shrt _ (zU e2);have nok:=(wf.nm _ (zU e1)).2.few;obtain⟨tn,tb,rfl,en2,eb2⟩:=Paired.get pn _ _ _ hx e1;obtain⟨tf,vb,rfl,ef2,nf2⟩:=Paired.get pr _ _ _ hy ez;have et:(EU ns fs).take (i+1)=(EU ns fs).take i++[IN (ns.map (·.1)) (ns[i]'(by lia)) fs[i]]:=by rw[An,epg];rfl
   have okl:=pok.all _ (zU epg);have wl:=Jr okl (Je shrt _ (zU epg));have wd:=BG okl;generalize hn:(ns[i]'(by lia))=n at *
   generalize hfi:fs[i]=fi at *
   generalize hnd:(nds[i]'(by lia))=nd at *
   obtain⟨nm,bs⟩:=n;obtain⟨⟨pm,bm⟩,tr⟩:=fi;dsimp only at *
   have k0: ∀{b:Addr} {o:HO},H b=some o->H' b=some o:=fun{b o} e=>kp _ _ (zS e hl) (k1 _ _ e);have tp1: ∀{b:Addr} {xs:List V},H1 b=some (.tup xs)->H' b=some (.tup xs):=λe=>kp _ _ (λz=>by rw[z,el1]at e;cases e) e;have g0:=yQ ht (.tup [.ref tn,.ref tf]);refine⟨t,_,rfl,.of zK,rfl,_,_,rfl,_,_,rfl,rfl,?_⟩;refine⟨_,rfl,tn,_,rfl,.of (g0 _ _ (k0 en2)),rfl,_,_,rfl,_,_,rfl,rfl,?_⟩;refine⟨_,rfl,tf,_,rfl,.of (g0 _ _ (tp1 ef2)),rfl,_,_,rfl,_,_,rfl,_,_,rfl,rfl,?_⟩;obtain⟨pp,rfl⟩: ∃pp:Nat,pm=(pp:Int):=⟨pm.toNat,by lia⟩;have pb:pp<=bs.length:=by lia
   have p4:pp<=4:=by lia
   have eb9:=g0 _ _ (k0 eb2);refine⟨_,rfl,sm2,λa1 h1=>?_⟩;have g1:=yQ h1 (.lst [V.str "fun",V.str nm]);refine⟨_,rfl,_,rfl,_,rfl,tb,_,rfl,g1 _ _ eb9,λr1 G1 x1 y1=>⟨r1,_,rfl,.inr (.of y1),λa2 h2=>?_⟩⟩;rw[PX];have dl:((bs.map V.str).drop pp).length<=12:=by rw[jK,zF];lia
   have n2:=yQ h2 (.lst ((bs.map V.str).take pp));refine⟨a1,a2,_,_,rfl,rfl,n2 _ _ (x1 _ _ zK),zK,small (show 2+((bs.map V.str).take pp).length<=1000 by rw[yX,zF];lia),λa3 h3=>?_⟩;have n3:=yQ h3 (.lst ([V.str "fun",V.str nm]++(bs.map V.str).take pp));refine⟨sm1,λa4 h4=>?_⟩;have n4:=yQ h4 (.lst [V.str "with"]);refine⟨a3,a4,_,_,rfl,rfl,n4 _ _ zK,zK,small (show([V.str "fun",V.str nm]++(bs.map V.str).take pp).length +1<=1000 by rw[zC,yX,zF];show 2+_+1<=_;lia),λa5 h5=>?_⟩;have n5:=yQ h5 (.lst ([V.str "fun",V.str nm]++(bs.map V.str).take pp++[V.str "with"]));have z5:=g1.trans (x1.trans (n2.trans (n3.trans (n4.trans n5))));refine⟨_,rfl,_,rfl,_,rfl,tb,_,rfl,z5 _ _ eb9,λr2 G2 x2 y2=>⟨r2,_,rfl,.inr (.of y2),λa6 h6=>?_⟩⟩;rw[PY];have n6:=yQ h6 (.lst ((bs.map V.str).drop pp));refine⟨a5,a6,_,_,rfl,rfl,n6 _ _ (x2 _ _ zK),zK,small (show([V.str "fun",V.str nm]++(bs.map V.str).take pp++[V.str "with"]).length +((bs.map V.str).drop pp).length<=1000 by rw[zC,zC,yX,zF];show 2+_+1+_<=_;lia),λa7 h7=>?_⟩;have n7:=yQ h7 (.lst ([V.str "fun",V.str nm]++(bs.map V.str).take pp++[V.str "with"]++(bs.map V.str).drop pp));refine⟨sm1,λa8 h8=>?_⟩;have n8:=yQ h8 (.lst [V.str "is"]);have l7:([V.str "fun",V.str nm]++(bs.map V.str).take pp++[V.str "with"]++(bs.map V.str).drop pp).length<=27:=by
    rw[zC,zC,zC,yX,zF];show 2+_+1+_<=_;lia
   refine⟨a7,a8,_,_,rfl,rfl,n8 _ _ zK,zK,small (yJ (Nat.add_le_add_right l7 1) (by decide)),λa9 h9=>?_⟩;have n9:=yQ h9 (.lst ([V.str "fun",V.str nm]++(bs.map V.str).take pp++[V.str "with"]++(bs.map V.str).drop pp++[V.str "is"]));have z9:=g0.trans (z5.trans (x2.trans (n6.trans (n7.trans (n8.trans n9)))));have kz: ∀{b:Addr} {o:HO},H b=some o->_:=fun{b o} e=>z9 _ _ (k0 e);refine⟨_,rfl,.inl ⟨rfl,_,.of (z9 _ _ ew)⟩,rfl,_,rfl,_,rfl,_,rfl,_,rfl,vb,nd,tb,na,bs,ns,us,fs.map Prod.fst,rfl,nf2.tups (λb xs e=>z9 _ _ (tp1 e)),?_,kz eb2,kz en,Paired.imp (λv x ⟨t,b,h1,h2,h3⟩=>⟨t,b,h1,kz h2,kz h3⟩) pn,?_,by rw[zF];exact ln,λlb HB sb hlb elb=>?_⟩
   ·have:=Gh nd;rw[ebr]at this;lia
   ·refine OB nd 10 ?_ ?_
    ·rw[ebr,<-bxl];exact hft
    ·rw[ebr];exact hsm
   rw[ebr]at elb;have key:[V.str "fun",V.str nm]++(bs.map V.str).take pp++[V.str "with"]++(bs.map V.str).drop pp++[V.str "is"]++(Dc (ns.map (·.1)) bs tr).map V.str=(xO (IN (ns.map (·.1)) (nm,bs) (((pp:Int),bm),tr))).map V.str:=by
    show _=(("fun":Str)::nm::(bs.take pp++("with":Str)::(bs.drop pp++("is":Str)::Dc (ns.map (·.1)) bs tr))).map V.str
    simp
   have lk:=xM List.length key;rw[zF,zC]at lk;refine⟨a9,lb,_,_,rfl,rfl,sb _ _ zK,elb,by lia,λa10 h10=>?_⟩;have z10:=z9.trans (sb.trans (yQ h10 (.lst ([V.str "fun",V.str nm]++(bs.map V.str).take pp++[V.str "with"]++(bs.map V.str).drop pp++[V.str "is"]++(Dc (ns.map (·.1)) bs tr).map V.str))));have sw:((xO (IN (ns.map (·.1)) (nm,bs) (((pp:Int),bm),tr))).map (·.length)).sum<=61*(xO (IN (ns.map (·.1)) (nm,bs) (((pp:Int),bm),tr))).length:=HP _ 61 _ λw hw=>(wd w hw).sh;refine⟨" ",a10,xO (IN (ns.map (·.1)) (nm,bs) (((pp:Int),bm),tr)),rfl,rfl,.of (by rw[zK,key]),?_,l,_,_,rfl,rfl,z10 _ _ ew,?_,_,_,_,_,_,_,_,_,rfl,?_,λb o nb e=>by rw[zT nb];exact z10 _ _ (kp b o nb e)⟩
   ·show _+_*1<=_;lia
   ·rw[zF,zF,yX];lia
   ·rw[zK,et,xH,xH];rfl
  ·rintro σ' H' ⟨v3,v4,v5,v6,v7,v8,v9,v10,rfl,ew,kp⟩;rw[kO (by lia)]at ew;refine⟨rfl,_,rfl,_,l,_,rfl,rfl,.of ew,?_,q H' λb o e=>kp _ _ (zS e hl) (k1 _ _ e)⟩;have bd: ∀x∈EU ns fs,(Txt.join " " (xO x)).length<=190000:=λx hx=>by
    have okl:=pok.all x hx;have wl:=Jr okl (Je shrt x hx);have:=Jq (ws:=xO x) λw hw=>(BG okl w hw).sh;lia
   have:=HP (λx=>(Txt.join " " (xO x)).length) 190000 _ bd;rw[qQ,zF];show(_:List Nat).sum +_*1<=_;have e0:((EU ns fs).map ((λx:Str=>x.length)∘λx=>Txt.join " " (xO x))).sum =((EU ns fs).map (λx=>(Txt.join " " (xO x)).length)).sum:=rfl;lia
 ·rw[em]at er;cases er
theorem QW (T:Fi K mg aP CL CN)(F:wQ K "wrong" "wrong" Kg f fd)(Ct:uP P w K mg base 17 "functions" ["sheet"] (Og CN)):
  AX P w K mg base 18 f fd ["numbers"] JR:=by
 refine F.oN Ls λcdv A outer s H vs Q E hr h=>?_;obtain⟨a,ns,rfl,ha,t1,t2⟩:=h;refine⟨_,(zE (UK (i:=1) Ls.nd rfl rfl rfl T.m_NoSheet (λ_ _=>(zQ (jO (yF Ct hr rfl (zB (pv 0) zI) jC)))) (λ_=>(zQ (yO (wA (zB (LK K rfl (pv 1)) (zB (LK K rfl (pv 1)) zI)))))))
   (zQ (yO Kn))),?_⟩
 try dsimp only[Cx.nox,Cx.exc,Cx.wish,xQ]
 refine⟨_,rfl,a,ns,rfl,ha,λr er l H1 s1 _ _=>t1 r er H1 s1,λp wd er d H1 s1 ed=>⟨CN,d,rfl,rfl,T.mch,λx σ1 ex hn=>?_⟩⟩
 match σ1,hn with
 |[y0,y1],_=>
  refine⟨_,rfl,x,CN,d,_,_,rfl,ex,ed,T.exc,T.xplace,rfl,_,rfl,x,CN,d,_,_,rfl,ex,ed,T.exc,T.xword,rfl,sm2,λt ht=>?_⟩;exact t2 p wd er t _ (s1.trans (yQ ht _)) zK
theorem Rb (F:wQ K "_law_mixed" "_law_mixed" DL f fd):AX P w K mg base 1 f fd ["_law_cell","_law_k"] HC:=by
 refine F.oN CK λcdv A outer s H vs Q E hr h=>?_;obtain⟨c,k,rfl,q⟩:=h;refine⟨_,(zE (xI (i:=2) CK.nd rfl (Or.inl rfl) (xZ Ez (xZ Ey (xZ uV (xZ uV (xZ Ez (pv 0) yE) (xZ Ey yE (pv 1))) yE) yE) yE))
   (zE (xI (i:=3) CK.nd rfl (Or.inl rfl) (xZ Ez (xZ uV (xZ uV (xZ Ey (pv 2) (pv 2)) (xZ Ey yE (pv 2))) (xZ Ey yE (pv 1))) yE))
   (zQ (yO (xZ LO (xZ Ez (xZ Ey (pv 3) (xZ uV (pv 3) yE)) yE) yE))))),?_⟩
 try dsimp only[Cx.nox,Cx.exc,Cx.wish,xQ]
 have p1:(0:Int)<2147483587:=by decide
 have p2:(0:Int)<2147483647:=by decide
 have p3:(0:Int)<2147483563:=by decide
 have p4:(0:Int)<1073741783:=by decide
 refine⟨_,rfl,_,_,rfl,rfl,p1,_,rfl,_,_,rfl,rfl,.inl ⟨by decide,by decide⟩,_,_,rfl,rfl,_,_,rfl,rfl,_,_,rfl,rfl,.inr ⟨by decide,by decide⟩,_,_,rfl,rfl,p2,?_⟩;generalize(c % 2147483587+30011*k+4711)*39373=A1;have a1:=wW A1 (show(2147483647:Int)≠0 by decide);have a2:=wO A1 p2;generalize A1 % 2147483647=A2 at *
 refine⟨_,rfl,_,rfl,_,_,rfl,rfl,.inl ⟨by lia,by lia⟩,_,rfl,_,_,rfl,rfl,.inl ⟨by decide,by decide⟩,_,_,rfl,rfl,_,rfl,_,_,rfl,rfl,.inl ⟨by decide,by decide⟩,_,_,rfl,rfl,_,_,rfl,rfl,p3,?_⟩;generalize A2*A2+40014*A2+7*k=A3;have a3:=wW A3 (show(2147483563:Int)≠0 by decide);have a4:=wO A3 p3;generalize A3 % 2147483563=A4 at *
 refine⟨_,rfl,_,rfl,_,_,rfl,rfl,_,_,rfl,rfl,.inl ⟨by lia,by lia⟩,_,_,rfl,rfl,p4,_,_,rfl,rfl,⟨by decide,by decide⟩,?_⟩;exact q _ (Int.ediv_nonneg (wW _ (by decide)) (by decide))
theorem SX (T:Fi K mg aP CL CN)(F:wQ K "_law_take" "_law_take" Eu f fd)(Ca7:uP P w K mg base 1 "_law_mixed" ["_law_cell","_law_k"] HC):AX P w K mg base 2 f fd ["_law_state","_law_many"] (Hz K):=by
 refine F.oN wI λcdv A outer s H vs Q E hr h=>?_;obtain⟨st,m,rfl,hm0,hm1,D,q⟩:=h;refine⟨_,(zE (xS (yH jY (kG qY (pv 0) yE (λ_ _=>rfl)) yE (yU _)) (zE (xI (i:=2) wI.nd rfl (Or.inl rfl) (kG qY (pv 0) yE (λ_ _=>rfl)))
   (zE (xI (i:=3) wI.nd rfl (Or.inl rfl) (kG qY (pv 0) yE (λ_ _=>rfl)))
   (zE (GK (xZ uV (pv 3) yE) (Nl (pv 0) yE HZ))
   (zE (xI (i:=4) wI.nd rfl (Or.inl rfl) yE)
   (zE (xS (yH Gj (pv 3) (xL xJ rfl T.n_len kN (zB (pv 2) zI)) (yU _)) (zQ (xI (i:=4) wI.nd rfl (Or.inl rfl) (kG qY (pv 2) (pv 3) (λ_ _=>rfl)))) (zQ (xS (yH Hf (xL xJ rfl T.n_len kN (zB (pv 2) zI)) yE (yU _)) (zQ (xI (i:=4) wI.nd rfl (Or.inl rfl) (xZ Ez (kG qY (pv 2) (xZ Ez (pv 3) (xL xJ rfl T.n_len kN (zB (pv 2) zI))) (λ_ _=>rfl)) (xZ No yE yE)))) yR)))
   (zE (xS (yH Gj (xL MA rfl T.n_abs Sa (zB (pv 4) zI)) (xZ No yE yE) (yU _)) (zQ (yO (xZ Ez (yF Ca7 hr rfl (zB (pv 4) (zB (pv 3) zI)) qI) (pv 1)))) yR)
   (zQ (GK (xL MA rfl T.n_abs Sa (zB (pv 4) zI)) (Nl (pv 0) yE HZ))))))))) yR)
   (zE (xI (i:=5) wI.nd rfl (Or.inl rfl) (xZ Ez (kG qY (pv 0) yE (λ_ _=>rfl)) (pv 1)))
   (zE (GK (xZ LO (kG qY (pv 0) yE (λ_ _=>rfl)) (pv 1)) (Nl (pv 0) yE HZ))
   (zQ (yO (pv 5)))))),?_⟩
 try dsimp only[Cx.nox,Cx.exc,Cx.wish,xQ]
 obtain⟨a,ns,k,c,hst,hs,hl,hk,hc⟩:=D;refine⟨_,rfl,st,_,_,_,rfl,rfl,Ef.of hst,rfl,rfl,_,rfl,?_⟩;have last: ∀(H2:Hp) (c2:Int) (k2:Int) (σ:St),H2 st=some (.lst [.ref a,.int k2,.int c2])->jA st H H2->0<=k2->0<=c2->σ[0]? =some (some (.ref st))->σ[1]? =some (some (.int m))->5<σ.length->
   (OV (MR (MQ (rI (λx j=>0<j) λi j=>V.int (i % j)) (MQ (Pb K) (CJ 0) (tC (V.int 2))) (CJ 1)) (Mf 5))
    (OV (MR (MQ (rI OS λi j=>V.int (i / j)) (MQ (Pb K) (CJ 0) (tC (V.int 2))) (CJ 1)) (Tm (CJ 0) (tC (V.int 2)) Om)) (Qw (CJ 5)))) {nx:=λ_ H'=>Q V.non H',rt:=Q} σ H2:=by
  intro H2 c2 k2 σ e2 kp hk2 hc2 s0 s1 sl;refine⟨_,s0,st,_,_,_,rfl,rfl,Ef.of e2,rfl,_,s1,_,_,rfl,rfl,hm0,?_⟩;refine⟨_,(kF (by decide)).trans s0,st,_,_,_,rfl,rfl,Ef.of e2,rfl,_,(kF (by decide)).trans s1,_,_,rfl,rfl,XR hm0 hm1,?_⟩;refine⟨_,(kF (by decide)).trans s0,st,_,_,_,rfl,rfl,e2,rfl,?_⟩;refine⟨_,wN sl,?_⟩;refine q _ _ (wW _ (by lia)) (wO _ hm0) ⟨⟨a,ns,k2,c2 / m,zK,(hs.keep hst kp).keep e2 jA.upd,hl,hk2,Int.ediv_nonneg hc2 (by lia)⟩,kp.trans jA.upd⟩
 refine jV (λc0=>?_) (λc0=>?_)
 ·refine⟨_,rfl,st,_,_,_,rfl,rfl,Ef.of hst,rfl,?_⟩;refine⟨_,rfl,st,_,_,_,rfl,rfl,Ef.of hst,rfl,?_⟩;refine⟨_,rfl,_,_,rfl,rfl,_,rfl,st,_,_,_,rfl,rfl,hst,rfl,?_⟩;have h1:upd H st (.lst [.ref a,.int (k+1),.int c]) st=some (.lst [.ref a,.int (k+1),.int c]):=zK;have k1:jA st H (upd H st (.lst [.ref a,.int (k+1),.int c])):=jA.upd;have s1:Sd K (upd H st (.lst [.ref a,.int (k+1),.int c])) a ns:=hs.keep hst k1;have c1:c=0:=by
   have:=zO c0;injection this
  have after: ∀(x:Int),(OV (VU (TQ (MQ (SA λi j=>V.bl (decide (i<j))) (Xf (λxs H Q=> ∃i,xs=[V.int i]/\Q (V.int (if i<0 then-i else i)) H) (Lo (CJ 4) Ln)) (MQ (rI WY λi j=>V.int (i^j.toNat)) (tC (V.int 10)) (tC (V.int 18)))))
    (Qw (MQ (rI (λx j=>0<j) λi j=>V.int (i % j)) (Lp HC [] E0 (Lo (CJ 4) (Lo (CJ 3) Ln))) (CJ 1))) TR)
    (MR (Xf (λxs H Q=> ∃i,xs=[V.int i]/\Q (V.int (if i<0 then-i else i)) H) (Lo (CJ 4) Ln)) (Tm (CJ 0) (tC (V.int 2)) Om)))
    {nx:=OV (MR (MQ (rI (λx j=>0<j) λi j=>V.int (i % j)) (MQ (Pb K) (CJ 0) (tC (V.int 2))) (CJ 1)) (Mf 5))
      (OV (MR (MQ (rI OS λi j=>V.int (i / j)) (MQ (Pb K) (CJ 0) (tC (V.int 2))) (CJ 1)) (Tm (CJ 0) (tC (V.int 2)) Om)) (Qw (CJ 5))) {nx:=λ_ H'=>Q V.non H',rt:=Q},rt:=Q}
    [some (.ref st),some (.int m),some (.ref a),some (.int k),some (.int x),none] (upd H st (.lst [.ref a,.int (k+1),.int c])):=by
   intro x;refine⟨_,rfl,_,rfl,_,_,rfl,rfl,⟨by decide,by decide,by decide⟩,_,_,rfl,rfl,_,rfl,?_⟩;refine jV (λ_=>?_) (λ_=>?_)
   ·refine⟨_,rfl,_,rfl,_,_,rfl,λr hr0=>⟨_,rfl,_,_,rfl,rfl,hm0,?_⟩⟩;exact q _ _ (wW _ (by lia)) (wO _ hm0) ⟨⟨a,ns,k+1,c,h1,s1,hl,by lia,hc⟩,k1⟩
   ·refine⟨_,rfl,_,rfl,_,rfl,st,_,_,_,rfl,rfl,h1,rfl,?_⟩;refine last _ (if x<0 then-x else x) (k+1) _ zK (k1.trans jA.upd) (by lia) (by split<;>lia) rfl rfl (by show 5<6;decide)
  have hlen:((ns.map V.int).length:Int)=ns.length:=by rw[zF]
  refine⟨_,rfl,_,rfl,a,_,rfl,.inl s1.sq,_,_,rfl,rfl,_,rfl,?_⟩;refine jV (λck=>?_) (λck=>?_)
  ·have ck':=zO ck;rw[hlen]at ck';obtain⟨v,hv⟩:=ON (ns:=ns) hk ck';exact⟨_,rfl,_,rfl,a,_,_,_,rfl,rfl,s1.sq,hv,after v⟩
  ·refine⟨_,rfl,a,_,rfl,.inl s1.sq,_,_,rfl,rfl,_,rfl,?_⟩;refine jV (λcl=>?_) (λcl=>after 0);have cl':=zO cl;obtain⟨v,hv⟩:=ON (ns:=ns) (k:=k % ((ns.map V.int).length:Int)) (wW _ (by lia)) (by rw[<-hlen];exact wO _ cl');exact⟨_,rfl,_,rfl,_,rfl,a,_,rfl,.inl s1.sq,_,_,rfl,rfl,cl',a,_,_,_,rfl,rfl,s1.sq,hv,_,_,rfl,rfl,⟨by decide,by decide,by decide⟩,_,_,rfl,rfl,(show(0:Int)<10^17 by decide),after _⟩
 ·exact last H c k _ hst (jA.refl _ _) hk hc rfl rfl (by show 5<6;decide)
theorem RJ {k:Nat}{ps:List Str}{CX:Gy}:Ap P w K mg base CX k f fd ps (λ_ _ _ _=>False):=
 ⟨λ_ _ _ _ h=>h.elim,λ_ _ _ _ _ _ _ _ _ _ _ _ _ h=>h.elim⟩
theorem Ji (T:Txt K mg aP aW aH CT CR)(F:wQ K "read_node" "read_node" BW f fd)(Ca:Ds P w K mg base 1 "NoText" CT ["self","at"] (wG CT))(Cf:uP P w K mg base 4 "take_kind" ["reading","boxes"] (HD CR CT))
  (Cd:uP P w K mg base 6 "take_own_texts" ["reading","kind","boxes"] (JU CR CT)) (Cb:uP P w K mg base 2 "parts_due" ["kind","numbers","heads"] Kc) (hm:mg "read_node"=some (.ref f)) (hk:PySem.W.keepIn K (.ref f)=true) (hb:wT K fd ["reading","boxes","deep"] []):
  ∀d,d<=10->AX P w K mg base (6+d+1) f fd ["reading","boxes","deep"] (EN CR CT d)
 |0,h=>LV 0 h T F Ca Cf Cd Cb ⟨⟨_,_,RJ,hm,hk,hb⟩⟩
 |d+1,h=>LV (d+1) h T F Ca Cf Cd Cb ⟨⟨_,_,Ji T F Ca Cf Cd Cb hm hk hb d (by lia),hm,hk,hb⟩⟩
def Ut (H:Hp)(a:Addr)(ns:List (Str×List Str)):Prop:= ∃vs,H a=some (.tup vs)/\Paired (FU H) vs ns
theorem Ms {K:PySem.W.Frag}{H:Hp}(n:Nat): ∀ss:List Str,Paired (Sk K H n) (ss.map V.str) (ss.map V.str)
 |[]=>.nil
 |x::r=>.cons (Sk.flat rfl n) (Ms n r)
theorem Dn {K:PySem.W.Frag}{H:Hp}(n:Nat): ∀ss:List Int,Paired (Sk K H n) (ss.map V.int) (ss.map V.int)
 |[]=>.nil
 |x::r=>.cons (Sk.flat rfl n) (Dn n r)
theorem OE {K:PySem.W.Frag}{H:Hp}: ∀{ns:List (Str×List Str)} {us vs:List V},Paired (FU H) us ns->Paired (FU H) vs ns->Paired (Sk K H 2) us vs
 |[],_,_,.nil,.nil=>.nil
 |x::r,_,_,.cons h1 t1,.cons h2 t2=>by
  refine .cons ?_ (OE t1 t2);obtain⟨t,b,rfl,e1,e2⟩:=h1;obtain⟨t',b',rfl,e1',e2'⟩:=h2;refine .inr ⟨t,t',_,_,rfl,rfl,.inr ⟨.of e1,.of e1'⟩,.cons (Sk.flat rfl 1) (.cons ?_ .nil)⟩;exact .inr ⟨b,b',_,_,rfl,rfl,.inr ⟨.of e2,.of e2'⟩,Ms 0 _⟩
theorem LG {hs:List KR}: ∀pr:List Pg,(∀x∈pr,KQ hs x)->(∀x∈pr,x.2.1.length<=700)->(jF pr).length<=720*pr.length
 |[],_,_=>zP _
 |x::r,h,f=>by
  have ih:=LG r (λy hy=>h y (zN _ hy)) (λy hy=>f y (zN _ hy));have hx:=h x (zM ..);have fx:=f x (zM ..);have b12:=hx.hd.bx.few;have pb:=hx.hd.pb;show(xO x++jF r).length<=_;have ll:(xO x).length<=x.1.2.1.length+4+x.2.1.length:=by
   unfold xO;simp only[zJ,zC,yX,jK];lia
  rw[zC,zJ];lia
theorem PJ {z:Str}{c:Nat}(hz:z=⟨#[c]⟩)(ws:List Str):(Txt.join z ws).length<=(ws.map λw=>w.length+1).sum:=by
 have e:(Txt.join z ws).cps.toList =wB c (ws.map λx=>x.cps.toList):=by
  rw[hz,<-uH c ws];exact xM (λt:Str=>t.cps.toList) (qD _ _)
 have l:(Txt.join z ws).cps.toList.length =(Txt.join z ws).length:=yI;rw[<-l,e];have h:=Bw c (ws.map λx=>x.cps.toList);rw[qQ]at h;have:(ws.map ((λq:List Nat=>q.length+1)∘λx=>x.cps.toList))=ws.map λw=>w.length+1:=List.map_congr_left λw _=>by
  show w.cps.toList.length+1=w.length+1;have:w.cps.toList.length=w.length:=yI;lia
 rw[this]at h;exact h
theorem Iu {hs:List KR}: ∀pr:List Pg,(∀x∈pr,KQ hs x)->((pr.map λx=>Txt.join " " (xO x)).map λw=>w.length+1).sum<=62*(jF pr).length +pr.length
 |[],_=>zP _
 |x::r,h=>by
  have ih:=Iu r (λy hy=>h y (zN _ hy));have h1:=Jq (ws:=xO x) λw hw=>(BG (h x (zM ..)) w hw).sh;show(Txt.join " " (xO x)).length +1+((r.map λx=>Txt.join " " (xO x)).map λw=>w.length+1).sum<=62*(xO x++jF r).length +(r.length+1);rw[zC];lia
theorem Ll {pr:List Pg}(p:OO pr)(few: ∀x∈pr,x.2.1.length<=700):wordsT (Lm pr)=jF pr/\KP (Lm pr)/\(∀x∈pr,((xO x).map (·.length)).sum +(xO x).length *(" ":Str).length<=16777216)/\((pr.map λx=>Txt.join " " (xO x)).map (·.length)).sum +(pr.map λx=>Txt.join " " (xO x)).length *("\n":Str).length<=16777216:=by
 have fw:=LG pr p.all few;have p16:=p.few;have ew:wordsT (Lm pr)=jF pr:=by
  have:=NG (lss:=pr.map xO) λls hls w hw=>by
   obtain⟨x,hx,rfl⟩:=List.mem_map.mp hls;exact BG (p.all x hx) w hw
  rw[qQ]at this;exact this
 have sz:=Iu pr p.all;have js:=PJ (z:="\n") (c:=10) rfl (pr.map λx=>Txt.join " " (xO x));have tl:(Lm pr).length<=1000000:=by
  show(Txt.join "\n" _).length<=_;lia
 have wd: ∀w∈jF pr,TD w:=λw hw=>by
  obtain⟨l,hl,hw'⟩:=List.mem_flatten.mp hw;obtain⟨x,hx,rfl⟩:=List.mem_map.mp hl;exact BG (p.all x hx) w hw'
 refine⟨ew,?_,λx hx=>?_,?_⟩
 ·rw[<-ew]at wd fw;obtain⟨r1,r2⟩:=GY tl wd (by lia);exact⟨tl,r1,r2,⟨by lia,λw z=>yJ (wd w z).sh (by decide)⟩⟩
 ·have h3:=HP (λw:Str=>w.length) 61 (xO x) λw hw=>(BG (p.all x hx) w hw).sh;have h4:(xO x).length<=720:=by
   have ok:=p.all x hx;have:=few x hx;unfold xO;simp only[zJ,zC,yX,jK];have:=ok.hd.pb;have:=ok.hd.bx.few;lia
  show _+_*1<=_;lia
 ·show _+_*1<=_;have e: ∀l:List Str,(l.map (·.length)).sum +l.length=(l.map λw=>w.length+1).sum:=λl=>by
   induction l with
   |nil=>rfl
   |cons a r ih=>rw[yM,yM,List.sum_cons,List.sum_cons,zJ,<-ih];lia
  rw[Nat.mul_one,e];lia
structure Qf (K:PySem.W.Frag)(mg:Str->Option Value)(tx:Str):Prop where
 n_len:mg "len"=none
 n_range:mg "range"=none
 n_isinstance:mg "isinstance"=none
 n_int:mg "int"=none
 n_bool:mg "bool"=none
 n_list:mg "list"=none
 n_str:mg "str"=none
 m_OWN_TEXT:Si mg "OWN_TEXT" tx
 tok:KP tx
 twd:wordsT tx=jF (EU ownN ownF)
 m_BREATHS_FOR_EACH:wE mg "BREATHS_FOR_EACH" 20
 kint:PySem.W.kitOne K (.type "int") (.type "int")=some true
 kbool:PySem.W.kitOne K (.type "int") (.type "bool")=some false
 klist:PySem.W.kitOne K (.type "list") (.type "list")=some true
 kstr:PySem.W.kitOne K (.type "str") (.type "str")=some true
theorem Nn:KP ownTx:=by
 have wd: ∀w∈wordsT ownTx,TD w:=λw hw=>by
  rw[BC]at hw;obtain⟨l,hl,hw'⟩:=List.mem_flatten.mp hw;obtain⟨x,hx,rfl⟩:=List.mem_map.mp hl;exact BG (Ex.prog.all x hx) w hw'
 have wl:(wordsT ownTx).length<=1000000:=by rw[BC];exact SQ
 obtain⟨r1,r2⟩:=GY LM wd wl;exact⟨LM,r1,r2,⟨wl,λw z=>yJ (wd w z).sh (by decide)⟩⟩
def WH (H':Hp)(p np sp:Addr):Prop:=H' p=some (.tup [.ref np,.ref sp])/\Ut H' np ownN/\H' sp=some (.lst ((wr ownF).map V.int))
theorem Ij {H:Hp}{R:Addr->Hp->Prop}{no:Nat->Prop}{t:Str}(e:wordsT t=jF (EU ownN ownF))(q: ∀p np sp H',qH H H'->WH H' p np sp->H sp=none->R p H'):
  Gx (λs=> ∀p sp H',qH H H'->Se H' p sp s->H sp=none->R p H') no (LA (wordsT t)):=by
 rw[e,Pc Ex.prog];intro p sp H' s r h;obtain⟨np,vs,e1,e2,e3,e4⟩:=r;refine q p np sp H' s ⟨e1,⟨vs,e2,?_⟩,?_⟩ h
 ·have:=Pe Ex.len;rw[<-this];exact e3
 ·rw[Uv Ex];unfold MZ at e4;rw[show(EB (EU ownN ownF)).length =(EU ownN ownF).length by unfold EB;rw[zF]]at e4;exact e4
def Jb (tx:Str):Sp:=λvs H Q _=>vs=[]/\Q (.str tx) H
theorem LR {tx:Str}(T:Qf K mg tx)(F:wQ K "own_text" "own_text" FC f fd):AX P w K mg base 1 f fd [] (Jb tx):=by
 refine F.oN Lw λcdv A outer s H vs Q E hr h=>?_;obtain⟨rfl,q⟩:=h;exact⟨_,(zQ (yO (HE rfl T.m_OWN_TEXT))),q⟩
def HU:Sp:=λvs H Q _=>vs=[]/\ ∀sp H',qH H H'->H' sp=some (.lst ((wr ownF).map V.int))->H sp=none->Q (.ref sp) H'
theorem Kv {tx:Str}(T:Qf K mg tx)(F:wQ K "own_sheet" "own_sheet" Er f fd)(Ck:uP P w K mg base 19 "read_text" ["text"] (HA CT)):AX P w K mg base 20 f fd [] HU:=by
 refine F.oN Ke λcdv A outer s H vs Q E hr h=>?_;obtain⟨rfl,q⟩:=h;refine⟨_,(zQ (yO (kG vH (yF Ck hr rfl (zB (HE rfl T.m_OWN_TEXT) zI) qI) yE (λ_ _=>rfl)))),?_⟩
 try dsimp only[Cx.nox,Cx.exc,Cx.wish,xQ]
 refine⟨_,rfl,T.tok,Ij T.twd λp np sp H1 s1 o h=>?_⟩;exact⟨p,_,_,_,rfl,rfl,.of o.1,rfl,q sp H1 s1 o.2.2 h⟩
inductive EO (vs:List V) (H:Hp) (Q:VK) (E:XK):Prop
 |mk (a:Addr) (xs:List Int) (h0:vs=[.ref a]) (h1:H a=some (.lst (xs.map V.int))) (h2:xs.length<=1000) (h3:Q (.int (20*((xs.length:Int)+1))) H):EO vs H Q E
theorem Nu {tx:Str}(T:Qf K mg tx)(F:wQ K "breaths_for" "breaths_for" CQ f fd):AX P w K mg base 1 f fd ["numbers"] EO:=by
 refine F.oN Ia λcdv A outer s H vs Q E hr h=>?_;obtain⟨a,xs,rfl,ha,hl,q⟩:=h;refine⟨_,(zQ (yO (xZ Ey (yS rfl T.m_BREATHS_FOR_EACH) (xZ uV (xL xJ rfl T.n_len kN (zB (pv 0) zI)) yE)))),?_⟩
 try dsimp only[Cx.nox,Cx.exc,Cx.wish,xQ]
 refine⟨_,rfl,a,_,rfl,.inl (.of ha),_,_,rfl,rfl,_,_,rfl,rfl,.inl ⟨by decide,by decide⟩,?_⟩;rw[zF];exact q
inductive MV (K:PySem.W.Frag) (vs:List V) (H:Hp) (Q:VK) (E:XK):Prop
 |mk (st:Addr) (h0:vs=[.ref st]) (h1:Fk K H st) (h2: ∀(n:Int) (H':Hp),Drawn K st H H'->Q (.int n) H'):MV K vs H Q E
theorem Ta (F:wQ K "_law_number_of" "_law_number_of" AA f fd)(Cm:uP P w K mg base 2 "_law_take" ["_law_state","_law_many"] (Hz K)):AX P w K mg base 3 f fd ["_law_state"] (MV K):=by
 refine F.oN Ge λcdv A outer s H vs Q E hr h=>?_;obtain⟨st,rfl,D,q⟩:=h;refine⟨_,(zQ (yO (kG qY (wJ (zB (xZ DR (yF Cm hr rfl (zB (pv 0) (zB yE zI)) qI) yE) (zB (xZ No yE yE) zI))) (yF Cm hr rfl (zB (pv 0) (zB yE zI)) qI) (λ_ _=>rfl)))),?_⟩
 try dsimp only[Cx.nox,Cx.exc,Cx.wish,xQ]
 refine⟨_,rfl,st,30,rfl,by decide,by decide,D,λr H1 r0 r1 d1=>?_⟩;refine⟨_,_,rfl,rfl,_,_,rfl,rfl,⟨by decide,by decide,by decide⟩,sm2,λp hp=>?_⟩;have d2:=d1.trans (d1.draw.new hp (.lst [.int (r-5),.int (10^59)]));refine⟨_,rfl,st,2,rfl,by decide,by decide,d2.draw,λi H3 i0 i1 d3=>?_⟩;have e3:=d3.keep p _ (Ne.symm (d1.draw.ne hp)) zK;have hi:i=0\/i=1:=by lia
 rcases hi with rfl|rfl
 ·exact⟨p,_,_,_,rfl,rfl,.of e3,rfl,q _ _ (d2.trans d3)⟩
 ·exact⟨p,_,_,_,rfl,rfl,.of e3,rfl,q _ _ (d2.trans d3)⟩
inductive QB (K:PySem.W.Frag) (vs:List V) (H:Hp) (Q:VK) (E:XK):Prop
 |mk (st:Addr) (h0:vs=[.ref st]) (h1:Fk K H st) (h2: ∀H':Hp,Drawn K st H H'->Q (.bl true) H'):QB K vs H Q E
theorem Tg {tx:Str}(T:Qf K mg tx)(F:wQ K "_law_breaths_right" "_law_breaths_right" qL f fd)(Cm:uP P w K mg base 2 "_law_take" ["_law_state","_law_many"] (Hz K))(Cz:uP P w K mg base 3 "_law_number_of" ["_law_state"] (MV K))(Cn:uP P w K mg base 1 "breaths_for" ["numbers"] EO):AX P w K mg base 4 f fd ["_law_state"] (QB K):=by
 refine F.oN qB λcdv A outer s H vs Q E hr h=>?_;obtain⟨st,rfl,D,q⟩:=h;refine⟨_,(zE (Ni (i:=1) qB.nd rfl rfl (own:=["_law_k"]) (ys:=["_law_state"]) rfl (Di rfl T.n_range (zB (yF Cm hr rfl (zB (pv 0) (zB yE zI)) qI) zI)) (GQ (sc:=zY qL) rfl (by decide+kernel)) (.cons (j:=0) rfl .nil) (λ_ _ _ _ _=>(jP (i:=0) (show List.Nodup [("_law_k":Str),("_law_state":Str)]from(by decide+kernel)) rfl (Or.inl rfl))) (λ_ _ _ _ _=>Oo) (λ_ _ _ _ _=>(yF Cz hr rfl (zB (pv 1) zI) qI)))
   (zE (xI (i:=2) qB.nd rfl (Or.inl rfl) (vQ Bq rfl T.n_list Gs (zB (pv 1) zI)))
   (zE (xI (i:=3) qB.nd rfl (Or.inl rfl) (yF Cn hr rfl (zB (pv 2) zI) qI))
   (zE (xS (PW.pt (uD (AB (xL BJ rfl T.n_isinstance qS (zB (pv 3) (zB (DQ (v:=.ty "bool") rfl T.n_bool OL rfl) zI)))) (uD (CS (AB (xL BJ rfl T.n_isinstance qS (zB (pv 3) (zB (DQ (v:=.ty "int") rfl T.n_int NT rfl) zI))))) (vX (yH (Kr hr) (pv 2) (pv 1) (yU _)))))) (zQ (yO Hd)) yR)
   (zQ (yO (EV jY (pv 3) (xZ uV (xZ Ey yE (xL xJ rfl T.n_len kN (zB (pv 1) zI))) yE) (yU _)))))))),?_⟩
 try dsimp only[Cx.nox,Cx.exc,Cx.wish,xQ]
 refine⟨_,rfl,st,301,rfl,by decide,by decide,D,λm H1 m0 m1 d1=>?_⟩;refine⟨m,rfl,by lia,by lia,λp hp=>?_⟩;have dp:=d1.trans (d1.draw.new hp (.lst []));refine RY (lo:=0) (n:=m.toNat) (fs:=[some (.ref st)]) (λj ys H'=>Drawn K st H H'/\ ∃zs:List Int,H' p=some (.lst (zs.map V.int))/\zs.length=j) ⟨dp,[],zK,rfl⟩ ?_ ?_
 ·rintro i ys H' hi ⟨dd,zs,ez,lz⟩;refine⟨_,rfl,st,rfl,dd.draw,λv H3 d3=>?_⟩;have nep:p≠st:=Ne.symm (d1.draw.ne hp);have e3:=d3.keep p _ nep ez;refine⟨_,e3,?_,JM.next (ys:=ys) hi ⟨⟨(d3.draw).put e3 nep,λb o n e=>?_⟩,zs++[v],?_,by rw[zC,lz];rfl⟩⟩
  ·rw[zF];exact yG (show zs.length<302 by lia) (by decide)
  ·have:b≠p:=λz=>by
    rw[z]at e;have:=d1.keep p _ nep e;rw[hp]at this;cases this
   rw[zT this];exact d3.keep b o n (dd.keep b o n e)
  ·rw[xH];exact zK
 rintro ys H2 ⟨d2,zs,ez,lz⟩;have nep:p≠st:=Ne.symm (d1.draw.ne hp);refine⟨_,rfl,p,_,rfl,.inl (.of ez),λb hb=>?_⟩;have nb:b≠st:=Ne.symm (d2.draw.ne hb);have d3:=d2.trans (d2.draw.new hb (.lst (zs.map V.int)));have sb:=yQ hb (.lst (zs.map V.int));have eb:upd H2 b (.lst (zs.map V.int)) b=some (.lst (zs.map V.int)):=zK;have ep:=sb _ _ ez;have lz3:zs.length<=1000:=by lia
 generalize upd H2 b (.lst (zs.map V.int))=H3 at *
 refine⟨_,rfl,b,zs,rfl,eb,lz3,?_⟩;refine⟨_,rfl,.inl ⟨_,_,_,false,rfl,.int _,T.kbool,_,rfl,AM ?_⟩⟩;refine⟨_,rfl,.inl ⟨_,_,_,true,rfl,.int _,T.kint,_,rfl,AM ?_⟩⟩;refine⟨_,rfl,_,rfl,b,p,_,_,0,rfl,rfl,.inl ⟨.of eb,.of ep⟩,Dn 0 _,by decide,_,rfl,AM ?_⟩;refine⟨_,rfl,_,rfl,p,_,rfl,.inl (.of ep),_,_,rfl,rfl,.inl ⟨by decide,by decide⟩,_,_,rfl,rfl,rfl,?_⟩;have ev:decide (V.int (20*((zs.length:Int)+1))=V.int (20*(((zs.map V.int).length:Nat):Int)+20))=true:=by
  rw[zF];exact yA (xM V.int (by lia))
 show Q (V.bl (decide (V.int (20*((zs.length:Int)+1))=V.int (20*(((zs.map V.int).length:Nat):Int)+20)))) H3;rw[ev];exact q _ d3
theorem Re {tx:Str}(T:Qf K mg tx)(F:wQ K "law" "law" QC f fd)(Ca1:uP P w K mg base 1 "own_text" [] (Jb tx))(Ca0:uP P w K mg base 20 "own_sheet" [] HU)(Ck:uP P w K mg base 19 "read_text" ["text"] (HA CT))(Cb8:uP P w K mg base 18 "wrong" ["numbers"] JR)
  (Ca8:uP P w K mg base 18 "show_text" ["names","sheet"] Fu) (Cg:uP P w K mg base 4 "_law_breaths_right" ["_law_state"] (QB K)) (Cn:uP P w K mg base 1 "breaths_for" ["numbers"] EO):AX P w K mg base 21 f fd ["_law_script"] (Lr K):=by
 refine F.oN Fy λcdv A outer s H vs Q E hr h=>?_;obtain⟨a,ns,rfl,hS,h63,q⟩:=h;refine⟨_,(zE (xI (i:=1) Fy.nd rfl (Or.inl rfl) (wJ (zB (pv 0) (zB yE (zB yE zI)))))
   (zE (xI (i:=2) Fy.nd rfl (Or.inl rfl) (EW Ca1 hr rfl qI))
   (zE (xI (i:=3) Fy.nd rfl (Or.inl rfl) (EW Ca0 hr rfl qI))
   (zE (xS (PW.pt (uD (CS (AB (xL BJ rfl T.n_isinstance qS (zB (pv 2) (zB (DQ (v:=.ty "str") rfl T.n_str NS rfl) zI))))) (uD (CS (AB (xL BJ rfl T.n_isinstance qS (zB (pv 3) (zB (DQ (v:=.ty "list") rfl T.n_list Gs rfl) zI))))) (uD (yH SW (yF Cb8 hr rfl (zB (pv 3) zI) qI) Kn (yU _)) (vX (yH Hf (xL xJ rfl T.n_len kN (zB (pv 3) zI)) yE (yU _))))))) (zQ (yO Hd)) yR)
   (zE (GK (yF Ck hr rfl (zB (pv 2) zI) qI) (GL rfl (kT (jP (i:=4) Fy.nd rfl (Or.inl rfl)) (kT (jP (i:=5) Fy.nd rfl (Or.inl rfl)) ET))))
   (zE (xS (PW.pt (uD (yH (Kr hr) (pv 5) (pv 3) (yU _)) (vX (yH Ik (EW Ca1 hr rfl qI) (pv 2) (yU _))))) (zQ (yO Hd)) yR)
   (zE (xI (i:=6) Fy.nd rfl (Or.inl rfl) (vQ Bq rfl T.n_list Gs (zB (pv 3) zI)))
   (zE (jO (Nm yB PySem.F.slot_list_clear PySem.F.type_list_clear Rs (pv 3)))
   (zE (jO (uE yB yL yK jX (pv 5) (zB yE zI)))
   (zE (xS (PW.pt (uD (yH (Kr hr) (EW Ca0 hr rfl qI) (pv 6) (yU _)) (vX (yH (Kr hr) (yF Ck hr rfl (zB (yF Ca8 hr rfl (zB (pv 4) (zB (pv 6) zI)) qI) zI) qI) (wA (zB (pv 4) (zB (pv 6) zI))) (yU _))))) (zQ (yO Hd)) yR)
   (zQ (yO (Kp (yF Cg hr rfl (zB (pv 1) zI) qI) (Kp (yF Cg hr rfl (zB (pv 1) zI) qI) (Km (EV jY (yF Cn hr rfl (zB (wJ zI) zI) qI) yE (yU _))))))))))))))))),?_⟩
 try dsimp only[Cx.nox,Cx.exc,Cx.wish,xQ]
 refine⟨_,rfl,sm3,λst hst=>?_⟩;have D0:Fk K (upd H st (.lst [.ref a,.int 0,.int 0])) st:=by
  refine⟨a,ns,0,0,zK,?_,h63,by decide,by decide⟩
  rcases hS with⟨o,hs⟩|hs
  ·exact .inl ⟨o,yQ hst _ _ _ hs⟩
  ·exact .inr hs
 generalize upd H st (.lst [.ref a,.int 0,.int 0])=H0 at *
 refine⟨rfl,⟨rfl,λsh H1 s1 e1 hsh=>?_⟩⟩;have D1:=D0.same s1;obtain⟨nds,fm,_⟩:=RI Ex.good Ex.fit;have ll:((wr ownF).map V.int).length<=900:=by rw[zF];exact LL
 refine⟨_,rfl,.inl ⟨_,_,_,true,rfl,.str _,T.kstr,_,rfl,AM ?_⟩⟩;refine⟨_,rfl,.inl ⟨_,_,_,true,rfl,.lst e1,T.klist,_,rfl,AM ?_⟩⟩;refine⟨_,rfl,sh,wr ownF,rfl,e1,λr er H2 s2=>?_,λp wd er=>by rw[fm]at er;cases er⟩;have e2:=s2 _ _ e1;have D2:=D1.same s2;refine⟨rfl,_,rfl,AM ?_⟩;refine⟨_,rfl,sh,_,rfl,.inl (.of e2),_,_,rfl,rfl,_,rfl,Wt (by simp;have:=LL;lia) ?_⟩;refine⟨_,rfl,_,rfl,T.tok,Ij T.twd λp np sp H3 s3 o hsp=>?_⟩;have e3:=s3 _ _ e2;have D3:=D2.same s3;have nst:sp≠st:=Ne.symm (D2.ne hsp);obtain⟨ep,hn,esp⟩:=o;refine⟨p,_,rfl,.of ep,rfl,_,_,rfl,_,_,rfl,rfl,?_⟩;refine⟨_,rfl,_,rfl,sp,sh,_,_,0,rfl,rfl,.inl ⟨.of esp,.of e3⟩,Dn 0 _,by decide,_,rfl,AM ?_⟩;refine⟨rfl,?_⟩;refine⟨_,rfl,rfl,_,rfl,Wt (by simp) ?_⟩;refine⟨_,rfl,sh,_,rfl,.inl (.of e3),λb hb=>?_⟩;have s4:=yQ hb (.lst ((wr ownF).map V.int));have e4:=s4 _ _ e3;have esp4:=s4 _ _ esp;have eb4:upd H3 b (.lst ((wr ownF).map V.int)) b=some (.lst ((wr ownF).map V.int)):=zK;have D4:=D3.same s4;have nshst:sh≠st:=Ne.symm (D0.ne hsh);have nspsh:sp≠sh:=Ne.symm (zS e2 hsp);have nbsh:b≠sh:=Ne.symm (zS e3 hb);have nbsp:b≠sp:=Ne.symm (zS esp hb);have hn4:Ut (upd H3 b (.lst ((wr ownF).map V.int))) np ownN:=by
  obtain⟨us,en,pn⟩:=hn;exact⟨us,s4 _ _ en,Paired.imp (λv x z=>z.tups λc xs e=>s4 _ _ e) pn⟩
 generalize upd H3 b (.lst ((wr ownF).map V.int))=H4 at *
 refine⟨_,rfl,.inl ⟨rfl,_,.of e4⟩,sh,_,rfl,rfl,e4,?_⟩;have esp5:upd H4 sh (.lst []) sp=some (.lst ((wr ownF).map V.int)):=by rw[zT nspsh];exact esp4
 refine⟨_,rfl,.inl ⟨rfl,_,.of esp5⟩,sp,_,_,rfl,rfl,esp5,kC ll (by decide),?_⟩;have D6:Fk K (upd (upd H4 sh (.lst [])) sp (.lst ((wr ownF).map V.int++[.int 0]))) st:=(D4.put e4 nshst).put esp5 nst;have tu: ∀{c:Addr} {xs:List V},H4 c=some (.tup xs)->upd (upd H4 sh (.lst [])) sp (.lst ((wr ownF).map V.int++[.int 0])) c=some (.tup xs):=fun{c xs} e=>by
  rw[zT (λz=>by rw[z,esp4]at e;cases e),zT (λz=>by rw[z,e4]at e;cases e)];exact e
 have eb6:upd (upd H4 sh (.lst [])) sp (.lst ((wr ownF).map V.int++[.int 0])) b=some (.lst ((wr ownF).map V.int)):=by rw[zT nbsp,zT nbsh];exact eb4
 obtain⟨us,en4,pn4⟩:=hn4;have en6:=tu en4;have pn6:Paired (FU (upd (upd H4 sh (.lst [])) sp (.lst ((wr ownF).map V.int++[.int 0])))) us ownN:=Paired.imp (λv x z=>z.tups λc xs e=>tu e) pn4;generalize upd (upd H4 sh (.lst [])) sp (.lst ((wr ownF).map V.int++[.int 0]))=H6 at *
 refine⟨rfl,λs5 H7 s7 e7 h7=>⟨_,rfl,s5,b,_,_,0,rfl,rfl,.inl ⟨.of e7,.of (s7 _ _ eb6)⟩,Dn 0 _,by decide,_,rfl,AM ?_⟩⟩;refine⟨_,rfl,_,rfl,np,b,ownN,ownF,us,rfl,s7 _ _ en6,Paired.imp (λv x z=>z.tups λc xs e=>s7 _ _ e) pn6,s7 _ _ eb6,Ex,Pk,λH8 s8=>?_⟩;obtain⟨ew,tok,_⟩:=Ll Ex.prog SU;refine⟨_,rfl,tok,Ij ew λp9 np9 sp9 H9 s9 o9 _=>?_⟩;have s69:=(s7.trans s8).trans s9;obtain⟨ep9,⟨vs9,env9,pn9⟩,esp9⟩:=o9;refine⟨_,rfl,_,rfl,sm2,λt ht=>?_⟩;have st9:=yQ ht (.tup [.ref np,.ref b]);have s6t:=s69.trans st9;refine⟨p9,t,_,_,3,rfl,rfl,.inr ⟨.of (st9 _ _ ep9),.of zK⟩,.cons ?_ (.cons ?_ .nil),by decide,_,rfl,AM ?_⟩
 ·exact .inr ⟨np9,np,_,_,rfl,rfl,.inr ⟨.of (st9 _ _ env9),.of (s6t _ _ en6)⟩,OE (Paired.imp (λv x z=>z.tups λc xs e=>st9 _ _ e) pn9) (Paired.imp (λv x z=>z.tups λc xs e=>s6t _ _ e) pn6)⟩
 ·exact .inr ⟨sp9,b,_,_,rfl,rfl,.inl ⟨.of (st9 _ _ esp9),.of (s6t _ _ eb6)⟩,Dn 2 _⟩
 have Dt:=D6.same s6t;generalize upd H9 t (.tup [.ref np,.ref b])=Ht at *
 refine⟨_,rfl,st,rfl,Dt,λHa da=>⟨true,rfl,AD ?_⟩⟩;refine⟨_,rfl,st,rfl,da.draw,λHb db=>⟨true,rfl,AD ?_⟩⟩;refine⟨sm0,λc hc=>?_⟩;refine⟨c,[],rfl,zK,by decide,?_⟩;refine⟨rfl,?_⟩;show Q (V.bl (decide (V.int (20*((([]:List Int).length:Int)+1))=V.int 20))) _;rw[show decide (V.int (20*((([]:List Int).length:Int)+1))=V.int 20)=true by decide];exact q _
end
open PySem.W in
theorem all_mk {l:OpenLaw}{w:World}{K:Frag}{h:Heap}{mg:Str->Option Value}{fa f0 f1 f2 f3 f4 f5 f6 f7 f8 f9 me ut oq se uf sr vc oz vd mw pk mj pz sx ku lf kt kx ua qq ur uq ml tz ms oy nh oi qi uu mx qh ux sj tm rh oh:Addr}{mf qN rk qC:Str}{NN cu jr:Addr}{ve km oj kj kd:List Value}{mz qu:List Str}{lq sy li kh:Bool}{kg ke:Option Bool}{sk mn rp:Option Addr}{rc mi mq su si:Option Value}{ra ue:Value}{re uk:Array (Option Value)}{kr:Array DictEntry}{nD:Nat}{ae ac aP aW aH:Addr}{ie jt jx jq je jl jm jg bc cb cg cv cq cm cf bi bh dy fh:Tok}{gw ik gn ib gy ir iw gs iq io gj fe fo gf fg fu fq fc:Tok}{jc:Nat}{iz:Array (Option Value)}{bp bz bq:Tok}{cj:Nat}{ce:Array (Option Value)}{il gp iu gr gt ip gz im gv ii ff dw dz:Tok}{jb:Nat}{ja:Array (Option Value)}{ui qM:Str}{NM:Addr}{ud jp:List Value}{qj:List Str}{pi:Bool}{kf:Option Bool}{og:Option Addr}{uv mv sf tj qz:Option Value}{aa af:Addr}{jy:Tok}{au:Tok}(X:K.In h)(G:h.Ns mainGlobals mg)(ou:mg "law"=some (.ref fa))
  (gm:nsIn K mainGlobals "NoText"=some (some (.ref ae)))
  (dk:nsIn K mainGlobals "Reading"=some (some (.ref ac)))
  (bj:nsIn K mainGlobals "NoSheet"=some (some (.ref aa)))
  (jd:nsIn K mainGlobals "Look"=some (some (.ref af)))
  (d0:Dm K ae "__init__" "NoText.__init__" Ae f0)
  (d1:Dg K "parts_of" "parts_of" "parts_of" DK f1)
  (d2:Dg K "kind_of" "kind_of" "kind_of" GH f2)
  (d3:Dg K "parts_due" "parts_due" "parts_due" BX f3)
  (d4:Dg K "words_of" "words_of" "words_of" DH f4)
  (d5:Dg K "is_written_in" "is_written_in" "is_written_in" AU f5)
  (d6:Dg K "is_name" "is_name" "is_name" GI f6)
  (d7:Dg K "is_number_of" "is_number_of" "is_number_of" By f7)
  (d8:Dg K "is_number" "is_number" "is_number" Es f8)
  (d9:Dm K ac "__init__" "Reading.__init__" uS f9)
  (uw:Dg K "number_names" "number_names" "number_names" Bx me)
  (mh:Dg K "count_params" "count_params" "count_params" Bz ut)
  (qc:Dg K "due" "due" "due" QD oq)
  (rm:Dg K "take_new_name" "take_new_name" "take_new_name" AT se)
  (sd:Dg K "take_boxes" "take_boxes" "take_boxes" DJ uf)
  (qf:Dg K "take_box" "take_box" "take_box" FA sr)
  (qy:Dg K "take_number" "take_number" "take_number" CO vc)
  (rf:Dg K "take_many" "take_many" "take_many" El oz)
  (uy:Dg K "take_called" "take_called" "take_called" CP vd)
  (py:Dg K "take_own_texts" "take_own" "take_own" Az mw)
  (qx:Dg K "take_kind" "take_kind" "take_kind" Em pk)
  (qw:Dg K "read_node" "read_node" "read_node" BW mj)
  (px:Dg K "read_function" "read_function" "read_function" uN pz)
  (ly:Dg K "read_text" "read_text" "read_text" Ep sx)
  (qr:Dm K aa "__init__" "NoSheet.__init__" uT ku)
  (nk:Dm K af "__init__" "Look.__init__" AV lf)
  (qt:Dm K af "take" "Look.take" Ev kt)
  (qp:Dm K af "take_within" "Look.take_within" uU kx)
  (om:Dg K "is_whole" "is_whole" "is_whole" FE ua)
  (nj:Dg K "take_heads" "take_heads" "take_heads" DI qq)
  (ug:Dg K "take_own_sheets" "take_own" "take_own" Ad ur)
  (pd:Dg K "take_node" "take_node" "take_node" BV uq)
  (mm:Dg K "functions" "functions" "functions" Et ml)
  (mr:Dg K "nodes_in" "nodes_in" "nodes_in" FD tz)
  (qk:Dg K "word_of" "word_of" "word_of" GG ms)
  (ny:Dg K "show_own" "show_own" "show_own" FB oy)
  (md:Dg K "show_body" "show_body" "show_body" Eo nh)
  (ub:Dg K "show_text" "show_text" "show_text" En oi)
  (vg:Dg K "wrong" "wrong" "wrong" Kg qi)
  (ph:Dg K "own_text" "own_text" "own_text" FC uu)
  (rb:Dg K "own_sheet" "own_sheet" "own_sheet" Er mx)
  (uz:Dg K "breaths_for" "breaths_for" "breaths_for" CQ qh)
  (qg:Dg K "_law_mixed" "_law_mixed" "_law_mixed" DL ux)
  (lg:Dg K "_law_take" "_law_take" "_law_take" Eu sj)
  (um:Dg K "_law_number_of" "_law_number_of" "_law_number_of" AA tm)
  (qd:Dg K "_law_breaths_right" "_law_breaths_right" "_law_breaths_right" qL rh)
  (ma:Dg K "law" "law" "law" QC oh)
  (di:nsIn K mainGlobals "len"=some none)
  (ca:nsIn K mainGlobals "range"=some none)
  (dt:nsIn K mainGlobals "int"=some none)
  (dc:nsIn K mainGlobals "tuple"=some none)
  (fj:nsIn K mainGlobals "str"=some none)
  (ai:nsIn K mainGlobals "isinstance"=some none)
  (ky:nsIn K mainGlobals "all"=some none)
  (cz:nsIn K mainGlobals "list"=some none)
  (gh:nsIn K mainGlobals "bool"=some none)
  (jk:nsIn K mainGlobals "abs"=some none)
  (jn:nsIn K mainGlobals "zip"=some none)
  (cy:nsIn K mainGlobals "reversed"=some none)
  (be:nsIn K mainGlobals "NUMBER"=some (some (.int 0 ie)))
  (fb:nsIn K mainGlobals "GET"=some (some (.int 1 jt)))
  (gg:nsIn K mainGlobals "SET"=some (some (.int 2 jx)))
  (ix:nsIn K mainGlobals "ALL"=some (some (.int 3 jq)))
  (dv:nsIn K mainGlobals "PICK"=some (some (.int 4 je)))
  (fk:nsIn K mainGlobals "LOOP"=some (some (.int 5 jl)))
  (cw:nsIn K mainGlobals "CALL"=some (some (.int 6 jm)))
  (gc:nsIn K mainGlobals "FAIL"=some (some (.int 7 jg)))
  (ah:nsIn K mainGlobals "MOST_FUNCTIONS"=some (some (.int 16 bc)))
  (ao:nsIn K mainGlobals "MOST_PARAMS"=some (some (.int 4 cb)))
  (ar:nsIn K mainGlobals "MOST_BOXES"=some (some (.int 12 cg)))
  (ba:nsIn K mainGlobals "MOST_DEEP"=some (some (.int 10 cv)))
  (ay:nsIn K mainGlobals "MOST_MANY"=some (some (.int 12 cq)))
  (az:nsIn K mainGlobals "LEAST_ALL"=some (some (.int 1 cm)))
  (aw:nsIn K mainGlobals "LEAST_PICK"=some (some (.int 2 cf)))
  (bg:nsIn K mainGlobals "MOST_LETTERS"=some (some (.int 8 bi)))
  (aj:nsIn K mainGlobals "MOST_FIGURES"=some (some (.int 60 bh)))
  (dn:nsIn K mainGlobals "LETTERS"=some (some (.str "abcdefghijklmnopqrstuvwxyz" dy)))
  (bo:nsIn K mainGlobals "FIGURES"=some (some (.str "0123456789" fh)))
  (de:nsIn K mainGlobals "WORDS"=some (some (.ref aW)))
  (dj:K.lookup aW=some ⟨.type "tuple",none,.seq #[.str "set" gw,.str "all" ik,.str "pick" gn,.str "loop" ib,.str "call" gy,.str "fail" ir,.str "add" iw,.str "sub" gs,.str "mul" iq,.str "quo" io,.str "rest" gj,.str "less" fe,.str "same" fo,.str "push" gf,.str "at" fg,.str "put" fu,.str "size" fq,.str "new" fc] jc,iz⟩)
  (bv:nsIn K mainGlobals "HEAD_WORDS"=some (some (.ref aH)))
  (bu:K.lookup aH=some ⟨.type "tuple",none,.seq #[.str "fun" bp,.str "with" bz,.str "is" bq] cj,ce⟩)
  (dh:nsIn K mainGlobals "PARTS"=some (some (.ref aP)))
  (ig:K.lookup aP=some ⟨.type "tuple",none,.seq #[.int 1 il,.int 2 gp,.int 2 iu,.int 2 gr,.int 2 gt,.int 2 ip,.int 2 gz,.int 2 im,.int 2 gv,.int 2 ii,.int 3 ff,.int 1 dw,.int 0 dz] jb,ja⟩)
  (iy:subIn K (.type "int") (.type "bool")=some false)
  (am:isFn K (.ref f9)=true)
  (gq:makesIn K ac=true)
  (kl:keepIn K (.ref ac)=true)
  (ko:plainGet K ac Str.empty=true)
  (jv:hasDictIn K ac=true)
  (jw:plainOver K ac=true)
  (jo:findIn K (.ref ac) "__setattr__"=some (some (.builtin "object.__setattr__")))
  (ic:findIn K (.ref ac) "words"=some none)
  (jz:findIn K (.ref ac) "at"=some none)
  (ij:findIn K (.ref ac) "names"=some none)
  (gu:findIn K (.ref ac) "heads"=some none)
  (du:findIn K (.ref ac) "bodies"=some none)
  (cr:findIn K (.ref ac) "numbered"=some none)
  (dq:findIn K (.ref ac) "counted"=some none)
  (xN:K.lookup ae=some (excClassObj mf qN ae NN ve (.ref cu::BZ) true mz km lq kg sk rc mi mq su si "ValueError.__new__"))
  (xC:K.lookup cu=some ⟨ra,mn,.cls ⟨rk,oj,kj,jr,qC,sy,qu,kd,li,ke,kh⟩,re⟩)
  (xD:K.lookup jr=some ⟨ue,rp,.dict kr nD,uk⟩)
  (xF:nsIn K jr "__init__"=some none)
  (lx:keepIn K (.ref ae)=true)
  (rj:typeIn K (.ref f0)=some (.type "function"))
  (ki:mroIn K ae (.type "object")=some true)
  (jj:mroIn K ae (.type "BaseException")=some true)
  (rn:findIn K (.ref ae) "__setattr__"=some (some (.builtin "object.__setattr__")))
  (uo:findIn K (.ref ae) "__getattribute__"=some (some (.builtin "BaseException.__getattribute__")))
  (qv:findIn K (.ref ae) "__getattr__"=some none)
  (qo:findIn K (.ref ae) "at"=some none)
  (xE:(kr.toList.all λe=>match e.key with| .str _ _=>true|_=>false)=true)
  (jf:nsIn K mainGlobals "NEW"=some (some (.int 19 jy)))
  (ax:isFn K (.ref lf)=true)
  (bw:isFn K (.ref kt)=true)
  (ak:isFn K (.ref kx)=true)
  (ji:makesIn K af=true)
  (tw:keepIn K (.ref af)=true)
  (pg:plainGet K af Str.empty=true)
  (hd:hasDictIn K af=true)
  (po:plainOver K af=true)
  (sa:findIn K (.ref af) "__setattr__"=some (some (.builtin "object.__setattr__")))
  (kn:findIn K (.ref af) "numbers"=some none)
  (mt:findIn K (.ref af) "place"=some none)
  (yN:K.lookup aa=some (excClassObj ui qM aa NM ud (.ref cu::BZ) true qj jp pi kf og uv mv sf tj qz "ValueError.__new__"))
  (uc:keepIn K (.ref aa)=true)
  (so:typeIn K (.ref ku)=some (.type "function"))
  (ju:mroIn K aa (.type "object")=some true)
  (jh:mroIn K aa (.type "BaseException")=some true)
  (ul:findIn K (.ref aa) "__setattr__"=some (some (.builtin "object.__setattr__")))
  (uj:findIn K (.ref aa) "__getattribute__"=some (some (.builtin "BaseException.__getattribute__")))
  (pe:findIn K (.ref aa) "__getattr__"=some none)
  (lj:findIn K (.ref aa) "place"=some none)
  (rq:findIn K (.ref aa) "word"=some none)
  (pj:subIn K (.ref aa) (.ref aa)=some true)
  (ng:typeIn K (.ref aa)=some (.type "type"))
  (qm:isClsIn K aa=true)
  (sv:subIn K (.ref aa) (.type "BaseException")=some true)
  (cp:WI K)
  (aq:nsIn K mainGlobals "BREATHS_FOR_EACH"=some (some (.int 20 au)))
  : ∃fd:FuncData,(∀(s:Shared) (v:Value),BindsTo s fd ⟨[v],[]⟩ [("_law_script",v)])/\ ∀base:Heap,K.In base->base.Ns mainGlobals mg->Ap l.prog w K mg base (Fd l.prog w) 21 fa fd ["_law_script"] (Lr K):=by
 obtain⟨a0,_,F0⟩:=d0;have b0:=F0.b2 "self" "at" λ_ _ _ _ _ _ _ _=>rfl;obtain⟨a1,_,F1⟩:=d1;have b1:=F1.b1 "kind" λ_ _ _ _ _ _ _=>rfl;have m1:=mg_of X G a1;have k1:=F1.kp;obtain⟨a2,_,F2⟩:=d2;have b2:=F2.b1 "word" λ_ _ _ _ _ _ _=>rfl;obtain⟨a3,_,F3⟩:=d3;have b3:=F3.b3 "kind" "numbers" "heads" λ_ _ _ _ _ _ _ _ _=>rfl;have m3:=mg_of X G a3;have k3:=F3.kp;obtain⟨a4,_,F4⟩:=d4;have b4:=F4.b1 "text" λ_ _ _ _ _ _ _=>rfl;obtain⟨a5,_,F5⟩:=d5;have b5:=F5.b2 "word" "signs" λ_ _ _ _ _ _ _ _=>rfl;obtain⟨a6,_,F6⟩:=d6;have b6:=F6.b1 "word" λ_ _ _ _ _ _ _=>rfl;obtain⟨a7,_,F7⟩:=d7;have b7:=F7.b2 "word" "most_figures" λ_ _ _ _ _ _ _ _=>rfl;obtain⟨a8,_,F8⟩:=d8;have b8:=F8.b1 "word" λ_ _ _ _ _ _ _=>rfl;obtain⟨a9,_,F9⟩:=d9;have b9:=F9.b2 "self" "words" λ_ _ _ _ _ _ _ _=>rfl;obtain⟨a10,_,F10⟩:=uw;have b10:=F10.b1 "words" λ_ _ _ _ _ _ _=>rfl;obtain⟨a11,_,F11⟩:=mh;have b11:=F11.b1 "words" λ_ _ _ _ _ _ _=>rfl;obtain⟨a12,_,F12⟩:=qc;have b12:=F12.b1 "reading" λ_ _ _ _ _ _ _=>rfl;obtain⟨a13,_,F13⟩:=rm;have b13:=F13.b2 "reading" "there" λ_ _ _ _ _ _ _ _=>rfl;obtain⟨a14,_,F14⟩:=sd;have b14:=F14.b4 "reading" "boxes" "most" "last" λ_ _ _ _ _ _ _ _ _ _=>rfl;obtain⟨a15,_,F15⟩:=qf;have b15:=F15.b2 "reading" "boxes" λ_ _ _ _ _ _ _ _=>rfl;obtain⟨a16,_,F16⟩:=qy;have b16:=F16.b1 "reading" λ_ _ _ _ _ _ _=>rfl;obtain⟨a17,_,F17⟩:=rf;have b17:=F17.b2 "reading" "least" λ_ _ _ _ _ _ _ _=>rfl;obtain⟨a18,_,F18⟩:=uy;have b18:=F18.b1 "reading" λ_ _ _ _ _ _ _=>rfl;obtain⟨a19,_,F19⟩:=py;have b19:=F19.b3 "reading" "kind" "boxes" λ_ _ _ _ _ _ _ _ _=>rfl;obtain⟨a20,_,F20⟩:=qx;have b20:=F20.b2 "reading" "boxes" λ_ _ _ _ _ _ _ _=>rfl;obtain⟨a21,_,F21⟩:=qw;have b21:=F21.b3 "reading" "boxes" "deep" λ_ _ _ _ _ _ _ _ _=>rfl;have m21:=mg_of X G a21;have k21:=F21.kp;obtain⟨a22,_,F22⟩:=px;have b22:=F22.b1 "reading" λ_ _ _ _ _ _ _=>rfl;obtain⟨a23,_,F23⟩:=ly;have b23:=F23.b1 "text" λ_ _ _ _ _ _ _=>rfl;obtain⟨a24,_,F24⟩:=qr;have b24:=F24.b3 "self" "place" "word" λ_ _ _ _ _ _ _ _ _=>rfl;obtain⟨a25,_,F25⟩:=nk;have b25:=F25.b2 "self" "numbers" λ_ _ _ _ _ _ _ _=>rfl;obtain⟨a26,_,F26⟩:=qt;have b26:=F26.b1 "self" λ_ _ _ _ _ _ _=>rfl;have k26:=F26.kp;obtain⟨a27,_,F27⟩:=qp;have b27:=F27.b3 "self" "least" "most" λ_ _ _ _ _ _ _ _ _=>rfl;have k27:=F27.kp;obtain⟨a28,_,F28⟩:=om;have b28:=F28.b1 "thing" λ_ _ _ _ _ _ _=>rfl;obtain⟨a29,_,F29⟩:=nj;have b29:=F29.b1 "look" λ_ _ _ _ _ _ _=>rfl;obtain⟨a30,_,F30⟩:=ug;have b30:=F30.b4 "look" "kind" "heads" "boxes" λ_ _ _ _ _ _ _ _ _ _=>rfl;obtain⟨a31,_,F31⟩:=pd;have b31:=F31.b4 "look" "heads" "boxes" "deep" λ_ _ _ _ _ _ _ _ _ _=>rfl;have m31:=mg_of X G a31;have k31:=F31.kp;obtain⟨a32,_,F32⟩:=mm;have b32:=F32.b1 "sheet" λ_ _ _ _ _ _ _=>rfl;obtain⟨a33,_,F33⟩:=mr;have b33:=F33.b1 "body" λ_ _ _ _ _ _ _=>rfl;obtain⟨a34,_,F34⟩:=qk;have b34:=F34.b1 "kind" λ_ _ _ _ _ _ _=>rfl;obtain⟨a35,_,F35⟩:=ny;have b35:=F35.b4 "kind" "number" "boxes" "names" λ_ _ _ _ _ _ _ _ _ _=>rfl;obtain⟨a36,_,F36⟩:=md;have b36:=F36.b3 "body" "boxes" "names" λ_ _ _ _ _ _ _ _ _=>rfl;obtain⟨a37,_,F37⟩:=ub;have b37:=F37.b2 "names" "sheet" λ_ _ _ _ _ _ _ _=>rfl;obtain⟨a38,_,F38⟩:=vg;have b38:=F38.b1 "numbers" λ_ _ _ _ _ _ _=>rfl;obtain⟨a39,_,F39⟩:=ph;have b39:=F39.b0 λ_ _ _ _ _ _=>rfl;obtain⟨a40,_,F40⟩:=rb;have b40:=F40.b0 λ_ _ _ _ _ _=>rfl;obtain⟨a41,_,F41⟩:=uz;have b41:=F41.b1 "numbers" λ_ _ _ _ _ _ _=>rfl;obtain⟨a42,_,F42⟩:=qg;have b42:=F42.b2 "_law_cell" "_law_k" λ_ _ _ _ _ _ _ _=>rfl;obtain⟨a43,_,F43⟩:=lg;have b43:=F43.b2 "_law_state" "_law_many" λ_ _ _ _ _ _ _ _=>rfl;obtain⟨a44,_,F44⟩:=um;have b44:=F44.b1 "_law_state" λ_ _ _ _ _ _ _=>rfl;obtain⟨a45,_,F45⟩:=qd;have b45:=F45.b1 "_law_state" λ_ _ _ _ _ _ _=>rfl;obtain⟨a46,_,F46⟩:=ma;have e:=ou.symm.trans (mg_of X G a46);cases e;refine⟨_,F46.law "_law_script" λ_ _ _ _ _ _ _=>rfl,λbase _ _=>?_⟩;have cl: ∀{x q g:Str} {st:Stmt} {f:Addr} {fd:FuncData} {k:Nat} {ps:List Str} {sp:Sp},nsIn K mainGlobals g=some (some (.ref f))->wQ K x q st f fd->wT K fd ps []->Ap l.prog w K mg base (Fd l.prog w) k f fd ps sp->TM l.prog w K mg base (Fd l.prog w) k g ps sp:=λa F b o=>Cl X G a F b o;have TS:VB K mg:=⟨xK X G di,⟨_,mg_of X G bo⟩,⟨_,mg_of X G aj⟩⟩;have T:Txt K mg aP aW aH ae ac:=⟨xK X G di,xK X G ca,xK X G dt,xK X G dc,xK X G fj,xK X G ai,⟨_,mg_of X G be⟩,⟨_,mg_of X G fb⟩,⟨_,mg_of X G gg⟩,⟨_,mg_of X G ix⟩,⟨_,mg_of X G dv⟩,⟨_,mg_of X G fk⟩,⟨_,mg_of X G cw⟩,⟨_,mg_of X G gc⟩,⟨_,mg_of X G ah⟩,⟨_,mg_of X G ao⟩,⟨_,mg_of X G ar⟩,⟨_,mg_of X G ba⟩,⟨_,mg_of X G ay⟩,⟨_,mg_of X G az⟩,⟨_,mg_of X G aw⟩,⟨_,mg_of X G bg⟩,⟨_,mg_of X G aj⟩,⟨_,mg_of X G dn⟩,⟨_,mg_of X G bo⟩,mg_of X G de,mg_of X G bv,mg_of X G dh,λH=>MU (xs:=[V.str "set",V.str "all",V.str "pick",V.str "loop",V.str "call",V.str "fail",V.str "add",V.str "sub",V.str "mul",V.str "quo",V.str "rest",V.str "less",V.str "same",V.str "push",V.str "at",V.str "put",V.str "size",V.str "new"]) dj sm18 (.cons ⟨_,rfl⟩ (.cons ⟨_,rfl⟩ (.cons ⟨_,rfl⟩ (.cons ⟨_,rfl⟩ (.cons ⟨_,rfl⟩ (.cons ⟨_,rfl⟩ (.cons ⟨_,rfl⟩ (.cons ⟨_,rfl⟩ (.cons ⟨_,rfl⟩ (.cons ⟨_,rfl⟩ (.cons ⟨_,rfl⟩ (.cons ⟨_,rfl⟩ (.cons ⟨_,rfl⟩ (.cons ⟨_,rfl⟩ (.cons ⟨_,rfl⟩ (.cons ⟨_,rfl⟩ (.cons ⟨_,rfl⟩ (.cons ⟨_,rfl⟩ (.nil))))))))))))))))))) H,⟨_,dj,rfl,rfl⟩,λH=>MU (xs:=[V.str "fun",V.str "with",V.str "is"]) bu sm3 (.cons ⟨_,rfl⟩ (.cons ⟨_,rfl⟩ (.cons ⟨_,rfl⟩ (.nil)))) H,λH=>MU (xs:=[V.int 1,V.int 2,V.int 2,V.int 2,V.int 2,V.int 2,V.int 2,V.int 2,V.int 2,V.int 2,V.int 3,V.int 1,V.int 0]) ig sm13 (.cons ⟨_,rfl⟩ (.cons ⟨_,rfl⟩ (.cons ⟨_,rfl⟩ (.cons ⟨_,rfl⟩ (.cons ⟨_,rfl⟩ (.cons ⟨_,rfl⟩ (.cons ⟨_,rfl⟩ (.cons ⟨_,rfl⟩ (.cons ⟨_,rfl⟩ (.cons ⟨_,rfl⟩ (.cons ⟨_,rfl⟩ (.cons ⟨_,rfl⟩ (.cons ⟨_,rfl⟩ (.nil)))))))))))))) H,Go,⟨RQ xN,ki,jj,rn,uo,qv⟩,qo,⟨ko,jv,jw,jo⟩,ic,jz,ij,gu,du,cr,dq⟩;have TN:Fi K mg aP af aa:=⟨xK X G di,xK X G jk,xK X G ca,xK X G ai,xK X G dt,xK X G gh,xK X G cz,xK X G dc,⟨_,mg_of X G be⟩,⟨_,mg_of X G fb⟩,⟨_,mg_of X G gg⟩,⟨_,mg_of X G ix⟩,⟨_,mg_of X G dv⟩,⟨_,mg_of X G fk⟩,⟨_,mg_of X G cw⟩,⟨_,mg_of X G gc⟩,⟨_,mg_of X G jf⟩,⟨_,mg_of X G ah⟩,⟨_,mg_of X G ao⟩,⟨_,mg_of X G ar⟩,⟨_,mg_of X G ba⟩,⟨_,mg_of X G ay⟩,⟨_,mg_of X G az⟩,⟨_,mg_of X G aw⟩,mg_of X G dh,mg_of X G bj,T.parts,Go,Vi iy,Go,Go,⟨pg,hd,po,sa⟩,kn,mt,⟨RQ yN,ju,jh,ul,uj,pe⟩,lj,rq,⟨pj,ng,qm,sv⟩⟩;have TV:Sb K mg aW:=⟨xK X G fj,xK X G jn,xK X G cz,⟨_,mg_of X G be⟩,⟨_,mg_of X G fb⟩,⟨_,mg_of X G gg⟩,⟨_,mg_of X G cw⟩,mg_of X G de,T.words⟩;have n_reversed:=xK X G cy;have TO:Qf K mg ownTx:=⟨xK X G di,xK X G ca,xK X G ai,xK X G dt,xK X G gh,xK X G cz,xK X G fj,⟨_,mg_of X G cp.is⟩,Nn,BC,⟨_,mg_of X G aq⟩,TN.kint,TN.kbool,TN.klist,T.kstr⟩;have X0:Ds l.prog w K mg base 1 "NoText" ae _ _:=⟨⟨_,_,MF.ofValue ⟨_,_,_,_,_,_,_,_,_,_,_,_,_,_,_,_,xN,Ml xC rfl (Ue xD xE) xF⟩ a0 rj lx T.exc,Rj T F0,mg_of X G gm,b0⟩⟩;have C1:=cl a1 F1 b1 (Po T F1);have C2:=cl a2 F2 b2 (Nq T F2);have C3:=cl a3 F3 b3 (Te T F3 C1);have C4:=cl a4 F4 b4 (LP F4);have C5:=cl a5 F5 b5 (IQ F5);have C6:=cl a6 F6 b6 (Nr T F6 C5);have C7:=cl a7 F7 b7 (Kw TS F7 C5);have C8:=cl a8 F8 b8 (Pp TS F8 C7);have C10:=cl a10 F10 b10 (LS T F10);have C11:=cl a11 F11 b11 (Rl T F11);have D9:Sl l.prog w K mg base (Fd l.prog w) 2 "Reading" ac _ _:=⟨⟨_,_,⟨gq,a9,am,kl⟩,Rh T F9 C10 C11,mg_of X G dk,b9⟩⟩;have C12:=cl a12 F12 b12 (Tf T F12 X0);have C13:=cl a13 F13 b13 (Tc T F13 X0 C12 C6);have C14:=cl a14 F14 b14 (Pq T F14 X0 C12 C13);have C15:=cl a15 F15 b15 (Th T F15 X0 C12);have C16:=cl a16 F16 b16 (SZ T F16 X0 C12 C8);have C17:=cl a17 F17 b17 (Rc T F17 X0 C16);have C18:=cl a18 F18 b18 (Nt T F18 X0 C12 C6);have C19:=cl a19 F19 b19 (SY T F19 C15 C16 C17 C18);have C20:=cl a20 F20 b20 (Rf T F20 X0 C12 C8 C2);have C21:TM l.prog w K mg base (Fd l.prog w) 17 "read_node" _ (EN ac ae 10):=⟨⟨_,_,Ji T F21 X0 C20 C19 C3 m21 k21 b21 10 (zP _),m21,k21,b21⟩⟩;have C22:=cl a22 F22 b22 (Td T F22 X0 C12 C13 C14 C21);have C23:=cl a23 F23 b23 (QY T F23 X0 C4 D9 C22);have X24:Ds l.prog w K mg base 1 "NoSheet" aa _ _:=⟨⟨_,_,MF.ofValue ⟨_,_,_,_,_,_,_,_,_,_,_,_,_,_,_,_,yN,Ml xC rfl (Ue xD xE) xF⟩ a24 so uc TN.exc,Rg TN F24,mg_of X G bj,b24⟩⟩;have K25:Sl l.prog w K mg base (Fd l.prog w) 1 "Look" af _ _:=⟨⟨_,_,⟨ji,a25,ax,tw⟩,Ri TN F25,mg_of X G jd,b25⟩⟩;have C28:=cl a28 F28 b28 (QX TN F28);have M26:IV l.prog w K mg base (Fd l.prog w) 3 af "take" _ _:=⟨⟨_,_,Wo TN F26 C28 X24,TN.look,⟨a26,bw,k26⟩,b26⟩⟩;have M27:IV l.prog w K mg base (Fd l.prog w) 4 af "take_within" _ _:=⟨⟨_,_,Pn TN F27 M26 X24,TN.look,⟨a27,ak,k27⟩,b27⟩⟩;have C29:=cl a29 F29 b29 (Rk TN F29 M27);have C30:=cl a30 F30 b30 (Vc TN F30 M26 M27);have S1:TM l.prog w K mg base (Fd l.prog w) 1 "parts_of" _ _:=⟨⟨_,_,QZ TN F1,m1,k1,b1⟩⟩;have S3:TM l.prog w K mg base (Fd l.prog w) 2 "parts_due" _ _:=⟨⟨_,_,Ve TN F3 S1,m3,k3,b3⟩⟩;have N31:=Ra TN F31 X24 M27 C30 S3 m31 k31 b31;have C31:TM l.prog w K mg base (Fd l.prog w) 16 "take_node" _ (GC af aa 10):=⟨⟨_,_,N31 10 (zP _),m31,k31,b31⟩⟩;have C32:=cl a32 F32 b32 (Vd TN F32 X24 K25 C29 C31);have C33:=cl a33 F33 b33 (LU TN n_reversed F33);have C34:=cl a34 F34 b34 (Np TV F34);have C35:=cl a35 F35 b35 (LQ TV F35);have C36:=cl a36 F36 b36 (Ku TV F36 C33 C34 C35);have C37:=cl a37 F37 b37 (Kt TV F37 C32 C36);have C38:=cl a38 F38 b38 (QW TN F38 C32);have C39:=cl a39 F39 b39 (LR TO F39);have C40:=cl a40 F40 b40 (Kv TO F40 C23);have C41:=cl a41 F41 b41 (Nu TO F41);have C42:=cl a42 F42 b42 (Rb F42);have C43:=cl a43 F43 b43 (SX TN F43 C42);have C44:=cl a44 F44 b44 (Ta F44 C43);have C45:=cl a45 F45 b45 (Tg TO F45 C43 C44 C41);exact Re TO F46 C39 C40 C23 C38 C37 C45 C41
theorem walk {l:PySem.W.OpenLaw}{q:Program}{loose:List Str}{XP:(Str->Option Value)->Heap->Prop}{YP:World->Heap->Prop}{d:DefRec}{K:Params->PySem.W.Frag}(hn:l.most=some 63)(hdf:d.params.defaults=[])
  (hY: ∀(w:World) (h:Heap),YP w h->(K w.params).In h)
  (F: ∀(w:World) (mg:Str->Option Value) (fa:Addr) (h:Heap),(K w.params).In h->h.Ns mainGlobals mg->mg d.name=some (.ref fa)->
   ∃fd:FuncData,(∀(s:Shared) (u:Value),BindsTo s fd ⟨[u],[]⟩ [("_law_script",u)])/\ ∀base:Heap,(K w.params).In base->base.Ns mainGlobals mg->Ap l.prog w (K w.params) mg base (Fd l.prog w) 21 fa fd ["_law_script"] (Lr (K w.params))):
  PySem.W.WalkO q loose XP YP l.row.toRowW d [] (λf vs=>PySem.call f vs):=
 L2.walk_of (n:=63) (k:=21) (x:="_law_script") (CX:=λw=>(Fd l.prog w)) (sp:=λw=>Lr (K w.params)) hn (by decide) hdf ⟨rfl,by decide,by decide,rfl⟩ hY F (λ_ _ a ns hl hO hS=>⟨a,ns,rfl,Sd.of hO hS,hl,λ_=>rfl⟩) (λ_ _ _ _ _=>Mw)
end OcL
namespace OcP
open PySem
set_option compiler.extract_closed false
def n:List Stmt->Nat->Stmt
 |a::_,0=>a
 |_::t,k+1=>n t k
 |_,_=>.Pass ⟨0,0,0,0⟩
def N:=n PySem.Challenge.pw_ownchain_k44_own_text.main.body
def s0:=N 0
def s1:=N 1
def s2:=N 2
def s3:=N 3
def s4:=N 4
def s5:=N 5
def s6:=N 6
def s7:=N 7
def s8:=N 8
def s9:=N 9
def XE:=N 10
def XX:=N 11
def Zy:=N 12
def Zx:=N 13
def Zw:=N 14
def Zv:=N 15
def Zu:=N 16
def Zt:=N 17
def Zs:=N 18
def Zr:=N 19
def Zq:=N 20
def Zp:=N 21
def Zo:=N 22
def Zn:=N 23
def Zm:=N 24
def Zl:=N 25
def Zk:=N 26
def Zj:=N 27
def Zi:=N 28
def Zh:=N 29
def Zg:=N 30
def Zf:=N 31
def Ze:=N 32
def Zd:=N 33
def Xg:=N 34
def Zc:=N 35
def Zb:=N 36
def Za:=N 37
def YZ:=N 38
def YY:=N 39
def YX:=N 40
def YW:=N 41
def YV:=N 42
def YU:=N 43
def YT:=N 44
def Wc:=N 45
def YS:=N 46
def YR:=N 47
def YQ:=N 48
def YO:=N 49
def YN:=N 50
def YM:=N 51
def YL:=N 52
def YK:=N 53
def YJ:=N 54
def YI:=N 55
def YH:=N 56
def YG:=N 57
def YF:=N 58
def YE:=N 59
def YD:=N 60
def YC:=N 61
def YB:=N 62
def YA:=N 63
def Yz:=N 64
def Yy:=N 65
def Yx:=N 66
def Yw:=N 67
def Yv (t:Str):Stmt:=.Assign [.Name "OWN_TEXT" ⟨302,0,302,8⟩] (.Constant (.str t) 0 ⟨302,11,302,2326⟩) ⟨302,0,302,2326⟩
def s69:=N 69
def Yu:=N 70
def Yt:=N 71
def Ys:=N 72
def Yr:=N 73
def Yq:=N 74
def Yp:=N 75
def Yo:=N 76
def Yn:=N 77
def Ym:=N 78
def sc:=PySem.Challenge.pw_ownchain_k44_own_text.main.scope
def gi:Given:={argv:=[],stdin:=[],environ:=(some [([76,67,95,65,76,76],[67,46,85,84,70,45,56])]):PySem.Given}
def fi:Str:="/claim/cut.py"
def pw (t:Str):Program:={main:={body:=[s0,s1,s2,s3,s4,s5,s6,s7,s8,s9,XE,XX,Zy,Zx,Zw,Zv,Zu,Zt,Zs,Zr,Zq,Zp,Zo,Zn,Zm,Zl,Zk,Zj,Zi,Zh,Zg,Zf,Ze,Zd,Xg,Zc,Zb,Za,YZ,YY,YX,YW,YV,YU,YT,Wc,YS,YR,YQ,YO,YN,YM,YL,YK,YJ,YI,YH,YG,YF,YE,YD,YC,YB,YA,Yz,Yy,Yx,Yw,Yv t,s69,Yu,Yt,Ys,Yr,Yq,Yp,Yo,Yn,Ym],scope:=sc,futureAnnotations:=false,file:=fi,more:=[]},modules:=[],parses:=[],absent:=[],harvested:=[],given:=gi}
def Wd (t:Str):PySem.W.OpenLaw:={prog:=pw t,name:=(PySem.Str.ofString "law"),about:=[(PySem.Str.ofString "own_sheet")],foot:=5,most:=some 63,bound:=none,writes:=false}
def rw:PySem.W.OpenLaw:=Wd L2.ownTx
theorem rw_eq:PySem.Challenge.rw_ownchain_k44_own_text=rw:=(rfl:_=Wd (Str.ofString "fun main with f is all 5\n  new\n  push 1 call take 1 16\n  loop less size 1 mul 3 at 1 0\n    all 3\n      push 1 0\n      push 1 call take 0 mul 4 less 1 size 2\n      push 1 call take at 1 sub size 1 1 12\n  loop less f at 1 0\n    all 4\n      put 1 add 1 mul 3 f call row size 1\n      call node at 1 add 3 mul 3 f 1\n      call emit 7 0\n      set f add f 1\n  pick 2 less size 2 size 0\n    0\n    fail add mul 4 size 2 3\n\nfun next with is\n  push 2 pick 2 less size 2 size 0\n    fail mul 4 size 2\n    at 0 size 2\n\nfun take least most with n is all 2\n  set n call next\n  pick 2 add less n least less most n\n    n\n    fail sub mul 4 size 2 3\n\nfun row place with is\n  quo sub place mul 3 at 1 0 2\n\nfun emit op n with is all 2\n  push 1 op\n  push 1 n\n\nfun jumps many with is\n  loop many all 3\n    push 1 4\n    push 1 0\n    set many sub many 1\n\nfun node boxes deep with kind own many begin end is all 4\n  pick 2 less deep 11\n    fail add mul 4 size 2 2\n    0\n  set kind call take 0 19\n  set own pick 9 kind\n    call next\n    call take 0 sub boxes 1\n    call take 0 sub boxes 1\n    call take 1 12\n    call take 2 12\n    0\n    call take 0 sub at 1 0 1\n    0\n    kind\n  pick 4 sub kind 3\n    all 2\n      call node boxes add deep 1\n      loop set own sub own 1 all 2\n        call emit 3 0\n        call node boxes add deep 1\n    all 7\n      call node boxes add deep 1\n      call emit 11 own\n      set begin add size 1 1\n      set end add own call row size 1\n      call jumps add own 1\n      loop less many own all 4\n        pick 2 many 0 call emit 4 end\n        put 1 add begin mul 2 many call row size 1\n        call node boxes add deep 1\n        set many add many 1\n      put 1 add begin mul 2 own call row size 1\n    all 10\n      set begin call row size 1\n      call emit 9 0\n      call node boxes add deep 1\n      set end size 1\n      call emit 5 0\n      call node boxes add deep 1\n      call emit 3 0\n      call emit 4 begin\n      put 1 add end 1 call row size 1\n      call emit 0 0\n    all 3\n      set many pick 9 kind\n        0 0 1 0 0 0 at 1 add 2 mul 3 own 1\n        pick 4 sub kind 17 3 1 0 2\n      loop many all 2\n        call node boxes add deep 1\n        set many sub many 1\n      call emit pick 9 kind 0 1 2 0 0 0 6 8 10 own\n")).trans (congrArg Wd L2.own_lit)
theorem UG:rw=Wd L2.ownT0:=rfl
set_option maxHeartbeats 0 in
theorem Wa:(Wd L2.ownT0).wellSaid =true:=by
 unfold PySem.W.OpenLaw.wellSaid PySem.W.OpenRow.wellSaid PySem.W.OpenRow.partSaid PySem.W.looksOpen;simp only[Bool.and_eq_true]
 and_intros
 rotate_left 4
 ·refine L2.road_own (k:=68) (q:=⟨302,0,302,8⟩) (q1:=⟨302,11,302,2326⟩) (q2:=⟨302,0,302,2326⟩) ?_ ?_ ?_ rfl<;>decide+kernel
 all_goals decide+kernel
theorem said:rw.wellSaid=true:=by rw[UG];exact Wa
end OcP
namespace PySem.W.Fast
 def tw14565884336666218443:=() def tw8951938524694912070:=() def tw8627320153264176618:=() def tw1656431802297879917:=() def tw7918403324651933171:=() def tw12962433314111106928:=() def tw7715759727236980054:=() def tw11601796816318551991:=()
 def tw6734400619359570876:=() def tw1756594346527954232:=() def tw17575334352496875020:=() def tw3208131620735066997:=() def tw16840546416217385406:=() def tw10759116009433026624:=() def tw8805900293077369379:=() def tw10037167418203425912:=()
 def tw9521466079972310548:=() def tw6544237537634739725:=() def tw14745020817201116369:=() def tw11239905718613721029:=() def tw8246556167918375419:=() def tw6280533997247443584:=() def tw5992242009326936907:=() def tw7610189339289057898:=()
 def tw13472229246654350658:=() def tw8222693170997064340:=() def tw3955259463029244844:=() def tw16527716681790106781:=() def tw18263818127231829453:=() def tw4055761927329534111:=() def tw14240462413498613517:=() def tw346433777809681416:=()
 def tw17011455908311718841:=() def tw18341165917898676546:=() def tw233396031308634938:=() def tw13341244822484052677:=() def tw7524590992847575939:=() def tw12260853254583711463:=() def tw3223521636128709756:=() def tw3982855108419499496:=()
 def tw6071426197697173063:=() def tw16016047226855880504:=() def tw10175383724936470824:=() def tw8422899867391526606:=() def tw8752759538774844337:=() def tw9647555991986291419:=() def tw18007456422971702017:=() def tw5351120301162561777:=()
 def tw11644487970238138660:=() def tw8490458129967788509:=() def tw12341117875388416387:=() def tw8854374240670976319:=() def tw16021596958059261640:=() def tw513089335126794743:=() def tw1490443384858724611:=() def tw11724984257861277767:=()
 def tw6730943522488162465:=() def tw15203924158251512035:=() def tw8648070930451635439:=() def tw640349399710590243:=() def tw16773640486986878338:=() def tw12300543720482858685:=() def tw3754997067539061415:=() def tw10923804500243862081:=()
 def tw14394675673687953798:=() def tw16934900289382863391:=() def tw1330631910018939866:=() def tw8956797845922882855:=() def tw71047446318492051:=() def tw17045377357442656727:=() def tw8882826348672971512:=() def tw16234409436011392293:=()
 def tw12142540006423892922:=() def tw1485315081306743248:=() def tw117076367501330774:=() def tw6577256368050241905:=() def tw11757989198035855623:=() def tw14501917459911752972:=() def tw2371475935113847977:=() def tw15099602831168347185:=()
 def tw10031495386218430535:=() def tw13241538838875397161:=() def tw16731818255468460828:=() def tw5106670285440270238:=() def tw10550807923231434566:=() def tw13122402096184835500:=() def tw17808638808373872212:=() def tw1934147405599288766:=()
 def tw14444587176070207645:=() def tw7203616677537898657:=() def tw7884789264368817733:=() def tw5677496160081651846:=() def tw17781616488032595675:=() def tw2633574195749061609:=() def tw14139808239064414724:=() def tw14184596284627683744:=()
 def tw11450070961539358518:=() def tw12384782222331727858:=() def tw15409477398906573754:=() def tw13810652193469420595:=() def tw3100955732656778360:=() def tw6800543745023081280:=() def tw14807047720980412221:=() def tw10085569995728821939:=()
 def tw4599084650232194575:=() def tw11517627088735664034:=() def tw12211349039799353852:=() def tw2751581041929560931:=() def tw5048449358877558399:=() def tw10216879979113377045:=() def tw14341222433440937649:=() def tw5057691591592808082:=()
 def tw16819856267528787433:=() def tw7825991477735028462:=() def tw9115730188017362659:=() def tw11250801719291419580:=() def tw17323517666146197831:=() def tw16805619540300277316:=() def tw15467278830370528479:=() def tw13157343792882076670:=()
 def tw14304982028782963584:=() def tw7221843377443296460:=() def tw6135021295237094097:=() def tw305621380366906853:=() def tw2247837944070145036:=() def tw16046206804665381109:=() def tw12681115114162348623:=() def tw621955244092865279:=()
 def tw16203231452359834055:=() def tw18301713345077132197:=() def tw16889494772046110627:=() def tw11803377345528227013:=() def tw894996591240218215:=() def tw5807473580181840782:=() def tw8640298978180364046:=() def tw3861623625154898461:=()
 def tw4255023862540127634:=() def tw4765944823526559059:=() def tw6900244932014438309:=() def tw3375829170741754680:=() def tw5546929969206675219:=() def tw811654566770829754:=() def tw982214945032973783:=() def tw18232671035560440006:=()
 def tw8242507115897575849:=() def tw301289518130001703:=() def tw1863010143203910333:=() def tw10849590783800776667:=() def tw14727782646315247147:=() def tw18001230608336118134:=() def tw17905757228488489584:=() def tw5121807973783100176:=()
 def tw10024533658341934424:=() def tw3168632557092705429:=() def tw218771924800113777:=() def tw11266397958031213176:=() def tw15522468549250987228:=() def tw15669345498397767875:=() def tw10168787996192507748:=() def tw11396394425571611356:=()
 def tw14596004633244025199:=() def tw1870070081358184060:=() def tw13412994866882932290:=() def tw2177426061510914798:=() def tw8512141360083959390:=() def tw18350809238160821970:=() def tw5140033014873105278:=() def tw15525735173769028210:=()
 def tw4943699813018357031:=() def tw14831280030953565218:=() def tw12586344612818272968:=() def tw10343351539277244649:=() def tw13864510869816189557:=() def tw1769422976615795288:=() def tw12051875662634067462:=() def tw10154054591303699784:=()
 def tw14522670064226926724:=() def tw12238798091154840290:=() def tw5303996792864338795:=() def tw4256020182899590366:=() def tw7154624661427998978:=() def tw3632541489325225316:=() def tw650068048802513313:=() def tw15828659465215797570:=()
 def tw7980654564288916837:=() def tw17413842920964008278:=() def tw3776619067041973472:=() def tw3206231019039360698:=() def tw11200902030017204504:=() def tw1702216955264798016:=() def tw17006957589836759248:=() def tw16802605725387608837:=()
 def tw5834723759907492087:=() def tw12383018875362038780:=() def tw1954670278615012009:=() def tw1065573716274993220:=() def tw17977283674545834007:=() def tw8852604111540009776:=() def tw14585410433306067353:=() def tw15239424469939040861:=()
 def tw7003531495848641628:=() def tw2780091352930027626:=() def tw8751223699839253098:=() def tw828806196813549995:=() def tw7034787444496187484:=() def tw6480954796230345856:=() def tw4831148312924500573:=() def tw18434124378729179748:=()
 def tw10877224855248980140:=() def tw10570871438906597054:=() def tw4720157071565891029:=() def tw15321912315284783328:=() def tw13488166870458481248:=() def tw3901457308749185788:=() def tw14295692838993279275:=() def tw5600797039434213750:=()
 def tw16194724618103464569:=() def tw13200447858103791784:=() def tw587510910271827076:=() def tw4843060974628842907:=() def tw16079197645621864367:=() def tw18298307606051137946:=() def tw5162240744070193108:=() def tw2884581747096583484:=()
 def tw18224281090177439967:=() def tw11823709091585292265:=() def tw6620593447717093812:=() def tw1900391063305298884:=() def tw737506489170228536:=() def tw6662401395252348914:=() def tw11543958700246340234:=() def tw15276564103143566197:=()
 def tw13922033118086203087:=() def tw3494803923319921545:=() def tw9732896233622702591:=() def tw13808313409645514325:=() def tw6289684198919232977:=() def tw11183854577853317340:=() def tw11676692325042363064:=() def tw9573070455754335510:=()
 def tw13036356126079782985:=() def tw9324217016110372930:=() def tw2431784432965972417:=() def tw15784931086580599166:=() def tw82466807881112341:=() def tw13983389167986271249:=() def tw5958429304674771198:=() def tw12284244537061671807:=()
 def tw14108980080758711966:=() def tw18019604880504226410:=() def tw7995160387801078010:=() def tw5520597077878079156:=() def tw4649104326396138378:=() def tw3557418744811512033:=() def tw7589359056856152720:=() def tw13686884404279239343:=()
 def tw2129073486683022721:=() def tw13279976902840240036:=() def tw9621825584307094352:=() def tw4954374526577555000:=() def tw9933344753371060040:=() def tw17685629733250134535:=() def tw654266324760661793:=() def tw17896258369543928835:=()
 def tw7861223416687359775:=() def tw14569537648605134391:=() def tw7627191106842212111:=() def tw6712142554763603816:=() def tw684019479208183452:=() def tw13588548750737666227:=() def tw14508251790515345262:=() def tw12692581366141615232:=()
 def tw15921678197326012753:=() def tw15288618749336378699:=() def tw3485849263558336779:=() def tw10087866875823373058:=() def tw15857565248910996154:=() def tw2362547898347753501:=() def tw8510078118538971761:=() def tw11375363390087152396:=()
 def tw14410473618038694262:=() def tw4476919355778172558:=() def tw1138984412879868183:=() def tw1896605142801481059:=() def tw6667691668596438970:=() def tw2175646796483469246:=() def tw7005392802665079280:=() def tw4198801600342254557:=()
 def tw8303978178635712078:=() def tw10470204684491135358:=() def tw3223870272930907141:=() def tw2898099337841203304:=() def tw13133415114996394074:=() def tw4951165718926039538:=() def tw13242232672704017320:=() def tw2122748003714349357:=()
 def tw16152889762023241436:=() def tw13891576824436385816:=() def tw879302779731486557:=() def tw15399874525827959996:=() def tw917018950476646798:=() def tw10105665241473191137:=() def tw11745337673560825451:=() def tw8780710169601472090:=()
 def tw12895907176157321494:=() def tw16688506935992150288:=() def tw1344683031859916874:=() def tw3018183771518032038:=() def tw2641682750879147443:=() def tw13766913097010926735:=() def tw11319537939509792754:=() def tw3236068812253151898:=()
 def tw16785107466718817959:=() def tw6631784091958890792:=() def tw9808069263444485405:=() def tw13082130883870538309:=() def tw1922985544172520535:=() def tw8247024537968151527:=() def tw12309780815930017063:=() def tw3689268781481884670:=()
 def tw17432738037687840662:=() def tw5805596753602646886:=() def tw1689715467655799463:=() def tw10952111768452427796:=() def tw1089070533359240379:=() def tw17801690147460558406:=() def tw8616973031750526030:=() def tw4692093805985362129:=()
 def tw3107062465686363094:=() def tw10043197187725555150:=() def tw11124602032815483987:=() def tw4609377477473583502:=() def tw13986830531776300528:=() def tw6581513619539561759:=() def tw16862760685739927196:=() def tw17203200049697403179:=()
 def tw9967661142533361635:=() def tw1065261736956875365:=() def tw5082102952118612165:=() def tw6647177453260831380:=() def tw1352477776550594159:=() def tw4637708497838013318:=() def tw17139681369906470358:=() def tw9216469734217804687:=()
 def tw15854494367955091214:=() def tw3977620448248381015:=() def tw11880882164277743677:=()
end PySem.W.Fast
open PySem PySem.W PyProof.Rows
set_option maxRecDepth 100000 in
set_option maxHeartbeats 0 in
theorem PySem.Challenge.cw_ownchain_k44_own_text_holds : PySem.Challenge.rw_ownchain_k44_own_text.Holds := by
 rw[OcP.rw_eq]
 w_on;refine PySem.W.holds_law OcP.said λsaid=>?_;z_head;(case hw=>w_witness2)
 k_fill
 refine L2.walkX_of (λP=>rfl) ?_;refine OcL.walk (l:=OcP.rw) rfl rfl (λw h Y=>Y) ?F
 case F=>
  intro w mg fa h KX G hmg
  refine' OcL.all_mk KX G hmg ?_ ?_ ?_ ?_ ?_ ?_ ?_ ?_ ?_ ?_ ?_ ?_ ?_ ?_ ?_ ?_ ?_ ?_ ?_ ?_ ?_ ?_ ?_ ?_ ?_ ?_ ?_ ?_ ?_ ?_ ?_ ?_ ?_ ?_ ?_ ?_ ?_ ?_ ?_ ?_ ?_ ?_ ?_ ?_ ?_ ?_ ?_ ?_ ?_ ?_ ?_ ?_ ?_ ?_ ?_ ?_ ?_ ?_ ?_ ?_ ?_ ?_ ?_ ?_ ?_ ?_ ?_ ?_ ?_ ?_ ?_ ?_ ?_ ?_ ?_ ?_ ?_ ?_ ?_ ?_ ?_ ?_ ?_ ?_ ?_ ?_ ?_ ?_ ?_ ?_ ?_ ?_ ?_ ?_ ?_ ?_ ?_ ?_ ?_ ?_ ?_ ?_ ?_ ?_ ?_ ?_ ?_ ?_ ?_ ?_ ?_ ?_ ?_ ?_ ?_ ?_ ?_ ?_ ?_ ?_ ?_ ?_ ?_ ?_ ?_ ?_ ?_ ?_ ?_ ?_ ?_ ?_ ?_ ?_ ?_ ?_ ?_ ?_ ?_ ?_ ?_ ?_ ?_ ?_
  all_goals first|k_is|rfl|(refine' L2.dg_mk ?a ?b ?c ?d;(case a=>k_is);(case b=>k_is);(case c=>k_is);(case d=>k_is))|(refine' L2.dm_mk ?a ?b ?c ?d;(case a=>k_is);(case b=>k_is);(case c=>k_is);(case d=>k_is))|exact⟨by kernel_rfl⟩|skip
