import PyProof.Rows.All
import PyProof.Rows.TupAdd
import PyProof.AutoSeq1
import PyProof.DictList
import PyProof.AttrMissHeap
import PyProof.TupleIter
import PyProof.ZipIter
import PyProof.LayNew
import PyProof.EnumFor
import PyProof.EnumStmt
import PyProof.EnumMake
import PyProof.SumAny
import PyProof.ExcClass2
import PyProof.ConsumeWalk
import KE.KRevSl
import KE.KRevIter
import Wide.All
import OpenK.AllK
import Wide.FinOn
import Lean
import PyProof.EqAt
import PyProof.EqKinds
import PyProof.TupleCall
import PyProof.NeKinds
import PySem.Challenge.RW_ownchain_k09_programs_shown
set_option genInjectivity false
set_option genSizeOfSpec false
set_option Elab.async false
set_option linter.all false
set_option maxRecDepth 100000
namespace L2
open PySem PySem.Spec PyProof.Rows
abbrev zB:=@List.getElem?_eq_getElem
abbrev zC:=@List.length_append
abbrev zD:=@List.length_map
abbrev zE:=@PySem.wpAny_bind
abbrev zI:=@PySem.Heap.get?_push_of_some
abbrev zJ:=@List.length_cons
abbrev zL:=@if_neg
abbrev zM:=@List.mem_of_getElem?
abbrev zN:=@List.getElem?_map
abbrev zO:=@PySem.F.plainAttrs_list
abbrev zP:=@List.mem_cons_self
abbrev zR:=@PySem.wpAny_pure
abbrev zS:=@Nat.le_refl
abbrev zT:=@List.mem_cons_of_mem
abbrev zW:=@if_pos
abbrev zY:=@PySem.F.type_list_append
abbrev zZ:=@PySem.F.slot_list_append
abbrev yA:=@List.map_append
abbrev yB:=@of_decide_eq_true
abbrev yC:=@PySem.Heap.lt_size
abbrev yD:=@List.size_toArray
abbrev yE:=@decide_eq_true
abbrev yG:=@PySem.Heap.get?_push_size
abbrev yI:=@Bool.false_ne_true
abbrev yJ:=@decide_eq_false
abbrev yK:=@List.map_cons
abbrev yM:=@List.length_take
abbrev yO:=@Nat.le_trans
abbrev yP:=@List.append_assoc
abbrev yQ:=@Array.length_toList
abbrev yR:=@Nat.lt_of_lt_of_le
abbrev yS:=@List.getD_eq_getElem?_getD
abbrev yW:=@List.mem_append_right
abbrev yX:=@List.append_nil
abbrev yZ:=@Nat.zero_le
abbrev xB:=@PySem.wpAny_field
abbrev xK:=@Nat.ne_of_lt
abbrev xL:=@PySem.W.mg_none_of
abbrev xO:=@PySem.PassesOwn.never
abbrev xP:=@List.take_of_length_le
abbrev xQ:=@PySem.Heap.get?_update_other
abbrev xT:=@congrArg
abbrev xU:=@Option.some.inj
abbrev xW:=@List.drop_eq_getElem_cons
abbrev jD:=@PySem.wpAny_callSpecial?_slot
abbrev jI:=@PySem.F.plainAttrs_str
abbrev jJ:=@PyProof.Rows.callWith_type1
abbrev jK:=@List.length_drop
abbrev jM:=@List.nil_append
abbrev jO:=@Nat.lt_irrefl
abbrev jR:=@Int.toNat_natCast
abbrev jS:=@List.getElem?_eq_none
abbrev jU:=@PySem.wpAny_newObj_type
abbrev jW:=@Bool.and_eq_true_iff
abbrev jY:=@Nat.lt_of_le_of_lt
abbrev kA:=@PySem.wpAny_call_entry
abbrev kC:=@List.getElem?_zipWith
abbrev kD:=@PySem.Heap.get?_update_self
abbrev kH:=@Nat.ne_of_gt
abbrev kL:=@of_decide_eq_false
abbrev kM:=@List.take_succ
abbrev kN:=@List.mem_append_left
abbrev kO:=@List.getElem?_of_mem
abbrev kP:=@PySem.W.kia_one
abbrev kS:=@List.map_map
abbrev kY:=@PySem.wpAny_seqItems
abbrev kZ:=@PySem.F.type_list_extend
abbrev qA:=@PySem.F.slot_list_extend
abbrev qB:=@Nat.lt_trans
abbrev qE:=@PySem.Obj.data_mapFields
abbrev qF:=@PySem.Calls.spliced_cons
abbrev qG:=@PySem.Paired.snoc
abbrev qH:=@List.cons_append
abbrev qK:=@PySem.wpAny_holding
abbrev qO:=@List.getElem?_append_right
abbrev qP:=@PySem.Calls.callWith_builtin
abbrev qS:=@PyProof.Rows.slot_tuple_getitem
abbrev qV:=@PySem.StrLaws.glued_eq_join
abbrev qW:=@PySem.F.type_str_join
abbrev qX:=@PySem.F.slot_str_join
abbrev wA:=@PySem.wpAny_setField_rec
abbrev wB:=@PySem.call_meets
abbrev wC:=@List.all_eq_true
abbrev wF:=@List.mem_of_mem_take
abbrev wJ:=@PySem.wpAny_truthy_bool
abbrev wK:=@List.length_nil
abbrev wL:=@PySem.F.slot_zip_next
abbrev wN:=@PySem.mem_of_lookup
abbrev wQ:=@beq_self_eq_true
abbrev wR:=@Nat.lt_succ_self
abbrev wS:=@List.take_length
abbrev wT:=@Bool.and_eq_true
abbrev wW:=@PySem.wpAny_setField
abbrev wX:=@PySem.wpAny_Call_Name_kw
abbrev wY:=@List.take_zero
abbrev wZ:=@PySem.F.slot_tuple_iterator_next
abbrev vA:=@PySem.builtinLookup_eq_fast
abbrev vB:=@PySem.Obj.isFreed_of_fields
abbrev vC:=@List.lookup_cons_self
abbrev vF:=@List.getElem?_append_left
abbrev vG:=@PySem.wpAny_passesOwn
abbrev vH:=@List.forIn_cons
abbrev vJ:=@List.mem_of_mem_drop
abbrev vK:=@PySem.Calls.evalArgs_plain
abbrev vQ:=@PySem.wpAny_mono
abbrev vX:=@PySem.wpAny_of_eq
abbrev uF:=@Nat.le_of_lt
abbrev uG:=@Int.emod_lt_of_pos
abbrev uH:=@Bool.false_eq_true
abbrev uM:=@List.nodup_cons
abbrev uN:=@List.length_zip
abbrev uO:=@List.find?_cons
abbrev uT:=@PySem.wpAny_attempt
abbrev uU:=@List.any_cons
abbrev uX:=@List.length_replicate
abbrev Ad:=@PySem.wpAny_pyIter_list
abbrev Ae:=@List.reverse_cons
abbrev Af:=@List.nodup_append
abbrev Ag:=@PySem.Calls.spliced_nil
abbrev Ap:=@PySem.wpAny_rule
abbrev Aq:=@PySem.typeIs_str
abbrev At:=@PySem.sizeLine_eq
abbrev Au:=@PySem.Heap.size_push
abbrev AB:=@List.lookup_cons
abbrev AC:=@List.getElem?_zip_eq_some
abbrev AD:=@Array.getElem?_eq_getElem
abbrev AH:=@List.length_reverse
abbrev AI:=@PySem.Heap.SameBut.update
abbrev AL:=@PySem.wpAny_comprehension_free
abbrev AM:=@Nat.add_assoc
abbrev AN:=@PySem.AutoSeq1.wpAny_loadPart'
abbrev AQ:=@PySem.typeLookup_type
abbrev AR:=@Int.emod_nonneg
abbrev AS:=@Bool.eq_iff_iff
abbrev Bb:=@PySem.W.callWith_K
abbrev Bc:=@List.zip_cons_cons
abbrev Bd:=@Int.natAbs_natCast
abbrev BA:=@PySem.wpAny_loadPart_at
abbrev BB:=@PySem.wpAny_Call_method_late
abbrev BC:=@PySem.isSubtype_type
abbrev BD:=@PySem.codeAny_mono
abbrev BE:=@PySem.W.cellsFrom_some
abbrev BG:=@Nat.sub_self
abbrev BH:=@List.drop_zero
abbrev BI:=@List.drop_eq_nil_of_le
abbrev BJ:=@PySem.F.args_zip_next_1
abbrev BK:=@PySem.plainObj_wpAny_Assign_Attribute
abbrev BM:=@PySem.F.slot_dict_get
abbrev BN:=@List.eq_nil_or_concat
abbrev BO:=@List.concat_eq_append
abbrev BP:=@Array.getElem?_toList
abbrev BZ:=@PySem.wpAny_isInstance
abbrev Ca:=@List.getElem_mem
abbrev Cb:=@PySem.F.entry_zip_next
abbrev Cf:=@PySem.wpAny_standAt
abbrev Cg:=@PySem.Paired.length
abbrev Cq:=@PySem.wpAny_updateSeq_pair
abbrev Cr:=@Nat.add_le_add_right
abbrev Cs:=@PySem.Around.under_plainId
abbrev CF:=@PySem.wpAny_specialOf
abbrev CG:=@PySem.wpAny_execs_nil
abbrev CH:=@PySem.F.slot_dict_setdefault
abbrev CI:=@Nat.min_eq_left
abbrev CJ:=@List.of_mem_zip
abbrev CK:=@List.foldl_cons
abbrev CO:=@PySem.F.args_tuple_iterator_next_1
abbrev CQ:=@ne_true_of_eq_false
abbrev CS:=@PySem.W.plainGet_of
abbrev CU:=@List.length_take_le
abbrev CV:=@List.filterMap_cons
abbrev Dk:=@PySem.wpAny_typeOf
abbrev Dl:=@PySem.F.entry_tuple_iterator_next
abbrev Dz:=@PySem.tupleKind_room_in1
abbrev DA:=@PySem.StrLaws.join_split
abbrev DB:=@Nat.mod_lt
abbrev DC:=@List.getElem_idxOf
abbrev DD:=@List.forIn_nil
abbrev DE:=@PySem.F.args_str_split_2
abbrev DF:=@PySem.Calls.Constant_str
abbrev DH:=@Bool.and_false
abbrev DJ:=@Classical.byContradiction
abbrev DX:=@decide_eq_true_eq
abbrev DY:=@PySem.SeqAt.RcAt.tuples
abbrev DZ:=@PySem.Within.cons
abbrev Ea:=@PySem.Obj.cls_mapFields
abbrev Eb:=@List.flatten_cons
abbrev Ed:=@List.flatMap_cons
abbrev Ee:=@List.ext_getElem?
abbrev Ef:=@PySem.F.entry_str_split
abbrev Ep:=@PySem.wpAny_onRaise
abbrev Er:=@List.sum_cons
abbrev EL:=@PySem.wpAny_pyIter_zip
abbrev EM:=@PySem.wpAny_lookBehind
abbrev EN:=@PySem.wpAny_execs_cons
abbrev EO:=@PySem.pastItsLine_dict
abbrev EQ:=@if_false
abbrev ET:=@PySem.F.plainAttrs_dict
abbrev EU:=@PySem.F.args_dict_get_3
abbrev EV:=@List.getElem?_replicate
abbrev EW:=@List.getElem?_cons_succ
abbrev EX:=@List.filter_cons
abbrev EY:=@PySem.F.slot_str_split

abbrev Bj:=Sum Int Str
def LH:Bj->Value->Bool
 | .inl k,v=>Value.isInt k v
 | .inr x,v=>Value.isStrOf x v
def zBf (w:World):Bj->Int
 | .inl k=>hashInt k
 | .inr x=>hashStr w x
theorem vI: ∀{k:Bj} {v:Value},LH k v=true->(∃i t,k=Sum.inl i/\v=Value.int i t)\/(∃x t,k=Sum.inr x/\v=Value.str x t)
 | .inl i,v,h=>by
  obtain⟨t,e⟩:=Value.isInt_shape (k:=i) (v:=v) h
  exact .inl ⟨i,t,rfl,e⟩
 | .inr x,v,h=>by
  obtain⟨t,e⟩:=Value.isStrOf_shape (x:=x) (v:=v) h
  exact .inr ⟨x,t,rfl,e⟩
theorem Sq (i:Int)(t:Tok):LH (.inl i) (.int i t)=true:=by simp[LH,Value.isInt]
theorem So (x:Str)(t:Tok):LH (.inr x) (.str x t)=true:=by simp[LH,Value.isStrOf]
theorem Yb (a b:Int):decide ((Sum.inl a:Bj)=Sum.inl b)=(a==b):=by
 by_cases e:a=b
 ·subst e;simp
 ·have h: ¬(Sum.inl a:Bj)=Sum.inl b:=fun q=>e (Sum.inl.inj q)
  rw[yJ h]
  exact(beq_eq_false_iff_ne.mpr e).symm
theorem XY (a b:Str):decide ((Sum.inr a:Bj)=Sum.inr b)=decide (a=b):=by
 by_cases e:a=b
 ·subst e;simp
 ·have h: ¬(Sum.inr a:Bj)=Sum.inr b:=fun q=>e (Sum.inr.inj q)
  rw[yJ h,yJ e]
theorem Ya (a:Int)(b:Str):decide ((Sum.inl a:Bj)=Sum.inr b)=false:=yJ (fun q=>nomatch q)
theorem XZ (a:Str)(b:Int):decide ((Sum.inr a:Bj)=Sum.inl b)=false:=yJ (fun q=>nomatch q)

def qT (prog:Program)(w:World):PySem.KeyKind prog w Bj where
 is:=LH
 hash:=zBf w
 inj:=fun v a b ha hb=>by
  rcases vI ha with⟨i,t,rfl,rfl⟩|⟨x,t,rfl,rfl⟩
  ·rcases vI hb with⟨j,u,rfl,e⟩|⟨y,u,rfl,e⟩
   ·injection e with e1 _;rw[e1]
   ·exact nomatch e
  ·rcases vI hb with⟨j,u,rfl,e⟩|⟨y,u,rfl,e⟩
   ·exact nomatch e
   ·injection e with e1 _;rw[e1]
 byValue:=fun k v h=>by
  rcases vI h with⟨i,t,rfl,rfl⟩|⟨x,t,rfl,rfl⟩<;>rfl
 pyHash:=fun hv h=>by
  rcases vI hv with⟨i,t,rfl,rfl⟩|⟨x,t,rfl,rfl⟩
  ·exact wpAny_pyHash_int h
  ·exact wpAny_pyHash_str h
 eqBool:=fun hu hv h=>by
  rcases vI hu with⟨i,t,rfl,rfl⟩|⟨x,t,rfl,rfl⟩
  ·rcases vI hv with⟨j,u,rfl,rfl⟩|⟨y,u,rfl,rfl⟩
   ·rw[Yb]at h;exact wpAny_eqBool_int h
   ·rw[Ya]at h;exact SeqAt.EqAt.int_str i t y u _ _ _ _ h
  ·rcases vI hv with⟨j,u,rfl,rfl⟩|⟨y,u,rfl,rfl⟩
   ·rw[XZ]at h;exact SeqAt.EqAt.str_int x t j u _ _ _ _ h
   ·rw[XY]at h;exact wpAny_eqBool_str h
 «strs»:=fun k x t v h=>by
  rcases vI h with⟨i,u,rfl,e⟩|⟨y,u,rfl,e⟩
  ·exact nomatch e
  ·injection e with e1 _
   subst e1
   cases v<;>rfl

theorem Os (prog:Program)(w:World)(i:Int)(t:Tok):(qT prog w).is (.inl i) (.int i t)=true:=Sq i t
theorem Oq (prog:Program)(w:World)(x:Str)(t:Tok):(qT prog w).is (.inr x) (.str x t)=true:=So x t
end L2

namespace L2
open PySem PySem.Spec PyProof.Rows

inductive V where
 |non|bl (b:Bool)|int (i:Int)|str (x:Str)|byt (b:Array UInt8)|flt (b:UInt64)|ref (a:Addr)|ty (n:String)
 deriving DecidableEq

def kB:V->Value->Prop
 | .non,u=>u=Value.none
 | .bl b,u=>u=Value.bool b
 | .int i,u=> ∃t,u=Value.int i t
 | .str x,u=> ∃t,u=Value.str x t
 | .byt b,u=> ∃t,u=Value.bytes b t
 | .flt b,u=> ∃t,u=Value.float b t
 | .ref a,u=>u=Value.ref a
 | .ty n,u=>u=Value.type n

abbrev jP:List V->List Value->Prop:=Paired kB
theorem jP.length {xs:List V}{us:List Value}(r:jP xs us):xs.length=us.length:=Cg r
theorem jP.get: ∀{xs:List V} {us:List Value} {i:Nat} {x:V},jP xs us->xs[i]? =some x-> ∃u,us[i]? =some u/\kB x u
 |_,_,_,_,.nil,e=>by simp at e
 |_,_,0,_,.cons r _,e=>by simp at e;subst e;exact⟨_,rfl,r⟩
 |_,_,i+1,x,.cons _ t,e=>by
  obtain⟨u,h1,h2⟩:=jP.get (i:=i) (x:=x) t (by simpa using e)
  exact⟨u,by simpa using h1,h2⟩
theorem jP.set {x:V}{u:Value}(r:kB x u): ∀{xs:List V} {us:List Value} (i:Nat),jP xs us->jP (xs.set i x) (us.set i u)
 |_,_,_,.nil=>.nil
 |_,_,0,.cons _ t=>.cons r t
 |_,_,i+1,.cons q t=>.cons q (jP.set r i t)
theorem jP.append: ∀{xs ys:List V} {us ws:List Value},jP xs us->jP ys ws->jP (xs++ys) (us++ws)
 |_,_,_,_,.nil,s=>s
 |_,_,_,_,.cons r t,s=>.cons r (jP.append t s)
theorem jP.take: ∀{xs:List V} {us:List Value} (n:Nat),jP xs us->jP (xs.take n) (us.take n)
 |_,_,0,_=>.nil
 |_,_,_+1,.nil=>.nil
 |_,_,n+1,.cons r t=>.cons r (jP.take n t)
theorem jP.drop: ∀{xs:List V} {us:List Value} (n:Nat),jP xs us->jP (xs.drop n) (us.drop n)
 |_,_,0,r=>r
 |_,_,_+1,.nil=>.nil
 |_,_,n+1,.cons _ t=>jP.drop n t
def Dx:Option V->Option Value->Prop
 |some v,some u=>kB v u
 |none,none=>True
 |_,_=>False
def KV {κ:Type}:List (κ×V)->List (κ×Value)->Prop:=Paired fun(p:κ×V) (q:κ×Value)=>p.1=q.1/\kB p.2 q.2

def kV:Bj->V
 | .inl i=>.int i
 | .inr x=>.str x

inductive HO where
 |lst (xs:List V)
 |tup (xs:List V)
 |dK (kvs:List (Bj×V))|dT (kvs:List (List Bj×V))
 |set (S:Int->Bool) (n:Nat)
 |ins (C dx:Addr) (fs:List (Str×V))
 |own (x:Addr)
 |xd (fs:List (Str×V))
 |met (f x:Addr)
 |rng (lo hi:Int)
 |frz (o:Obj) (u:HO)
 |tbl (ps:Array Value)
 |ext (φ:Heap->Prop)

abbrev Hp:=Addr->Option HO
def upd (H:Hp)(a:Addr)(o:HO):Hp:=fun b=>if b=a then some o else H b
theorem zG {H:Hp}{a:Addr}{o:HO}:upd H a o a=some o:=by unfold upd;rw[zW rfl]
theorem zQ {H:Hp}{a b:Addr}{o:HO}(h:b≠a):upd H a o b=H b:=by unfold upd;rw[zL h]
theorem EZ {H:Hp}{a:Addr}{o u:HO}:upd (upd H a o) a u=upd H a u:=by
 funext b;unfold upd;split<;>rfl
theorem zK {H:Hp}{a b:Addr}{o:HO}(h:H a=some o)(h':H b=none):a≠b:=by
 intro e;subst e;rw[h]at h';cases h'

section
variable (P:Program)(w:World)
def wI (H:Hp)(h:Heap)(a:Addr):HO->Prop
 | .lst xs=>xs.length<=sizeLine/\ ∃(its:List Value) (n:Nat),jP xs its/\h.get? a=some {cls:=.type "list",data:=.seq its.toArray n}
 | .tup xs=>xs.length<=sizeLine/\ ∃its:List Value,jP xs its/\IsTup h a its.toArray
 | .dK kvs=>kvs.length<=sizeLine/\(a==sysModules)=false/\ ∃vs,KV kvs vs/\h.DictOf (qT P w) a vs
 | .dT kvs=>kvs.length<=sizeLine/\(a==sysModules)=false/\ ∃xs:List (List Bj×Addr×Value),
   Paired (fun(p:List Bj×V) (q:List Bj×Addr×Value)=>p.1=q.1/\H q.2.1=some (.tup (p.1.map kV))/\kB p.2 q.2.2) kvs xs/\
   ∃o es ep,h.get? a=some o/\o.ExactDict/\o.data=.dict es ep/\es.toList=xs.map (entryOfKey (tupleKind (qT P w)))/\(xs.map (·.1)).Nodup
 | .set S n=>h.SetOf (intKind P w) a S n
 | .ins C dx fs=>H dx=some (.own a)/\fs.length<=1000/\dx≠a/\h.get? a=some (PySem.W.instObj C dx)/\
   ∃mA,h.Ns1 dx mA/\(∀f,Dx (fs.lookup f) (mA f))/\PySem.Within mA (fs.map (·.1))
 | .own _=> ∃o,h.get? a=some o
 | .xd fs=> ∃mA,h.Ns1 a mA/\ ∀f,Dx (fs.lookup f) (mA f)
 | .rng lo hi=> ∃t u v,h.get? a=some {cls:=.type "range",data:=.fields #[.int lo t,.int hi u,.int 1 v]}
 | .frz o u=>h.get? a=some o/\wI H h a u
 | .tbl ps=>h.get? a=some {cls:=.none,data:=.fields ps}
 | .met f x=>h.get? a=some (PySem.W.methodObj (.ref f) (.ref x))
 | .ext φ=>φ h/\(∃o,h.get? a=some o)/\ ∀h1 h2:Heap,φ h1->(∀o,h1.get? a=some o->h2.get? a=some o)->φ h2
def GL (H:Hp)(h:Heap):Prop:= ∀a o,H a=some o->wI P w H h a o
end

section
variable {P:Program}{w:World}{H H':Hp}{h h':Heap}{a:Addr}{o:HO}
theorem wI.lt (x:wI P w H h a o):a<h.objs.size:=by
 cases o with
 |lst xs=>obtain⟨_,_,_,_,e⟩:=x;exact yC e
 |tup xs=>obtain⟨_,_,_,p⟩:=x;exact p.lt
 |dK kvs=>obtain⟨_,_,_,_,o,_,_,e,_⟩:=x;exact yC e
 |dT kvs=>obtain⟨_,_,_,_,o,_,_,e,_⟩:=x;exact yC e
 |set S n=>obtain⟨o,_,_,_,e,_⟩:=x;exact yC e
 |ins C dx fs=>obtain⟨_,_,_,e,_⟩:=x;exact yC e
 |own y=>obtain⟨_,e⟩:=x;exact yC e
 |xd fs=>obtain⟨_,⟨_,_,_,e,_⟩,_⟩:=x;exact yC e
 |rng lo hi=>obtain⟨_,_,_,e⟩:=x;exact yC e
 |frz ob u=>obtain⟨e,_⟩:=x;exact yC e
 |tbl ps=>exact yC (show h.get? a=some _ from x)
 |met f y=>exact yC (show h.get? a=some _ from x)
 |ext φ=>obtain⟨_,⟨_,e⟩,_⟩:=x;exact yC e
theorem Paired.mapP {α β:Type}{F G:α->β->Prop}: ∀{l₁:List α} {l₂:List β},Paired F l₁ l₂->(∀a b,F a b->G a b)->Paired G l₁ l₂
 |_,_,.nil,_=>.nil
 |_,_,.cons r t,f=>.cons (f _ _ r) (Paired.mapP t f)
theorem wI.stay (x:wI P w H h a o)(k: ∀b u,(b=a\/H b=some (.own a))->h.get? b=some u->h'.get? b=some u)
  (ho: ∀b,H b=some (.own a)->H' b=some (.own a)) (ht: ∀b xs,H b=some (.tup xs)->H' b=some (.tup xs)):wI P w H' h' a o:=by
 induction o with
 |lst xs=>obtain⟨z,its,n,r,e⟩:=x;exact⟨z,its,n,r,k _ _ (.inl rfl) e⟩
 |tup xs=>obtain⟨z,its,r,ob,e,c⟩:=x;exact⟨z,its,r,ob,k _ _ (.inl rfl) e,c⟩
 |dK kvs=>obtain⟨z,y,vs,r,ob,es,ep,e,c⟩:=x;exact⟨z,y,vs,r,ob,es,ep,k _ _ (.inl rfl) e,c⟩
 |dT kvs=>
  obtain⟨z,y,xs,r,ob,es,ep,e,c⟩:=x
  exact⟨z,y,xs,Paired.mapP r fun p q z=>⟨z.1,ht _ _ z.2.1,z.2.2⟩,ob,es,ep,k _ _ (.inl rfl) e,c⟩
 |set S n=>obtain⟨ob,es,ep,t,e,c⟩:=x;exact⟨ob,es,ep,t,k _ _ (.inl rfl) e,c⟩
 |ins C dx fs=>
  obtain⟨d,z,ne,e,mA,⟨od,es,ep,e2,c⟩,r⟩:=x
  exact⟨ho _ d,z,ne,k _ _ (.inl rfl) e,mA,⟨od,es,ep,k _ _ (.inr d) e2,c⟩,r⟩
 |own y=>obtain⟨ob,e⟩:=x;exact⟨ob,k _ _ (.inl rfl) e⟩
 |xd fs=>obtain⟨mA,⟨od,es,ep,e,c⟩,r⟩:=x;exact⟨mA,⟨od,es,ep,k _ _ (.inl rfl) e,c⟩,r⟩
 |rng lo hi=>obtain⟨t,u,v,e⟩:=x;exact⟨t,u,v,k _ _ (.inl rfl) e⟩
 |frz ob u ih=>obtain⟨e,q⟩:=x;exact⟨k _ _ (.inl rfl) e,ih q⟩
 |tbl ps=>
  have e:h.get? a=some {cls:=.none,data:=.fields ps}:=x
  show h'.get? a=some {cls:=.none,data:=.fields ps}
  exact k a _ (.inl rfl) e
 |met f y=>
  have e:h.get? a=some (PySem.W.methodObj (.ref f) (.ref y)):=x
  show h'.get? a=some (PySem.W.methodObj (.ref f) (.ref y))
  exact k a _ (.inl rfl) e
 |ext φ=>obtain⟨p,⟨o,e⟩,st⟩:=x;exact⟨st _ _ p fun o q=>k _ _ (.inl rfl) q,⟨o,k _ _ (.inl rfl) e⟩,st⟩
theorem GL.lt (x:GL P w H h)(e:H a=some o):a<h.objs.size:=(x a o e).lt
theorem GL.fresh (x:GL P w H h)(e:h.objs.size<=a):H a=none:=by
 cases q:H a with
 |none=>rfl
 |some u=>exact absurd (yR (x.lt q) e) (jO _)
theorem GL.kept (x:GL P w H h)(k: ∀b u,h.get? b=some u->h'.get? b=some u):GL P w H h':=fun a o e=>
 (x a o e).stay (fun b u _ q=>k b u q) (fun _ q=>q) fun _ _ q=>q
theorem GL.laid (x:GL P w H h)(k: ∀b u,h.get? b=some u->h'.get? b=some u)(hp:h.objs.size<=a)(new:wI P w (upd H a o) h' a o):GL P w (upd H a o) h':=fun b u e=>by
 have hn:=x.fresh hp
 by_cases hb:b=a
 ·subst hb;rw[zG]at e;cases e;exact new
 ·rw[zQ hb]at e
  exact(x b u e).stay (fun c v _ q=>k c v q) (fun c q=>by rw[zQ (zK q hn)];exact q) fun c xs q=>by rw[zQ (zK q hn)];exact q
end

def Rd (H:Hp)(a:Addr)(u:HO):Prop:=H a=some u\/ ∃o,H a=some (.frz o u)
theorem Rd.of {H:Hp}{a:Addr}{u:HO}(h:H a=some u):Rd H a u:=.inl h
theorem Rd.ok {P:Program}{w:World}{H:Hp}{h:Heap}{a:Addr}{u:HO}(r:Rd H a u)(x:GL P w H h):wI P w H h a u:=by
 rcases r with r|⟨o,r⟩
 ·exact x a u r
 ·obtain⟨_,q⟩:=x a _ r
  exact q
def ZD:Option HO->Prop
 |some (.lst _)=>True
 |some (.dK _)=>True
 |some (.dT _)=>True
 |some (.set _ _)=>True
 |some (.ins _ _ _)=>True
 |some (.ext _)=>True
 |_=>False
section
variable {P:Program}{w:World}{H:Hp}{h h':Heap}{x e:Addr}{o':HO}
theorem GL.write (ok:GL P w H h)(mu:ZD (H x))(he:e=x\/H e=some (.own x))(k: ∀b u,b≠e->h.get? b=some u->h'.get? b=some u)(heo: ∃u,h'.get? e=some u)
  (new:wI P w (upd H x o') h' x o'):GL P w (upd H x o') h':=fun b u q=>by
 have nown: ∀c y,H c=some (.own y)->c≠x:=fun c y r z=>by subst z;rw[r]at mu;exact mu
 have ntup: ∀c xs,H c=some (.tup xs)->c≠x:=fun c xs r z=>by subst z;rw[r]at mu;exact mu
 by_cases hb:b=x
 ·subst hb;rw[zG]at q;cases q;exact new
 ·rw[zQ hb]at q
  by_cases hbe:b=e
  ·have q':H b=some (.own x):=by
    rcases he with z|z
    ·exact absurd (hbe.trans z) hb
    ·rw[hbe];exact z
   rw[q]at q';cases q'
   obtain⟨v,hv⟩:=heo
   exact⟨v,by rw[hbe];exact hv⟩
  ·refine(ok b u q).stay (fun c v hc r=>k c v ?_ r) (fun c r=>by rw[zQ (nown c b r)];exact r) fun c xs r=>by rw[zQ (ntup c xs r)];exact r
   rcases hc with rfl|hc
   ·exact hbe
   ·rintro rfl
    rcases he with z|z
    ·exact nown c b hc z
    ·rw[hc]at z;cases z;exact hb rfl
end

structure Un (fs ex:List Addr)(H H':Hp)(h h':Heap):Prop where
 keep: ∀b o,h.get? b=some o->H b=none->b∉fs->b∉ex->h'.get? b=some o
 slot: ∀b o,h.get? b=some o->H b=none->b∈fs->b∉ex-> ∃sl,h'.get? b=some {o with slots:=sl}
 free: ∀b o,h.get? b=some o->H b=none->b∉ex->H' b=none
 there: ∀b o,h.get? b=some o->b∉ex-> ∃o',h'.get? b=some o'
 tups: ∀b xs,H b=some (.tup xs)->H' b=some (.tup xs)
 frzs: ∀b o u,H b=some (.frz o u)->H' b=some (.frz o u)
 tbls: ∀b ps,H b=some (.tbl ps)-> ∃more,H' b=some (.tbl (ps++more))
section
variable {fs fs' ex ex':List Addr}{H H1 H2:Hp}{h h1 h2 h':Heap}{a x e:Addr}{o:HO}
theorem Un.any (u:Un fs ex H H1 h h1){b:Addr}{ob:Obj}(q:h.get? b=some ob)(n:H b=none)(hx:b∉ex): ∃sl,h1.get? b=some {ob with slots:=sl}:=by
 by_cases hb:b∈fs
 ·exact u.slot b ob q n hb hx
 ·exact⟨ob.slots,u.keep b ob q n hb hx⟩
theorem Un.kept (k: ∀b u,h.get? b=some u->h'.get? b=some u):Un fs ex H H h h':=
 ⟨fun b ob q _ _ _=>k b ob q,fun b ob q _ _ _=>⟨ob.slots,k b ob q⟩,fun _ _ _ n _=>n,fun b ob q _=>⟨ob,k b ob q⟩,fun _ _ q=>q,fun _ _ _ q=>q,fun _ ps q=>⟨#[],by rw[q];simp⟩⟩
theorem Un.refl:Un fs ex H H h h:=Un.kept fun _ _ q=>q
theorem Un.laid (k: ∀b u,h.get? b=some u->h'.get? b=some u)(hp:h.objs.size<=a)(hn:H a=none):Un fs ex H (upd H a o) h h' where
 keep:=fun b u q _ _ _=>k b u q
 slot:=fun b u q _ _ _=>⟨u.slots,k b u q⟩
 free:=fun b u q n _=>by rw[zQ (xK (yR (yC q) hp))];exact n
 there:=fun b u q _=>⟨u,k b u q⟩
 tups:=fun b xs q=>by rw[zQ (zK q hn)];exact q
 frzs:=fun b u xs q=>by rw[zQ (zK q hn)];exact q
 tbls:=fun b ps q=>⟨#[],by rw[zQ (zK q hn),q];simp⟩
theorem Un.write (mu:ZD (H x))(he:e=x\/H e=some (.own x))(k: ∀b u,b≠e->h.get? b=some u->h'.get? b=some u)(heo: ∃u,h'.get? e=some u):Un fs ex H (upd H x o) h h':=by
 have hx: ∀b,H b=none->b≠x:=fun b n z=>by subst z;rw[n]at mu;exact mu
 have hb: ∀b,H b=none->b≠e:=fun b n z=>by
  subst z
  rcases he with r|r
  ·exact hx b n r
  ·rw[n]at r;cases r
 have hm: ∀b u,H b=some u-> ¬ZD (some u)->b≠x:=fun b u q nm z=>by subst z;rw[q]at mu;exact nm mu
 refine⟨fun b u q n _ _=>k b u (hb b n) q,fun b u q n _ _=>⟨u.slots,k b u (hb b n) q⟩,fun b u q n _=>by rw[zQ (hx b n)];exact n,fun b u q _=>?_,
  fun b xs q=>by rw[zQ (hm b _ q fun z=>z)];exact q,fun b u xs q=>by rw[zQ (hm b _ q fun z=>z)];exact q,fun b ps q=>⟨#[],by rw[zQ (hm b _ q fun z=>z),q];simp⟩⟩
 by_cases hbe:b=e
 ·subst hbe;exact heo
 ·exact⟨u,k b u hbe q⟩
end

def ZW (h:Heap)(H:Hp):List Addr:=(List.range h.objs.size).filter fun a=>(H a).isSome
def MY (h:Heap)(H:Hp):Heap:=PySem.W.hideAll h (ZW h H)
theorem Su (h:Heap)(H:Hp):(MY h H).objs.size =h.objs.size:=PySem.W.hideAll_size _ _
theorem UR {h:Heap}{H:Hp}{b:Addr}{o:Obj}(e:h.get? b=some o)(n:H b=none):(MY h H).get? b=some o:=
 PySem.W.hideAll_get _ e fun hm=>by
  have q:(H b).isSome =true:=(List.mem_filter.mp hm).2
  rw[n]at q;simp at q
theorem Wm {h:Heap}{H:Hp}{b:Addr}{o:Obj}(e:(MY h H).get? b=some o):h.get? b=some o/\H b=none:=by
 have e':h.get? b=some o:=PySem.W.of_hideAll (ZW h H) e
 refine⟨e',?_⟩
 cases q:H b with
 |none=>rfl
 |some x=>
  have hm:b∈ZW h H:=List.mem_filter.mpr ⟨List.mem_range.mpr (yC e'),by simp[q]⟩
  have z:(MY h H).get? b=none:=PySem.W.hideAll_none (ZW h H) hm
  rw[z]at e;cases e

def WC (g h:Heap)(L:Addr):List (Addr×Obj):=(List.range h.objs.size).filterMap fun a=>if a=L\/(g.get? a).isSome =true then none else(h.get? a).map fun o=>(a,o)
def rest (g h:Heap)(L d:Addr):List (Addr×Obj):=(WC g h L).filter fun p=>decide (p.1≠d)
end L2

namespace L2
open PySem PySem.Spec PyProof.Rows

structure Mod (K:PySem.W.Frag)(mg:Str->Option Value)(base:Heap):Prop where
 kin:K.In base
 glob:base.Ns mainGlobals mg
 blt: ∃mb,base.Ns builtinsNs mb/\ ∀x:Str,x≠"__name__"->mb x=bootBuiltins x
 nolimit:base.NoLimit

structure Cx where
 prog:Program
 w:World
 K:PySem.W.Frag
 mg:Str->Option Value
 base:Heap
 A:Around
 N:List Str
 s₀:Shared
 H₀:Hp
 env:Env
 outer:List Env
 stack:List Env
 ex:List Addr
 fn:Str->Bool
 calm:Bool
 pn:List (Addr×Obj)
 xe:Value->Shared->Prop
def frs (l:List Env):List Addr:=l.filterMap (·.frame)
abbrev Cx.fs (X:Cx):List Addr:=frs X.outer

def Vis (sc:Scope)(x:Str):Prop:=sc.names.lookup x=some .local\/sc.names.lookup x=some .cell\/sc.names.lookup x=some .free
def ZF (sc:Scope)(x:Str):Prop:=sc.names.lookup x=some .local\/sc.names.lookup x=some .cell
def zBs (env:Env)(h:Heap)(m:Str->Option Value)(x:Str)(u:Value):Prop:=
 (env.kindOf x=some .local/\m x=some u)\/((env.kindOf x=some .cell\/env.kindOf x=some .free)/\ ∃c,env.cells.lookup x=some c/\h.IsCell c (some u))

structure Cx.Ok (X:Cx):Prop where
 mod:Mod X.K X.mg X.base
 kind:X.env.scope.kind=.function
 glob:X.env.globals=mainGlobals
 blt:X.env.builtins=builtinsNs
 above:X.s₀.heap.objs.size<=X.env.locals
 inj: ∀x y c,X.env.cells.lookup x=some c->X.env.cells.lookup y=some c->x=y
 has: ∀x,(X.env.kindOf x=some .cell\/X.env.kindOf x=some .free)-> ∃c,X.env.cells.lookup x=some c
 cab: ∀x c,X.fn x=true->X.env.cells.lookup x=some c->X.s₀.heap.objs.size<=c
 hd:X.calm=true->X.A.handled=none
 frames:X.A.frames=some X.stack
 stk:X.stack=X.outer\/(X.stack=X.env::X.outer/\X.env.frame=some X.env.locals)
 exf: ∀b∈X.ex,b≠X.env.locals/\ ∀x c,X.env.cells.lookup x=some c->c≠b
 bs: ∀b o,X.base.get? b=some o->X.s₀.heap.get? b=some o/\X.H₀ b=none
 bsz:X.base.objs.size<=X.s₀.heap.objs.size
 noex: ∀b o,X.base.get? b=some o->b∉X.ex
 exfs: ∀b∈X.ex,b∉X.fs
 funs:X.s₀.heap.FunFrames X.base X.outer
 frf: ∀b∈X.fs,X.H₀ b=none

structure xM (X:Cx)(pins:List (Addr×Obj))(σ:List (Option V))(H:Hp)(s:Shared):Prop where
 ok:X.Ok
 os:s.os=X.s₀.os
 bare:AllBare s.gens
 base:Un X.fs X.ex X.H₀ H X.s₀.heap s.heap
 loc: ∃m,s.heap.Ns X.env.locals m/\ ∀(i:Nat) (x:Str) (v:V),X.N[i]? =some x->σ[i]? =some (some v)->Vis X.env.scope x-> ∃u,kB v u/\zBs X.env s.heap m x u
 cell: ∀x c,X.env.cells.lookup x=some c-> ∃v,s.heap.IsCell c v
 free:H X.env.locals=none
 freeC: ∀x c,X.env.cells.lookup x=some c->H c=none
 pin: ∀p∈X.pn++pins,s.heap.get? p.1=some p.2/\H p.1=none/\p.1≠X.env.locals/\p.1∉X.fs/\ ∀v,p.2.data≠ .cell v
 hok:GL X.prog X.w H s.heap
 len:σ.length=X.N.length

section
variable {X:Cx}{pins:List (Addr×Obj)}{σ:List (Option V)}{H H':Hp}{s:Shared}{h':Heap}

theorem Cx.Ok.nofr (ok:X.Ok){b:Addr}{o:Obj}(e:X.base.get? b=some o):b∉X.fs:=fun hb=>by
 have:=(ok.funs.mem hb).1
 rw[e]at this;cases this
theorem xM.bs (I:xM X pins σ H s): ∀b o,X.base.get? b=some o->s.heap.get? b=some o/\H b=none:=fun b o e=>
 ⟨I.base.keep b o (I.ok.bs b o e).1 (I.ok.bs b o e).2 (I.ok.nofr e) (I.ok.noex b o e),I.base.free b o (I.ok.bs b o e).1 (I.ok.bs b o e).2 (I.ok.noex b o e)⟩
theorem xM.bk (I:xM X pins σ H s): ∀b o,X.base.get? b=some o->s.heap.get? b=some o:=fun b o e=>(I.bs b o e).1
theorem xM.mod (I:xM X pins σ H s):Mod X.K X.mg X.base:=I.ok.mod
theorem xM.kIn (I:xM X pins σ H s):X.K.In s.heap:=I.ok.mod.kin.keeps I.bk
theorem xM.lt (I:xM X pins σ H s):X.env.locals<s.heap.objs.size:=let⟨_,hn,_⟩:=I.loc;hn.lt
theorem xM.sz (I:xM X pins σ H s):X.s₀.heap.objs.size<=s.heap.objs.size:=yO I.ok.above (uF I.lt)
theorem xM.nofs (I:xM X pins σ H s){a:Addr}(h:s.heap.objs.size<=a):a∉X.fs:=fun hb=>by
 obtain⟨_,o,ho,_⟩:=I.ok.funs.mem hb
 exact absurd (yR (yC ho) (yO I.sz h)) (jO _)
theorem xM.cne (I:xM X pins σ H s): ∀x c,X.env.cells.lookup x=some c->c≠X.env.locals:=fun x c e z=>by
 obtain⟨v,o,ho,hd⟩:=I.cell x c e
 obtain⟨m,⟨o',es,ep,ho',hd',_⟩,_⟩:=I.loc
 rw[z,ho']at ho;cases ho;rw[hd']at hd;cases hd
theorem xM.funs (I:xM X pins σ H s):s.heap.FunFrames X.base X.outer:=by
 have all: ∀(l:List Env),(∀b∈frs l,b∈X.fs)->X.s₀.heap.FunFrames X.base l->s.heap.FunFrames X.base l:=by
  intro l
  induction l with
  |nil=>intro _ _;trivial
  |cons env r ih=>
   intro hs hl
   obtain⟨hk,⟨L,o,hf,hn,ho,hd⟩,hr⟩:=hl
   have hL:L∈X.fs:=hs L (by unfold frs;rw[CV,hf];exact zP)
   obtain⟨sl,e⟩:=I.base.slot L o ho (I.ok.frf L hL) hL fun z=>I.ok.exfs L z hL
   exact⟨hk,⟨L,_,hf,hn,e,hd⟩,ih (fun b hb=>hs b (by unfold frs;rw[CV,hf];exact zT _ hb)) hr⟩
 exact all X.outer (fun _ hb=>hb) I.ok.funs

theorem xM.stack (I:xM X pins σ H s):s.heap.FunFrames X.base X.stack:=by
 rcases I.ok.stk with e|⟨e,hf⟩
 ·rw[e];exact I.funs
 ·rw[e]
  obtain⟨m,hn,_⟩:=I.loc
  refine .cons (by rw[I.ok.kind];decide) hf hn ?_ I.funs
  exact Heap.get?_none_of_le (yO I.ok.bsz I.ok.above)
theorem xM.stkSub (I:xM X pins σ H s): ∀b∈frs X.stack,b∈X.env.locals::X.fs:=fun b hb=>by
 rcases I.ok.stk with e|⟨e,hf⟩
 ·rw[e]at hb;exact zT _ hb
 ·rw[e]at hb
  unfold frs at hb
  rw[CV,hf]at hb
  exact hb
theorem xM.stkFree (I:xM X pins σ H s): ∀b∈frs X.stack,H b=none:=fun b hb=>by
 rcases List.mem_cons.mp (I.stkSub b hb)with e|hb
 ·rw[e];exact I.free
 ·obtain⟨_,o,ho,_⟩:=I.ok.funs.mem hb
  exact I.base.free b o ho (I.ok.frf b hb) fun z=>I.ok.exfs b z hb

theorem xM.step {g':Array GenState}{t':Nat}{d':Drawn}{ch:List Addr}(I:xM X pins σ H s)
  (hch: ∀b∈ch,(b∈X.ex\/X.s₀.heap.objs.size<=b)/\b≠X.env.locals/\(∀x c,X.env.cells.lookup x=some c->c≠b)/\ ∀p∈X.pn++pins,p.1≠b)
  (keep: ∀b o,b≠X.env.locals->b∉X.fs->b∉ch->s.heap.get? b=some o->H b=none->h'.get? b=some o)
  (slot: ∀b o,b≠X.env.locals->b∈X.fs->b∉ch->s.heap.get? b=some o->H b=none-> ∃sl,h'.get? b=some {o with slots:=sl}) (free: ∀b o,b∉ch->s.heap.get? b=some o->H b=none->H' b=none)
  (there: ∀b o,b∉ch->s.heap.get? b=some o-> ∃o',h'.get? b=some o')
  (tups: ∀b xs,H b=some (.tup xs)->H' b=some (.tup xs)) (frzs: ∀b o u,H b=some (.frz o u)->H' b=some (.frz o u)) (tbls: ∀b ps,H b=some (.tbl ps)-> ∃more,H' b=some (.tbl (ps++more)))
  (ns: ∀m,s.heap.Ns X.env.locals m->h'.Ns X.env.locals m) (hok:GL X.prog X.w H' h') (hg:AllBare g'):
  xM X pins σ H' {s with heap:=h',gens:=g',drawn:=d',toks:=t'}:=by
 have neL: ∀b o,X.s₀.heap.get? b=some o->b≠X.env.locals:=fun b o e=>xK (yR (yC e) I.ok.above)
 have neC: ∀b o,X.s₀.heap.get? b=some o->b∉X.ex->b∉ch:=fun b o e hx hb=>by
  rcases(hch b hb).1 with z|z
  ·exact hx z
  ·exact absurd (yR (yC e) z) (jO _)
 have cellK: ∀x c,X.env.cells.lookup x=some c-> ∀v,s.heap.IsCell c v->h'.IsCell c v:=fun x c e v ⟨o,ho,hd⟩=>by
  have nch:c∉ch:=fun z=>(hch c z).2.2.1 x c e rfl
  by_cases hc:c∈X.fs
  ·obtain⟨sl,q⟩:=slot c o (I.cne x c e) hc nch ho (I.freeC x c e)
   exact⟨_,q,hd⟩
  ·exact⟨o,keep c o (I.cne x c e) hc nch ho (I.freeC x c e),hd⟩
 refine⟨I.ok,I.os,hg,⟨fun b o e n hb hx=>?_,fun b o e n hb hx=>?_,fun b o e n hx=>?_,fun b o e hx=>?_,fun b xs e=>tups b xs (I.base.tups b xs e),fun b o xs e=>frzs b o xs (I.base.frzs b o xs e),fun b ps e=>?_⟩,?_,fun x c e=>?_,?_,fun x c e=>?_,fun p hp=>?_,hok,I.len⟩
 ·exact keep b o (neL b o e) hb (neC b o e hx) (I.base.keep b o e n hb hx) (I.base.free b o e n hx)
 ·obtain⟨sl,e1⟩:=I.base.slot b o e n hb hx
  obtain⟨sl',e2⟩:=slot b _ (neL b o e) hb (neC b o e hx) e1 (I.base.free b o e n hx)
  exact⟨sl',e2⟩
 ·obtain⟨o',e1⟩:=I.base.there b o e hx
  exact free b o' (neC b o e hx) e1 (I.base.free b o e n hx)
 ·obtain⟨o',e1⟩:=I.base.there b o e hx
  exact there b o' (neC b o e hx) e1
 ·obtain⟨m1,e1⟩:=I.base.tbls b ps e
  obtain⟨m2,e2⟩:=tbls b _ e1
  exact⟨m1++m2,by rw[e2,Array.append_assoc]⟩
 ·obtain⟨m,hn,hl⟩:=I.loc
  refine⟨m,ns m hn,fun i x v e1 e2 e3=>?_⟩
  obtain⟨u,r,l⟩:=hl i x v e1 e2 e3
  refine⟨u,r,?_⟩
  rcases l with l|⟨k,c,e,z⟩
  ·exact .inl l
  ·exact .inr ⟨k,c,e,cellK x c e _ z⟩
 ·obtain⟨v,z⟩:=I.cell x c e
  exact⟨v,cellK x c e v z⟩
 ·obtain⟨m,⟨o,_,_,ho,_⟩,_⟩:=I.loc
  exact free _ o (fun z=>(hch _ z).2.1 rfl) ho I.free
 ·obtain⟨v,o,ho,hd⟩:=I.cell x c e
  exact free c o (fun z=>(hch c z).2.2.1 x c e rfl) ho (I.freeC x c e)
 ·obtain⟨e,n,ne,nf,d⟩:=I.pin p hp
  have nch:p.1∉ch:=fun z=>(hch p.1 z).2.2.2 p hp rfl
  exact⟨keep p.1 p.2 ne nf nch e n,free p.1 p.2 nch e n,ne,nf,d⟩
theorem xM.un {t':Nat}(I:xM X pins σ H s)(u:Un X.fs [] H H' s.heap h')(hok:GL X.prog X.w H' h'):xM X pins σ H' {s with heap:=h',toks:=t'}:=by
 obtain⟨m,⟨o,es,ep,ho,r⟩,_⟩:=id I.loc
 obtain⟨sl,hL⟩:=u.any ho I.free (by simp)
 exact I.step (g':=s.gens) (d':=s.drawn) (ch:=[]) (fun _ z=>nomatch z) (fun b o _ hb _ e n=>u.keep b o e n hb (by simp)) (fun b o _ hb _ e n=>u.slot b o e n hb (by simp)) (fun b o _ e n=>u.free b o e n (by simp)) (fun b o _ e=>u.there b o e (by simp)) u.tups u.frzs u.tbls (fun m' hm=>by
  obtain⟨o',es',ep',ho',r'⟩:=hm
  rw[ho]at ho';cases ho'
  exact⟨_,es',ep',hL,r'⟩) hok I.bare
theorem xM.call {g':Array GenState}{t':Nat}{d':Drawn}{ch:List Addr}(I:xM X pins σ H s)(u:Un (frs X.stack) ch H H' s.heap h')(hok:GL X.prog X.w H' h')(hg:AllBare g')
  (hch: ∀b∈ch,(b∈X.ex\/X.s₀.heap.objs.size<=b)/\b≠X.env.locals/\(∀x c,X.env.cells.lookup x=some c->c≠b)/\ ∀p∈X.pn++pins,p.1≠b):
  xM X pins σ H' {s with heap:=h',gens:=g',drawn:=d',toks:=t'}:=by
 obtain⟨m,⟨o,es,ep,ho,r⟩,_⟩:=id I.loc
 obtain⟨sl,hL⟩:=u.any ho I.free fun z=>(hch _ z).2.1 rfl
 exact I.step (ch:=ch) hch (fun b o hL hb hc e n=>u.keep b o e n (fun z=>(List.mem_cons.mp (I.stkSub b z)).elim hL hb) hc) (fun b o _ _ hc e n=>u.any e n hc) (fun b o hc e n=>u.free b o e n hc) (fun b o hc e=>u.there b o e hc) u.tups u.frzs u.tbls (fun m' hm=>by
  obtain⟨o',es',ep',ho',r'⟩:=hm
  rw[ho]at ho';cases ho'
  exact⟨_,es',ep',hL,r'⟩) hok hg
theorem xM.turned {t':Nat}{it:Addr}(I:xM X pins σ H s)(k: ∀b o,b≠it->s.heap.get? b=some o->h'.get? b=some o)(hn:H it=none)(hL:it≠X.env.locals)
  (h1:it∈X.ex\/X.s₀.heap.objs.size<=it) (h2: ∀x c,X.env.cells.lookup x=some c->c≠it) (h3: ∀p∈X.pn++pins,p.1≠it):xM X pins σ H {s with heap:=h',toks:=t'}:=by
 have nit: ∀b u,H b=some u->b≠it:=fun b u e z=>by rw[z,hn]at e;cases e
 refine I.step (g':=s.gens) (d':=s.drawn) (ch:=[it]) (fun b hb=>?_) (fun b o _ _ hc e _=>k b o (fun z=>hc (by simp[z])) e) (fun b o _ _ hc e _=>⟨o.slots,k b o (fun z=>hc (by simp[z])) e⟩) (fun _ _ _ _ n=>n)
  (fun b o hc e=>⟨o,k b o (fun z=>hc (by simp[z])) e⟩) (fun _ _ e=>e) (fun _ _ _ e=>e) (fun b ps e=>⟨#[],by rw[e];simp⟩) (fun m hm=>?_) (fun b u e=>?_) I.bare
 ·have e:b=it:=by simpa using hb
  subst e
  exact⟨h1,hL,h2,h3⟩
 ·obtain⟨o,es,ep,ho,r⟩:=hm
  exact⟨o,es,ep,k _ o (Ne.symm hL) ho,r⟩
 ·refine(I.hok b u e).stay (fun c v hc q=>k c v ?_ q) (fun _ q=>q) fun _ _ q=>q
  rcases hc with z|z
  ·rw[z];exact nit b u e
  ·exact nit c _ z
theorem xM.tok (I:xM X pins σ H s)(t:Nat):xM X pins σ H {s with toks:=t}:=I.un (h':=s.heap) (t':=t) Un.refl I.hok
theorem xM.kept {t':Nat}(I:xM X pins σ H s)(k: ∀b u,s.heap.get? b=some u->h'.get? b=some u):xM X pins σ H {s with heap:=h',toks:=t'}:=I.un (Un.kept k) (I.hok.kept k)
theorem xM.laid {a:Addr}{o:HO}{t':Nat}(I:xM X pins σ H s)(k: ∀b u,s.heap.get? b=some u->h'.get? b=some u)(hp:s.heap.objs.size<=a)(new:wI X.prog X.w (upd H a o) h' a o):
  xM X pins σ (upd H a o) {s with heap:=h',toks:=t'}:=I.un (Un.laid k hp (I.hok.fresh hp)) (I.hok.laid k hp new)
theorem xM.write {x e:Addr}{o:HO}{t':Nat}(I:xM X pins σ H s)(mu:ZD (H x))(he:e=x\/H e=some (.own x))(k: ∀b u,b≠e->s.heap.get? b=some u->h'.get? b=some u)(heo: ∃u,h'.get? e=some u)
  (new:wI X.prog X.w (upd H x o) h' x o):xM X pins σ (upd H x o) {s with heap:=h',toks:=t'}:=I.un (Un.write mu he k heo) (I.hok.write mu he k heo new)
theorem xM.pins_of {pins':List (Addr×Obj)}(I:xM X pins σ H s)(h: ∀p∈pins',s.heap.get? p.1=some p.2/\H p.1=none/\p.1≠X.env.locals/\p.1∉X.fs/\ ∀v,p.2.data≠ .cell v):xM X pins' σ H s:=
 ⟨I.ok,I.os,I.bare,I.base,I.loc,I.cell,I.free,I.freeC,fun p hp=>(List.mem_append.mp hp).elim (fun z=>I.pin p (kN _ z)) (h p),I.hok,I.len⟩

theorem Oj {N:List Str}(hN:N.Nodup){i j:Nat}{x:Str}(a:N[i]? =some x)(b:N[j]? =some x):i=j:=by
 obtain⟨h1,e1⟩:=List.getElem?_eq_some_iff.mp a
 obtain⟨h2,e2⟩:=List.getElem?_eq_some_iff.mp b
 exact(List.getElem_inj hN).mp (e1.trans e2.symm)

theorem Lj {M:Model}{A:Around}{E:Value->Shared->Prop}{i:Nat}{x:Str}{v:V}{u:Value}{Q:Unit->Shared->Prop}(I:xM X pins σ H s)(hN:X.N.Nodup)(hi:X.N[i]? =some x)(hx:ZF X.env.scope x)(r:kB v u)
  (h: ∀s',xM X pins (σ.set i (some v)) H s'->(∃a,Heap.SameBut a s.heap s'.heap/\(a=X.env.locals\/X.env.cells.lookup x=some a))->Q () s') (hf:X.fn x=true\/X.env.scope.names.lookup x=some .local:=by first|exact .inl rfl|exact .inr rfl|assumption):wpAny M A (storeName X.env x u) Q E s:=by
 obtain⟨m,hn,hl⟩:=id I.loc
 have hcls:(X.env.scope.kind== .class || (X.env.scope.kind== .module&&X.env.locals !=X.env.globals))=false:=by rw[I.ok.kind];rfl
 have hiσ:i<σ.length:=by rw[I.len];exact(List.getElem?_eq_some_iff.mp hi).1
 have cne:=I.cne
 have tracked: ∀{a:Addr} {h':Heap},(∃o,s.heap.get? a=some o/\H a=none)->Heap.SameBut a s.heap h'->GL X.prog X.w H h':=fun{a h'} ha hs b ob e=>by
  obtain⟨_,_,hfree⟩:=ha
  refine(I.hok b ob e).stay (fun c w' hc q=>(hs.2 c ?_).trans q) (fun _ q=>q) fun _ _ q=>q
  rintro rfl
  rcases hc with rfl|hc
  ·rw[hfree]at e;cases e
  ·rw[hfree]at hc;cases hc
 rcases hx with hk|hk
 ·refine wpAny_storeName_local hk hn (fun h' hn' hs=>?_) hcls
  obtain⟨oL,_,_,hoL,_⟩:=id hn
  refine h _ ⟨I.ok,I.os,I.bare,⟨fun b o e n hb hx=>?_,fun b o e n hb hx=>?_,I.base.free,fun b o e hx=>?_,I.base.tups,I.base.frzs,I.base.tbls⟩,⟨_,hn',fun j y v' e1 e2 e3=>?_⟩,fun y c e=>?_,I.free,I.freeC,fun p hp=>?_,tracked ⟨oL,hoL,I.free⟩ hs,by simpa using I.len⟩ ⟨_,hs,.inl rfl⟩
  ·exact(hs.2 b (xK (yR (yC e) I.ok.above))).trans (I.base.keep b o e n hb hx)
  ·obtain⟨sl,e1⟩:=I.base.slot b o e n hb hx
   exact⟨sl,(hs.2 b (xK (yR (yC e) I.ok.above))).trans e1⟩
  ·obtain⟨o',e1⟩:=I.base.there b o e hx
   exact⟨o',(hs.2 b (xK (yR (yC e) I.ok.above))).trans e1⟩
  ·by_cases hj:j=i
   ·subst hj
    rw[hi]at e1;cases e1
    rw[List.getElem?_set_self hiσ]at e2
    cases e2
    exact⟨u,r,.inl ⟨hk,by simp⟩⟩
   ·rw[List.getElem?_set_ne (Ne.symm hj)]at e2
    obtain⟨u',r',q⟩:=hl j y v' e1 e2 e3
    refine⟨u',r',?_⟩
    rcases q with⟨k,e⟩|⟨k,c,e,z⟩
    ·refine .inl ⟨k,?_⟩
     have:y≠x:=fun e=>hj (Oj hN e1 (e▸hi))
     simp[this,e]
    ·exact .inr ⟨k,c,e,z.sameBut hs (cne y c e)⟩
  ·obtain⟨w',z⟩:=I.cell y c e
   exact⟨w',z.sameBut hs (cne y c e)⟩
  ·obtain⟨e,n,ne,nf,d⟩:=I.pin p hp
   exact⟨(hs.2 p.1 ne).trans e,n,ne,nf,d⟩
 ·have hfn:X.fn x=true:=by
   rcases hf with z|z
   ·exact z
   ·rw[z]at hk;cases hk
  obtain⟨c,hc⟩:=I.ok.has x (.inl hk)
  obtain⟨w',z⟩:=I.cell x c hc
  refine wpAny_storeName_cell I.ok.kind hk hc z (fun h' hc' hs=>?_)
  obtain⟨oc,hoc,hocd⟩:=id z
  refine h {s with heap:=h'} ⟨I.ok,I.os,I.bare,⟨fun b o e n hb hx=>?_,fun b o e n hb hx=>?_,I.base.free,fun b o e hx=>?_,I.base.tups,I.base.frzs,I.base.tbls⟩,⟨m,hn.sameBut hs (Ne.symm (cne x c hc)),fun j y v' e1 e2 e3=>?_⟩,fun y c' e=>?_,I.free,I.freeC,fun p hp=>?_,tracked ⟨oc,hoc,I.freeC x c hc⟩ hs,by simpa using I.len⟩ ⟨c,hs,.inr hc⟩
  ·exact(hs.2 b (xK (yR (yC e) (I.ok.cab x c hfn hc)))).trans (I.base.keep b o e n hb hx)
  ·obtain⟨sl,e1⟩:=I.base.slot b o e n hb hx
   exact⟨sl,(hs.2 b (xK (yR (yC e) (I.ok.cab x c hfn hc)))).trans e1⟩
  ·obtain⟨o',e1⟩:=I.base.there b o e hx
   exact⟨o',(hs.2 b (xK (yR (yC e) (I.ok.cab x c hfn hc)))).trans e1⟩
  ·by_cases hj:j=i
   ·subst hj
    rw[hi]at e1;cases e1
    rw[List.getElem?_set_self hiσ]at e2
    cases e2
    exact⟨u,r,.inr ⟨.inl hk,c,hc,hc'⟩⟩
   ·rw[List.getElem?_set_ne (Ne.symm hj)]at e2
    obtain⟨u',r',q⟩:=hl j y v' e1 e2 e3
    refine⟨u',r',?_⟩
    rcases q with q|⟨k,c',e,z'⟩
    ·exact .inl q
    ·refine .inr ⟨k,c',e,z'.sameBut hs ?_⟩
     rintro rfl
     exact hj (Oj hN e1 (I.ok.inj _ _ _ e hc▸hi))
  ·by_cases hcc:c'=c
   ·subst hcc;exact⟨_,hc'⟩
   ·obtain⟨w2,z2⟩:=I.cell y c' e
    exact⟨w2,z2.sameBut hs hcc⟩
  ·obtain⟨e,n,ne,nf,d⟩:=I.pin p hp
   refine⟨(hs.2 p.1 ?_).trans e,n,ne,nf,d⟩
   intro q
   rw[q,hoc]at e
   have q':oc=p.2:=xU e
   exact d w' (by rw[<-q'];exact hocd)
theorem JO {M:Model}{A:Around}{E:Value->Shared->Prop}{i:Nat}{x:Str}{v:V}{u:Value}{Q:Unit->Shared->Prop}(I:xM X pins σ H s)(hN:X.N.Nodup)(hi:X.N[i]? =some x)(hx:ZF X.env.scope x)(r:kB v u)
  (h: ∀s',xM X pins (σ.set i (some v)) H s'->Q () s') (hf:X.fn x=true\/X.env.scope.names.lookup x=some .local:=by first|exact .inl rfl|exact .inr rfl|assumption):wpAny M A (storeName X.env x u) Q E s:=
 Lj I hN hi hx r (fun s' I' _=>h s' I') hf
theorem xM.call' {s':Shared}{ch:List Addr}(I:xM X pins σ H s)(ho:s'.os=s.os)(u:Un (frs X.stack) ch H H' s.heap s'.heap)(hok:GL X.prog X.w H' s'.heap)(hg:AllBare s'.gens)
  (hch: ∀b∈ch,(b∈X.ex\/X.s₀.heap.objs.size<=b)/\b≠X.env.locals/\(∀x c,X.env.cells.lookup x=some c->c≠b)/\ ∀p∈X.pn++pins,p.1≠b):xM X pins σ H' s':=by
 obtain⟨h',g',d',t',o'⟩:=s'
 have e:o'=s.os:=ho
 subst e
 exact I.call (g':=g') (t':=t') (d':=d') u hok hg hch
end

abbrev XK:=Value->Option Addr->Hp->Prop
abbrev St:=List (Option V)
abbrev VK:=V->Hp->Prop
abbrev TE:=St->Hp->VK->Prop
abbrev TT:=St->Hp->(Bool->Hp->Prop)->Prop
abbrev TA:=St->Hp->(List V->Hp->Prop)->Prop
structure FJ where
 nx:St->Hp->Prop
 rt:VK
 bk:St->Hp->Prop:=fun _ _=>False
 ct:St->Hp->Prop:=fun _ _=>False
abbrev TS:=FJ->St->Hp->Prop

def EP (X:Cx)(pins:List (Addr×Obj))(σ:St)(Q:VK)(u:Value)(s':Shared):Prop:= ∃v H',xM X pins σ H' s'/\kB v u/\Q v H'
def TP (X:Cx)(pins:List (Addr×Obj))(σ:St)(Q:Bool->Hp->Prop)(b:Bool)(s':Shared):Prop:= ∃H',xM X pins σ H' s'/\Q b H'
def AP (X:Cx)(pins:List (Addr×Obj))(σ:St)(Q:List V->Hp->Prop)(us:List Value)(s':Shared):Prop:= ∃vs H',xM X pins σ H' s'/\jP vs us/\Q vs H'
def SP (X:Cx)(pins:List (Addr×Obj))(D:FJ)(f:Flow)(s':Shared):Prop:=
 match f with
 | .next=> ∃σ' H',xM X pins σ' H' s'/\D.nx σ' H'
 | .brk=> ∃σ' H',xM X pins σ' H' s'/\D.bk σ' H'
 | .cont=> ∃σ' H',xM X pins σ' H' s'/\D.ct σ' H'
 | .ret u=> ∃v σ' H',xM X pins σ' H' s'/\kB v u/\D.rt v H'

structure PE (X:Cx)(e:Expr)(t:TE):Prop where
 go: ∀(pins:List (Addr×Obj)) (s:Shared) (σ:St) (H:Hp) (Q:VK),xM X pins σ H s->t σ H Q->wpAny (model X.prog X.w) X.A (eval e X.env) (EP X pins σ Q) X.xe s
instance {X:Cx}{e:Expr}{t:TE}:CoeFun (PE X e t) (fun _=> ∀(pins:List (Addr×Obj)) (s:Shared) (σ:St) (H:Hp) (Q:VK),xM X pins σ H s->t σ H Q->wpAny (model X.prog X.w) X.A (eval e X.env) (EP X pins σ Q) X.xe s):=⟨PE.go⟩
structure PT (X:Cx)(e:Expr)(t:TT):Prop where
 go: ∀(pins:List (Addr×Obj)) (s:Shared) (σ:St) (H:Hp) (Q:Bool->Hp->Prop),xM X pins σ H s->t σ H Q->wpAny (model X.prog X.w) X.A (isTrue e X.env (eval e X.env)) (TP X pins σ Q) X.xe s
instance {X:Cx}{e:Expr}{t:TT}:CoeFun (PT X e t) (fun _=> ∀(pins:List (Addr×Obj)) (s:Shared) (σ:St) (H:Hp) (Q:Bool->Hp->Prop),xM X pins σ H s->t σ H Q->wpAny (model X.prog X.w) X.A (isTrue e X.env (eval e X.env)) (TP X pins σ Q) X.xe s):=⟨PT.go⟩
structure PW (X:Cx)(e:Expr)(t:TT):Prop where
 go: ∀(whole:Sem Value) (pins:List (Addr×Obj)) (s:Shared) (σ:St) (H:Hp) (Q:Bool->Hp->Prop),xM X pins σ H s->t σ H Q->wpAny (model X.prog X.w) X.A (isTrue e X.env whole) (TP X pins σ Q) X.xe s
instance {X:Cx}{e:Expr}{t:TT}:CoeFun (PW X e t) (fun _=> ∀(whole:Sem Value) (pins:List (Addr×Obj)) (s:Shared) (σ:St) (H:Hp) (Q:Bool->Hp->Prop),xM X pins σ H s->t σ H Q->wpAny (model X.prog X.w) X.A (isTrue e X.env whole) (TP X pins σ Q) X.xe s):=⟨PW.go⟩
theorem PW.pt {X:Cx}{e:Expr}{t:TT}(h:PW X e t):PT X e t:=⟨h _⟩
structure PA (X:Cx)(es:List Expr)(t:TA):Prop where
 go: ∀(pos:Pos) (pins:List (Addr×Obj)) (s:Shared) (σ:St) (H:Hp) (Q:List V->Hp->Prop),xM X pins σ H s->t σ H Q->wpAny (model X.prog X.w) X.A (spliced (backTo pos (starEach es X.env))) (AP X pins σ Q) X.xe s
instance {X:Cx}{es:List Expr}{t:TA}:CoeFun (PA X es t) (fun _=> ∀(pos:Pos) (pins:List (Addr×Obj)) (s:Shared) (σ:St) (H:Hp) (Q:List V->Hp->Prop),xM X pins σ H s->t σ H Q->wpAny (model X.prog X.w) X.A (spliced (backTo pos (starEach es X.env))) (AP X pins σ Q) X.xe s):=⟨PA.go⟩
structure PS (X:Cx)(st:Stmt)(t:TS):Prop where
 go: ∀(pins:List (Addr×Obj)) (s:Shared) (σ:St) (H:Hp) (D:FJ),xM X pins σ H s->t D σ H->wpAny (model X.prog X.w) X.A (exec st X.env) (SP X pins D) X.xe s
instance {X:Cx}{st:Stmt}{t:TS}:CoeFun (PS X st t) (fun _=> ∀(pins:List (Addr×Obj)) (s:Shared) (σ:St) (H:Hp) (D:FJ),xM X pins σ H s->t D σ H->wpAny (model X.prog X.w) X.A (exec st X.env) (SP X pins D) X.xe s):=⟨PS.go⟩
structure OZ (X:Cx)(st:List Stmt)(t:TS):Prop where
 go: ∀(pins:List (Addr×Obj)) (s:Shared) (σ:St) (H:Hp) (D:FJ),xM X pins σ H s->t D σ H->wpAny (model X.prog X.w) X.A (execs st X.env) (SP X pins D) X.xe s
instance {X:Cx}{st:List Stmt}{t:TS}:CoeFun (OZ X st t) (fun _=> ∀(pins:List (Addr×Obj)) (s:Shared) (σ:St) (H:Hp) (D:FJ),xM X pins σ H s->t D σ H->wpAny (model X.prog X.w) X.A (execs st X.env) (SP X pins D) X.xe s):=⟨OZ.go⟩
theorem qR {α:Type}{t:Sem α}{Q Q':α->Shared->Prop}{M:Model}{A:Around}{E:Value->Shared->Prop}{s:Shared}(h:wpAny M A t Q E s)(hQ: ∀a s,Q a s->Q' a s):wpAny M A t Q' E s:=vQ h hQ fun _ _ x=>x
end L2

namespace L2
open PySem PySem.Spec PyProof.Rows
section
variable {X:Cx}

inductive Xr (i:Nat) (σ:St) (H:Hp) (Q:VK):Prop
 |mk (v:_) (h0:σ[i]? =some (some v)) (h1:Q v H):Xr i σ H Q
def tC (v:V):TE:=fun _ H Q=>Q v H
theorem XH {i:Nat}{x:Str}{pos:Pos}(hN:X.N[i]? =some x)(hv:Vis X.env.scope x)(hd:(x==("__debug__":Str))=false:=by decide)(hcd:(x==("__classdict__":Str))=false:=by decide):PE X (.Name x pos) (Xr i):=by
 refine⟨?_⟩
 intro pins s σ H Q I h
 obtain⟨v,e,h⟩:=h
 obtain⟨m,hn,hl⟩:=I.loc
 obtain⟨u,r,l⟩:=hl i x v hN e hv
 have fin:EP X pins σ Q u s:=⟨v,H,I,r,h⟩
 rcases l with⟨hk,hm⟩|⟨hk,c,hc,hcell⟩
 ·exact wpAny_Name (wpAny_loadName_local I.ok.kind hk hn hm fin) hd
 ·rcases hk with hk|hk
  ·exact wpAny_Name (wpAny_loadName_cell I.ok.kind hk hc hcell fin) hd
  ·exact wpAny_Name (wpAny_loadName_free I.ok.kind hk hc hcell fin hcd) hd
theorem zX {i j pos}:PE X (.Constant (.int i) j pos) (tC (.int i)):=⟨fun _ _ _ H _ I h=>wpAny_Constant_int ⟨.int i,H,I.tok _,⟨_,rfl⟩,h⟩⟩
theorem GR {b j pos}:PE X (.Constant (.bool b) j pos) (tC (.bl b)):=⟨fun _ _ _ H _ I h=>Constant_bool ⟨.bl b,H,I,rfl,h⟩⟩
theorem TR {j pos}:PE X (.Constant .none j pos) (tC .non):=⟨fun _ _ _ H _ I h=>Constant_none ⟨.non,H,I,rfl,h⟩⟩
theorem kQ {x j pos}:PE X (.Constant (.str x) j pos) (tC (.str x)):=⟨fun _ _ _ H _ I h=>DF ⟨.str x,H,I.tok _,⟨_,rfl⟩,h⟩⟩
def Gl (X:Cx)(x:Str):Prop:=X.env.kindOf x=some .globalImplicit
theorem HZ {E:Value->Shared->Prop}{pins:List (Addr×Obj)}{s:Shared}{σ:St}{H:Hp}{x:Str}{u:Value}{pos:Pos}{Q:Value->Shared->Prop}(I:xM X pins σ H s)(hg:Gl X x)(hm:X.mg x=some u)(h:Q u s)
  (hd:(x==("__debug__":Str))=false:=by decide):wpAny (model X.prog X.w) X.A (eval (.Name x pos) X.env) Q E s:=
 Calls.Name_function_global I.ok.kind hg (Calls.loadGlobal_global (by rw[I.ok.glob];exact I.mod.glob.keeps I.bk) hm h) hd
theorem Eo {E:Value->Shared->Prop}{pins:List (Addr×Obj)}{s:Shared}{σ:St}{H:Hp}{x:Str}{u:Value}{pos:Pos}{Q:Value->Shared->Prop}(I:xM X pins σ H s)(hg:Gl X x)(hm:X.mg x=none)(hv:bootBuiltins x=some u)(h:Q u s)
  (hn:x≠"__name__":=by decide) (hd:(x==("__debug__":Str))=false:=by decide):wpAny (model X.prog X.w) X.A (eval (.Name x pos) X.env) Q E s:=by
 obtain⟨mb,h1,h2⟩:=I.mod.blt
 exact Calls.Name_function_global I.ok.kind hg (Calls.loadGlobal_builtin (by rw[I.ok.glob];exact I.mod.glob.keeps I.bk) hm (by rw[I.ok.blt];exact h1.keeps I.bk) ((h2 x hn).trans hv) h) hd
theorem MM {x:Str}{v:V}{u:Value}{pos:Pos}(hg:Gl X x)(hm:X.mg x=some u)(r:kB v u)(hd:(x==("__debug__":Str))=false:=by decide):PE X (.Name x pos) (tC v):=⟨fun _ _ _ H _ I h=>HZ I hg hm ⟨v,H,I,r,h⟩ hd⟩
theorem Bq {x:Str}{v:V}{u:Value}{pos:Pos}(hg:Gl X x)(hm:X.mg x=none)(hv:bootBuiltins x=some u)(r:kB v u)(hn:x≠"__name__":=by decide)(hd:(x==("__debug__":Str))=false:=by decide):PE X (.Name x pos) (tC v):=⟨fun _ _ _ H _ I h=>Eo I hg hm hv ⟨v,H,I,r,h⟩ hn hd⟩
variable {a b:Expr}{ta tb:TE}{pos:Pos}
structure PC (X:Cx)(op:CmpOp)(a b:Expr)(t:TE):Prop where
 go: ∀(pins:List (Addr×Obj)) (s:Shared) (σ:St) (H:Hp) (Q:VK),xM X pins σ H s->t σ H Q->
  wpAny (model X.prog X.w) X.A (eval a X.env) (fun v s₁=>wpAny (model X.prog X.w) X.A (eval b X.env) (fun u s₂=>wpAny (model X.prog X.w) X.A (compareOp op v u) (EP X pins σ Q) X.xe s₂) X.xe s₁) X.xe s
instance {X:Cx}{op:CmpOp}{a b:Expr}{t:TE}:CoeFun (PC X op a b t) (fun _=> ∀(pins:List (Addr×Obj)) (s:Shared) (σ:St) (H:Hp) (Q:VK),xM X pins σ H s->t σ H Q->
  wpAny (model X.prog X.w) X.A (eval a X.env) (fun v s₁=>wpAny (model X.prog X.w) X.A (eval b X.env) (fun u s₂=>wpAny (model X.prog X.w) X.A (compareOp op v u) (EP X pins σ Q) X.xe s₂) X.xe s₁) X.xe s):=⟨PC.go⟩
theorem Uy (b:Expr){op:CmpOp}(h:op≠ .In)(h2:op≠ .NotIn):behindInMarks op b=false:=by
 have e1:(op==CmpOp.In)=false:=by cases op<;>first|rfl|exact absurd rfl h
 have e2:(op==CmpOp.NotIn)=false:=by cases op<;>first|rfl|exact absurd rfl h2
 cases b<;>simp[behindInMarks,e1,e2]
def tB (t:TE):TT:=fun σ H Q=>t σ H fun x H1=> ∃c,x=.bl c/\Q c H1
theorem XC {op:CmpOp}{t:TE}(h:PC X op a b t)(h1:behindInMarks op b=false:=by first|exact Uy _ (by decide) (by decide)|rfl):PT X (.Compare a [op] [b] pos) (tB t):=by
 refine⟨?_⟩
 intro pins s σ H Q I hw
 refine wpAny_isTrue_Compare1 (qR (h pins s σ H _ I hw) fun v s1 h1=>qR h1 fun u s2 h2=>qR h2 fun c s3 ⟨x,H1,I1,r1,q1⟩=>?_) h1
 obtain⟨d,rfl,q⟩:=q1
 cases r1
 exact wJ ⟨H1,I1,q⟩
theorem uB {e:Expr}{t:TE}(h:PE X e t)(he: ∀whole,isTrue e X.env whole=(do let v<-whole;standAt e.pos;holding [v] (truthy v)):=by intro _;rfl):PT X e (tB t):=by
 refine⟨?_⟩
 intro pins s σ H Q I hw
 refine isTrue_plain (qR (h pins s σ H _ I hw) fun v s1 ⟨x,H1,I1,r1,q1⟩=>?_) (he _)
 obtain⟨d,rfl,q⟩:=q1
 cases r1
 exact wJ ⟨H1,I1,q⟩

variable {tA tB':TT}{rest:List Expr}
def zAy (t u:TT):TT:=fun σ H Q=>t σ H fun c H1=>if c=true then u σ H1 Q else Q false H1
def tOr (t u:TT):TT:=fun σ H Q=>t σ H fun c H1=>if c=true then Q true H1 else u σ H1 Q
def zAp (t:TT):TT:=fun σ H Q=>t σ H fun c H1=>Q (!c) H1
theorem QN (ha:PT X a tA):PW X (.BoolOp .And [a] pos) tA:=by
 refine⟨?_⟩
 intro wh pins s σ H Q I h
 refine isTrue_and (qR (ha pins s σ H Q I h) fun c s1 e=>?_)
 cases c with
 |true=>exact isTrue_and_nil e
 |false=>exact e
theorem uA (ha:PT X a tA):PW X (.BoolOp .Or [a] pos) tA:=by
 refine⟨?_⟩
 intro wh pins s σ H Q I h
 refine isTrue_or (qR (ha pins s σ H Q I h) fun c s1 e=>?_)
 cases c with
 |false=>exact isTrue_or_nil e
 |true=>exact e
theorem TB (ha:PT X a tA)(hb:PW X (.BoolOp .And (b::rest) pos) tB'):PW X (.BoolOp .And (a::b::rest) pos) (zAy tA tB'):=by
 refine⟨?_⟩
 intro wh pins s σ H Q I h
 refine isTrue_and (qR (ha pins s σ H _ I h) fun c s1 hzz=>?_)
 obtain⟨H1,I1,q1⟩:=hzz
 cases c with
 |true=>exact hb wh pins s1 σ H1 Q I1 q1
 |false=>exact⟨H1,I1,q1⟩
theorem uZ (ha:PT X a tA)(hb:PW X (.BoolOp .Or (b::rest) pos) tB'):PW X (.BoolOp .Or (a::b::rest) pos) (tOr tA tB'):=by
 refine⟨?_⟩
 intro wh pins s σ H Q I h
 refine isTrue_or (qR (ha pins s σ H _ I h) fun c s1 hzz=>?_)
 obtain⟨H1,I1,q1⟩:=hzz
 cases c with
 |true=>exact⟨H1,I1,q1⟩
 |false=>exact hb wh pins s1 σ H1 Q I1 q1
theorem Ai (ha:PT X a tA):PT X (.UnaryOp .Not a pos) (zAp tA):=by
 refine⟨?_⟩
 intro pins s σ H Q I h
 exact isTrue_not (ha pins s σ H (fun c H1=>Q (!c) H1) I h)
def YS (ta tb:TE):TE:=fun σ H Q=>ta σ H fun x H1=> ∃c,x=.bl c/\if c=true then tb σ H1 Q else Q (.bl false) H1
def zAo (ta tb:TE):TE:=fun σ H Q=>ta σ H fun x H1=> ∃c,x=.bl c/\if c=true then Q (.bl true) H1 else tb σ H1 Q
def YK (ta:TE):TE:=fun σ H Q=>ta σ H fun x H1=> ∃c,x=.bl c/\Q (.bl (!c)) H1
theorem Kd {op}{t:TE}(h:PE X a t):PE X (.BoolOp op [a] pos) t:=⟨fun pins s σ H Q I hw=>BoolOp_one (h pins s σ H Q I hw)⟩
theorem MN (ha:PE X a ta)(hb:PE X (.BoolOp .And (b::rest) pos) tb):PE X (.BoolOp .And (a::b::rest) pos) (YS ta tb):=by
 refine⟨?_⟩
 intro pins s σ H Q I h
 refine BoolOp_and (qR (ha pins s σ H _ I h) fun v s1 hzz=>?_)
 obtain⟨x,H1,I1,r1,q1⟩:=hzz
 obtain⟨c,rfl,q1⟩:=q1
 cases r1
 refine wJ ?_
 cases c with
 |true=>exact hb pins s1 σ H1 Q I1 q1
 |false=>exact⟨.bl false,H1,I1,rfl,q1⟩
theorem Zf (ha:PE X a ta)(hb:PE X (.BoolOp .Or (b::rest) pos) tb):PE X (.BoolOp .Or (a::b::rest) pos) (zAo ta tb):=by
 refine⟨?_⟩
 intro pins s σ H Q I h
 refine BoolOp_or (qR (ha pins s σ H _ I h) fun v s1 hzz=>?_)
 obtain⟨x,H1,I1,r1,q1⟩:=hzz
 obtain⟨c,rfl,q1⟩:=q1
 cases r1
 refine wJ ?_
 cases c with
 |false=>exact hb pins s1 σ H1 Q I1 q1
 |true=>exact⟨.bl true,H1,I1,rfl,q1⟩
theorem TQ (ha:PE X a ta):PE X (.UnaryOp .Not a pos) (YK ta):=by
 refine⟨?_⟩
 intro pins s σ H Q I h
 refine UnaryOp_ (qR (ha pins s σ H _ I h) fun v s1 hzz=>?_)
 obtain⟨x,H1,I1,r1,q1⟩:=hzz
 obtain⟨c,rfl,q1⟩:=q1
 cases r1
 exact not_of (wJ ⟨.bl (!c),H1,I1,rfl,q1⟩)
def tIf (t:TT)(ta tb:TE):TE:=fun σ H Q=>t σ H fun c H1=>if c=true then ta σ H1 Q else tb σ H1 Q
theorem TW {c:Expr}(hc:PT X c tA)(ha:PE X a ta)(hb:PE X b tb):PE X (.IfExp c a b pos) (tIf tA ta tb):=by
 refine⟨?_⟩
 intro pins s σ H Q I h
 refine wpAny_IfExp (qR (hc pins s σ H _ I h) fun d s1 hzz=>?_)
 obtain⟨H1,I1,q1⟩:=hzz
 cases d with
 |true=>exact ha pins s1 σ H1 Q I1 q1
 |false=>exact hb pins s1 σ H1 Q I1 q1
end
end L2

namespace L2
open PySem PySem.Spec PyProof.Rows

def GK (K:PySem.W.Frag)(H:Hp)(a:Addr)(xs:List V):Prop:=
 Rd H a (.lst xs)\/
  ∃(o:Obj) (its:Array Value) (n:Nat),K.lookup a=some o/\o.cls=.type "list"/\o.dict=none/\o.data=.seq its n/\its.size<=sizeLine/\jP xs its.toList
def EH (K:PySem.W.Frag)(H:Hp)(a:Addr)(xs:List V):Prop:=
 Rd H a (.tup xs)\/
  ∃(o:Obj) (its:Array Value) (n:Nat),K.lookup a=some o/\o.cls=.type "tuple"/\o.data=.seq its n/\its.size<=sizeLine/\jP xs its.toList
def zBm:Value->Option V
 | .none=>some .non
 | .bool b=>some (.bl b)
 | .int i _=>some (.int i)
 | .str x _=>some (.str x)
 | .bytes b _=>some (.byt b)
 | .float b _=>some (.flt b)
 | .ref a=>some (.ref a)
 | .type n=>some (.ty n)
 |_=>none
theorem kB.abs {x:V}{u:Value}(r:kB x u):zBm u=some x:=by
 cases x with
 |non=>cases r;rfl
 |bl _=>cases r;rfl
 |int _=>obtain⟨t,rfl⟩:=r;rfl
 |str _=>obtain⟨t,rfl⟩:=r;rfl
 |byt _=>obtain⟨t,rfl⟩:=r;rfl
 |flt _=>obtain⟨t,rfl⟩:=r;rfl
 |ref _=>cases r;rfl
 |ty _=>cases r;rfl
theorem kB.inj {x y:V}{u:Value}(r:kB x u)(q:kB y u):x=y:=xU (r.abs.symm.trans q.abs)
theorem jP.inj: ∀{xs ys:List V} {us:List Value},jP xs us->jP ys us->xs=ys
 |_,_,_,.nil,.nil=>rfl
 |_,_,_,.cons r t,.cons r' t'=>by rw[r.inj r',jP.inj t t']
section
variable {X:Cx}{pins:List (Addr×Obj)}{σ:St}{H:Hp}{s:Shared}{a:Addr}{xs ys:List V}
theorem GK.of {K:PySem.W.Frag}(h:H a=some (.lst xs)):GK K H a xs:=.inl (.inl h)
theorem EH.of {K:PySem.W.Frag}(h:H a=some (.tup xs)):EH K H a xs:=.inl (.inl h)
theorem xM.list (I:xM X pins σ H s)(h:GK X.K H a xs): ∃its:List Value,jP xs its/\PlainL s.heap a its.toArray/\xs.length<=sizeLine:=by
 rcases h with h|⟨o,its,n,hk,hc,hd,hs,hz,r⟩
 ·obtain⟨z,its,n,r,e⟩:=h.ok I.hok
  exact⟨its,r,⟨_,n,e,rfl,rfl,rfl⟩,z⟩
 ·refine⟨its.toList,r,⟨o,n,I.kIn a o hk,hc,hd,by simpa using hs⟩,?_⟩
  have e:=r.length
  simp only[yQ]at e
  (first|lia|omega)
theorem xM.tuple (I:xM X pins σ H s)(h:EH X.K H a xs): ∃its:List Value,jP xs its/\IsTup s.heap a its.toArray/\xs.length<=sizeLine:=by
 rcases h with h|⟨o,its,n,hk,hc,hs,hz,r⟩
 ·obtain⟨z,its,r,p⟩:=h.ok I.hok
  exact⟨its,r,p,z⟩
 ·refine⟨its.toList,r,⟨o,I.kIn a o hk,hc,n,by simpa using hs⟩,?_⟩
  have e:=r.length
  simp only[yQ]at e
  (first|lia|omega)
theorem xM.list_inj (I:xM X pins σ H s)(h:GK X.K H a xs)(h':GK X.K H a ys):xs=ys:=by
 obtain⟨its,r,⟨o,n,e,_,_,d⟩,_⟩:=I.list h
 obtain⟨its',r',⟨o',n',e',_,_,d'⟩,_⟩:=I.list h'
 rw[e]at e';cases e'
 rw[d]at d'
 injection d' with d1 _
 have:its=its':=by simpa using xT Array.toList d1
 subst this
 exact r.inj r'
theorem xM.tuple_inj (I:xM X pins σ H s)(h:EH X.K H a xs)(h':EH X.K H a ys):xs=ys:=by
 obtain⟨its,r,⟨o,e,_,n,d⟩,_⟩:=I.tuple h
 obtain⟨its',r',⟨o',e',_,n',d'⟩,_⟩:=I.tuple h'
 rw[e]at e';cases e'
 rw[d]at d'
 injection d' with d1 _
 have:its=its':=by simpa using xT Array.toList d1
 subst this
 exact r.inj r'
end

abbrev Cx.wish (X:Cx)(E:Value->Shared->Prop):Cx:={X with xe:=E}
abbrev Cx.nox (X:Cx):Cx:=X.wish fun _ _=>False
theorem Cx.Ok.wish {X:Cx}(ok:X.Ok)(E:Value->Shared->Prop):(X.wish E).Ok:=
 ⟨ok.mod,ok.kind,ok.glob,ok.blt,ok.above,ok.inj,ok.has,ok.cab,ok.hd,ok.frames,ok.stk,ok.exf,ok.bs,ok.bsz,ok.noex,ok.exfs,ok.funs,ok.frf⟩
theorem Cx.Ok.unwish {X:Cx}{E:Value->Shared->Prop}(ok:(X.wish E).Ok):X.Ok:=
 ⟨ok.mod,ok.kind,ok.glob,ok.blt,ok.above,ok.inj,ok.has,ok.cab,ok.hd,ok.frames,ok.stk,ok.exf,ok.bs,ok.bsz,ok.noex,ok.exfs,ok.funs,ok.frf⟩
section
variable {X:Cx}{pins:List (Addr×Obj)}{σ:St}{H:Hp}{s:Shared}{E:Value->Shared->Prop}
theorem xM.wish (I:xM X pins σ H s)(E:Value->Shared->Prop):xM (X.wish E) pins σ H s:=⟨I.ok.wish E,I.os,I.bare,I.base,I.loc,I.cell,I.free,I.freeC,I.pin,I.hok,I.len⟩
theorem xM.unwish (I:xM (X.wish E) pins σ H s):xM X pins σ H s:=⟨I.ok.unwish,I.os,I.bare,I.base,I.loc,I.cell,I.free,I.freeC,I.pin,I.hok,I.len⟩
theorem SP.unwish {D:FJ}{f:Flow}{s':Shared}(h:SP (X.wish E) pins D f s'):SP X pins D f s':=by
 cases f with
 |next=>obtain⟨σ',H',I,q⟩:=h;exact⟨σ',H',I.unwish,q⟩
 |brk=>obtain⟨σ',H',I,q⟩:=h;exact⟨σ',H',I.unwish,q⟩
 |cont=>obtain⟨σ',H',I,q⟩:=h;exact⟨σ',H',I.unwish,q⟩
 |ret u=>obtain⟨v,σ',H',I,r,q⟩:=h;exact⟨v,σ',H',I.unwish,r,q⟩
theorem OZ.nox {st:List Stmt}{t:TS}(h:OZ X.nox st t):OZ X st t:=⟨fun pins s σ H D I hw=>
 vQ (h pins s σ H D (I.wish _) hw) (fun _ _ q=>q.unwish) fun _ _ z=>False.elim z⟩
end

section
variable {X:Cx}{st:Stmt}{rest:List Stmt}{t u:TS}{e:Expr}{te:TE}{pos:Pos}
def YL:TS:=fun D σ H=>D.nx σ H
def zAn (t u:TS):TS:=fun D σ H=>t {D with nx:=u D} σ H
theorem yV:OZ X [] YL:=⟨fun _ _ σ H _ I h=>CG ⟨σ,H,I,h⟩⟩
theorem zF (h1:PS X st t)(h2:OZ X rest u):OZ X (st::rest) (zAn t u):=by
 refine⟨?_⟩
 intro pins s σ H D I h
 refine EN (qR (h1 pins s σ H {D with nx:=u D} I h) fun f s1 q=>?_)
 cases f with
 |next=>
  obtain⟨σ',H',I',q⟩:=q
  exact h2 pins s1 σ' H' D I' q
 |ret v=>exact q
 |brk=>exact q
 |cont=>exact q
theorem zU (h1:PS X st t):OZ X [st] t:=by
 refine⟨?_⟩
 intro pins s σ H D I h
 refine EN (qR (h1 pins s σ H D I h) fun f s1 q=>?_)
 cases f with
 |next=>exact CG q
 |ret v=>exact q
 |brk=>exact q
 |cont=>exact q
theorem xM.quiet {pins:List (Addr×Obj)}{σ:St}{H:Hp}{s:Shared}(I:xM X pins σ H s):interactive X.env=false:=by simp[interactive,I.ok.kind]
def YM (te:TE):TS:=fun D σ H=>te σ H fun _ H1=>D.nx σ H1
theorem xV (he:PE X e te)(hs:swapsWith e none pos.line X.env=pure false:=by rfl):PS X (.Expr e pos) (YM te):=by
 refine⟨?_⟩
 intro pins s σ H D I h
 exact wpAny_Expr_any (qR (he pins s σ H _ I h) fun v s1 ⟨x,H1,I1,r1,q1⟩=>⟨σ,H1,I1,q1⟩) I.quiet hs
def YH (te:TE):TS:=fun D σ H=>te σ H D.rt
theorem yU (he:PE X e te):PS X (.Return (some e) pos) (YH te):=by
 refine⟨?_⟩
 intro pins s σ H D I h
 exact wpAny_Return_some (qR (he pins s σ H _ I h) fun v s1 ⟨x,H1,I1,r1,q1⟩=>⟨x,σ,H1,I1,r1,q1⟩)
def zAr (c:TT)(t u:TS):TS:=fun D σ H=>c σ H fun b H1=>if b=true then t D σ H1 else u D σ H1
theorem jB {c:Expr}{a b:List Stmt}{tc:TT}(hc:PT X c tc)(ha:OZ X a t)(hb:OZ X b u):PS X (.If c a b pos) (zAr tc t u):=by
 refine⟨?_⟩
 intro pins s σ H D I h
 refine wpAny_If (qR (hc pins s σ H _ I h) fun d s1 hzz=>?_)
 obtain⟨H1,I1,q1⟩:=hzz
 cases d with
 |true=>exact ha pins s1 σ H1 D I1 q1
 |false=>exact hb pins s1 σ H1 D I1 q1
end

abbrev TG:=V->St->Hp->(St->Hp->Prop)->Prop
abbrev Yo:=List V->St->Hp->(St->Hp->Prop)->Prop
structure PG (X:Cx)(target:Expr)(t:TG):Prop where
 go: ∀(pins:List (Addr×Obj)) (s:Shared) (σ:St) (H:Hp) (v:V) (u:Value) (Q:St->Hp->Prop),xM X pins σ H s->kB v u->t v σ H Q->
  wpAny (model X.prog X.w) X.A (assign target X.env u) (fun _ s'=> ∃σ' H',xM X pins σ' H' s'/\Q σ' H') X.xe s
instance {X:Cx}{target:Expr}{t:TG}:CoeFun (PG X target t) (fun _=> ∀(pins:List (Addr×Obj)) (s:Shared) (σ:St) (H:Hp) (v:V) (u:Value) (Q:St->Hp->Prop),xM X pins σ H s->kB v u->t v σ H Q->
  wpAny (model X.prog X.w) X.A (assign target X.env u) (fun _ s'=> ∃σ' H',xM X pins σ' H' s'/\Q σ' H') X.xe s):=⟨PG.go⟩
structure Ys (X:Cx)(ts:List Expr)(t:Yo):Prop where
 go: ∀(pins:List (Addr×Obj)) (s:Shared) (σ:St) (H:Hp) (vs:List V) (us:List Value) (Q:St->Hp->Prop),xM X pins σ H s->jP vs us->t vs σ H Q->
  wpAny (model X.prog X.w) X.A (assignInOrder ((assignEach ts X.env).map (·.2)) us) (fun _ s'=> ∃σ' H',xM X pins σ' H' s'/\Q σ' H') X.xe s
instance {X:Cx}{ts:List Expr}{t:Yo}:CoeFun (Ys X ts t) (fun _=> ∀(pins:List (Addr×Obj)) (s:Shared) (σ:St) (H:Hp) (vs:List V) (us:List Value) (Q:St->Hp->Prop),xM X pins σ H s->jP vs us->t vs σ H Q->
  wpAny (model X.prog X.w) X.A (assignInOrder ((assignEach ts X.env).map (·.2)) us) (fun _ s'=> ∃σ' H',xM X pins σ' H' s'/\Q σ' H') X.xe s):=⟨Ys.go⟩
abbrev Yn:=V->V->V->Hp->(Hp->Prop)->Prop
def ZB (X:Cx)(t:Yn):Prop:=
 ∀(pins:List (Addr×Obj)) (s:Shared) (σ:St) (H:Hp) (o i v:V) (ov iv u:Value) (Q:Hp->Prop),xM X pins σ H s->kB o ov->kB i iv->kB v u->t o i v H Q->
  wpAny (model X.prog X.w) X.A (setItem ov iv u) (fun _ s'=> ∃H',xM X pins σ H' s'/\Q H') X.xe s
abbrev TIp:=V->V->Hp->VK->Prop
def PIp (X:Cx)(op:Operator)(t:TIp):Prop:=
 ∀(pins:List (Addr×Obj)) (s:Shared) (σ:St) (H:Hp) (x y:V) (v u:Value) (Q:VK),xM X pins σ H s->kB x v->kB y u->t x y H Q->
  wpAny (model X.prog X.w) X.A (inplaceOp op v u) (EP X pins σ Q) X.xe s
section
variable {X:Cx}{pos:Pos}
def Rc (i:Nat):TG:=fun v σ H Q=>Q (σ.set i (some v)) H
theorem xG {i:Nat}{x:Str}(hN:X.N.Nodup)(hi:X.N[i]? =some x)(hx:ZF X.env.scope x)(hf:X.fn x=true\/X.env.scope.names.lookup x=some .local:=by first|exact .inl rfl|exact .inr rfl|assumption):PG X (.Name x pos) (Rc i):=by
 refine⟨?_⟩
 intro pins s σ H v u Q I r h
 exact wpAny_assign_Name (JO I hN hi hx r (fun s' I'=>⟨_,H,I',h⟩) hf)
inductive Zr (vs:List V) (σ:St) (H:Hp) (Q:St->Hp->Prop):Prop
 |mk (h0:vs=[]) (h1:Q σ H):Zr vs σ H Q
inductive Xb (t:TG) (u:Yo) (vs:List V) (σ:St) (H:Hp) (Q:St->Hp->Prop):Prop
 |mk (v r:_) (h0:vs=v::r) (h1:t v σ H fun σ' H'=>u r σ' H' Q):Xb t u vs σ H Q
theorem Aa:Ys X [] Zr:=by
 refine⟨?_⟩
 intro pins s σ H vs us Q I r h
 obtain⟨e,h⟩:=h
 subst e
 cases r
 exact assignInOrder_nil ⟨σ,H,I,h⟩
theorem jA {e:Expr}{es:List Expr}{t:TG}{u:Yo}(h1:PG X e t)(h2:Ys X es u)
  (hs:(assignEach (e::es) X.env).map (·.2)=assign e X.env::(assignEach es X.env).map (·.2):=by rfl):Ys X (e::es) (Xb t u):=by
 refine⟨?_⟩
 intro pins s σ H vs us Q I r h
 obtain⟨v,vr,e1,h⟩:=h
 subst e1
 cases r with
 |cons r rr=>
  rw[hs]
  refine assignInOrder_cons (qR (h1 pins s σ H _ _ _ I r h) fun _ s1 hzz=>?_)
  obtain⟨σ1,H1,I1,q1⟩:=hzz
  exact h2 pins s1 σ1 H1 _ _ Q I1 rr q1
inductive Yd (K:PySem.W.Frag) (n:Nat) (t:Yo) (v:V) (σ:St) (H:Hp) (Q:St->Hp->Prop):Prop
 |mk (a xs:_) (h0:v=.ref a) (h1:EH K H a xs) (h2:xs.length=n) (h3:t xs σ H Q):Yd K n t v σ H Q
theorem BS {es:List Expr}{k:Nat}{t:Yo}{n:Nat}(hc:X.calm=true)(h:Ys X es t)
  (hn:(assignEach es X.env).length =n:=by rfl) (hst:(assignEach es X.env).findIdx? (·.1)=none:=by rfl):PG X (.Tuple es k pos) (Yd X.K n t):=by
 refine⟨?_⟩
 intro pins s σ H v u Q I r hw
 obtain⟨a,xs,e1,hq,hl,hw⟩:=hw
 subst e1
 cases r
 obtain⟨its,rv,ht,hz⟩:=I.tuple hq
 refine assign_Tuple_tuple (I.ok.hd hc) ht (by simp[hn,<-hl,rv.length]) hst fun h' hx=>?_
 have I1:xM X pins σ H {s with heap:=h'}:=I.kept (t':=s.toks) fun b o e=>hx b o (xK (yC e)) e
 exact h pins _ σ H xs _ Q I1 (by simpa using rv) hw
def zBl (to ti:TE)(t:Yn):TG:=fun v σ H Q=>to σ H fun o H1=>ti σ H1 fun i H2=>t o i v H2 fun H3=>Q σ H3
theorem ML {o i:Expr}{to ti:TE}{t:Yn}(ho:PE X o to)(hi:PE X i ti)(hs:ZB X t)
  (ha: ∀v,assign (.Subscript o i pos) X.env v=(do
   let ov<-holding [v] (eval o X.env)
   let iv<-holding [v,ov] (eval i X.env)
   standAt pos
   holding [v,ov,iv] (setItem ov iv v)
   release [v,ov,iv] []):=by intro _;rfl):PG X (.Subscript o i pos) (zBl to ti t):=by
 refine⟨?_⟩
 intro pins s σ H v u Q I r h
 rw[ha]
 refine zE (qK (qR (ho pins s σ H _ I h) fun ov s1 hzz=>?_))
 obtain⟨x,H1,I1,r1,q1⟩:=hzz
 refine zE (qK (qR (hi pins s1 σ H1 _ I1 q1) fun iv s2 hzz=>?_))
 obtain⟨y,H2,I2,r2,q2⟩:=hzz
 refine zE (Cf (zE (qK (qR (hs pins s2 σ H2 x y v ov iv u _ I2 r1 r2 r q2) fun _ s3 hzz=>?_))))
 obtain⟨H3,I3,q3⟩:=hzz
 exact wpAny_release ⟨σ,H3,I3,q3⟩
def YR (te:TE)(g:TG):TS:=fun D σ H=>te σ H fun x H1=>g x σ H1 D.nx
theorem El {tg e:Expr}{te:TE}{g:TG}(he:PE X e te)(hg:PG X tg g)(hs:swapsWithSole [tg] e pos.line X.env=pure false:=by rfl)(hw:swappedStores [tg] e X.env=pure none:=by rfl)
  (h1:(assignEach [tg] X.env).map (·.2)=[assign tg X.env]:=by rfl):PS X (.Assign [tg] e pos) (YR te g):=by
 refine⟨?_⟩
 intro pins s σ H D I h
 refine wpAny_Assign_stores (qR (he pins s σ H _ I h) fun v s1 ⟨x,H1,I1,r1,q1⟩=>?_) hs hw
 rw[h1]
 exact qR (hg pins s1 σ H1 x v _ I1 r1 q1) fun _ s2 q=>q
theorem yT {i:Nat}{x:Str}{e:Expr}{te:TE}{pos':Pos}(hN:X.N.Nodup)(hi:X.N[i]? =some x)(hx:ZF X.env.scope x)(he:PE X e te)(hs:swapsWith e (some (.Name x pos')) pos.line X.env=pure false:=by rfl)(hf:X.fn x=true\/X.env.scope.names.lookup x=some .local:=by first|exact .inl rfl|exact .inr rfl|assumption):
  PS X (.Assign [.Name x pos'] e pos) (YR te (Rc i)):=by
 refine⟨?_⟩
 intro pins s σ H D I h
 refine wpAny_Assign_Name (qR (he pins s σ H _ I h) fun v s1 ⟨y,H1,I1,r1,q1⟩=>?_) hs
 exact JO I1 hN hi hx r1 (fun s2 I2=>⟨_,H1,I2,q1⟩) hf
def zAx (i:Nat)(te:TE)(ti:TIp):TS:=fun D σ H=> ∃x,σ[i]? =some (some x)/\te σ H fun y H1=>ti x y H1 fun z H2=>D.nx (σ.set i (some z)) H2
theorem XD {i:Nat}{x:Str}{e:Expr}{te:TE}{op:Operator}{ti:TIp}{pos':Pos}(hN:X.N.Nodup)(hi:X.N[i]? =some x)(hx:ZF X.env.scope x)(he:PE X e te)(ho:PIp X op ti)(hf:X.fn x=true\/X.env.scope.names.lookup x=some .local:=by first|exact .inl rfl|exact .inr rfl|assumption):
  PS X (.AugAssign (.Name x pos') op e pos) (zAx i te ti):=by
 refine⟨?_⟩
 intro pins s σ H D I h
 obtain⟨v,e1,h⟩:=h
 obtain⟨m,hn,hl⟩:=I.loc
 have vis:Vis X.env.scope x:=by rcases hx with k|k;exact .inl k;exact .inr (.inl k)
 obtain⟨u,r,l⟩:=hl i x v hi e1 vis
 refine wpAny_AugAssign_Name ?_
 have go:wpAny (model X.prog X.w) X.A (eval e X.env) (fun w s₂=>wpAny (model X.prog X.w) X.A (inplaceOp op u w) (fun r s₃=>wpAny (model X.prog X.w) X.A (storeName X.env x r) (fun _=>SP X pins D .next) X.xe s₃) X.xe s₂) X.xe s:=by
  refine qR (he pins s σ H _ I h) fun w s1 hzz=>?_
  obtain⟨y,H1,I1,r1,q1⟩:=hzz
  refine qR (ho pins s1 σ H1 v y u w _ I1 r r1 q1) fun z s2 hzz=>?_
  obtain⟨zv,H2,I2,r2,q2⟩:=hzz
  exact JO I2 hN hi hx r2 (fun s3 I3=>⟨_,H2,I3,q2⟩) hf
 rcases l with⟨hk,hm⟩|⟨hk,c,hc,hcell⟩
 ·exact wpAny_loadName_local I.ok.kind hk hn hm go
 ·rcases hk with hk|hk
  ·exact wpAny_loadName_cell I.ok.kind hk hc hcell go
  ·rcases hx with k|k
   ·have:X.env.scope.names.lookup x=some .free:=hk
    rw[k]at this;cases this
   ·have:X.env.scope.names.lookup x=some .free:=hk
    rw[k]at this;cases this
def ipI (f:Int->Int->Int):TIp:=fun x y H Q=> ∃i j,x=.int i/\y=.int j/\Q (.int (f i j)) H
theorem Yc:PIp X .Add (ipI fun i j=>i+j):=by
 intro pins s σ H x y v u Q I r1 r2 h
 obtain⟨i,j,e1,e2,q⟩:=h
 subst e1;subst e2
 obtain⟨t,rfl⟩:=r1
 obtain⟨t',rfl⟩:=r2
 exact iadd_int ⟨.int _,H,I.tok _,⟨_,rfl⟩,q⟩
end

section
variable {X:Cx}{pos:Pos}
def Xq (c:TT)(tb:TS):TS:=fun D σ H=> ∃W:Nat->St->Hp->Prop,(∃m,W m σ H)/\ ∀m σ H,W m σ H->
 c σ H fun b H1=>if b=true then ∃N:St->Hp->Prop,(∀σ' H',N σ' H'-> ∃m',m'<m/\W m' σ' H')/\tb {D with nx:=N,ct:=N,bk:=D.nx} σ H1 else D.nx σ H1
theorem HP {c:Expr}{body:List Stmt}{tc:TT}{tb:TS}(hp:PassesOwn (model X.prog X.w) X.A X.env X.xe)(hc:PT X c tc)(hb:OZ X body tb):PS X (.While c body [] pos) (Xq tc tb):=by
 refine⟨?_⟩
 intro pins s σ H D I h
 obtain⟨W,⟨m0,w0⟩,turn⟩:=h
 refine wpAny_While (codeAny_whileLoop (fun n s'=> ∃σ' H',xM X pins σ' H' s'/\W n σ' H') ?_ m0 ⟨σ,H,I,w0⟩)
 rintro n s1 ⟨σ1,H1,I1,w1⟩
 refine vG hp (qR (hc pins s1 σ1 H1 _ I1 (turn n σ1 H1 w1)) fun b s2 hzz=>?_)
 obtain⟨H2,I2,q2⟩:=hzz
 cases b with
 |true=>
  obtain⟨N,hN,q2⟩:=q2
  rw[zW rfl]
  refine vG hp (qR (hb pins s2 σ1 H2 _ I2 q2) fun f s3 q3=>?_)
  cases f with
  |next=>
   obtain⟨σ3,H3,I3,n3⟩:=q3
   obtain⟨m',hm,w3⟩:=hN σ3 H3 n3
   exact⟨m',hm,σ3,H3,I3,w3⟩
  |cont=>
   obtain⟨σ3,H3,I3,n3⟩:=q3
   obtain⟨m',hm,w3⟩:=hN σ3 H3 n3
   exact⟨m',hm,σ3,H3,I3,w3⟩
  |brk=>exact q3
  |ret v=>exact q3
 |false=>
  rw[zL yI]
  exact CG ⟨σ1,H2,I2,q2⟩
end

structure It where
 go:Nat->Hp->Prop
 yld:Nat->Hp->V->Hp->Prop
 stop:Nat->Hp->Prop
def Lc (X:Cx)(pins:List (Addr×Obj))(H:Hp)(b:Addr):Prop:=
 H b=none/\b≠X.env.locals/\b∉X.fs/\(b∈X.ex\/X.s₀.heap.objs.size<=b)/\(∀x c,X.env.cells.lookup x=some c->c≠b)/\ ∀p∈X.pn++pins,p.1≠b
theorem xM.fpOk {X:Cx}{pins:List (Addr×Obj)}{σ:St}{H H':Hp}{s:Shared}{b:Addr}(I:xM X pins σ H s)(hb:s.heap.objs.size<=b)(hn:H' b=none):Lc X pins H' b:=by
 refine⟨hn,kH (yR I.lt hb),I.nofs hb,.inr (yO I.sz hb),fun x c e z=>?_,fun p hp z=>?_⟩
 ·obtain⟨v,q⟩:=I.cell x c e
  exact absurd (yR q.lt (by rw[z];exact hb)) (jO _)
 ·exact absurd (yR (yC (I.pin p hp).1) (by rw[z];exact hb)) (jO _)
structure Nl (P:Program)(w:World)(K:PySem.W.Frag)(tg:Expr)(J:It)(fp:List Addr)(it:Addr)(tn:Nat->Heap->Prop):Prop where
 mem:it∈fp
 obj: ∀i h,tn i h-> ∀b∈fp,∃o,h.get? b=some o/\ ∀v,o.data≠ .cell v
 keep: ∀i h h',tn i h->(∀b∈fp,∀o,h.get? b=some o->h'.get? b=some o)->tn i h'
 item: ∀(X:Cx),X.prog=P->X.w=w->X.K=K->X.calm=true-> ∀(i:Nat) (pins:List (Addr×Obj)) (s:Shared) (σ:St) (H:Hp) (E:Value->Shared->Prop),xM X pins σ H s->(∀b∈fp,Lc X pins H b)->tn i s.heap->J.go i H->
  wpAny (model P w) X.A (pyNext (.ref it)) (fun r s1=> ∃u,r=some u/\
   wpAny (model P w) X.A (letOwnedTupleGo tg (.ref it) u) (fun _ s2=> ∃x H',xM X pins σ H' s2/\kB x u/\J.yld i H x H'/\tn (i+1) s2.heap/\ ∀b∈fp,H' b=none) E s1) E s
 done: ∀(X:Cx),X.prog=P->X.w=w->X.K=K->X.calm=true-> ∀(i:Nat) (pins:List (Addr×Obj)) (s:Shared) (σ:St) (H:Hp) (E:Value->Shared->Prop),xM X pins σ H s->(∀b∈fp,Lc X pins H b)->tn i s.heap->J.stop i H->
  wpAny (model P w) X.A (pyNext (.ref it)) (fun r s1=>r=none/\xM X pins σ H s1) E s
 self: ∀(A:Around) (i:Nat) (s:Shared) (Q:Value->Shared->Prop) (E:Value->Shared->Prop),tn i s.heap->Q (.ref it) s->wpAny (model P w) A (pyIter (.ref it)) Q E s
abbrev TI:=St->Hp->(It->Hp->Prop)->Prop
def PIE (X:Cx)(pins:List (Addr×Obj))(σ:St)(tg:Expr)(R:It->Hp->Prop)(itv:Value)(s2:Shared):Prop:=
 ∃(it:Addr) (fp:List Addr) (tn:Nat->Heap->Prop) (J:It) (H':Hp),itv=.ref it/\xM X pins σ H' s2/\Nl X.prog X.w X.K tg J fp it tn/\tn 0 s2.heap/\(∀b∈fp,Lc X pins H' b)/\R J H'
structure PI (X:Cx)(tg iter:Expr)(wi:TI):Prop where
 go: ∀(pins:List (Addr×Obj)) (s:Shared) (σ:St) (H:Hp) (R:It->Hp->Prop),xM X pins σ H s->wi σ H R->
  wpAny (model X.prog X.w) X.A (eval iter X.env) (fun v s1=>wpAny (model X.prog X.w) X.A (pyIter v) (PIE X pins σ tg R) X.xe s1) X.xe s
instance {X:Cx}{tg iter:Expr}{wi:TI}:CoeFun (PI X tg iter wi) (fun _=> ∀(pins:List (Addr×Obj)) (s:Shared) (σ:St) (H:Hp) (R:It->Hp->Prop),xM X pins σ H s->wi σ H R->
  wpAny (model X.prog X.w) X.A (eval iter X.env) (fun v s1=>wpAny (model X.prog X.w) X.A (pyIter v) (PIE X pins σ tg R) X.xe s1) X.xe s):=⟨PI.go⟩

theorem Kw {M : Model} {A : Around} {E : Value -> Shared -> Prop} {s : Shared} {tg : Expr} {it : Addr} {u : Value} {o : Obj} {n : String} {vs : Array Value} {Q : Unit -> Shared -> Prop} (ho : s.heap.get? it = some o) (hc : o.cls = .type n) (hd : o.data = .fields vs)
    (hn : ["enumerate", "zip", "dict_itemiterator", "dict_reverseitemiterator", "odict_iterator", "itertools.zip_longest", "itertools.pairwise"].contains n = false) (hQ : Q () s) : wpAny M A (letOwnedTupleGo tg (.ref it) u) Q E s := by
  unfold letOwnedTupleGo
  cases tg <;> first
    | exact zR hQ
    | (cases u <;> first
        | exact zR hQ
        | (refine zE (wpAny_load ho ?_)
           rw [hc, hd]
           show wpAny M A (if (["enumerate", "zip", "dict_itemiterator", "dict_reverseitemiterator", "odict_iterator", "itertools.zip_longest", "itertools.pairwise"].contains n && vs[0]? == some (rawInt _)) = true then _ else _) Q E s
           rw [zL (by intro h; rw [hn, Bool.false_and] at h; cases h)]
           exact zR hQ))

def YC (K:PySem.W.Frag)(a:Addr):It:=
 ⟨fun i H=> ∃xs x,GK K H a xs/\xs[i]? =some x,fun i H x H'=>H'=H/\ ∀xs,GK K H a xs->xs[i]? =some x,fun i H=> ∃xs,GK K H a xs/\xs.length<=i⟩
def ZI (K:PySem.W.Frag)(a:Addr):It:=
 ⟨fun i H=> ∃xs x,EH K H a xs/\xs[i]? =some x,fun i H x H'=>H'=H/\ ∀xs,EH K H a xs->xs[i]? =some x,fun i H=> ∃xs,EH K H a xs/\xs.length<=i⟩
def Xl (lo:Int)(n:Nat):It:=⟨fun i _=>i<n,fun i H x H'=>H'=H/\x=.int (lo+i),fun i _=>n<=i⟩
theorem Li {P:Program}{w:World}{K:PySem.W.Frag}{tg:Expr}(a it:Addr):Nl P w K tg (YC K a) [it] it (fun i h=>h.IsListIter it a i) where
 mem:=by simp
 obj:=fun i h st b hb=>by
  have e:b=it:=by simpa using hb
  subst e
  obtain⟨o,e,c,d⟩:=st
  exact⟨o,e,fun v z=>by rw[d]at z;cases z⟩
 keep:=fun i h h' st k=>st.at fun o e=>k it (by simp) o e
 item:=by
  intro X hP hw hK hc i pins s σ H E I hf st hg
  subst hP hw hK
  obtain⟨xs,x,hq,hx⟩:=hg
  obtain⟨its,rv,p,hz⟩:=I.list hq
  obtain⟨u,hu,ru⟩:=rv.get hx
  obtain⟨f0,f1,f2,f3,f4,f5⟩:=hf it (by simp)
  refine wpAny_pyNext_list_item st p.isList (x:=u) (by simpa using hu) fun h' st' sb=>?_
  have I1:xM X pins σ H {s with heap:=h'}:=I.turned (t':=s.toks) (fun b o hb e=>(sb.2 b hb).trans e) f0 f1 f3 f4 f5
  obtain⟨o,e,c,d⟩:=id st'
  exact⟨u,rfl,Kw (s:={s with heap:=h'}) e c d (by decide) ⟨x,H,I1,ru,⟨rfl,fun ys hy=>by rw[I.list_inj hy hq];exact hx⟩,st',fun b hb=>(hf b hb).1⟩⟩
 done:=by
  intro X hP hw hK hc i pins s σ H E I hf st hg
  subst hP hw hK
  obtain⟨xs,hq,hx⟩:=hg
  obtain⟨its,rv,p,hz⟩:=I.list hq
  obtain⟨f0,f1,f2,f3,f4,f5⟩:=hf it (by simp)
  have hl:=rv.length
  exact wpAny_pyNext_list_end (I.ok.hd hc) st p.isList (by simp;(first|lia|omega)) fun h' eb=>⟨rfl,I.turned (t':=s.toks) (fun b o hb e=>eb b o hb e) f0 f1 f3 f4 f5⟩
 self:=fun _ _ _ _ _ st h=>wpAny_pyIter_listiter st h
theorem Pf {P:Program}{w:World}{K:PySem.W.Frag}{tg:Expr}(a it:Addr):Nl P w K tg (ZI K a) [it] it (fun i h=>h.IsTupleIter it a i) where
 mem:=by simp
 obj:=fun i h st b hb=>by
  have e:b=it:=by simpa using hb
  subst e
  obtain⟨o,e,c,d⟩:=st
  exact⟨o,e,fun v z=>by rw[d]at z;cases z⟩
 keep:=fun i h h' st k=>st.at fun o e=>k it (by simp) o e
 item:=by
  intro X hP hw hK hc i pins s σ H E I hf st hg
  subst hP hw hK
  obtain⟨xs,x,hq,hx⟩:=hg
  obtain⟨its,rv,p,hz⟩:=I.tuple hq
  obtain⟨u,hu,ru⟩:=rv.get hx
  obtain⟨f0,f1,f2,f3,f4,f5⟩:=hf it (by simp)
  refine wpAny_pyNext_tuple_item st (show s.heap.IsTuple a its.toArray from p) (x:=u) (by simpa using hu) fun h' st' sb=>?_
  have I1:xM X pins σ H {s with heap:=h'}:=I.turned (t':=s.toks) (fun b o hb e=>(sb.2 b hb).trans e) f0 f1 f3 f4 f5
  obtain⟨o,e,c,d⟩:=id st'
  exact⟨u,rfl,Kw (s:={s with heap:=h'}) e c d (by decide) ⟨x,H,I1,ru,⟨rfl,fun ys hy=>by rw[I.tuple_inj hy hq];exact hx⟩,st',fun b hb=>(hf b hb).1⟩⟩
 done:=by
  intro X hP hw hK hc i pins s σ H E I hf st hg
  subst hP hw hK
  obtain⟨xs,hq,hx⟩:=hg
  obtain⟨its,rv,p,hz⟩:=I.tuple hq
  obtain⟨f0,f1,f2,f3,f4,f5⟩:=hf it (by simp)
  have hl:=rv.length
  exact wpAny_pyNext_tuple_end (I.ok.hd hc) st (show s.heap.IsTuple a its.toArray from p) (by simp;(first|lia|omega)) fun h' eb=>⟨rfl,I.turned (t':=s.toks) (fun b o hb e=>eb b o hb e) f0 f1 f3 f4 f5⟩
 self:=fun _ _ _ _ _ st h=>wpAny_pyIter_tupleiter st h
theorem Ph {P:Program}{w:World}{K:PySem.W.Frag}{tg:Expr}(it:Addr)(lo:Int)(n:Nat):Nl P w K tg (Xl lo n) [it] it (fun i h=>IsRangeIter h it (lo+(i:Nat)*1) ((n:Int)-(i:Nat)) 1) where
 mem:=by simp
 obj:=fun i h st b hb=>by
  have e:b=it:=by simpa using hb
  subst e
  exact⟨_,st,fun v z=>by
   have z':Data.fields _=Data.cell v:=z
   cases z'⟩
 keep:=fun i h h' st k=>k it (by simp) _ st
 item:=by
  intro X hP hw hK hc i pins s σ H E I hf st hg
  subst hP hw hK
  obtain⟨f0,f1,f2,f3,f4,f5⟩:=hf it (by simp)
  have W:=Walks.range (prog:=X.prog) (w:=X.w) (I.ok.hd hc) it lo 1 n
  refine W.item i s _ _ hg st fun v h' tk hv st' kk=>?_
  obtain⟨t,rfl⟩:=hv
  have I1:xM X pins σ H {s with heap:=h',toks:=tk}:=I.turned (fun b o hb e=>kk b o (by simpa using hb) e) f0 f1 f3 f4 f5
  refine⟨_,rfl,Kw (s:={s with heap:=h',toks:=tk}) (n:="range_iterator") st' rfl rfl (by decide) ⟨.int (lo+i),H,I1,⟨t,?_⟩,⟨rfl,rfl⟩,st',fun b hb=>(hf b hb).1⟩⟩
  rw[Int.mul_one]
 done:=by
  intro X hP hw hK hc i pins s σ H E I hf st hg
  subst hP hw hK
  obtain⟨f0,f1,f2,f3,f4,f5⟩:=hf it (by simp)
  exact wpAny_pyNext_range_end (I.ok.hd hc) st (by have:n<=i:=hg;(first|lia|omega)) fun h' eb=>⟨rfl,I.turned (t':=s.toks) (fun b o hb e=>eb b o hb e) f0 f1 f3 f4 f5⟩
 self:=fun _ _ _ _ _ st h=>wpAny_pyIter_rangeiter st h
end L2

namespace L2
open PySem PySem.Spec PyProof.Rows
section
variable {X:Cx}{tg:Expr}
inductive UP (K:PySem.W.Frag) (x:V) (H1:Hp) (R:It->Hp->Prop):Prop
 |mk (a:_) (h0:x=.ref a) (h1:(∃xs,GK K H1 a xs)) (h2:R (YC K a) H1):UP K x H1 R
def Xa (K:PySem.W.Frag)(tl:TE):TI:=fun σ H R=>tl σ H fun x H1=>UP K x H1 R
inductive WX (K:PySem.W.Frag) (x:V) (H1:Hp) (R:It->Hp->Prop):Prop
 |mk (a:_) (h0:x=.ref a) (h1:(∃xs,EH K H1 a xs)) (h2:R (ZI K a) H1):WX K x H1 R
def zBh (K:PySem.W.Frag)(tl:TE):TI:=fun σ H R=>tl σ H fun x H1=>WX K x H1 R
theorem DS {l:Expr}{tl:TE}(hl:PE X l tl):PI X tg l (Xa X.K tl):=by
 refine⟨?_⟩
 intro pins s σ H R I h
 refine qR (hl pins s σ H _ I h) fun v s1 hzz=>?_
 obtain⟨x,H1,I1,r1,q1⟩:=hzz
 obtain⟨a,e,⟨xs,hq⟩,q⟩:=q1
 subst e
 cases r1
 obtain⟨its,rv,p,hz⟩:=I1.list hq
 refine Ad p.isList ?_
 refine⟨s1.heap.objs.size,[s1.heap.objs.size],_,_,H1,rfl,I1.kept (t':=s1.toks) fun b o e=>zI _ e,Li a _,⟨_,yG _ rfl,rfl,rfl⟩,fun b hb=>?_,q⟩
 have e:b=s1.heap.objs.size:=by simpa using hb
 subst e
 exact I1.fpOk (zS _) (I1.hok.fresh (zS _))
theorem MK {l:Expr}{tl:TE}(hl:PE X l tl):PI X tg l (zBh X.K tl):=by
 refine⟨?_⟩
 intro pins s σ H R I h
 refine qR (hl pins s σ H _ I h) fun v s1 hzz=>?_
 obtain⟨x,H1,I1,r1,q1⟩:=hzz
 obtain⟨a,e,⟨xs,hq⟩,q⟩:=q1
 subst e
 cases r1
 obtain⟨its,rv,p,hz⟩:=I1.tuple hq
 refine wpAny_pyIter_tuple (show s1.heap.IsTuple a its.toArray from p) ?_
 refine⟨s1.heap.objs.size,[s1.heap.objs.size],_,_,H1,rfl,I1.kept (t':=s1.toks) fun b o e=>zI _ e,Pf a _,⟨_,yG _ rfl,rfl,rfl⟩,fun b hb=>?_,q⟩
 have e:b=s1.heap.objs.size:=by simpa using hb
 subst e
 exact I1.fpOk (zS _) (I1.hok.fresh (zS _))
theorem NP {pins:List (Addr×Obj)}{σ:St}{H:Hp}{s:Shared}{R:It->Hp->Prop}{E:Value->Shared->Prop}{lo hi:Int}{t u v:Tok}{tk:Nat}(I:xM X pins σ H s)(h1: -(2^62)<=lo)(h2:lo<2^62)(h3: -(2^62)<=hi)(h4:hi<2^62)
  (q:R (Xl lo (hi-lo).toNat) H):wpAny (model X.prog X.w) X.A (pyIter (.ref s.heap.objs.size)) (PIE X pins σ tg R) E {s with heap:=s.heap.push {cls:=.type "range",data:=.fields #[.int lo t,.int hi u,.int 1 v]},toks:=tk}:=by
 refine wpAny_pyIter_range (IsRange.new ..) (small_one h1 h2 h3 h4) ?_
 have I1:xM X pins σ H {s with heap:=s.heap.push {cls:=.type "range",data:=.fields #[.int lo t,.int hi u,.int 1 v]},toks:=tk}:=I.kept fun b o e=>zI _ e
 refine⟨(s.heap.push {cls:=.type "range",data:=.fields #[.int lo t,.int hi u,.int 1 v]}).objs.size,[(s.heap.push {cls:=.type "range",data:=.fields #[.int lo t,.int hi u,.int 1 v]}).objs.size],_,_,H,rfl,
  I1.kept (t':=tk) fun b o e=>zI _ e,Ph _ lo (hi-lo).toNat,?_,fun b hb=>?_,q⟩
 ·have e1:lo+((0:Nat):Int)*1=lo:=by simp
  have e2:(((hi-lo).toNat:Nat):Int)-((0:Nat):Int)=Builtin.Range.rangeSize lo hi 1:=by rw[rangeSize_one];split<;>(first|lia|omega)
  show IsRangeIter _ _ (lo+((0:Nat):Int)*1) ((((hi-lo).toNat:Nat):Int)-((0:Nat):Int)) 1
  rw[e1,e2]
  exact yG _ rfl
 ·have e:b=(s.heap.push {cls:=.type "range",data:=.fields #[.int lo t,.int hi u,.int 1 v]}).objs.size:=by simpa using hb
  subst e
  exact I1.fpOk (zS _) (I1.hok.fresh (zS _))
inductive UO (vs:List V) (H1:Hp) (R:It->Hp->Prop):Prop
 |mk (j:Int) (h0:vs=[.int j]) (h1: -(2^62)<=j) (h2:j<2^62) (h3:R (Xl 0 j.toNat) H1):UO vs H1 R
def Zp (ta:TA):TI:=fun σ H R=>ta σ H fun vs H1=>UO vs H1 R
inductive UN (vs:List V) (H1:Hp) (R:It->Hp->Prop):Prop
 |mk (i j:Int) (h0:vs=[.int i,.int j]) (h1:(-(2^62)<=i/\i<2^62/\ -(2^62)<=j/\j<2^62)) (h2:R (Xl i (j-i).toNat) H1):UN vs H1 R
def Zo (ta:TA):TI:=fun σ H R=>ta σ H fun vs H1=>UN vs H1 R
theorem uQ {a:Expr}{ta:TA}{p pos:Pos}(hg:Gl X "range")(hm:X.mg "range"=none)(ha:PA X [a] ta)(hs:starEach [a] X.env=[(false,eval a X.env)]:=by rfl):PI X tg (.Call (.Name "range" p) [a] [] pos) (Zp ta):=by
 refine⟨?_⟩
 intro pins s σ H R I h
 refine Call_ (Eo I hg hm boot_range (jJ (qR (ha pos pins s σ H _ I h) fun us s1 ⟨vs,H1,I1,r1,q1⟩=>?_) hs rfl))
 obtain⟨j,e,q1,q2,q⟩:=q1
 subst e
 cases r1 with
 |cons r rr=>
  cases rr
  obtain⟨t,rfl⟩:=r
  exact call_range_1 (NP I1 (by(first|lia|omega)) (by(first|lia|omega)) q1 q2 (by simpa using q))
theorem RM {a b:Expr}{ta:TA}{p pos:Pos}(hg:Gl X "range")(hm:X.mg "range"=none)(ha:PA X [a,b] ta)(hs:starEach [a,b] X.env=[(false,eval a X.env),(false,eval b X.env)]:=by rfl)(hs2:starEach [b] X.env=[(false,eval b X.env)]:=by rfl):
  PI X tg (.Call (.Name "range" p) [a,b] [] pos) (Zo ta):=by
 refine⟨?_⟩
 intro pins s σ H R I h
 refine Call_ (Eo I hg hm boot_range (jJ (qR (ha pos pins s σ H _ I h) fun us s1 ⟨vs,H1,I1,r1,q1⟩=>?_) (by rw[hs,hs2]) (by rw[hs2];rfl)))
 obtain⟨i,j,e,⟨q1,q2,q3,q4⟩,q⟩:=q1
 subst e
 cases r1 with
 |cons r rr=>
  cases rr with
  |cons r' rr=>
   cases rr
   obtain⟨t,rfl⟩:=r
   obtain⟨t',rfl⟩:=r'
   exact call_range_2 (NP I1 q1 q2 q3 q4 q)

def zAs (wi:TI)(g:TG)(tb:TS):TS:=fun D σ H=>wi σ H fun J H1=> ∃W:Nat->Nat->St->Hp->Prop,(∃m,W 0 m σ H1)/\ ∀i m σ H,W i m σ H->
 (J.stop i H/\D.nx σ H)\/(J.go i H/\ ∃N:St->Hp->Prop,(∀σ' H',N σ' H'-> ∃m',m'<m/\W (i+1) m' σ' H')/\ ∀x H',J.yld i H x H'->g x σ H' fun σ2 H2=>tb {D with nx:=N,ct:=N,bk:=D.nx} σ2 H2)
def Kb (fp:List Addr)(h:Heap):List (Addr×Obj):=fp.filterMap fun b=>(h.get? b).map fun o=>(b,o)
theorem Fu {fp:List Addr}{h:Heap}{b:Addr}{o:Obj}(hb:b∈fp)(e:h.get? b=some o):(b,o)∈Kb fp h:=List.mem_filterMap.mpr ⟨b,hb,by rw[e];rfl⟩
theorem Se {fp:List Addr}{h:Heap}{p:Addr×Obj}(hp:p∈Kb fp h):p.1∈fp/\h.get? p.1=some p.2:=by
 obtain⟨b,hb,e⟩:=List.mem_filterMap.mp hp
 cases q:h.get? b with
 |none=>rw[q]at e;cases e
 |some o=>
  rw[q]at e
  have e':(b,o)=p:=xU e
  subst e'
  exact⟨hb,q⟩
theorem xM.pinned {pins:List (Addr×Obj)}{σ:St}{H:Hp}{s:Shared}{fp:List Addr}(I:xM X pins σ H s)(hf: ∀b∈fp,Lc X pins H b)(ho: ∀b∈fp,∃o,s.heap.get? b=some o/\ ∀v,o.data≠ .cell v):xM X (pins++Kb fp s.heap) σ H s:=
 I.pins_of fun p hp=>(List.mem_append.mp hp).elim (fun z=>I.pin p (yW _ z)) fun z=>by
  obtain⟨hb,e⟩:=Se z
  obtain⟨f0,f1,f2,_⟩:=hf p.1 hb
  obtain⟨o,e',d⟩:=ho p.1 hb
  rw[e]at e';cases e'
  exact⟨e,f0,f1,f2,d⟩
theorem xM.unpinned {pins pl:List (Addr×Obj)}{σ:St}{H:Hp}{s:Shared}(I:xM X (pins++pl) σ H s):xM X pins σ H s:=I.pins_of fun p hp=>I.pin p (yW _ (kN _ hp))
theorem vE {iter:Expr}{body:List Stmt}{wi:TI}{g:TG}{tb:TS}{pos:Pos}(hp:PassesOwn (model X.prog X.w) X.A X.env X.xe)(hc:X.calm=true)(hi:PI X tg iter wi)(hg:PG X tg g)(hb:OZ X body tb)
  (hs: ∀x,foldedSetIterable iter X.env x=pure x:=by intro _;rfl):PS X (.For tg iter body [] pos) (zAs wi g tb):=by
 refine⟨?_⟩
 intro pins s σ H D I h
 refine wpAny_For (qR (hi pins s σ H _ I h) fun v s1 h1=>qR h1 fun itv s2 h2=>?_) hs
 obtain⟨it,fp,tn,J,H2,e,I2,T,st2,f2,W,⟨m0,w0⟩,turn⟩:=h2
 subst e
 have stat: ∀{H':Hp},(∀b∈fp,H' b=none)-> ∀b∈fp,Lc X pins H' b:=fun hn b hb=>⟨hn b hb,(f2 b hb).2⟩
 refine codeAny_forLoop_any (fun n s'=> ∃i σ' H',xM X pins σ' H' s'/\tn i s'.heap/\(∀b∈fp,H' b=none)/\W i n σ' H') ?_ m0 ⟨0,σ,H2,I2,st2,fun b hb=>(f2 b hb).1,w0⟩
 rintro n s3 ⟨i,σ3,H3,I3,st3,fr3,w3⟩
 rcases turn i n σ3 H3 w3 with⟨stop,qn⟩|⟨go,N,hN,step⟩
 ·refine vG hp (qR (T.done X rfl rfl rfl hc i pins s3 σ3 H3 X.xe I3 (stat fr3) st3 stop) fun r s4 hzz=>?_)
  obtain⟨hr,I4⟩:=hzz
  subst hr
  exact CG ⟨σ3,H3,I4,qn⟩
 ·refine vG hp (qR (T.item X rfl rfl rfl hc i pins s3 σ3 H3 X.xe I3 (stat fr3) st3 go) fun r s4 hzz=>?_)
  obtain⟨u,hr,h4⟩:=hzz
  subst hr
  refine vG hp (qR h4 fun _ s5 hzz=>?_)
  obtain⟨x,H5,I5,r5,y5,st5,fr5⟩:=hzz
  have I5':=I5.pinned (stat fr5) (T.obj _ _ st5)
  refine vG hp (qR (hg _ s5 σ3 H5 x u _ I5' r5 (step x H5 y5)) fun _ s6 hzz=>?_)
  obtain⟨σ6,H6,I6,q6⟩:=hzz
  refine vG hp (qR (hb _ s6 σ6 H6 _ I6 q6) fun f s7 q7=>?_)
  have again: ∀{σ7:St} {H7:Hp},xM X (pins++Kb fp s5.heap) σ7 H7 s7->N σ7 H7-> ∃m,m<n/\ ∃i σ' H',xM X pins σ' H' s7/\tn i s7.heap/\(∀b∈fp,H' b=none)/\W i m σ' H':=fun{σ7 H7} I7 n7=>by
   obtain⟨m',hm,w7⟩:=hN σ7 H7 n7
   refine⟨m',hm,i+1,σ7,H7,I7.unpinned,T.keep _ _ _ st5 fun b hb o e=>(I7.pin (b,o) (yW _ (yW _ (Fu hb e)))).1,fun b hb=>?_,w7⟩
   obtain⟨o,e,d⟩:=T.obj _ _ st5 b hb
   exact(I7.pin (b,o) (yW _ (yW _ (Fu hb e)))).2.1
  cases f with
  |next=>obtain⟨σ7,H7,I7,n7⟩:=q7;exact again I7 n7
  |cont=>obtain⟨σ7,H7,I7,n7⟩:=q7;exact again I7 n7
  |brk=>obtain⟨σ7,H7,I7,q7⟩:=q7;exact⟨σ7,H7,I7.unpinned,q7⟩
  |ret v=>obtain⟨x7,σ7,H7,I7,r7,q7⟩:=q7;exact⟨x7,σ7,H7,I7.unpinned,r7,q7⟩
end

theorem Ia {K:PySem.W.Frag}{a:Addr}{xs:List V}{g:TG}{tb:TS}{D:FJ}{σ:St}{H:Hp}(Pv:Nat->St->Hp->Prop)(h0:Pv 0 σ H)(hl: ∀i σ H,i<=xs.length->Pv i σ H->GK K H a xs)
  (hs: ∀i x σ H,xs[i]? =some x->Pv i σ H->g x σ H fun σ2 H2=>tb {D with nx:=Pv (i+1),ct:=Pv (i+1),bk:=D.nx} σ2 H2) (hd: ∀σ H,Pv xs.length σ H->D.nx σ H):
  ∃W:Nat->Nat->St->Hp->Prop,(∃m,W 0 m σ H)/\ ∀i m σ H,W i m σ H->
   ((YC K a).stop i H/\D.nx σ H)\/((YC K a).go i H/\ ∃N:St->Hp->Prop,(∀σ' H',N σ' H'-> ∃m',m'<m/\W (i+1) m' σ' H')/\ ∀x H',(YC K a).yld i H x H'->g x σ H' fun σ2 H2=>tb {D with nx:=N,ct:=N,bk:=D.nx} σ2 H2):=by
 refine⟨fun i m σ H=>m=xs.length-i/\i<=xs.length/\Pv i σ H,⟨xs.length,by simp,yZ _,h0⟩,?_⟩
 rintro i m σ H ⟨rfl,hi,p⟩
 have q:=hl i σ H hi p
 by_cases hlt:i<xs.length
 ·refine .inr ⟨⟨xs,xs[i],q,by simp[hlt]⟩,Pv (i+1),fun σ' H' p'=>⟨xs.length-(i+1),by(first|lia|omega),rfl,hlt,p'⟩,fun x H' y=>?_⟩
  obtain⟨e,y⟩:=y
  subst e
  exact hs i x σ _ (y xs q) p
 ·have e:i=xs.length:=by(first|lia|omega)
  subst e
  exact .inl ⟨⟨xs,q,zS _⟩,hd σ H p⟩
theorem JG {K:PySem.W.Frag}{a:Addr}{xs:List V}{g:TG}{tb:TS}{D:FJ}{σ:St}{H:Hp}(Pv:Nat->St->Hp->Prop)(h0:Pv 0 σ H)(hl: ∀i σ H,i<=xs.length->Pv i σ H->EH K H a xs)
  (hs: ∀i x σ H,xs[i]? =some x->Pv i σ H->g x σ H fun σ2 H2=>tb {D with nx:=Pv (i+1),ct:=Pv (i+1),bk:=D.nx} σ2 H2) (hd: ∀σ H,Pv xs.length σ H->D.nx σ H):
  ∃W:Nat->Nat->St->Hp->Prop,(∃m,W 0 m σ H)/\ ∀i m σ H,W i m σ H->
   ((ZI K a).stop i H/\D.nx σ H)\/((ZI K a).go i H/\ ∃N:St->Hp->Prop,(∀σ' H',N σ' H'-> ∃m',m'<m/\W (i+1) m' σ' H')/\ ∀x H',(ZI K a).yld i H x H'->g x σ H' fun σ2 H2=>tb {D with nx:=N,ct:=N,bk:=D.nx} σ2 H2):=by
 refine⟨fun i m σ H=>m=xs.length-i/\i<=xs.length/\Pv i σ H,⟨xs.length,by simp,yZ _,h0⟩,?_⟩
 rintro i m σ H ⟨rfl,hi,p⟩
 have q:=hl i σ H hi p
 by_cases hlt:i<xs.length
 ·refine .inr ⟨⟨xs,xs[i],q,by simp[hlt]⟩,Pv (i+1),fun σ' H' p'=>⟨xs.length-(i+1),by(first|lia|omega),rfl,hlt,p'⟩,fun x H' y=>?_⟩
  obtain⟨e,y⟩:=y
  subst e
  exact hs i x σ _ (y xs q) p
 ·have e:i=xs.length:=by(first|lia|omega)
  subst e
  exact .inl ⟨⟨xs,q,zS _⟩,hd σ H p⟩
theorem uR {lo:Int}{n:Nat}{g:TG}{tb:TS}{D:FJ}{σ:St}{H:Hp}(Pv:Nat->St->Hp->Prop)(h0:Pv 0 σ H)
  (hs: ∀i σ H,i<n->Pv i σ H->g (.int (lo+i)) σ H fun σ2 H2=>tb {D with nx:=Pv (i+1),ct:=Pv (i+1),bk:=D.nx} σ2 H2) (hd: ∀σ H,Pv n σ H->D.nx σ H):
  ∃W:Nat->Nat->St->Hp->Prop,(∃m,W 0 m σ H)/\ ∀i m σ H,W i m σ H->
   ((Xl lo n).stop i H/\D.nx σ H)\/((Xl lo n).go i H/\ ∃N:St->Hp->Prop,(∀σ' H',N σ' H'-> ∃m',m'<m/\W (i+1) m' σ' H')/\ ∀x H',(Xl lo n).yld i H x H'->g x σ H' fun σ2 H2=>tb {D with nx:=N,ct:=N,bk:=D.nx} σ2 H2):=by
 refine⟨fun i m σ H=>m=n-i/\i<=n/\Pv i σ H,⟨n,by simp,yZ _,h0⟩,?_⟩
 rintro i m σ H ⟨rfl,hi,p⟩
 by_cases hlt:i<n
 ·refine .inr ⟨hlt,Pv (i+1),fun σ' H' p'=>⟨n-(i+1),by(first|lia|omega),rfl,hlt,p'⟩,fun x H' y=>?_⟩
  obtain⟨e,y⟩:=y
  subst e y
  exact hs i σ _ hlt p
 ·have e:i=n:=by(first|lia|omega)
  subst e
  exact .inl ⟨zS _,hd σ H p⟩
end L2

namespace L2
open PySem PySem.Spec PyProof.Rows

abbrev R2:=V->V->Hp->VK->Prop
def Jx (X:Cx)(f:Value->Value->Sem Value)(r:R2):Prop:=
 ∀(pins:List (Addr×Obj)) (s:Shared) (σ:St) (H:Hp) (x y:V) (v u:Value) (Q:VK),xM X pins σ H s->kB x v->kB y u->r x y H Q->
  wpAny (model X.prog X.w) X.A (f v u) (EP X pins σ Q) X.xe s
def UnR (X:Cx)(f:Value->Sem Value)(r:V->Hp->VK->Prop):Prop:=
 ∀(pins:List (Addr×Obj)) (s:Shared) (σ:St) (H:Hp) (x:V) (v:Value) (Q:VK),xM X pins σ H s->kB x v->r x H Q->
  wpAny (model X.prog X.w) X.A (f v) (EP X pins σ Q) X.xe s
def EJ (X:Cx)(f:Value)(r:List V->Hp->VK->Prop):Prop:=
 ∀(pins:List (Addr×Obj)) (s:Shared) (σ:St) (H:Hp) (xs:List V) (us:List Value) (Q:VK),xM X pins σ H s->jP xs us->r xs H Q->
  wpAny (model X.prog X.w) X.A (call f us) (EP X pins σ Q) X.xe s
def zBp (X:Cx)(r:V->Hp->(Bool->Hp->Prop)->Prop):Prop:=
 ∀(pins:List (Addr×Obj)) (s:Shared) (σ:St) (H:Hp) (x:V) (v:Value) (Q:Bool->Hp->Prop),xM X pins σ H s->kB x v->r x H Q->
  wpAny (model X.prog X.w) X.A (truthy v) (TP X pins σ Q) X.xe s

def ZX (r:R2)(ta tb:TE):TE:=fun σ H Q=>ta σ H fun x H1=>tb σ H1 fun y H2=>r x y H2 Q
def tUn (r:V->Hp->VK->Prop)(ta:TE):TE:=fun σ H Q=>ta σ H fun x H1=>r x H1 Q
inductive rI (C:Int->Int->Prop) (g:Int->Int->V) (x:V) (y:V) (H:Hp) (Q:VK):Prop
 |mk (i j:_) (h0:x=.int i) (h1:y=.int j) (h2:C i j) (h3:Q (g i j) H):rI C g x y H Q
inductive WQ (g:Int->Int->V) (x:V) (y:V) (H:Hp) (Q:VK):Prop
 |mk (i j:_) (h0:x=.int i) (h1:y=.int j) (h2:Q (g i j) H):WQ g x y H Q
inductive rU (g:Int->V) (x:V) (H:Hp) (Q:VK):Prop
 |mk (i:_) (h0:x=.int i) (h1:Q (g i) H):rU g x H Q

section
variable {X:Cx}{a b c:Expr}{ta tb tc:TE}{pos:Pos}

theorem Yl (ha:PE X a ta)(hb:PE X b tb){pins:List (Addr×Obj)}{s:Shared}{σ:St}{H:Hp}{R:V->V->Hp->Prop}(I:xM X pins σ H s)
  (h:ta σ H fun x H1=>tb σ H1 fun y H2=>R x y H2) {Q:Value->Shared->Prop} {f:Value->Value->Sem Value}
  (hf: ∀v u s2 x y H2,xM X pins σ H2 s2->kB x v->kB y u->R x y H2->wpAny (model X.prog X.w) X.A (f v u) Q X.xe s2):
  wpAny (model X.prog X.w) X.A (eval a X.env) (fun v s₁=>wpAny (model X.prog X.w) X.A (eval b X.env) (fun u s₂=>wpAny (model X.prog X.w) X.A (f v u) Q X.xe s₂) X.xe s₁) X.xe s:=by
 refine qR (ha pins s σ H _ I h) fun v s1 hzz=>?_
 obtain⟨x,H1,I1,r1,q1⟩:=hzz
 refine qR (hb pins s1 σ H1 _ I1 q1) fun u s2 hzz=>?_
 obtain⟨y,H2,I2,r2,q2⟩:=hzz
 exact hf v u s2 x y H2 I2 r1 r2 q2

theorem xS {op:Operator}{r:R2}(ho:Jx X (binaryOp op) r)(ha:PE X a ta)(hb:PE X b tb):PE X (.BinOp a op b pos) (ZX r ta tb):=by
 refine⟨?_⟩
 intro pins s σ H Q I h
 exact wpAny_BinOp (Yl ha hb I h fun v u s2 x y H2 I2 rx ry q=>ho pins s2 σ H2 x y v u Q I2 rx ry q)
theorem NW {op:UnaryOp}{r:V->Hp->VK->Prop}(ho:UnR X (unaryOp op) r)(ha:PE X a ta):PE X (.UnaryOp op a pos) (tUn r ta):=by
 refine⟨?_⟩
 intro pins s σ H Q I h
 exact UnaryOp_ (qR (ha pins s σ H _ I h) fun v s1 ⟨x,H1,I1,r1,q1⟩=>ho pins s1 σ H1 x v Q I1 r1 q1)
theorem opI {f:Value->Value->Sem Value}{C:Int->Int->Prop}{g:Int->Int->Int}
  (rule: ∀(i j:Int) (t u:Tok) (s:Shared) (Q:Value->Shared->Prop) (E:Value->Shared->Prop),C i j->Q (.int (g i j) s.toks) {s with toks:=s.toks+1}->wpAny (model X.prog X.w) X.A (f (.int i t) (.int j u)) Q E s):
  Jx X f (rI C fun i j=>.int (g i j)):=by
 intro pins s σ H x y v u Q I rx ry h
 obtain⟨i,j,rfl,rfl,hc,q⟩:=h
 obtain⟨t,rfl⟩:=rx
 obtain⟨t',rfl⟩:=ry
 exact rule i j t t' s _ _ hc ⟨.int (g i j),H,I.tok _,⟨_,rfl⟩,q⟩
theorem Zg {f:Value->Value->Sem Value}{g:Int->Int->Int}
  (rule: ∀(i j:Int) (t u:Tok) (s:Shared) (Q:Value->Shared->Prop) (E:Value->Shared->Prop),Q (.int (g i j) s.toks) {s with toks:=s.toks+1}->wpAny (model X.prog X.w) X.A (f (.int i t) (.int j u)) Q E s):
  Jx X f (WQ fun i j=>.int (g i j)):=by
 intro pins s σ H x y v u Q I rx ry h
 obtain⟨i,j,rfl,rfl,q⟩:=h
 obtain⟨t,rfl⟩:=rx
 obtain⟨t',rfl⟩:=ry
 exact rule i j t t' s _ _ ⟨.int (g i j),H,I.tok _,⟨_,rfl⟩,q⟩
theorem XQ {f:Value->Value->Sem Value}{g:Int->Int->Bool}
  (rule: ∀(i j:Int) (t u:Tok) (s:Shared) (Q:Value->Shared->Prop) (E:Value->Shared->Prop),Q (.bool (g i j)) s->wpAny (model X.prog X.w) X.A (f (.int i t) (.int j u)) Q E s):
  Jx X f (WQ fun i j=>.bl (g i j)):=by
 intro pins s σ H x y v u Q I rx ry h
 obtain⟨i,j,rfl,rfl,q⟩:=h
 obtain⟨t,rfl⟩:=rx
 obtain⟨t',rfl⟩:=ry
 exact rule i j t t' s _ _ ⟨.bl (g i j),H,I,rfl,q⟩

def zBw (i j:Int):Prop:=0<=j/\j<=1000000/\i.natAbs<2^64
def Yw (i j:Int):Prop:=(-(2^64)<i/\i<2^64)\/(-(2^64)<j/\j<2^64)
theorem Yw.ok {i j:Int}(h:Yw i j):IntMulOk i j:=by
 rcases h with⟨h1,h2⟩|⟨h1,h2⟩
 ·exact .of_left (intBits_le_64 h1 h2)
 ·exact .of_right (intBits_le_64 h1 h2)
theorem vM:Jx X (binaryOp .Add) (WQ fun i j=>.int (i+j)):=Zg fun _ _ _ _ _ _ _ q=>add_int q
theorem vL:Jx X (binaryOp .Sub) (WQ fun i j=>.int (i-j)):=Zg fun _ _ _ _ _ _ _ q=>sub_int q
theorem Fs:Jx X (binaryOp .Mult) (rI Yw fun i j=>.int (i*j)):=opI fun _ _ _ _ _ _ _ hc q=>mul_int q hc.ok
theorem Em:Jx X (binaryOp .Mod) (rI (fun _ j=>0<j) fun i j=>.int (i % j)):=opI fun i j _ _ _ _ _ hc q=>by
 have h1:(0:Int)<j:=hc
 exact mod_int' (by(first|lia|omega)) (by rw[Int.fmod_eq_emod_of_nonneg i (by(first|lia|omega))];exact q)
theorem MO:Jx X (binaryOp .Pow) (rI zBw fun i j=>.int (i^j.toNat)):=opI fun _ _ _ _ _ _ _ hc q=>pow_int_small hc.1 hc.2.1 hc.2.2 q
theorem unI {f:Value->Sem Value}{g:Int->Int}
  (rule: ∀(i:Int) (t:Tok) (s:Shared) (Q:Value->Shared->Prop) (E:Value->Shared->Prop),Q (.int (g i) s.toks) {s with toks:=s.toks+1}->wpAny (model X.prog X.w) X.A (f (.int i t)) Q E s):
  UnR X f (rU fun i=>.int (g i)):=by
 intro pins s σ H x v Q I rx h
 obtain⟨i,rfl,q⟩:=h
 obtain⟨t,rfl⟩:=rx
 exact rule i t s _ _ ⟨.int (g i),H,I.tok _,⟨_,rfl⟩,q⟩
theorem JL:UnR X (unaryOp .USub) (rU fun i=>.int (-i)):=unI fun _ _ _ _ _ q=>neg_int q
end

def YT:V->V->Bool
 | .non,.non=>true| .non,.int _=>true| .int _,.non=>true| .non,.bl _=>true| .bl _,.non=>true| .non,.str _=>true| .str _,.non=>true
 | .int _,.int _=>true| .bl _,.bl _=>true| .str _,.str _=>true| .byt _,.byt _=>true
 | .int _,.str _=>true| .str _,.int _=>true| .bl _,.str _=>true| .str _,.bl _=>true
 |_,_=>false
def rEq:R2:=fun x y H Q=>YT x y=true/\Q (.bl (decide (x=y))) H
def rNe:R2:=fun x y H Q=>YT x y=true/\Q (.bl (!decide (x=y))) H

theorem Rm {i j:Int}:decide (V.int i=V.int j)=(i==j):=by
 rw[AS]
 simp
 exact⟨fun h=>by injection h,fun h=>by rw[h]⟩
theorem Vi {i j:Bool}:decide (V.bl i=V.bl j)=(i==j):=by
 rw[AS]
 simp
 exact⟨fun h=>by injection h,fun h=>by rw[h]⟩
theorem Rl {i j:Str}:decide (V.str i=V.str j)=(i==j):=by
 rw[AS]
 simp
 exact⟨fun h=>by injection h,fun h=>by rw[h]⟩
theorem Rn {i j:Array UInt8}:decide (V.byt i=V.byt j)=(i.toList==j.toList):=by
 rw[AS]
 cases i
 cases j
 simp
 exact⟨fun h=>by injection h with h;injection h,fun h=>by rw[h]⟩

section
variable {X:Cx}{a b c:Expr}{ta tb tc:TE}{pos:Pos}
theorem kW {pins:List (Addr×Obj)}{σ:St}{H:Hp}{s:Shared}{Q:VK}{k k':Bool}(I:xM X pins σ H s)(q:Q (.bl k) H)(e:k=k'):EP X pins σ Q (.bool k') s:=by
 subst e
 exact⟨.bl k,H,I,rfl,q⟩
theorem kT:Jx X (compareOp .Eq) rEq:=by
 intro pins s σ H x y v u Q I rx ry h
 obtain⟨hs,q⟩:=h
 cases x with
 |non=>
  cases rx
  cases y with
  |non=>cases ry;exact PySem.EqNone.eq_none_none (kW I q (by simp))
  |bl j=>cases ry;exact PySem.EqNone.eq_none_bool (kW I q (by simp))
  |int j=>obtain⟨t',rfl⟩:=ry;exact PySem.EqNone.eq_none_int (kW I q (by simp))
  |str j=>obtain⟨t',rfl⟩:=ry;exact PySem.EqNone.eq_none_str (kW I q (by simp))
  |_=>exact absurd (show false=true from hs) yI
 |bl i=>
  cases rx
  cases y with
  |non=>cases ry;exact PySem.EqNone.eq_bool_none (kW I q (by simp))
  |bl j=>cases ry;exact eq_bool (kW I q Vi)
  |str j=>obtain⟨t',rfl⟩:=ry;exact PySem.EqMixed.eq_bool_str (kW I q (by simp))
  |_=>exact absurd (show false=true from hs) yI
 |int i=>
  obtain⟨t,rfl⟩:=rx
  cases y with
  |non=>cases ry;exact PySem.EqNone.eq_int_none (kW I q (by simp))
  |int j=>obtain⟨t',rfl⟩:=ry;exact eq_int (kW I q Rm)
  |str j=>obtain⟨t',rfl⟩:=ry;exact PySem.EqMixed.eq_int_str (kW I q (by simp))
  |_=>exact absurd (show false=true from hs) yI
 |str i=>
  obtain⟨t,rfl⟩:=rx
  cases y with
  |non=>cases ry;exact PySem.EqNone.eq_str_none (kW I q (by simp))
  |bl j=>cases ry;exact PySem.EqMixed.eq_str_bool (kW I q (by simp))
  |int j=>obtain⟨t',rfl⟩:=ry;exact PySem.EqMixed.eq_str_int (kW I q (by simp))
  |str j=>obtain⟨t',rfl⟩:=ry;exact eq_str (kW I q Rl)
  |_=>exact absurd (show false=true from hs) yI
 |byt i=>
  obtain⟨t,rfl⟩:=rx
  cases y with
  |byt j=>obtain⟨t',rfl⟩:=ry;exact PySem.W.eq_bytes (kW I q Rn)
  |_=>exact absurd (show false=true from hs) yI
 |_=>cases y<;>exact absurd (show false=true from hs) yI
theorem HV:Jx X (compareOp .NotEq) rNe:=by
 intro pins s σ H x y v u Q I rx ry h
 obtain⟨hs,q⟩:=h
 cases x with
 |non=>
  cases rx
  cases y with
  |non=>cases ry;exact PySem.EqNone.ne_none_none (kW I q (by simp))
  |bl j=>cases ry;exact PySem.EqNone.ne_none_bool (kW I q (by simp))
  |int j=>obtain⟨t',rfl⟩:=ry;exact PySem.EqNone.ne_none_int (kW I q (by simp))
  |str j=>obtain⟨t',rfl⟩:=ry;exact PySem.EqNone.ne_none_str (kW I q (by simp))
  |_=>exact absurd (show false=true from hs) yI
 |bl i=>
  cases rx
  cases y with
  |non=>cases ry;exact PySem.EqNone.ne_bool_none (kW I q (by simp))
  |bl j=>cases ry;exact ne_bool (kW I q (xT not Vi))
  |str j=>obtain⟨t',rfl⟩:=ry;exact PySem.EqMixed.ne_bool_str (kW I q (by simp))
  |_=>exact absurd (show false=true from hs) yI
 |int i=>
  obtain⟨t,rfl⟩:=rx
  cases y with
  |non=>cases ry;exact PySem.EqNone.ne_int_none (kW I q (by simp))
  |int j=>obtain⟨t',rfl⟩:=ry;exact ne_int (kW I q (xT not Rm))
  |str j=>obtain⟨t',rfl⟩:=ry;exact PySem.EqMixed.ne_int_str (kW I q (by simp))
  |_=>exact absurd (show false=true from hs) yI
 |str i=>
  obtain⟨t,rfl⟩:=rx
  cases y with
  |non=>cases ry;exact PySem.EqNone.ne_str_none (kW I q (by simp))
  |bl j=>cases ry;exact PySem.EqMixed.ne_str_bool (kW I q (by simp))
  |int j=>obtain⟨t',rfl⟩:=ry;exact PySem.EqMixed.ne_str_int (kW I q (by simp))
  |str j=>obtain⟨t',rfl⟩:=ry;exact ne_str (kW I q (xT not Rl))
  |_=>exact absurd (show false=true from hs) yI
 |byt i=>
  obtain⟨t,rfl⟩:=rx
  cases y with
  |byt j=>obtain⟨t',rfl⟩:=ry;exact PySem.W.ne_bytes (kW I q (xT not Rn))
  |_=>exact absurd (show false=true from hs) yI
 |_=>cases y<;>exact absurd (show false=true from hs) yI

theorem GS:Jx X (compareOp .Lt) (WQ fun i j=>.bl (decide (i<j))):=XQ fun _ _ _ _ _ _ _ q=>lt_int q
theorem GU:Jx X (compareOp .Gt) (WQ fun i j=>.bl (decide (j<i))):=XQ fun _ _ _ _ _ _ _ q=>gt_int q
theorem Uc:Jx X (compareOp .GtE) (WQ fun i j=>.bl (decide (j<=i))):=XQ fun _ _ _ _ _ _ _ q=>ge_int q
theorem XO:Jx X (compareOp .Is) (fun x y H Q=>y=.non/\Q (.bl (decide (x=.non))) H):=by
 intro pins s σ H x y v u Q I rx ry h
 obtain⟨rfl,q⟩:=h
 cases ry
 refine is_none_gen (kW I q ?_)
 cases x<;>first
  |(cases rx;rfl)
  |(obtain⟨t,rfl⟩:=rx;rfl)
theorem MP:Jx X (compareOp .NotIn) (fun x y H Q=> ∃i j,x=.str i/\y=.str j/\Q (.bl (!(!(Builtin.Str.occurrences j i 0 j.length 1).isEmpty))) H):=by
 intro pins s σ H x y v u Q I rx ry h
 obtain⟨i,j,rfl,rfl,q⟩:=h
 obtain⟨t,rfl⟩:=rx
 obtain⟨t',rfl⟩:=ry
 exact notIn_str (kW I q rfl)
theorem yY (b:Expr){op:CmpOp}(h:op≠ .In:=by decide)(h2:op≠ .NotIn:=by decide):behindInMarks op b=false:=by
 have e1:(op==CmpOp.In)=false:=by cases op<;>first|rfl|exact absurd rfl h
 have e2:(op==CmpOp.NotIn)=false:=by cases op<;>first|rfl|exact absurd rfl h2
 cases b<;>simp[behindInMarks,e1,e2]
theorem Cd {op:CmpOp}{r:R2}(ho:Jx X (compareOp op) r)(ha:PE X a ta)(hb:PE X b tb)(hm:behindInMarks op b=false):PE X (.Compare a [op] [b] pos) (ZX r ta tb):=by
 refine⟨?_⟩
 intro pins s σ H Q I h
 exact wpAny_Compare1 (Yl ha hb I h fun v u s2 x y H2 I2 rx ry q=>ho pins s2 σ H2 x y v u Q I2 rx ry q) hm
inductive Tj (x:V) (H':Hp) (Q:Bool->Hp->Prop):Prop
 |mk (k:_) (h0:x=.bl k) (h1:Q k H'):Tj x H' Q
def YG (t:TE):TT:=fun σ H Q=>t σ H fun x H'=>Tj x H' Q
theorem yL {op:CmpOp}{r:R2}(ho:Jx X (compareOp op) r)(ha:PE X a ta)(hb:PE X b tb)(hm:behindInMarks op b=false):PT X (.Compare a [op] [b] pos) (YG (ZX r ta tb)):=by
 refine⟨?_⟩
 intro pins s σ H Q I h
 refine wpAny_isTrue_Compare1 (qR (ha pins s σ H _ I h) fun v s1 ⟨x,H1,I1,r1,q1⟩=>qR (hb pins s1 σ H1 _ I1 q1) fun u s2 ⟨y,H2,I2,r2,q2⟩=>
  qR (ho pins s2 σ H2 x y v u _ I2 r1 r2 q2) fun c s3 ⟨z,H3,I3,r3,k,e,q3⟩=>?_) hm
 subst e
 cases r3
 exact wJ ⟨H3,I3,q3⟩
def Zy (K:PySem.W.Frag)(x:V)(H:Hp)(k:Bool):Prop:=
 match x with
 | .non=>k=false
 | .bl b=>k=b
 | .int i=>k=(i !=0)
 | .str y=>y.length<=sizeLine/\k=((y.length:Int)!=0)
 | .byt y=>y.size<=sizeLine/\k=((y.size:Int)!=0)
 | .ref p=>(∃xs,GK K H p xs/\k=!xs.isEmpty)\/(∃xs,EH K H p xs/\k=!xs.isEmpty)\/ ∃kvs,H p=some (.dK kvs)/\k=!kvs.isEmpty
 |_=>False
theorem Qg {κ:Type}{kvs:List (κ×V)}{vs:List (κ×Value)}(r:KV kvs vs):(!vs.isEmpty)=!kvs.isEmpty:=by
 cases r<;>rfl
theorem Ku {xs:List V}{its:List Value}(r:jP xs its):(!its.toArray.isEmpty)=!xs.isEmpty:=by
 cases r<;>simp
theorem En:(sizeLine:Nat)<2^63:=by rw[At];decide
theorem Xp:zBp X (fun x H Q=> ∃k,Zy X.K x H k/\Q k H):=by
 intro pins s σ H x v Q I rx h
 obtain⟨k,e,q⟩:=h
 have hl:=En
 have hs:sizeLine=16777216:=At
 cases x with
 |non=>
  cases rx
  have e':k=false:=e
  subst e'
  exact truthy_none ⟨H,I,q⟩
 |bl b=>
  cases rx
  have e':k=b:=e
  subst e'
  exact wJ ⟨H,I,q⟩
 |int i=>
  obtain⟨t,rfl⟩:=rx
  have e':k=(i !=0):=e
  subst e'
  exact PySem.P.truthy_int ⟨H,I,q⟩
 |str y=>
  obtain⟨t,rfl⟩:=rx
  obtain⟨hy,e'⟩:y.length<=sizeLine/\k=((y.length:Int)!=0):=e
  subst e'
  exact PySem.P.truthy_str (by(first|lia|omega)) ⟨H,I.tok _,q⟩
 |byt y=>
  obtain⟨t,rfl⟩:=rx
  obtain⟨hy,e'⟩:y.size<=sizeLine/\k=((y.size:Int)!=0):=e
  subst e'
  exact PySem.W.truthy_bytes (by(first|lia|omega)) ⟨H,I.tok _,q⟩
 |ref p=>
  cases rx
  have e':(∃xs,GK X.K H p xs/\k=!xs.isEmpty)\/(∃xs,EH X.K H p xs/\k=!xs.isEmpty)\/ ∃kvs,H p=some (.dK kvs)/\k=!kvs.isEmpty:=e
  rcases e' with⟨xs,hx,e'⟩|⟨xs,hx,e'⟩|⟨kvs,hx,e'⟩
  ·subst e'
   obtain⟨its,r,pl,hz⟩:=I.list hx
   have hlen:=r.length
   exact wpAny_truthy_list pl.isList (by simp only[yD];(first|lia|omega)) ⟨H,I.tok _,by rw[Ku r];exact q⟩
  ·subst e'
   obtain⟨its,r,pl,hz⟩:=I.tuple hx
   have hlen:=r.length
   exact truthy_tuple pl (by simp only[yD];(first|lia|omega)) ⟨H,I.tok _,by rw[Ku r];exact q⟩
  ·subst e'
   obtain⟨hz,hS,vs,r,m⟩:kvs.length<=sizeLine/\(p==sysModules)=false/\ ∃vs,KV kvs vs/\s.heap.DictOf (qT X.prog X.w) p vs:=I.hok p _ hx
   have hlen:kvs.length=vs.length:=Cg r
   exact wpAny_truthy_dict hS m (by(first|lia|omega)) ⟨H,I.tok _,by rw[Qg r];exact q⟩
 |_=>exact(show False from e).elim
theorem NS (ha:PE X a ta)(he: ∀whole,isTrue a X.env whole=(do let v<-whole;standAt a.pos;holding [v] (truthy v))):
  PT X a (fun σ H Q=>ta σ H fun x H'=> ∃k,Zy X.K x H' k/\Q k H'):=by
 refine⟨?_⟩
 intro pins s σ H Q I h
 exact isTrue_plain (qR (ha pins s σ H _ I h) fun v s1 ⟨x,H1,I1,r1,q1⟩=>Xp pins s1 σ H1 x v Q I1 r1 q1) (he _)

theorem GM {x:V}{us:List Value}(r:jP [x] us): ∃u,us=[u]/\kB x u:=by
 cases r with
 |cons r1 r2=>cases r2;exact⟨_,rfl,r1⟩
theorem NA {x y:V}{us:List Value}(r:jP [x,y] us): ∃u w',us=[u,w']/\kB x u/\kB y w':=by
 cases r with
 |cons r1 r2=>
  cases r2 with
  |cons r3 r4=>cases r4;exact⟨_,_,rfl,r1,r3⟩
theorem IR:EJ X (.type "int") (fun xs H Q=>(∃i,xs=[.int i]/\Q (.int i) H)\/ ∃k,xs=[.bl k]/\Q (.int (if k then 1 else 0)) H):=by
 intro pins s σ H xs us Q I r h
 rcases h with⟨i,rfl,q⟩|⟨k,rfl,q⟩
 ·obtain⟨u,rfl,t,rfl⟩:=GM r
  exact call_int_int ⟨.int i,H,I,⟨_,rfl⟩,q⟩
 ·obtain⟨u,rfl,r1⟩:=GM r
  cases r1
  exact call_int_bool ⟨.int (if k then 1 else 0),H,I.tok _,⟨_,rfl⟩,q⟩
theorem Fy:EJ X (.type "str") (fun xs H Q=> ∃i,xs=[.int i]/\i.natAbs.log2<1920/\Q (.str (toString i)) H):=by
 intro pins s σ H xs us Q I r h
 obtain⟨i,rfl,hz,q⟩:=h
 obtain⟨u,rfl,t,rfl⟩:=GM r
 exact PySem.P.str_of_int hz ⟨.str _,H,I.tok _,⟨_,rfl⟩,q⟩
end
end L2

namespace L2
open PySem PySem.Spec PyProof.Rows

structure Qs (h:Heap)(x dx C:Addr)(mA:Str->Option Value):Prop where
 obj:h.get? x=some (PySem.W.instObj C dx)
 ns:h.Ns1 dx mA
 ne:dx≠x

theorem LF {h:Heap}{dx:Addr}{mA:Str->Option Value}(n:h.Ns1 dx mA): ∃od,h.get? dx=some od/\ ∀name,PySem.W.lookIn name od=some (mA name):=by
 obtain⟨o,es,ep,ho,hd,hk,_,hm⟩:=n
 refine⟨o,ho,fun name=>?_⟩
 have e:=hm name
 unfold nsFind findBy at e
 rw[<-Array.find?_toList]at e
 unfold PySem.W.lookIn
 rw[hd]
 dsimp only
 split
 ·rename_i y q
  rw[q]at e
  exact xT some e
 ·rename_i q
  rw[q]at e
  have a:es.toList.any (·.refKey)=false:=by
   rw[List.any_eq_false]
   intro y hy
   obtain⟨z,t,hkey⟩:=hk y (Array.mem_toList_iff.mp hy)
   simp[DictEntry.refKey,hkey]
  have a': ¬es.toList.any (·.refKey)=true:=by rw[a];exact yI
  rw[zL a']
  exact xT some e

theorem Qs.look {h:Heap}{x dx C:Addr}{mA:Str->Option Value}(I:Qs h x dx C mA): ∃od,PySem.W.InstAt h x (PySem.W.instObj C dx) C (some od)/\ ∀name,PySem.W.lookIn name od=some (mA name):=
 let⟨od,ho,hl⟩:=LF I.ns
 ⟨od,⟨I.obj,rfl,rfl,ho⟩,hl⟩

section
variable {prog:Program}{w:World}{A:Around}{E:Value->Shared->Prop}{s:Shared}{K:PySem.W.Frag}{x dx C f:Addr}{mA:Str->Option Value}{name:Str}{v:Value}

theorem Wp {expr:Bool}{Q:Value->Shared->Prop}(X:K.In s.heap)(I:Qs s.heap x dx C mA)(hg:PySem.W.plainGet K C name=true)(hh:PySem.W.hasDictIn K C=true)
  (ha:PySem.W.findIn K (.ref C) name=some none) (hv:mA name=some v) (hv':PySem.W.handedIn v=true) (h:Q v {s with toks:=s.toks+1}):
  wpAny (model prog w) A (getAttr (.ref x) name expr) Q E s:=by
 obtain⟨od,J,hl⟩:=I.look
 exact PySem.W.get_value X J (CS hg).1 (PySem.W.findObj_own hh ha rfl (by rw[hl,hv])) hv' h

theorem UT {pl:Sem Bool}{Q:Value×List Value->Shared->Prop}(X:K.In s.heap)(I:Qs s.heap x dx C mA)(hg:PySem.W.plainGet K C name=true)
  (hf:PySem.W.findIn K (.ref C) name=some (some (.ref f))) (ht:PySem.W.isFn K (.ref f)=true) (hv:mA name=none) (h:Q (.ref f,[.ref x]) s):
  wpAny (model prog w) A (getMethod (.ref x) name pl) Q E s:=by
 obtain⟨od,J,hl⟩:=I.look
 exact PySem.W.method_fn X J (CS hg).1 (CS hg).2 hf (beq_iff_eq.mp ht) (by show(PySem.W.lookIn name od).map (·.isSome)=some false;rw[hl,hv];rfl) h

theorem VN {ns:List Str}{Q:Unit->Shared->Prop}(X:K.In s.heap)(I:Qs s.heap x dx C mA)
  (hs:PySem.W.findIn K (.ref C) "__setattr__"=some (some (.builtin "object.__setattr__"))) (hp:PySem.W.plainOver K C=true) (ht:PySem.W.takerIn K C name=some none) (hh:PySem.W.hasDictIn K C=true)
  (hw:PySem.Within mA ns) (hsz:ns.length<=sizeLine)
  (h: ∀h',Qs h' x dx C (fun y=>if y=name then some v else mA y)->Heap.SameBut dx s.heap h'->Q () {s with heap:=h',toks:=s.toks+2}):
  wpAny (model prog w) A (setAttr (.ref x) name v) Q E s:=by
 obtain⟨od,J,hl⟩:=I.look
 refine PySem.W.set_plain X J hs (PySem.W.osa_open (s:={s with toks:=s.toks+1}) (r:=none) X J hp ht fun b=>?_)
 obtain⟨cd,hc,hd'⟩:=PySem.W.any_some hh
 have hx:s.heap.get? x=some ⟨.ref C,some dx,.plain,#[]⟩:=I.obj
 refine zE (zR (zE (zE (wpAny_loadPart hx (zE (PySem.W.Looks.here (s:={s with toks:=s.toks+1}) (PySem.W.looks_clsIn X hc) ?_))))))
 rw[hd']
 refine zR (a:=some dx) (zE (zR (zE ?_)))
 refine wpAny_nsSet1 (s:={s with toks:=s.toks+1}) I.ns fun h' hn2 hs2=>?_
 obtain⟨oD,esD,epD,hoD,hdD,hcD⟩:=hn2.count (DZ name v hw)
 refine zE (EM hoD (by rw[hdD];exact EO (yO hcD (by rw[zJ];(first|lia|omega)))) ?_)
 exact zR (h _ ⟨(hs2.2 _ (Ne.symm I.ne)).trans I.obj,hn2,I.ne⟩ hs2)

theorem UC {R:Result->Shared->Prop}{vs:List Value}{kw:List (Str×Value)}(X:K.In s.heap)(hm:PySem.W.makesIn K C=true)
  (hi:PySem.W.findIn K (.ref C) "__init__"=some (some (.ref f))) (hf:PySem.W.typeIn K (.ref f)=some (.type "function"))
  (h:codeAny (model prog w) (A.under (.builtin "type.__call__" ⟨.ref C::vs,kw⟩)) (.call (.ref f) ⟨.ref (s.heap.objs.size+1)::vs,kw⟩) (PySem.W.InitBack (s.heap.objs.size+1) R)
   {s with heap:=(s.heap.push PySem.W.emptyDict).push (PySem.W.instObj C s.heap.objs.size)}):
  codeAny (model prog w) A (.call (.ref C) ⟨vs,kw⟩) R s:=by
 obtain⟨hh,g,d,t,os⟩:=s
 exact PySem.W.make_core (PySem.W.makes_of X hm) (PySem.W.looks_findIn X hi) (fun self=>PySem.W.bind_fn X self hf) (.inl rfl) h
end

def Fl (f:Str)(v:V):List (Str×V)->List (Str×V)
 |[]=>[(f,v)]
 |(g,x)::r=>if g=f then(g,v)::r else(g,x)::Fl f v r
theorem Ge (f g:Str)(v:V): ∀fs:List (Str×V),(Fl f v fs).lookup g=if g=f then some v else fs.lookup g
 |[]=>by
  show List.lookup g [(f,v)]=_
  by_cases h:g=f
  ·have hb:(g==f)=true:=beq_iff_eq.mpr h
   simp only[List.lookup,hb,zW h]
  ·have hb:(g==f)=false:=beq_eq_false_iff_ne.mpr h
   simp only[List.lookup,hb,zL h]
 |(k,x)::r=>by
  have ih:=Ge f g v r
  rw[show Fl f v ((k,x)::r)=(if k=f then(k,v)::r else(k,x)::Fl f v r)from rfl]
  by_cases hk:k=f
  ·rw[zW hk]
   by_cases h:g=k
   ·have hb:(g==k)=true:=beq_iff_eq.mpr h
    simp only[List.lookup,hb,zW (h.trans hk)]
   ·have hb:(g==k)=false:=beq_eq_false_iff_ne.mpr h
    simp only[List.lookup,hb,zL (fun e:g=f=>h (e.trans hk.symm))]
  ·rw[zL hk]
   by_cases h:g=k
   ·have hb:(g==k)=true:=beq_iff_eq.mpr h
    simp only[List.lookup,hb,zL (fun e:g=f=>hk (h.symm.trans e))]
   ·have hb:(g==k)=false:=beq_eq_false_iff_ne.mpr h
    simp only[List.lookup,hb]
    exact ih
theorem ED (f:Str)(v:V): ∀fs:List (Str×V),f∈(Fl f v fs).map (·.1)/\ ∀g,g∈fs.map (·.1)->g∈(Fl f v fs).map (·.1)
 |[]=>⟨by simp[Fl],fun g h=>by simp at h⟩
 |(k,x)::r=>by
  obtain⟨i1,i2⟩:=ED f v r
  rw[show Fl f v ((k,x)::r)=(if k=f then(k,v)::r else(k,x)::Fl f v r)from rfl]
  by_cases hk:k=f
  ·rw[zW hk]
   subst hk
   exact⟨by simp,fun g h=>by simpa using h⟩
  ·rw[zL hk]
   refine⟨?_,fun g h=>?_⟩
   ·rw[yK]
    exact zT _ i1
   ·rw[yK]at h ⊢
    rcases List.mem_cons.mp h with e|e
    ·exact List.mem_cons.mpr (.inl e)
    ·exact zT _ (i2 g e)
theorem Ji (f:Str)(v:V): ∀fs:List (Str×V),(Fl f v fs).length<=fs.length+1
 |[]=>by simp[Fl]
 |(k,x)::r=>by
  have ih:=Ji f v r
  rw[show Fl f v ((k,x)::r)=(if k=f then(k,v)::r else(k,x)::Fl f v r)from rfl]
  by_cases hk:k=f
  ·rw[zW hk,zJ,zJ];(first|lia|omega)
  ·rw[zL hk,zJ,zJ];(first|lia|omega)

theorem Dx.some_of {v:V}{o:Option Value}(r:Dx (some v) o): ∃u,o=some u/\kB v u:=by
 cases o with
 |none=>exact(show False from r).elim
 |some u=>exact⟨u,rfl,r⟩
theorem Dx.none_of {o:Option Value}(r:Dx none o):o=none:=by
 cases o with
 |none=>rfl
 |some u=>exact(show False from r).elim
theorem Sv {v:V}{u:Value}(r:kB v u):PySem.W.handedIn u=true:=by
 cases v with
 |non=>cases(show u=Value.none from r);rfl
 |bl b=>cases(show u=Value.bool b from r);rfl
 |int i=>obtain⟨t,e⟩:=(show ∃t,u=Value.int i t from r);cases e;rfl
 |str x=>obtain⟨t,e⟩:=(show ∃t,u=Value.str x t from r);cases e;rfl
 |byt b=>obtain⟨t,e⟩:=(show ∃t,u=Value.bytes b t from r);cases e;rfl
 |flt b=>obtain⟨t,e⟩:=(show ∃t,u=Value.float b t from r);cases e;rfl
 |ref a=>cases(show u=Value.ref a from r);rfl
 |ty n=>cases(show u=Value.type n from r);rfl

section
variable {P:Program}{w:World}{H H':Hp}{h h':Heap}{a C dx:Addr}{fs fs':List (Str×V)}
theorem JE (hok:GL P w H h)(e:H a=some (.ins C dx fs)): ∃mA,Qs h a dx C mA/\(∀f,Dx (fs.lookup f) (mA f))/\PySem.Within mA (fs.map (·.1))/\fs.length<=1000/\H dx=some (.own a):=by
 obtain⟨d,z,ne,ob,mA,n,r,q⟩:=(show wI P w H h a (.ins C dx fs)from hok a _ e)
 exact⟨mA,⟨ob,n,ne⟩,r,q,z,d⟩
end

structure RC (K:PySem.W.Frag)(C:Addr):Prop where
 pg:PySem.W.plainGet K C Str.empty=true
 hd:PySem.W.hasDictIn K C=true
 po:PySem.W.plainOver K C=true
 sa:PySem.W.findIn K (.ref C) "__setattr__"=some (some (.builtin "object.__setattr__"))
theorem RC.get {K:PySem.W.Frag}{C:Addr}(c:RC K C)(f:Str):PySem.W.plainGet K C f=true:=c.pg
def vT (K:PySem.W.Frag)(C:Addr)(f:Str):Prop:=PySem.W.findIn K (.ref C) f=some none
theorem vT.taker {K:PySem.W.Frag}{C:Addr}{f:Str}(n:vT K C f):PySem.W.takerIn K C f=some none:=by
 unfold PySem.W.takerIn
 rw[show PySem.W.findIn K (.ref C) f=some none from n]
 rfl
structure WF (K:PySem.W.Frag)(C:Addr)(m:Str)(f:Addr):Prop where
 at_:PySem.W.findIn K (.ref C) m=some (some (.ref f))
 fn:PySem.W.isFn K (.ref f)=true
 kp:PySem.W.keepIn K (.ref f)=true

section
variable {X:Cx}{pins:List (Addr×Obj)}{σ:St}{H:Hp}{s:Shared}{a C dx:Addr}{fs:List (Str×V)}{f:Str}{v:V}{A:Around}{E:Value->Shared->Prop}

theorem Ky {b:Bool}{Q:Value->Shared->Prop}(I:xM X pins σ H s)(e:H a=some (.ins C dx fs))(c:RC X.K C)(n:vT X.K C f)(l:fs.lookup f=some v)
  (h: ∀u s',xM X pins σ H s'->kB v u->Q u s'):wpAny (model X.prog X.w) A (getAttr (.ref a) f b) Q E s:=by
 obtain⟨mA,O,r,_,_,_⟩:=JE I.hok e
 obtain⟨u,hu,ru⟩:=Dx.some_of (v:=v) (o:=mA f) (by rw[<-l];exact r f)
 exact Wp I.kIn O (c.get f) c.hd n hu (Sv ru) (h u _ (I.tok _) ru)

theorem Kx {m:Str}{g:Addr}{pl:Sem Bool}{Q:Value×List Value->Shared->Prop}(I:xM X pins σ H s)(e:H a=some (.ins C dx fs))(c:RC X.K C)(k:WF X.K C m g)(l:fs.lookup m=none)
  (h:Q (.ref g,[.ref a]) s):wpAny (model X.prog X.w) A (getMethod (.ref a) m pl) Q E s:=by
 obtain⟨mA,O,r,_,_,_⟩:=JE I.hok e
 have hn:mA m=none:=Dx.none_of (by rw[<-l];exact r m)
 exact UT I.kIn O (c.get m) k.at_ k.fn hn h

theorem JX {y:V}{u:Value}{Q:Unit->Shared->Prop}(I:xM X pins σ H s)(e:H a=some (.ins C dx fs))(c:RC X.K C)(n:vT X.K C f)(hl:fs.length<1000)(ry:kB y u)
  (h: ∀s',xM X pins σ (upd H a (.ins C dx (Fl f y fs))) s'->Q () s'):wpAny (model X.prog X.w) A (setAttr (.ref a) f u) Q E s:=by
 obtain⟨mA,O,r,wi,_,ho⟩:=JE I.hok e
 have hz:(fs.map (·.1)).length<=sizeLine:=by rw[zD,At];(first|lia|omega)
 refine VN I.kIn O c.sa c.po n.taker c.hd wi hz fun h' O' sb=>h _ ?_
 have hd: ∃o,h'.get? dx=some o:=let⟨o,_,_,e',_⟩:=O'.ns;⟨o,e'⟩
 refine I.write (x:=a) (e:=dx) (by rw[e];exact True.intro) (.inr ho) (fun b q hb z=>(sb.2 b hb).trans z) hd ?_
 refine⟨by rw[zQ O.ne];exact ho,?_,O.ne,O'.obj,_,O'.ns,fun g=>?_,fun g hg=>?_⟩
 ·have:=Ji f y fs;(first|lia|omega)
 ·show Dx ((Fl f y fs).lookup g) (if g=f then some u else mA g)
  rw[Ge]
  by_cases q:g=f
  ·rw[zW q,zW q];exact ry
  ·rw[zL q,zL q];exact r g
 ·by_cases q:g=f
  ·rw[q];exact(ED f y fs).1
  ·refine(ED f y fs).2 g (wi g fun z=>hg ?_)
   show(if g=f then some u else mA g)=none
   rw[zL q];exact z

theorem xM.made (I:xM X pins σ H s):xM X pins σ (upd (upd H s.heap.objs.size (.own (s.heap.objs.size+1))) (s.heap.objs.size+1) (.ins C s.heap.objs.size []))
  {s with heap:=(s.heap.push PySem.W.emptyDict).push (PySem.W.instObj C s.heap.objs.size)}:=by
 have e1:(s.heap.push PySem.W.emptyDict).get? s.heap.objs.size=some PySem.W.emptyDict:=yG s.heap rfl
 have e2:((s.heap.push PySem.W.emptyDict).push (PySem.W.instObj C s.heap.objs.size)).get? (s.heap.objs.size+1)=some (PySem.W.instObj C s.heap.objs.size):=by
  have:=yG (s.heap.push PySem.W.emptyDict) (o:=PySem.W.instObj C s.heap.objs.size) rfl
  rwa [Au]at this
 have e3:(s.heap.push PySem.W.emptyDict).Ns s.heap.objs.size (fun _=>none):=⟨PySem.W.emptyDict,#[],_,e1,rfl,(fun e he=>absurd he (by simp)),fun _=>rfl⟩
 have I1:=I.laid (a:=s.heap.objs.size) (o:=.own (s.heap.objs.size+1)) (h':=s.heap.push PySem.W.emptyDict) (t':=s.toks) (fun b u q=>zI _ q) (zS _) ⟨_,e1⟩
 refine I1.laid (a:=s.heap.objs.size+1) (o:=.ins C s.heap.objs.size []) (t':=s.toks) (fun b u q=>zI _ q) (Nat.le_of_eq (Au _ _)) ?_
 have ne:s.heap.objs.size≠s.heap.objs.size+1:=xK (wR _)
 refine⟨by rw[zQ ne,zG],yZ _,ne,e2,fun _=>none,(Heap.Ns1.of_empty e3).at fun o q=>zI _ q,fun _=>True.intro,fun y hy=>absurd rfl hy⟩

theorem WB {prog:Program}{w:World}{env:Env}{e:Expr}{f:Str}{pos:Pos}{s:Shared}{Q:Value->Shared->Prop}(hb:attributeBase e f env (eval e env)=eval e env)
  (h:wpAny (model prog w) A (eval e env) (fun o s₁=>wpAny (model prog w) A (getAttr o f true) Q E s₁) E s):wpAny (model prog w) A (eval (.Attribute e f pos) env) Q E s:=
 Attribute_any_ h (by rw[arm_eval_Attribute,hb])
end

inductive WM (K:PySem.W.Frag) (f:Str) (x:V) (H1:Hp) (Q:VK):Prop
 |mk (a C dx fs v:_) (h0:x=.ref a) (h1:H1 a=some (.ins C dx fs)) (h2:RC K C) (h3:vT K C f) (h4:fs.lookup f=some v) (h5:Q v H1):WM K f x H1 Q
def zAt (K:PySem.W.Frag)(ta:TE)(f:Str):TE:=fun σ H Q=>ta σ H fun x H1=>WM K f x H1 Q
def zAz (K:PySem.W.Frag)(ta tv:TE)(f:Str):TS:=fun D σ H=>tv σ H fun y H1=>ta σ H1 fun x H2=> ∃a C dx fs,x=.ref a/\H2 a=some (.ins C dx fs)/\RC K C/\vT K C f/\fs.length<1000/\
 D.nx σ (upd H2 a (.ins C dx (Fl f y fs)))
def ZK (X:Cx)(op:Operator)(rd:V->V->Hp->VK->Prop):Prop:=
 ∀(pins:List (Addr×Obj)) (s:Shared) (σ:St) (H:Hp) (x y:V) (u v:Value) (Q:VK),xM X pins σ H s->kB x u->kB y v->rd x y H Q->wpAny (model X.prog X.w) X.A (inplaceOp op u v) (EP X pins σ Q) X.xe s
def VO (K:PySem.W.Frag)(ta tv:TE)(rd:V->V->Hp->VK->Prop)(f:Str):TS:=fun D σ H=>ta σ H fun x H1=> ∃a C dx fs v,x=.ref a/\H1 a=some (.ins C dx fs)/\RC K C/\vT K C f/\fs.lookup f=some v/\
 tv σ H1 fun y H2=>rd v y H2 fun z H3=> ∃dx' fs',H3 a=some (.ins C dx' fs')/\fs'.length<1000/\D.nx σ (upd H3 a (.ins C dx' (Fl f z fs')))

section
variable {X:Cx}{o e value:Expr}{f:Str}{pos pos' tpos:Pos}{ta tv:TE}
theorem jT (he:PE X e ta)(hb:attributeBase e f X.env (eval e X.env)=eval e X.env):PE X (.Attribute e f pos) (zAt X.K ta f):=by
 refine⟨?_⟩
 intro pins s σ H Q I h
 refine WB hb (qR (he pins s σ H _ I h) fun u s1 hzz=>?_)
 obtain⟨x,H1,I1,rx,a,C,dx,fs,v,ex,ea,c,n,l,q⟩:=hzz
 subst ex
 obtain rfl:u=Value.ref a:=rx
 exact Ky I1 ea c n l fun u' s2 I2 ru=>⟨v,H1,I2,ru,q⟩
theorem Fm (ha:PE X o ta)(hv:PE X value tv)(hs:swapsWith value (some (.Attribute o f pos')) pos.line X.env=pure false):PS X (.Assign [.Attribute o f pos'] value pos) (zAz X.K ta tv f):=by
 refine⟨?_⟩
 intro pins s σ H D I h
 refine BK (qR (hv pins s σ H _ I h) fun u s1 ⟨y,H1,I1,ry,q⟩=>qR (ha pins s1 σ H1 _ I1 q) fun ov s2 ⟨x,H2,I2,rx,a,C,dx,fs,ex,ea,c,n,l,q2⟩=>?_) hs
 subst ex
 obtain rfl:ov=Value.ref a:=rx
 exact JX I2 ea c n l ry fun s3 I3=>⟨σ,_,I3,q2⟩
theorem Be {op:Operator}{rd:V->V->Hp->VK->Prop}(ha:PE X o ta)(hv:PE X value tv)(hop:ZK X op rd):PS X (.AugAssign (.Attribute o f tpos) op value pos) (VO X.K ta tv rd f):=by
 refine⟨?_⟩
 intro pins s σ H D I h
 refine wpAny_AugAssign_AttributeAny (qR (ha pins s σ H _ I h) fun ov s1 hzz=>?_)
 obtain⟨x,H1,I1,rx,a,C,dx,fs,v,ex,ea,c,n,l,q⟩:=hzz
 subst ex
 obtain rfl:ov=Value.ref a:=rx
 refine Ky I1 ea c n l fun u s2 I2 ru=>qR (hv pins s2 σ H1 _ I2 q) fun w3 s3 ⟨y,H2,I3,ry,q3⟩=>qR (hop pins s3 σ H2 v y u w3 _ I3 ru ry q3) fun w4 s4 hzz=>?_
 obtain⟨z,H3,I4,rz,dx',fs',ea',l',q4⟩:=hzz
 exact JX I4 ea' c n l' rz fun s5 I5=>⟨σ,_,I5,q4⟩
def zBc:V->V->Hp->VK->Prop:=fun x y H Q=> ∃i j,x=.int i/\y=.int j/\Q (.int (i+j)) H
theorem Gg:ZK X .Add zBc:=by
 rintro pins s σ H x y u v Q I rx ry ⟨i,j,rfl,rfl,q⟩
 obtain⟨t,rfl⟩:=(show ∃t,u=Value.int i t from rx)
 obtain⟨t',rfl⟩:=(show ∃t',v=Value.int j t' from ry)
 exact PyProof.Rows.iadd_int ⟨.int (i+j),H,I.tok _,⟨_,rfl⟩,q⟩
end

section
variable {X:Cx}{pins:List (Addr×Obj)}{σ:St}{H:Hp}{s:Shared}{A:Around}{E:Value->Shared->Prop}{Q:Value->Shared->Prop}{c:Value}{b:Bool}
inductive Ij (K:PySem.W.Frag) (H:Hp):V->Value->Prop where
 |non:Ij K H .non (.type "NoneType")
 |bl (x:Bool):Ij K H (.bl x) (.type "bool")
 |int (i:Int):Ij K H (.int i) (.type "int")
 |str (x:Str):Ij K H (.str x) (.type "str")
 |flt (x:UInt64):Ij K H (.flt x) (.type "float")
 |lst {a:Addr} {xs:List V} (e:H a=some (.lst xs)):Ij K H (.ref a) (.type "list")
 |frz {a:Addr} {o:Obj} {xs:List V} (e:H a=some (.frz o (.lst xs))):Ij K H (.ref a) (.type "list")
 |tup {a:Addr} {xs:List V} (e:H a=some (.tup xs)):Ij K H (.ref a) (.type "tuple")
 |dK {a:Addr} {kvs:List (Bj×V)} (e:H a=some (.dK kvs)):Ij K H (.ref a) (.type "dict")
 |dT {a:Addr} {kvs:List (List Bj×V)} (e:H a=some (.dT kvs)):Ij K H (.ref a) (.type "dict")
 |ins {a C dx:Addr} {fs:List (Str×V)} (e:H a=some (.ins C dx fs)) (cl:RC K C) (ha:PySem.W.findIn K (.ref C) "__class__"=some (some (.builtin "object.__class__")))
   (hn:PySem.W.specialIn K (.builtin "object.__class__") "__get__"=some (some (.builtin "getset_descriptor.__get__"))) (htk:PySem.W.takesIn K (.builtin "object.__class__")=some true)
   (hm:PySem.W.mroIn K C (.type "object")=some true):Ij K H (.ref a) (.ref C)
theorem LM {x:V}{u t:Value}(I:xM X pins σ H s)(rx:kB x u)(ty:Ij X.K H x t)(e:PySem.W.kitOne X.K t c=some b)(h: ∀tk,Q (.bool b) {s with toks:=tk}):
  wpAny (model X.prog X.w) A (call (.builtin "isinstance") [u,c]) Q E s:=by
 cases ty with
 |non=>cases(show u=Value.none from rx);exact kP PySem.W.kitx_none I.kIn True.intro e (fun z=>nomatch z) h
 |bl y=>cases(show u=Value.bool y from rx);exact kP PySem.W.kitx_bool I.kIn True.intro e (fun z=>nomatch z) h
 |int i=>obtain⟨t,q⟩:=(show ∃t,u=Value.int i t from rx);cases q;exact kP PySem.W.kitx_int I.kIn True.intro e (fun z=>nomatch z) h
 |str y=>obtain⟨t,q⟩:=(show ∃t,u=Value.str y t from rx);cases q;exact kP PySem.W.kitx_str I.kIn True.intro e (fun z=>nomatch z) h
 |flt y=>obtain⟨t,q⟩:=(show ∃t,u=Value.float y t from rx);cases q;exact kP PySem.W.kitx_float I.kIn True.intro e (fun z=>nomatch z) h
 |@lst a xs ea=>
  cases(show u=Value.ref a from rx)
  obtain⟨_,_,n,_,h1⟩:=(show wI X.prog X.w H s.heap a (.lst xs)from I.hok a _ ea)
  exact kP PySem.W.kitx_list I.kIn ⟨_,h1,rfl⟩ e (fun z=>nomatch z) h
 |@frz a ob xs ea=>
  cases(show u=Value.ref a from rx)
  obtain⟨_,_,_,n,_,h1⟩:=(show wI X.prog X.w H s.heap a (.frz ob (.lst xs))from I.hok a _ ea)
  exact kP PySem.W.kitx_list I.kIn ⟨_,h1,rfl⟩ e (fun z=>nomatch z) h
 |@tup a xs ea=>
  cases(show u=Value.ref a from rx)
  obtain⟨_,_,_,p⟩:=(show wI X.prog X.w H s.heap a (.tup xs)from I.hok a _ ea)
  obtain⟨o,h1,h2,_⟩:=p
  exact kP PySem.W.kitx_tuple I.kIn ⟨o,h1,h2⟩ e (fun z=>nomatch z) h
 |@dK a kvs ea=>
  cases(show u=Value.ref a from rx)
  obtain⟨_,_,vs,_,p⟩:=(show wI X.prog X.w H s.heap a (.dK kvs)from I.hok a _ ea)
  obtain⟨o,es,ep,h1,h2,_⟩:=p
  exact kP PySem.W.kitx_dict I.kIn ⟨o,h1,h2.1⟩ e (fun z=>nomatch z) h
 |@dT a kvs ea=>
  cases(show u=Value.ref a from rx)
  obtain⟨_,_,xs,_,o,es,ep,h1,h2,_⟩:=(show wI X.prog X.w H s.heap a (.dT kvs)from I.hok a _ ea)
  exact kP PySem.W.kitx_dict I.kIn ⟨o,h1,h2.1⟩ e (fun z=>nomatch z) h
 |@ins a C dx fs ea cl ha hn htk hm=>
  cases(show u=Value.ref a from rx)
  obtain⟨mA,O,_⟩:=JE I.hok ea
  obtain⟨od,J,_⟩:=O.look
  exact kP (PySem.W.kitx_own (cl.get _) cl.hd ha hn htk hm) I.kIn J e (fun z=>nomatch z) h
end
end L2

namespace L2
open PySem PySem.Spec PyProof.Rows

structure uD (k:Nat)(A:Around):Prop where
 hd:A.handled=none
 dp:A.depth+3*k+5<recursionLimit
 un:A.units+16*k+200<cLine
theorem uD.mono {j k:Nat}{A:Around}(r:uD k A)(h:j<=k):uD j A:=⟨r.hd,by have:=r.dp;(first|lia|omega),by have:=r.un;(first|lia|omega)⟩
theorem uD.deeper {k:Nat}{A:Around}(r:uD (k+1) A)(env:Env):uD k (A.deeper env):=
 ⟨r.hd,by have:=r.dp;show A.depth+1+3*k+5<_;(first|lia|omega),by have:=r.un;show A.units+3+16*k+200<_;(first|lia|omega)⟩
theorem Qc {A:Around}{C:Addr}{us:List Value}{kw:List (Str×Value)}:(A.under (.builtin "type.__call__" ⟨.ref C::us,kw⟩)).depth =A.depth+1:=by
 first|rfl|simp[Around.under,Code.weight,Code.isCreation,Code.isGuard,Code.isCaller,Code.frames,Code.isFrame,guardIds]
theorem Qb {A:Around}{C:Addr}{us:List Value}{kw:List (Str×Value)}:(A.under (.builtin "type.__call__" ⟨.ref C::us,kw⟩)).units =A.units+1:=by
 first|rfl|simp[Around.under,Code.cUnits,Code.frames,Code.isFrame]
theorem uD.make {k:Nat}{A:Around}(r:uD (k+1) A)(C:Addr)(us:List Value)(kw:List (Str×Value)):uD k (A.under (.builtin "type.__call__" ⟨.ref C::us,kw⟩)):=
 ⟨r.hd,by have:=r.dp;rw[Qc];(first|lia|omega),by have:=r.un;rw[Qb];(first|lia|omega)⟩
theorem uD.depth {k:Nat}{A:Around}(r:uD k A):A.depth<recursionLimit:=by have:=r.dp;(first|lia|omega)
theorem uD.units {k:Nat}{A:Around}(r:uD k A):A.units+64<cLine:=by have:=r.un;(first|lia|omega)
def Tl:TA:=fun _ H Q=>Q [] H
def YO (ta:TE)(tr:TA):TA:=fun σ H Q=>ta σ H fun x H1=>tr σ H1 fun xs H2=>Q (x::xs) H2
section
variable {X:Cx}{e:Expr}{es:List Expr}{te:TE}{t:TA}{pos:Pos}
theorem zH:PA X [] Tl:=⟨fun _ _ _ _ H Q I h=>Ag ⟨[],H,I,.nil,h⟩⟩
theorem zA (ha:PE X e te)(hr:PA X es t)(hs:starEach (e::es) X.env=(false,eval e X.env)::starEach es X.env:=by rfl):PA X (e::es) (YO te t):=by
 refine⟨?_⟩
 intro pos pins s σ H Q I h
 rw[hs]
 show wpAny _ _ (spliced ((false,eval e X.env)::backTo pos (starEach es X.env))) _ _ s
 refine qF (qR (ha pins s σ H _ I h) fun u s1 hzz=>?_)
 obtain⟨x,H1,I1,r1,q1⟩:=hzz
 exact qR (hr pos pins s1 σ H1 _ I1 q1) fun us s2 ⟨xs,H2,I2,r2,q2⟩=>⟨x::xs,H2,I2,.cons r1 r2,q2⟩

inductive QA (xs:List V) (H1:Hp) (Q:VK):Prop
 |mk (h0:xs.length<=sizeLine) (h1: ∀p,H1 p=none->Q (.ref p) (upd H1 p (.tup xs))):QA xs H1 Q
def zAm (t:TA):TE:=fun σ H Q=>t σ H fun xs H1=>QA xs H1 Q
inductive WL (xs:List V) (H1:Hp) (Q:VK):Prop
 |mk (h0:xs.length<=sizeLine) (h1: ∀p,H1 p=none->Q (.ref p) (upd H1 p (.lst xs))):WL xs H1 Q
def zAq (t:TA):TE:=fun σ H Q=>t σ H fun xs H1=>WL xs H1 Q
theorem qD {x1}(h:PA X es t):PE X (.Tuple es x1 pos) (zAm t):=by
 refine⟨?_⟩
 intro pins s σ H Q I hq
 refine wpAny_Tuple_spliced (qR (h pos pins s σ H _ I hq) fun us s1 ⟨xs,H1,I1,r,z,q⟩=>⟨by rw[<-r.length];exact z,?_⟩)
 have hf:H1 s1.heap.objs.size=none:=I1.hok.fresh (zS _)
 refine⟨.ref s1.heap.objs.size,upd H1 s1.heap.objs.size (.tup xs),I1.laid (t':=s1.toks) (fun b u e=>zI _ e) (zS _) ?_,rfl,q _ hf⟩
 exact⟨z,us,r,⟨_,yG _ rfl,rfl,_,rfl⟩⟩
theorem jN (h:PA X es t):PE X (.List es pos) (zAq t):=by
 refine⟨?_⟩
 intro pins s σ H Q I hq
 refine wpAny_List_spliced (qR (h pos pins s σ H _ I hq) fun us s1 ⟨xs,H1,I1,r,z,q⟩=>⟨by rw[<-r.length];exact z,?_⟩)
 have hf:H1 s1.heap.objs.size=none:=I1.hok.fresh (zS _)
 refine⟨.ref s1.heap.objs.size,upd H1 s1.heap.objs.size (.lst xs),I1.laid (t':=s1.toks) (fun b u e=>zI _ e) (zS _) ?_,rfl,q _ hf⟩
 exact⟨z,us,0,r,yG _ rfl⟩
end

abbrev Sp:=List V->Hp->VK->XK->Prop
abbrev Jr:=List Env->Hp->Shared->XK->Value->Shared->Prop

structure Qx (P:Program)(w:World)(K:PySem.W.Frag)(mg:Str->Option Value)(base:Heap)(A:Around)(outer:List Env)(s:Shared)(H:Hp):Prop where
 frames:A.frames=some outer
 mod:Mod K mg base
 bs: ∀b o,base.get? b=some o->s.heap.get? b=some o/\H b=none
 bsz:base.objs.size<=s.heap.objs.size
 funs:s.heap.FunFrames base outer
 frf: ∀b∈frs outer,H b=none
 hok:GL P w H s.heap
 bare:AllBare s.gens
def CE (outer:List Env)(P:Program)(w:World)(H:Hp)(s:Shared)(Q:VK)(u:Value)(s':Shared):Prop:=
 ∃v H',s'.os=s.os/\AllBare s'.gens/\Un (frs outer) [] H H' s.heap s'.heap/\GL P w H' s'.heap/\kB v u/\Q v H'
def CR (CX:Jr)(outer:List Env)(P:Program)(w:World)(H:Hp)(s:Shared)(Q:VK)(E:XK)(r:Result)(s':Shared):Prop:=
 match r with
 | .ok (.ret u)=>CE outer P w H s Q u s'
 | .ok _=>False
 | .error e=>CX outer H s E e s'
structure jV (P:Program)(w:World)(K:PySem.W.Frag)(mg:Str->Option Value)(base:Heap)(CX:Jr)(k:Nat)(f:Addr)(fd:FuncData)(ps:List Str)(sp:Sp):Prop where
 len: ∀vs H Q E,sp vs H Q E->vs.length=ps.length
 run: ∀(A:Around) (outer:List Env) (s:Shared) (H:Hp) (args:Args) (us:List Value) (vs:List V) (Q:VK) (E:XK),uD k A->Qx P w K mg base A outer s H->BindsTo s fd args (ps.zip us)->jP vs us->sp vs H Q E->
  codeAny (model P w) A (.call (.ref f) args) (CR CX outer P w H s Q E) s
theorem Qx.make {P:Program}{w:World}{K:PySem.W.Frag}{mg:Str->Option Value}{base:Heap}{A:Around}{outer:List Env}{s:Shared}{H:Hp}(e:Qx P w K mg base A outer s H)(C:Addr)(us:List Value)(kw:List (Str×Value)):
  Qx P w K mg base (A.under (.builtin "type.__call__" ⟨.ref C::us,kw⟩)) outer s H:=⟨by first|exact e.frames|(simpa[Around.under,Code.envs,Code.isFrame,pushEnvs]using e.frames),e.mod,e.bs,e.bsz,e.funs,e.frf,e.hok,e.bare⟩
section
variable {X:Cx}{pins:List (Addr×Obj)}{σ:St}{H:Hp}{s s':Shared}
theorem xM.env0 (I:xM X pins σ H s):Qx X.prog X.w X.K X.mg X.base X.A X.stack s H:=
 ⟨I.ok.frames,I.ok.mod,I.bs,yO I.ok.bsz I.sz,I.stack,I.stkFree,I.hok,I.bare⟩
theorem xM.after {Q:VK}{u:Value}(I:xM X pins σ H s)(h:CE X.stack X.prog X.w H s Q u s'):EP X pins σ Q u s':=by
 obtain⟨v,H',os,bare,un,hok,r,q⟩:=h
 obtain⟨hh,g,d,t,os'⟩:=s'
 obtain rfl:os'=s.os:=os
 exact⟨v,H',I.call (h':=hh) (g':=g) (d':=d) (t':=t) (ch:=[]) un hok bare (fun b z=>absurd z (by simp)),r,q⟩
end

def QC (sp:Sp)(dvs:List V)(E:XK)(t:TA):TE:=fun σ H Q=>t σ H fun vs H1=>sp (vs++dvs) H1 Q E
inductive Tm (C:Addr) (m:Str) (sp:Sp) (dvs:List V) (E:XK) (t:TA) (σ:St) (x:V) (H1:Hp) (Q:VK):Prop
 |mk (a dx fs:_) (h0:x=.ref a) (h1:H1 a=some (.ins C dx fs)) (h2:fs.lookup m=none) (h3:t σ H1 fun vs H2=>sp (x::(vs++dvs)) H2 Q E):Tm C m sp dvs E t σ x H1 Q
def QB (C:Addr)(m:Str)(sp:Sp)(dvs:List V)(E:XK)(ta:TE)(t:TA):TE:=fun σ H Q=>ta σ H fun x H1=>Tm C m sp dvs E t σ x H1 Q
def WK (C:Addr)(sp:Sp)(dvs:List V)(E:XK)(t:TA):TE:=fun σ H Q=>t σ H fun vs H1=> ∀x dx,H1 x=none->H1 dx=none->dx≠x->
 sp (.ref x::(vs++dvs)) (upd (upd H1 dx (.own x)) x (.ins C dx [])) (fun v H2=>v=.non/\Q (.ref x) H2) E

def vU (K:PySem.W.Frag)(fd:FuncData)(ps:List Str)(ds:List Value):Prop:=
 ∀(s:Shared) (us:List Value),K.In s.heap->(us++ds).length =ps.length->BindsTo s fd ⟨us,[]⟩ (ps.zip (us++ds))
theorem vU.all {K:PySem.W.Frag}{fd:FuncData}{ps:List Str}(h: ∀us:List Value,us.length=ps.length->bindArgs fd ⟨us,[]⟩=pure (ps.zip us)):vU K fd ps []:=fun s us _ hl=>by
 rw[yX]at hl ⊢
 exact .of_eq (h us hl)

def AZ (CX:Jr)(X:Cx)(E:XK):Prop:= ∀(pins:List (Addr×Obj)) (σ:St) (H:Hp) (s:Shared) (e:Value) (s':Shared),xM X pins σ H s->CX X.stack H s E e s'->X.xe e s'

section
variable {X:Cx}{CX:Jr}{k:Nat}{f C:Addr}{fd:FuncData}{ps:List Str}{sp:Sp}{dvs:List V}{ds:List Value}{E:XK}{x m:Str}{p pos apos:Pos}{e o:Expr}{es:List Expr}{ta:TE}{t:TA}

theorem MI {pins:List (Addr×Obj)}{σ:St}{H:Hp}{s:Shared}{Q:VK}{us:List Value}{vs:List V}(F:jV X.prog X.w X.K X.mg X.base CX k f fd ps sp)(hr:uD k X.A)(hb:vU X.K fd ps ds)(hd:jP dvs ds)(hx:AZ CX X E)
  (I:xM X pins σ H s) (r:jP vs us) (h:sp (vs++dvs) H Q E):wpAny (model X.prog X.w) X.A (call (.ref f) us) (EP X pins σ Q) X.xe s:=by
 have r2:jP (vs++dvs) (us++ds):=r.append hd
 have hl:(us++ds).length =ps.length:=by rw[<-r2.length];exact F.len _ _ _ _ h
 refine wpAny_call (BD (F.run X.A X.stack s H ⟨us,[]⟩ (us++ds) (vs++dvs) Q E hr I.env0 (hb s us I.kIn hl) r2 h) fun r s' hq=>?_)
 cases r with
 |error e=>exact hx pins σ H s e s' I hq
 |ok fl=>
  cases fl with
  |ret u=>exact I.after hq
  |next=>exact False.elim hq
  |brk=>exact False.elim hq
  |cont=>exact False.elim hq

theorem Wa (F:jV X.prog X.w X.K X.mg X.base CX k f fd ps sp)(hr:uD k X.A)(hg:Gl X x)(hm:X.mg x=some (.ref f))(hk:PySem.W.keepIn X.K (.ref f)=true)(hb:vU X.K fd ps ds)(hd:jP dvs ds)(hx:AZ CX X E)
  (ha:PA X (e::es) t) (hdb:(x==("__debug__":Str))=false:=by decide) (he:starEach (e::es) X.env=(false,eval e X.env)::starEach es X.env:=by rfl) (hpl:(backTo pos (starEach es X.env)).any (·.1)=false:=by rfl):
  PE X (.Call (.Name x p) (e::es) [] pos) (QC sp dvs E t):=by
 refine⟨?_⟩
 intro pins s σ H Q I h
 refine wX (HZ I hg hm ?_ hdb)
 refine Bb (h₀:=X.base) I.ok.mod.kin hk (qR (ha pos pins s σ H _ I h) fun us s1 ⟨vs,H1,I1,r,q⟩=>⟨I1.kIn,?_⟩) he hpl
 exact MI F hr hb hd hx I1 r q
theorem Ub (F:jV X.prog X.w X.K X.mg X.base CX k f fd ps sp)(hr:uD k X.A)(hg:Gl X x)(hm:X.mg x=some (.ref f))(hk:PySem.W.keepIn X.K (.ref f)=true)(hb:vU X.K fd ps ds)(hd:jP dvs ds)(hx:AZ CX X E)
  (hdb:(x==("__debug__":Str))=false:=by decide):PE X (.Call (.Name x p) [] [] pos) (QC sp dvs E Tl):=by
 refine⟨?_⟩
 intro pins s σ H Q I h
 refine wX (HZ I hg hm ?_ hdb)
 exact PySem.W.callWith_K0 I.kIn hk (MI (us:=[]) F hr hb hd hx I .nil h)

theorem VY {pl:Sem Bool}(he:PE X o ta)(c:RC X.K C)(hm:WF X.K C m f)(F:jV X.prog X.w X.K X.mg X.base CX k f fd ps sp)(hr:uD k X.A)(hb:vU X.K fd ps ds)(hd:jP dvs ds)(hx:AZ CX X E)(ha:PA X (e::es) t)
  (hst:starEach (e::es) X.env=(false,eval e X.env)::starEach es X.env:=by rfl) (hpl:(backTo pos (starEach es X.env)).any (·.1)=false:=by rfl)
  (ht:eval (.Call (.Attribute o m apos) (e::es) [] pos) X.env=(do
   let ov<-eval o X.env
   standAt apos.atName
   let(f,first)<-holding [ov] (getMethod ov m pl)
   callWith pos f first (backTo pos (starEach (e::es) X.env)) (backToKw pos (keywordEach [] X.env))):=by rfl):
  PE X (.Call (.Attribute o m apos) (e::es) [] pos) (QB C m sp dvs E ta t):=by
 refine⟨?_⟩
 intro pins s σ H Q I h
 refine PySem.W.methodCall_KW (pl:=pl) (qR (he pins s σ H _ I h) fun u s1 ⟨x,H1,I1,rx,a,dx,fs,ex,ea,l,q⟩=>?_) ht
 subst ex
 obtain rfl:u=Value.ref a:=rx
 refine Kx I1 ea c hm l ?_
 refine Bb (first:=[.ref a]) (h₀:=X.base) I.ok.mod.kin hm.kp (qR (ha pos pins s1 σ H1 _ I1 q) fun us s2 ⟨vs,H2,I2,r,q2⟩=>⟨I2.kIn,?_⟩) hst hpl
 exact MI (us:=.ref a::us) (vs:=.ref a::vs) F hr hb hd hx I2 (.cons rfl r) q2
theorem TU {pl:Sem Bool}(he:PE X o ta)(c:RC X.K C)(hm:WF X.K C m f)(F:jV X.prog X.w X.K X.mg X.base CX k f fd ps sp)(hr:uD k X.A)(hb:vU X.K fd ps ds)(hd:jP dvs ds)(hx:AZ CX X E)
  (ht:eval (.Call (.Attribute o m apos) [] [] pos) X.env=(do
   let ov<-eval o X.env
   standAt apos.atName
   let(f,first)<-holding [ov] (getMethod ov m pl)
   callWith pos f first (backTo pos (starEach [] X.env)) (backToKw pos (keywordEach [] X.env))):=by rfl):
  PE X (.Call (.Attribute o m apos) [] [] pos) (QB C m sp dvs E ta Tl):=by
 refine⟨?_⟩
 intro pins s σ H Q I h
 refine PySem.W.methodCall_KW (pl:=pl) (qR (he pins s σ H _ I h) fun u s1 ⟨x,H1,I1,rx,a,dx,fs,ex,ea,l,q⟩=>?_) ht
 subst ex
 obtain rfl:u=Value.ref a:=rx
 refine Kx I1 ea c hm l ?_
 exact PySem.W.callWith_K0 (first:=[.ref a]) I1.kIn hm.kp (MI (us:=[.ref a]) (vs:=[.ref a]) F hr hb hd hx I1 (.cons rfl .nil) q)

structure Mk (K:PySem.W.Frag)(C f:Addr):Prop where
 makes:PySem.W.makesIn K C=true
 init:PySem.W.findIn K (.ref C) "__init__"=some (some (.ref f))
 fn:PySem.W.isFn K (.ref f)=true
 kp:PySem.W.keepIn K (.ref C)=true

theorem Tv {pins:List (Addr×Obj)}{σ:St}{H:Hp}{s:Shared}{Q:VK}{us:List Value}{vs:List V}(M:Mk X.K C f)(F:jV X.prog X.w X.K X.mg X.base CX k f fd ps sp)(hr:uD (k+1) X.A)(hb:vU X.K fd ps ds)(hd:jP dvs ds)
  (hx:AZ CX X E) (I:xM X pins σ H s) (r:jP vs us)
  (h: ∀x dx,H x=none->H dx=none->dx≠x->sp (.ref x::(vs++dvs)) (upd (upd H dx (.own x)) x (.ins C dx [])) (fun v H2=>v=.non/\Q (.ref x) H2) E):
  wpAny (model X.prog X.w) X.A (call (.ref C) us) (EP X pins σ Q) X.xe s:=by
 have hq:=h (s.heap.objs.size+1) s.heap.objs.size (I.hok.fresh (Nat.le_succ _)) (I.hok.fresh (zS _)) (xK (wR _))
 have I2:=xM.made (C:=C) I
 have r2:jP (V.ref (s.heap.objs.size+1)::(vs++dvs)) (Value.ref (s.heap.objs.size+1)::(us++ds)):=.cons rfl (r.append hd)
 have hl:(Value.ref (s.heap.objs.size+1)::us++ds).length =ps.length:=by
  have e:=r2.length
  rw[F.len _ _ _ _ hq]at e
  exact e.symm
 refine wpAny_call (UC (f:=f) I.kIn M.makes M.init (beq_iff_eq.mp M.fn) (BD (F.run _ X.stack _ _ ⟨Value.ref (s.heap.objs.size+1)::us,[]⟩ (Value.ref (s.heap.objs.size+1)::(us++ds)) _ _ E (hr.make C us [])
  (I2.env0.make C us []) (hb _ (Value.ref (s.heap.objs.size+1)::us) I2.kIn hl) r2 hq) fun r s' hq'=>?_))
 cases r with
 |error e=>exact hx pins σ _ _ e s' I2 hq'
 |ok fl=>
  cases fl with
  |ret u=>
   obtain⟨v,H',I3,rv,ev,q3⟩:=I2.after hq'
   subst ev
   exact⟨rv,⟨V.ref (s.heap.objs.size+1),H',I3,rfl,q3⟩⟩
  |next=>exact False.elim hq'
  |brk=>exact False.elim hq'
  |cont=>exact False.elim hq'
theorem VZ (M:Mk X.K C f)(F:jV X.prog X.w X.K X.mg X.base CX k f fd ps sp)(hr:uD (k+1) X.A)(hg:Gl X x)(hm:X.mg x=some (.ref C))(hb:vU X.K fd ps ds)(hd:jP dvs ds)(hx:AZ CX X E)
  (ha:PA X (e::es) t) (hdb:(x==("__debug__":Str))=false:=by decide) (he:starEach (e::es) X.env=(false,eval e X.env)::starEach es X.env:=by rfl) (hpl:(backTo pos (starEach es X.env)).any (·.1)=false:=by rfl):
  PE X (.Call (.Name x p) (e::es) [] pos) (WK C sp dvs E t):=by
 refine⟨?_⟩
 intro pins s σ H Q I h
 refine wX (HZ I hg hm ?_ hdb)
 refine Bb (h₀:=X.base) I.ok.mod.kin M.kp (qR (ha pos pins s σ H _ I h) fun us s1 ⟨vs,H1,I1,r,q⟩=>⟨I1.kIn,?_⟩) he hpl
 exact Tv M F hr hb hd hx I1 r q
end

structure PK (X:Cx)(kws:List Keyword)(t:TA):Prop where
 go: ∀(pos:Pos) (pins:List (Addr×Obj)) (s:Shared) (σ:St) (H:Hp) (Q:List V->Hp->Prop),xM X pins σ H s->t σ H Q->wpAny (model X.prog X.w) X.A (evalAll ((backToKw pos (keywordEach kws X.env)).map (·.2))) (AP X pins σ Q) X.xe s
instance {X:Cx}{kws:List Keyword}{t:TA}:CoeFun (PK X kws t) (fun _=> ∀(pos:Pos) (pins:List (Addr×Obj)) (s:Shared) (σ:St) (H:Hp) (Q:List V->Hp->Prop),xM X pins σ H s->t σ H Q->wpAny (model X.prog X.w) X.A (evalAll ((backToKw pos (keywordEach kws X.env)).map (·.2))) (AP X pins σ Q) X.xe s):=⟨PK.go⟩
section
variable {X:Cx}{CX:Jr}{k:Nat}{f C:Addr}{fd:FuncData}{ps ks:List Str}{sp:Sp}{E:XK}{x m:Str}{p pos apos kpos:Pos}{e o:Expr}{es:List Expr}{kws:List Keyword}{te ta:TE}{t tk:TA}{nm:Option Str}
variable {g:List Value->List Value->List Value}{gV:List V->List V->List V}
end

structure xI (N P:List Str)(sc:Scope):Prop where
 kind:sc.kind=.function
 co:sc.isCoroutine=false
 gen:sc.isGenerator=false
 nd:N.Nodup
 pre:N.take P.length=P
 par: ∀x∈P,sc.names.lookup x=some .local\/sc.names.lookup x=some .cell
 nofree: ∀y∈sc.names,y.2≠ .free

theorem Mc {kindOf:Str->Option NameKind}{x:Str}: ∀{binds:List (Str×Value)} {m:Str->Option Value},(∀v,(x,v)∉binds)->bindL kindOf binds m x=m x
 |[],_,_=>rfl
 |(n,v)::r,m,h=>by
  unfold bindL
  rw[Mc fun w hw=>h w (zT _ hw)]
  split
  ·have:x≠n:=by rintro rfl;exact h v zP
   simp[this]
  ·rfl
theorem Me {kindOf:Str->Option NameKind}{x:Str}: ∀{binds:List (Str×Value)} {m:Str->Option Value},(∀v,(x,v)∉binds)->bindC kindOf binds m x=m x
 |[],_,_=>rfl
 |(n,v)::r,m,h=>by
  unfold bindC
  rw[Me fun w hw=>h w (zT _ hw)]
  split
  ·rfl
  ·have:x≠n:=by rintro rfl;exact h v zP
   simp[this]
theorem Md {kindOf:Str->Option NameKind}{x:Str}{v:Value}: ∀{P:List Str} {vs:List Value} {i:Nat} {m:Str->Option Value},P.Nodup->P[i]? =some x->vs[i]? =some v->kindOf x=some .local->
  bindL kindOf (P.zip vs) m x=some v
 |[],_,_,_,_,h,_,_=>by simp at h
 |_::_,[],_,_,_,_,h,_=>by simp at h
 |p::P,w::vs,0,m,nd,h1,h2,hk=>by
  simp at h1 h2;subst h1;subst h2
  show bindL kindOf ((p,w)::P.zip vs) m p=_
  unfold bindL
  rw[Mc fun v hv=>(List.nodup_cons.mp nd).1 (CJ hv).1,zW hk]
  simp
 |p::P,w::vs,i+1,m,nd,h1,h2,hk=>by
  show bindL kindOf ((p,w)::P.zip vs) m x=_
  unfold bindL
  exact Md (i:=i) (List.nodup_cons.mp nd).2 (by simpa using h1) (by simpa using h2) hk
theorem Mf {kindOf:Str->Option NameKind}{x:Str}{v:Value}: ∀{P:List Str} {vs:List Value} {i:Nat} {m:Str->Option Value},P.Nodup->P[i]? =some x->vs[i]? =some v->kindOf x≠some .local->
  bindC kindOf (P.zip vs) m x=some v
 |[],_,_,_,_,h,_,_=>by simp at h
 |_::_,[],_,_,_,_,h,_=>by simp at h
 |p::P,w::vs,0,m,nd,h1,h2,hk=>by
  simp at h1 h2;subst h1;subst h2
  show bindC kindOf ((p,w)::P.zip vs) m p=_
  unfold bindC
  rw[Me fun v hv=>(List.nodup_cons.mp nd).1 (CJ hv).1,zL hk]
  simp
 |p::P,w::vs,i+1,m,nd,h1,h2,hk=>by
  show bindC kindOf ((p,w)::P.zip vs) m x=_
  unfold bindC
  exact Mf (i:=i) (List.nodup_cons.mp nd).2 (by simpa using h1) (by simpa using h2) hk

def FD (N:List Str)(vs:List V):St:=vs.map some++List.replicate (N.length-vs.length) none

def KD (CX:Jr)(P:Program)(w:World)(K:PySem.W.Frag)(mg:Str->Option Value)(base:Heap)(N:List Str)(qual:Str)(scope:Scope)(f:Addr)(cd:Value)(A:Around)(outer:List Env)(s:Shared)(H:Hp)(E:XK):Cx where
 prog:=P
 w:=w
 K:=K
 mg:=mg
 base:=base
 A:=A.deeper (envOfC qual scope s.heap.objs.size f cd)
 N:=N
 s₀:=s
 H₀:=H
 env:=envOfC qual scope s.heap.objs.size f cd
 outer:=outer
 stack:=envOfC qual scope s.heap.objs.size f cd::outer
 ex:=[]
 calm:=true
 fn:=fun _=>true
 pn:=[]
 xe:=fun e s'=>wpAny (model P w) (A.deeper (envOfC qual scope s.heap.objs.size f cd)) (leaving (envOfC qual scope s.heap.objs.size f cd) e) (fun _ s''=>CX outer H s E e s'') (fun e' s''=>CX outer H s E e' s'') s'

theorem ON {sc:Scope}{n:Nat}{x:Str}(h:sc.names.lookup x=some .cell): ∃c,(cellsFrom n sc.names []).lookup x=some c:=by
 have q:=BE sc.names n [] (.inl h)
 exact Option.isSome_iff_exists.mp q

theorem LN {CX:Jr}{P:Program}{w:World}{K:PySem.W.Frag}{mg:Str->Option Value}{base:Heap}{N ps:List Str}{qual:Str}{scope:Scope}{f:Addr}{cd:Value}{A:Around}{outer:List Env}{s s1:Shared}{H:Hp}{E:XK}{us:List Value}{vs:List V}
  (S:xI N ps scope) (hd:A.handled=none) (e0:Qx P w K mg base A outer s H) (hl:vs.length=ps.length) (r:jP vs us)
  (x:InCallC s s.heap.objs.size (bindL (envOfC qual scope s.heap.objs.size f cd).kindOf (ps.zip us) fun _=>none) (cellsFrom (s.heap.objs.size+1) scope.names []) (bindC (envOfC qual scope s.heap.objs.size f cd).kindOf (ps.zip us) fun _=>none) s1):
  xM (KD CX P w K mg base N qual scope f cd A outer s H E) [] (FD N vs) H s1:=by
 have hpl:ps.length<=N.length:=by have:=xT List.length S.pre;rw[yM]at this;(first|lia|omega)
 obtain⟨h1,tk,rfl,hk⟩:=x.done
 have noA: ∀b:Addr,b∉(KD CX P w K mg base N qual scope f cd A outer s H E).ex:=fun b z=>absurd (show b∈([]:List Addr)from z) (by simp)
 refine⟨⟨e0.mod,S.kind,rfl,rfl,zS _,fun y z c h1 h2=>?_,fun y hy=>?_,fun y c _ h=>?_,fun _=>hd,Around.frames_deeper e0.frames,.inr ⟨rfl,rfl⟩,fun b z=>absurd z (noA b),e0.bs,e0.bsz,fun b _ _=>noA b,fun b z=>absurd z (noA b),e0.funs,e0.frf⟩,
  rfl,e0.bare,Un.kept hk,⟨_,x.toInCall.ns,fun i y v h1 h2 h3=>?_⟩,fun y c h=>⟨_,x.cell y c h⟩,e0.hok.fresh (zS _),fun y c h=>?_,fun p hp=>absurd (show p∈([]:List (Addr×Obj))from hp) (by simp),e0.hok.kept hk,?_⟩
 ·exact name_of_addr x.apart (wN h1) (wN h2)
 ·have hy:scope.names.lookup y=some .cell\/scope.names.lookup y=some .free:=hy
  rcases hy with hy|hy
  ·exact ON hy
  ·exact absurd rfl (S.nofree _ (wN hy))
 ·exact uF (x.above y c (wN h))
 ·have hi:i<vs.length:=by
   unfold FD at h2
   by_cases hi:i<vs.length
   ·exact hi
   ·rw[qO (by simpa using hi)]at h2
    rw[EV]at h2
    split at h2<;>cases h2
  have ha:vs[i]? =some v:=by
   unfold FD at h2
   rw[vF (by simpa using hi),zN]at h2
   cases e:vs[i]? with
   |none=>rw[e]at h2;cases h2
   |some a=>rw[e]at h2;cases h2;rfl
  obtain⟨u,hu,rv⟩:=r.get ha
  have hp:ps[i]? =some y:=by
   rw[<-S.pre,List.getElem?_take_of_lt (by(first|lia|omega))];exact h1
  have ndP:ps.Nodup:=by rw[<-S.pre];exact S.nd.sublist (List.take_sublist _ _)
  refine⟨u,rv,?_⟩
  rcases S.par y (zM hp)with k|k
  ·exact .inl ⟨k,Md ndP hp hu k⟩
  ·obtain⟨c,e⟩:=ON (n:=s.heap.objs.size+1) k
   refine .inr ⟨.inl k,c,e,?_⟩
   have q:=x.cell y c e
   rw[Mf ndP hp hu (by show scope.names.lookup y≠_;rw[k];decide)]at q
   exact q
 ·exact e0.hok.fresh (uF (x.above y c (wN h)))
 ·unfold FD
  show _=N.length
  rw[zC,zD,uX]
  (first|lia|omega)

theorem Xc {CX:Jr}{P:Program}{w:World}{K:PySem.W.Frag}{mg:Str->Option Value}{base:Heap}{k:Nat}{f:Addr}{name qual:Str}{params:Arguments}{body:List Stmt}{scope:Scope}{dV kV doc pm cdv ct oc:Value}{an od:Option Addr}
  {osl:Array (Option Value)} {N ps:List Str} {sp:Sp} (lk:K.lookup f=some ⟨oc,od,.func (PySem.W.fnOf name qual params body scope dV kV doc pm an cdv ct),osl⟩) (hcd:PySem.W.codeIn K cdv qual=true) (S:xI N ps scope)
  (len: ∀vs H Q E,sp vs H Q E->vs.length=ps.length)
  (hbody: ∀(A:Around) (outer:List Env) (s:Shared) (H:Hp) (vs:List V) (Q:VK) (E:XK),uD k (A.deeper (envOfC qual scope s.heap.objs.size f cdv))->sp vs H Q E->
   ∃t,OZ (KD CX P w K mg base N qual scope f cdv A outer s H E) body t/\t {nx:=fun _ H'=>Q .non H',rt:=Q} (FD N vs) H):
  jV P w K mg base CX (k+1) f (PySem.W.fnOf name qual params body scope dV kV doc pm an cdv ct) ps sp:=by
 refine⟨len,fun A outer s H args us vs Q E hr e0 hb r hsp=>?_⟩
 have hl:=len _ _ _ _ hsp
 have KX:K.In s.heap:=e0.mod.kin.keeps fun b o e=>(e0.bs b o e).1
 have lim:s.heap.NoLimit:=e0.mod.nolimit.keeps fun b o e=>(e0.bs b o e).1
 have hkind: ∀y∈ps.zip us,scope.names.lookup y.1=some .local\/(scope.names.lookup y.1=some .cell/\((cellsFrom (s.heap.objs.size+1) scope.names []).lookup y.1).isSome =true):=fun⟨n,v⟩ hy=>by
  rcases S.par n (CJ hy).1 with q|q
  ·exact .inl q
  ·exact .inr ⟨q,BE _ _ _ (.inl q)⟩
 refine codeAny_call_function hr.depth (KX _ _ lk) rfl S.co S.gen rfl (PySem.W.codeRec_of KX hcd) (hb _ _ _ _ ?_)
 refine wpAny_newFunctionEnv_cells S.kind hkind fun env he s1 x=>?_
 subst he
 refine⟨lim.keeps x.toInCall.keep,codeAny_func ?_⟩
 obtain⟨t,ht,hq⟩:=hbody A outer s H vs Q E (hr.deeper _) hsp
 have I:xM (KD CX P w K mg base N qual scope f cdv A outer s H E) [] (FD N vs) H s1:=LN S hr.hd e0 hl r x
 refine vQ (ht [] s1 (FD N vs) H _ I hq) (fun fl s' hs=>?_) fun e s' hs=>hs
 have fin: ∀{σ':St} {H':Hp} {v:V} {u:Value},xM (KD CX P w K mg base N qual scope f cdv A outer s H E) [] σ' H' s'->kB v u->Q v H'->CE outer P w H s Q u s':=
  fun{σ' H' v u} J rv q=>⟨v,H',J.os,J.bare,J.base,J.hok,rv,q⟩
 cases fl with
 |ret u=>
  obtain⟨v,σ',H',J,rv,q⟩:=hs
  exact fin J rv q
 |next=>
  obtain⟨σ',H',J,q⟩:=hs
  exact fin (v:=V.non) (u:=Value.none) J rfl q
 |brk=>
  obtain⟨_,_,_,q⟩:=hs
  exact False.elim q
 |cont=>
  obtain⟨_,_,_,q⟩:=hs
  exact False.elim q
end L2

namespace L2
open PySem PySem.Spec PyProof.Rows
section
variable {X:Cx}{x:Str}{p pos:Pos}{e:Expr}{es:List Expr}{t:TA}{id T:String}{r:List V->Hp->VK->Prop}

def tCB (r:List V->Hp->VK->Prop)(t:TA):TE:=fun σ H Q=>t σ H fun vs H1=>r vs H1 Q
theorem xR (hc:EJ X (.builtin id) r)(hg:Gl X x)(hm:X.mg x=none)(hv:bootBuiltins x=some (.builtin id))(ha:PA X (e::es) t)(hn:x≠"__name__":=by decide)(hdb:(x==("__debug__":Str))=false:=by decide)
  (he:starEach (e::es) X.env=(false,eval e X.env)::starEach es X.env:=by rfl) (hpl:(backTo pos (starEach es X.env)).any (·.1)=false:=by rfl):PE X (.Call (.Name x p) (e::es) [] pos) (tCB r t):=by
 refine⟨?_⟩
 intro pins s σ H Q I h
 refine wX (Eo I hg hm hv ?_ hn hdb)
 exact PyProof.Rows.callWith_builtin1 (qR (ha pos pins s σ H _ I h) fun us s1 ⟨vs,H1,I1,r1,q1⟩=>hc pins s1 σ H1 vs us Q I1 r1 q1) he hpl
theorem kR (hc:EJ X (.type T) r)(hg:Gl X x)(hm:X.mg x=none)(hv:bootBuiltins x=some (.type T))(ha:PA X (e::es) t)(hn:x≠"__name__":=by decide)(hdb:(x==("__debug__":Str))=false:=by decide)
  (he:starEach (e::es) X.env=(false,eval e X.env)::starEach es X.env:=by rfl) (hpl:(backTo pos (starEach es X.env)).any (·.1)=false:=by rfl):PE X (.Call (.Name x p) (e::es) [] pos) (tCB r t):=by
 refine⟨?_⟩
 intro pins s σ H Q I h
 refine wX (Eo I hg hm hv ?_ hn hdb)
 exact jJ (qR (ha pos pins s σ H _ I h) fun us s1 ⟨vs,H1,I1,r1,q1⟩=>hc pins s1 σ H1 vs us Q I1 r1 q1) he hpl
end
end L2

namespace HT
open PySem PyProof.Rows

section
open PySem.SeqAt
open PySem.AutoSeq1 (wpAny_loadPart')
open PySem.MeetsSeq PySem.MeetsSeq2 PySem.MeetsSeq3

end

section
variable {prog:Program}{w:World}{A:Around}{E:Value->Shared->Prop}{s:Shared}

def sIx (n d:Nat):Option Int->Nat
 |none=>d
 |some v=>if v<0 then(v+(n:Int)).toNat else min v.toNat n
theorem sIx_none (n d:Nat):sIx n d none=d:=rfl
theorem sIx_nat (n d k:Nat):sIx n d (some (k:Int))=min k n:=by
 show(if(k:Int)<0 then((k:Int)+(n:Int)).toNat else min (k:Int).toNat n)=min k n
 rw[if_neg (by(first|lia|omega)),Int.toNat_natCast]
theorem Xz (n d:Nat)(hd:d<=n)(o:Option Int):sIx n d o<=n:=by
 cases o with
 |none=>exact hd
 |some v=>
  show(if v<0 then(v+(n:Int)).toNat else min v.toNat n)<=n
  by_cases hv:v<0
  ·rw[if_pos hv];(first|lia|omega)
  ·rw[if_neg hv];exact Nat.min_le_right _ _
theorem Rr (v:Int)(n d:Nat):(if v<0 then max (v+(n:Int)) 0 else min v (n:Int))=((sIx n d (some v):Nat):Int):=by
 show(if v<0 then max (v+(n:Int)) 0 else min v (n:Int))=(((if v<0 then(v+(n:Int)).toNat else min v.toNat n):Nat):Int)
 by_cases hv:v<0
 ·simp only[if_pos hv];(first|lia|omega)
 ·simp only[if_neg hv];(first|lia|omega)
theorem Qr (lo hi:Option Int)(n:Nat):Builtin.Slice.sliceAdjust lo hi 1 (n:Int)=(((sIx n 0 lo:Nat):Int),((sIx n n hi:Nat):Int)):=by
 have h1: ¬((1:Int)<0):=by(first|lia|omega)
 unfold Builtin.Slice.sliceAdjust
 simp only[h1,if_false]
 refine Prod.ext ?_ ?_
 ·cases lo with
  |none=>rfl
  |some v=>exact Rr v n 0
 ·cases hi with
  |none=>rfl
  |some v=>exact Rr v n n
theorem Py (i j:Nat):Builtin.Slice.slicePlaces (i:Int) (j:Int) 1=j-i:=by
 unfold Builtin.Slice.slicePlaces
 have h1:(1:Int) > 0:=by(first|lia|omega)
 simp only[h1,if_true,Int.ediv_one]
 split<;>(first|lia|omega)
theorem JW {v:Value}{o:Option Int}{Q:Option Int->Shared->Prop}(p:IsPart v o)(h:Q o s):wpAny (model prog w) A (Builtin.Slice.slicePartIndex v) Q E s:=by
 cases p with
 |none=>exact slicePart_none h
 |int i t=>exact slicePart_int h
theorem Eu {sl:Addr}{vl vu:Value}{lo hi:Option Int}{n:Nat}{Q:Int×Int×Nat->Shared->Prop}(hs:s.heap.IsSliceOf sl vl vu .none)(pl:IsPart vl lo)(pu:IsPart vu hi)
  (h:Q (((sIx n 0 lo:Nat):Int),1,sIx n n hi-sIx n 0 lo) s):wpAny (model prog w) A (Builtin.Slice.sliceApplied (.ref sl) (pure (n:Int))) Q E s:=by
 obtain⟨os,hos,hcs,hds⟩:=id hs
 unfold Builtin.Slice.sliceApplied Builtin.Slice.sliceFields
 refine wpAny_bind (wpAny_bind (wpAny_field hos hds (x:=vl) rfl (wpAny_bind (wpAny_field hos hds (x:=vu) rfl (wpAny_bind (wpAny_field hos hds (x:=.none) rfl (wpAny_pure ?_)))))))
 refine wpAny_bind (slicePart_none ?_)
 show wpAny _ _ (if((1:Int)==0)=true then _ else _) _ _ s
 rw[if_neg (by decide)]
 refine wpAny_bind (JW pl (wpAny_bind (JW pu (wpAny_bind (wpAny_pure ?_)))))
 show wpAny _ _ (match Builtin.Slice.sliceAdjust lo hi 1 (n:Int)with|(lo,hi)=>pure (lo,(1:Int),Builtin.Slice.slicePlaces lo hi 1)) _ _ s
 rw[Qr lo hi n]
 show wpAny _ _ (pure (((sIx n 0 lo:Nat):Int),(1:Int),Builtin.Slice.slicePlaces ((sIx n 0 lo:Nat):Int) ((sIx n n hi:Nat):Int) 1)) _ _ s
 rw[Py]
 exact wpAny_pure h
theorem TH (xs:Array Value)(i k:Nat):((List.range k).filterMap fun(m:Nat)=>xs[((i:Int)+(m:Int)*1).toNat]?).toArray =((xs.toList.drop i).take k).toArray:=by
 have e:(fun(m:Nat)=>xs[((i:Int)+(m:Int)*1).toNat]?)=fun m=>xs[i+m]?:=by
  funext m
  have:((i:Int)+(m:Int)*1).toNat =i+m:=by(first|lia|omega)
  rw[this]
 rw[e]
 have:=pick_run xs i k
 rw[List.filterMap_map]at this
 have e2:((fun x=>xs[x]?)∘fun x=>i+x)=fun m=>xs[i+m]?:=rfl
 rw[e2]at this
 rw[this]

theorem getItem_tuple_cut {t sl:Addr}{items:Array Value}{vl vu:Value}{lo hi:Option Int}{Q:Value->Shared->Prop}(ht:IsTup s.heap t items)(hs:s.heap.IsSliceOf sl vl vu .none)(pl:IsPart vl lo)(pu:IsPart vu hi)
  (hw: ¬(sIx items.size 0 lo=0/\sIx items.size items.size hi=items.size))
  (h:Q (.ref s.heap.objs.size) {s with heap:=s.heap.push {cls:=.type "tuple",data:=.seq ((items.toList.drop (sIx items.size 0 lo)).take (sIx items.size items.size hi-sIx items.size 0 lo)).toArray}})
  (hsz:items.size<=sizeLine):wpAny (model prog w) A (getItem (.ref t) (.ref sl)) Q E s:=by
 have htake:sizeOk (.seq ((items.toList.drop (sIx items.size 0 lo)).take (sIx items.size items.size hi-sIx items.size 0 lo)).toArray):=by
  show((items.toList.drop (sIx items.size 0 lo)).take (sIx items.size items.size hi-sIx items.size 0 lo)).toArray.size<=sizeLine
  rw[List.size_toArray,List.length_take,List.length_drop,Array.length_toList]
  (first|lia|omega)
 have hj:sIx items.size items.size hi<=items.size:=Xz _ _ (Nat.le_refl _) hi
 obtain⟨os,hos,hcs,hds⟩:=id hs
 have hTs:s.TypeIs (.ref sl) "slice":=⟨os,hos,hcs⟩
 unfold getItem
 try with_reducible refine wpAny_holding ?_
 first|refine wpAny_bind (wpAny_pure ?_)|skip
 refine wpAny_bind (wpAny_sequenceKey ht.typeIs (by decide) ?_)
 refine wpAny_bind (wpAny_callSpecial?_slot (name:=Str.ofString "__getitem__") ht.typeIs PyProof.Rows.slot_tuple_getitem
  (wpAny_call_entry PyProof.Rows.slot_tuple_getitem ht.typeIs entry_tuple_getitem ?_ (args_tuple_getitem _ _)))
 show wpAny _ _ (Builtin.Tuple.tupleItemsOf (.ref t)>>=_) _ _ s
 refine wpAny_bind (tupleItemsOf_ ht ?_)
 refine wpAny_bind (wpAny_typeOf hTs ?_)
 rw[if_pos (by decide)]
 refine wpAny_bind (Eu hs pl pu ?_)
 have hno: ¬((((sIx items.size 0 lo:Nat):Int)==0&&(1:Int)==1&&(sIx items.size items.size hi-sIx items.size 0 lo)==items.size)=true):=by
  intro q
  rw[Bool.and_eq_true,Bool.and_eq_true]at q
  have q1:((sIx items.size 0 lo:Nat):Int)=0:=eq_of_beq q.1.1
  have q2:sIx items.size items.size hi-sIx items.size 0 lo=items.size:=eq_of_beq q.2
  exact hw ⟨by(first|lia|omega),by(first|lia|omega)⟩
 show wpAny _ _ (if(((sIx items.size 0 lo:Nat):Int)==0&&(1:Int)==1&&(sIx items.size items.size hi-sIx items.size 0 lo)==items.size)=true then _ else _) _ _ s
 rw[if_neg hno,TH]
 first
  |exact wpAny_bind (m:=Builtin.Tuple.tupleExact _) (wpAny_newObj_type (wpAny_pure ⟨_,rfl,wpAny_pure h⟩) htake)
  |exact wpAny_bind (m:=Builtin.Tuple.tupleExact _) (wpAny_newObj_type (wpAny_bind (wpAny_pure (wpAny_pure ⟨_,rfl,wpAny_pure h⟩))) htake)
  |exact wpAny_bind (wpAny_bind (m:=Builtin.Tuple.tupleExact _) (wpAny_newObj_type (wpAny_pure (wpAny_pure ⟨_,rfl,wpAny_pure h⟩)) htake))
  |exact wpAny_bind (wpAny_bind (m:=Builtin.Tuple.tupleExact _) (wpAny_newObj_type (wpAny_pure ⟨_,rfl,wpAny_pure h⟩) htake))
end
end HT

namespace L2
open PySem PySem.Spec PyProof.Rows

abbrev TO:=St->Hp->(Option Int->Hp->Prop)->Prop
structure PO (X:Cx)(e:Option Expr)(t:TO):Prop where
 go: ∀(pins:List (Addr×Obj)) (s:Shared) (σ:St) (H:Hp) (Q:Option Int->Hp->Prop),xM X pins σ H s->t σ H Q->
  wpAny (model X.prog X.w) X.A (evalPart e X.env) (fun u s'=> ∃o H',xM X pins σ H' s'/\IsPart u o/\Q o H') X.xe s
instance {X:Cx}{e:Option Expr}{t:TO}:CoeFun (PO X e t) (fun _=> ∀(pins:List (Addr×Obj)) (s:Shared) (σ:St) (H:Hp) (Q:Option Int->Hp->Prop),xM X pins σ H s->t σ H Q->
  wpAny (model X.prog X.w) X.A (evalPart e X.env) (fun u s'=> ∃o H',xM X pins σ H' s'/\IsPart u o/\Q o H') X.xe s):=⟨PO.go⟩
def VF:TO:=fun _ H Q=>Q none H
def YJ (t:TE):TO:=fun σ H Q=>t σ H fun x H1=> ∃i,x=.int i/\Q (some i) H1

section
variable {X:Cx}{e:Expr}{te:TE}{lo hi:Option Expr}{tl th:TO}{pos p2:Pos}

theorem HS:PO X none VF:=by
 refine⟨?_⟩
 intro pins s σ H Q I h
 rw[evalPart_none]
 exact zR ⟨none,H,I,.none,h⟩
theorem HR (h:PE X e te):PO X (some e) (YJ te):=by
 refine⟨?_⟩
 intro pins s σ H Q I hw
 rw[evalPart_some]
 refine qR (h pins s σ H _ I hw) fun u s1 hzz=>?_
 obtain⟨x,H1,I1,r1,q1⟩:=hzz
 obtain⟨i,rfl,q⟩:=q1
 obtain⟨t,rfl⟩:=r1
 exact⟨some i,H1,I1,.int i t,q⟩

def SlR (X:Cx)(r:V->Option Int->Option Int->Hp->VK->Prop):Prop:=
 ∀(pins:List (Addr×Obj)) (s:Shared) (σ:St) (H:Hp) (x:V) (v vl vu:Value) (lo hi:Option Int) (sl:Addr) (Q:VK),xM X pins σ H s->kB x v->s.heap.IsSliceOf sl vl vu .none->IsPart vl lo->IsPart vu hi->r x lo hi H Q->
  ∃T id,typeLookup (.type T) "__getitem__"=pure (some (.builtin id))/\s.TypeIs v T/\wpAny (model X.prog X.w) X.A (getItem v (.ref sl)) (EP X pins σ Q) X.xe s
def tSl (r:V->Option Int->Option Int->Hp->VK->Prop)(te:TE)(tl th:TO):TE:=fun σ H Q=>te σ H fun x H1=>tl σ H1 fun l H2=>th σ H2 fun u H3=>r x l u H3 Q
theorem Gd {r:V->Option Int->Option Int->Hp->VK->Prop}(hr:SlR X r)(he:PE X e te)(hl:PO X lo tl)(hu:PO X hi th):PE X (.Subscript e (.Slice lo hi none p2) pos) (tSl r te tl th):=by
 refine⟨?_⟩
 intro pins s σ H Q I h
 refine Subscript_ (qR (he pins s σ H _ I h) fun v s1 hzz=>?_)
 obtain⟨x,H1,I1,r1,q1⟩:=hzz
 refine wpAny_Slice (qR (hl pins s1 σ H1 _ I1 q1) fun vl s2 ⟨l,H2,I2,pl,q2⟩=>qR (hu pins s2 σ H2 _ I2 q2) fun vu s3 hzz=>?_)
 obtain⟨u,H3,I3,pu,q3⟩:=hzz
 rw[evalPart_none]
 refine zR ?_
 have I4:xM X pins σ H3 {s3 with heap:=s3.heap.push {cls:=.type "slice",data:=.fields #[vl,vu,.none]}}:=I3.kept (t':=s3.toks) fun b ob q=>zI _ q
 obtain⟨T,id,hT,ht,hg⟩:=hr pins {s3 with heap:=s3.heap.push {cls:=.type "slice",data:=.fields #[vl,vu,.none]}} σ H3 x v vl vu l u s3.heap.objs.size Q I4 r1 (Heap.IsSliceOf.new ..) pl pu q3
 show wpAny (model X.prog X.w) X.A (subscriptTail e (.Slice lo hi none p2) v (.ref s3.heap.objs.size)) (EP X pins σ Q) X.xe {s3 with heap:=s3.heap.push {cls:=.type "slice",data:=.fields #[vl,vu,.none]}}
 exact tail_any (ops:=[.ref s3.heap.objs.size,v]) ht hT hg (by with_unfolding_all rfl)

def KF (xs:List V)(lo hi:Option Int):List V:=(xs.drop (HT.sIx xs.length 0 lo)).take (HT.sIx xs.length xs.length hi-HT.sIx xs.length 0 lo)
theorem OM (xs:List V)(lo hi:Option Int):(KF xs lo hi).length<=xs.length:=by
 unfold KF
 rw[yM,jK]
 (first|lia|omega)
inductive YX (K:PySem.W.Frag) (x:V) (lo:Option Int) (hi:Option Int) (H:Hp) (Q:VK):Prop
 |mk (a xs:_) (h0:x=.ref a) (h1:EH K H a xs) (h2: ¬(HT.sIx xs.length 0 lo=0/\HT.sIx xs.length xs.length hi=xs.length)) (h3: ∀p,H p=none->Q (.ref p) (upd H p (.tup (KF xs lo hi)))):YX K x lo hi H Q
theorem Xw:SlR X (YX X.K):=by
 intro pins s σ H x v vl vu lo hi sl Q I rx hs pl pu h
 obtain⟨a,xs,rfl,hx,hw,q⟩:=h
 cases rx
 obtain⟨its,r,ht,hz⟩:=I.tuple hx
 have hlen:its.toArray.size=xs.length:=by rw[yD];exact r.length.symm
 refine⟨"tuple",_,PyProof.Rows.slot_tuple_getitem.lookup,ht.typeIs,?_⟩
 refine HT.getItem_tuple_cut ht hs pl pu (by rw[hlen];exact hw) ?_ (by rw[hlen];exact hz)
 rw[hlen]
 refine⟨.ref s.heap.objs.size,_,I.laid (t':=s.toks) (o:=.tup (KF xs lo hi)) (fun b ob q=>zI _ q) (zS _) ?_,rfl,q _ (I.hok.fresh (zS _))⟩
 exact⟨yO (OM xs lo hi) hz,_,(r.drop (HT.sIx xs.length 0 lo)).take (HT.sIx xs.length xs.length hi-HT.sIx xs.length 0 lo),IsTup.new _ _⟩

end
end L2

namespace L2
open PySem PySem.Spec PyProof.Rows

def UL (n:Nat)(i:Int):Option Nat:=if 0<=i then(if i<n then some i.toNat else none)else if-(n:Int)<=i then some (i+n).toNat else none
def Fz {α:Type}(xs:List α)(i:Int):Option α:=(UL xs.length i).bind fun j=>xs[j]?
theorem QZ {n:Nat}{i:Int}{j:Nat}(h:UL n i=some j):seqIndex? i n=some j/\j<n/\ -(n:Int)<=i/\i<n:=by
 unfold UL at h
 by_cases h0:0<=i
 ·rw[zW h0]at h
  by_cases h1:i<n
  ·rw[zW h1]at h
   have e:i.toNat=j:=xU h
   exact⟨by rw[seqIndex_of h0 h1,e],by(first|lia|omega),by(first|lia|omega),h1⟩
  ·rw[zL h1]at h;cases h
 ·rw[zL h0]at h
  by_cases h1: -(n:Int)<=i
  ·rw[zW h1]at h
   have e:(i+n).toNat =j:=xU h
   exact⟨by rw[seqIndex_neg (by(first|lia|omega)) h1,e],by(first|lia|omega),h1,by(first|lia|omega)⟩
  ·rw[zL h1]at h;cases h
theorem Nk {α:Type}{xs:List α}{i:Int}{v:α}(h:Fz xs i=some v): ∃j,seqIndex? i xs.length=some j/\xs[j]? =some v/\j<xs.length/\ -(xs.length:Int)<=i/\i<xs.length:=by
 unfold Fz at h
 cases e:UL xs.length i with
 |none=>rw[e]at h;cases h
 |some j=>
  rw[e]at h
  obtain⟨h1,h2,h3,h4⟩:=QZ e
  exact⟨j,h1,h,h2,h3,h4⟩
theorem By {α:Type}{xs:List α}{j:Nat}{v:α}(h:xs[j]? =some v):Fz xs (j:Int)=some v:=by
 have hj:j<xs.length:=(List.getElem?_eq_some_iff.mp h).1
 have e:UL xs.length (j:Int)=some j:=by
  unfold UL
  rw[zW (by(first|lia|omega)),zW (by(first|lia|omega))];simp
 unfold Fz;rw[e];exact h
theorem OQ {α:Type}(xs:List α)(v:α):Fz (xs++[v]) (-1)=some v:=by
 have hl:(xs++[v]).length =xs.length+1:=by simp
 have e:UL (xs++[v]).length (-1)=some xs.length:=by
  unfold UL
  rw[hl,zL (by decide),zW (by(first|lia|omega))]
  congr 1
  (first|lia|omega)
 unfold Fz
 rw[e]
 show(xs++[v])[xs.length]? =some v
 simp

def WD (b:Expr):Prop:= ∀o i,subscripted b false o i=operate [o,i] (getItem o i)
def ZG (X:Cx)(r:R2):Prop:=
 ∀(value slice:Expr) (pins:List (Addr×Obj)) (s:Shared) (σ:St) (H:Hp) (x y:V) (v u:Value) (Q:VK),xM X pins σ H s->kB x v->kB y u->r x y H Q->
  subscripted slice false v u=operate [v,u] (getItem v u)->wpAny (model X.prog X.w) X.A (subscriptTail value slice v u) (EP X pins σ Q) X.xe s
def SY (X:Cx)(id:String)(r:V->List V->Hp->VK->Prop):Prop:=
 ∀(pins:List (Addr×Obj)) (s:Shared) (σ:St) (H:Hp) (x:V) (xs:List V) (v:Value) (us:List Value) (Q:VK),xM X pins σ H s->kB x v->jP xs us->r x xs H Q->
  wpAny (model X.prog X.w) X.A (call (.builtin id) (v::us)) (EP X pins σ Q) X.xe s
section
variable {X:Cx}{a b:Expr}{ta tb:TE}{pos:Pos}
theorem xZ {r:R2}(hr:ZG X r)(ha:PE X a ta)(hb:PE X b tb)(hs:WD b):PE X (.Subscript a b pos) (ZX r ta tb):=by
 refine⟨?_⟩
 intro pins s σ H Q I h
 exact Subscript_ (Yl ha hb I h fun v u s2 x y H2 I2 rx ry q=>hr a b pins s2 σ H2 x y v u Q I2 rx ry q (hs _ _))

inductive Zc (K:PySem.W.Frag) (x:V) (y:V) (H:Hp) (Q:VK):Prop
 |mk (p xs i v:_) (h0:x=.ref p) (h1:y=.int i) (h2:GK K H p xs) (h3:Fz xs i=some v) (h4:Q v H):Zc K x y H Q
inductive XA (K:PySem.W.Frag) (x:V) (y:V) (H:Hp) (Q:VK):Prop
 |mk (p xs i v:_) (h0:x=.ref p) (h1:y=.int i) (h2:EH K H p xs) (h3:Fz xs i=some v) (h4:Q v H):XA K x y H Q
inductive Zb (x:V) (y:V) (H:Hp) (Q:VK):Prop
 |mk (z i c:_) (h0:x=.str z) (h1:y=.int i) (h2:z.length<=sizeLine) (h3:Fz z.cps.toList i=some c) (h4:Q (.str ⟨#[c]⟩) H):Zb x y H Q
theorem jH:ZG X (Zc X.K):=by
 intro value slice pins s σ H x y v u Q I rx ry h hs
 obtain⟨p,xs,i,z,rfl,rfl,hq,he,q⟩:=h
 cases rx
 obtain⟨t,rfl⟩:=ry
 obtain⟨its,r,pl,hz⟩:=I.list hq
 obtain⟨j,h1,h2,h3,h4,h5⟩:=Nk he
 obtain⟨w,ew,rw'⟩:=r.get h2
 have hl:=r.length
 have hn:=En
 have fin:EP X pins σ Q w s:=⟨z,H,I,rw',q⟩
 by_cases h0:0<=i
 ·have hj:i.toNat=j:=by
   rw[seqIndex_of h0 h5]at h1
   exact xU h1
  exact item_listR pl.isList h0 (by(first|lia|omega)) (by rw[hj];simpa using ew) fin hs
 ·have hj:(i+(its.toArray.size:Int)).toNat =j:=by
   rw[seqIndex_neg (by(first|lia|omega)) h4]at h1
   rw[yD,<-hl]
   exact xU h1
  exact subscriptTail_builtinR (x:=w) pl.isList.typeIs slot_list_getitem.lookup
   (wpAny_getItem_list_neg (Q:=fun r s'=>r=w/\EP X pins σ Q r s') pl.isList (by(first|lia|omega)) (by rw[yD]<;>(first|lia|omega)) (by(first|lia|omega)) (by rw[hj];simpa using ew) ⟨rfl,fin⟩) hs
theorem qL:ZG X (XA X.K):=by
 intro value slice pins s σ H x y v u Q I rx ry h hs
 obtain⟨p,xs,i,z,rfl,rfl,hq,he,q⟩:=h
 cases rx
 obtain⟨t,rfl⟩:=ry
 obtain⟨its,r,pl,hz⟩:=I.tuple hq
 obtain⟨j,h1,h2,h3,h4,h5⟩:=Nk he
 obtain⟨w,ew,rw'⟩:=r.get h2
 have hl:=r.length
 have hn:=En
 have fin:EP X pins σ Q w s:=⟨z,H,I,rw',q⟩
 exact subscriptTail_builtinR (x:=w) pl.typeIs slot_tuple_getitem.lookup
  (getItem_tuple (j:=j) (Q:=fun r s'=>r=w/\EP X pins σ Q r s') pl (by(first|lia|omega)) (by(first|lia|omega)) (by rw[yD,<-hl];exact h1) (by simpa using ew) ⟨rfl,fin⟩) hs
theorem Qf:ZG X Zb:=by
 intro value slice pins s σ H x y v u Q I rx ry h hs
 obtain⟨z,i,c,rfl,rfl,hz,he,q⟩:=h
 obtain⟨t,rfl⟩:=rx
 obtain⟨t',rfl⟩:=ry
 obtain⟨j,h1,h2,h3,h4,h5⟩:=Nk he
 have hl:z.cps.toList.length=z.length:=by simp[Str.length]
 rw[hl]at h1 h4 h5
 have hn:=En
 exact tail_any (Aq s z t) slot_str_getitem.lookup (getItem_str (c:=c) (by
  have e1:decide (i< -(2^63:Int))=false:=yJ (by(first|lia|omega))
  have e2:decide (i ≥ 2^63)=false:=yJ (by(first|lia|omega))
  rw[e1,e2,Bool.or_false]) (by rw[h1];simpa using h2) ⟨.str ⟨#[c]⟩,H,I.tok _,⟨_,rfl⟩,q⟩) hs
theorem PZ (its:List Value)(n j:Nat)(u:Value):Obj.mapSeq (·.setIfInBounds j u) {cls:=.type "list",data:=.seq its.toArray n}={cls:=.type "list",data:=.seq (its.set j u).toArray n}:=by
 simp[Obj.mapSeq]
theorem xM.lst {pins:List (Addr×Obj)}{σ:St}{H:Hp}{s:Shared}{p:Addr}{xs:List V}(I:xM X pins σ H s)(h:H p=some (.lst xs)):
  ∃(its:List Value) (n:Nat),jP xs its/\s.heap.get? p=some {cls:=.type "list",data:=.seq its.toArray n}/\xs.length<=sizeLine:=by
 obtain⟨z,its,n,r,e⟩:=I.hok p _ h
 exact⟨its,n,r,e,z⟩
theorem xM.lstUpd {pins:List (Addr×Obj)}{σ:St}{H:Hp}{s:Shared}{p:Addr}{xs ys:List V}{its its':List Value}{n n':Nat}{f:Obj->Obj}(I:xM X pins σ H s)(h:H p=some (.lst xs))
  (ho:s.heap.get? p=some {cls:=.type "list",data:=.seq its.toArray n}) (hf:f {cls:=.type "list",data:=.seq its.toArray n}={cls:=.type "list",data:=.seq its'.toArray n'}) (r:jP ys its') (hz:ys.length<=sizeLine) (t:Nat):
  xM X pins σ (upd H p (.lst ys)) {s with heap:=s.heap.update p f,toks:=t}:=by
 have e:(s.heap.update p f).get? p=some {cls:=.type "list",data:=.seq its'.toArray n'}:=by
  rw[kD f ho (by rw[hf]<;>rfl),hf]
 refine I.write (x:=p) (e:=p) (by rw[h];trivial) (.inl rfl) (fun b u hb q=>(xQ _ _ (Ne.symm hb)).trans q) ⟨_,e⟩ ?_
 exact⟨hz,its',n',r,e⟩
def YZ:V->V->V->Hp->(Hp->Prop)->Prop:=fun o i v H Q=> ∃p xs k j,o=.ref p/\i=.int k/\H p=some (.lst xs)/\UL xs.length k=some j/\Q (upd H p (.lst (xs.set j v)))
theorem HI:ZB X YZ:=by
 intro pins s σ H o i v ov iv u Q I ro ri rv h
 obtain⟨p,xs,k,j,rfl,rfl,hp,hj,q⟩:=h
 cases ro
 obtain⟨t,rfl⟩:=ri
 obtain⟨its,n,r,ho,hz⟩:=I.lst hp
 obtain⟨h1,h2,h3,h4⟩:=QZ hj
 have hl:=r.length
 have hn:=En
 have I':xM X pins σ (upd H p (.lst (xs.set j v))) {s with heap:=s.heap.update p (Obj.mapSeq (·.setIfInBounds j u))}:=
  I.lstUpd hp ho (PZ its n j u) (r.set rv j) (by rw[List.length_set];exact hz) s.toks
 by_cases h0:0<=k
 ·have hk:k.toNat=j:=by
   rw[seqIndex_of h0 h4]at h1
   exact xU h1
  exact PySem.W.ki_setAt ho h0 (by(first|lia|omega)) (by rw[yD,<-hl];exact h4) (by rw[hk];exact⟨_,I',q⟩)
 ·have hk:(k+(its.toArray.size:Int)).toNat =j:=by
   rw[seqIndex_neg (by(first|lia|omega)) h3]at h1
   rw[yD,<-hl]
   exact xU h1
  exact PySem.W.ki_setBack ho (by(first|lia|omega)) (by rw[yD,<-hl];exact h3) (by(first|lia|omega)) (by rw[hk];exact⟨_,I',q⟩)

def Cm:V->Bool
 | .non=>true
 | .bl _=>true
 | .int _=>true
 | .str _=>true
 |_=>false
def Nc:V->V->Bool
 | .non,.non=>true
 | .bl a,.bl b=>a==b
 | .bl a,.int b=>(if a then 1 else 0)==b
 | .int a,.bl b=>a==(if b then 1 else 0)
 | .int a,.int b=>a==b
 | .str a,.str b=>a==b
 |_,_=>false
theorem Ql {A:Around}{s:Shared}{y x:V}{u v:Value}(ry:kB y u)(rx:kB x v)(fy:Cm y=true)(fx:Cm x=true):SeqAt.EqAt A s u v (Nc y x):=by
 cases y with
 |non=>
  cases ry
  cases x with
  |non=>cases rx;exact SeqAt.EqAt.same _
  |bl b=>cases rx;exact SeqAt.EqAt.none_bool b
  |int b=>obtain⟨t,rfl⟩:=rx;exact SeqAt.EqAt.none_int b t
  |str b=>obtain⟨t,rfl⟩:=rx;exact SeqAt.EqAt.none_str b t
  |_=>exact absurd (show false=true from fx) yI
 |bl a=>
  cases ry
  cases x with
  |non=>cases rx;exact SeqAt.EqAt.bool_none a
  |bl b=>cases rx;exact SeqAt.EqAt.bool_bool a b
  |int b=>obtain⟨t,rfl⟩:=rx;exact SeqAt.EqAt.bool_int a b t
  |str b=>obtain⟨t,rfl⟩:=rx;exact SeqAt.EqAt.bool_str a b t
  |_=>exact absurd (show false=true from fx) yI
 |int a=>
  obtain⟨t',rfl⟩:=ry
  cases x with
  |non=>cases rx;exact SeqAt.EqAt.int_none a t'
  |bl b=>cases rx;exact SeqAt.EqAt.int_bool a t' b
  |int b=>obtain⟨t,rfl⟩:=rx;exact SeqAt.EqAt.int_int a t' b t
  |str b=>obtain⟨t,rfl⟩:=rx;exact SeqAt.EqAt.int_str a t' b t
  |_=>exact absurd (show false=true from fx) yI
 |str a=>
  obtain⟨t',rfl⟩:=ry
  cases x with
  |non=>cases rx;exact SeqAt.EqAt.str_none a t'
  |bl b=>cases rx;exact SeqAt.EqAt.str_bool a t' b
  |int b=>obtain⟨t,rfl⟩:=rx;exact SeqAt.EqAt.str_int a t' b t
  |str b=>obtain⟨t,rfl⟩:=rx;exact SeqAt.EqAt.str_str a t' b t
  |_=>exact absurd (show false=true from fx) yI
 |_=>exact absurd (show false=true from fy) yI
def Ng (x:V)(u:Value):Bool:=match u with
 | .none=>Nc .non x
 | .bool b=>Nc (.bl b) x
 | .int i _=>Nc (.int i) x
 | .str z _=>Nc (.str z) x
 |_=>false
theorem Nf {x y:V}{u:Value}(r:kB y u)(f:Cm y=true):Ng x u=Nc y x:=by
 cases y with
 |non=>cases r;rfl
 |bl b=>cases r;rfl
 |int i=>obtain⟨t,rfl⟩:=r;rfl
 |str z=>obtain⟨t,rfl⟩:=r;rfl
 |_=>exact absurd (show false=true from f) yI
theorem Ii {x:V}: ∀{xs:List V} {us:List Value},jP xs us->xs.all Cm=true->us.any (Ng x)=xs.any fun y=>Nc y x
 |_,_,.nil,_=>rfl
 |y::xs,u::us,.cons r t,f=>by
  rw[List.all_cons,wT]at f
  rw[uU,uU,Nf r f.1,Ii t f.2]
theorem Du {A:Around}{s:Shared}{x:V}{v:Value}(rx:kB x v)(fx:Cm x=true): ∀{xs:List V} {us:List Value},jP xs us->xs.all Cm=true-> ∀u∈us,SeqAt.EqAt A s u v (Ng x u)
 |_,_,.nil,_=>fun u hu=>by cases hu
 |y::xs,u::us,.cons r t,f=>fun u' hu=>by
  rw[List.all_cons,wT]at f
  rcases List.mem_cons.mp hu with rfl|hu
  ·rw[Nf r f.1];exact Ql r rx f.1 fx
  ·exact Du rx fx t f.2 u' hu
def WV (x:V)(xs:List V):Bool:=xs.any fun y=>Nc y x
inductive rIn (K:PySem.W.Frag) (neg:Bool) (x:V) (y:V) (H:Hp) (Q:VK):Prop
 |mk (p xs:_) (h0:y=.ref p) (h1:(GK K H p xs\/EH K H p xs)) (h2:Cm x=true) (h3:xs.all Cm=true) (h4:Q (.bl (if neg then !WV x xs else WV x xs)) H):rIn K neg x y H Q
theorem Do:Jx X (compareOp .In) (rIn X.K false):=by
 intro pins s σ H x y v u Q I rx ry h
 obtain⟨p,xs,rfl,hq,fx,fs,q⟩:=h
 cases ry
 rcases hq with hq|hq
 ·obtain⟨its,r,pl,hz⟩:=I.list hq
  refine SeqAt.in_listAt (Ng x) pl.isList (fun w hw=>Du rx fx r fs w (by simpa using hw)) ⟨.bl _,H,I,rfl,?_⟩
  rw[show its.toArray.any (Ng x)=its.any (Ng x)by simp,Ii r fs]
  exact q
 ·obtain⟨its,r,pl,hz⟩:=I.tuple hq
  refine SeqAt.in_tupleAt (Ng x) pl (fun w hw=>Du rx fx r fs w (by simpa using hw)) ⟨.bl _,H,I,rfl,?_⟩
  rw[show its.toArray.any (Ng x)=its.any (Ng x)by simp,Ii r fs]
  exact q
theorem Fq:Jx X (compareOp .NotIn) (rIn X.K true):=by
 intro pins s σ H x y v u Q I rx ry h
 obtain⟨p,xs,rfl,hq,fx,fs,q⟩:=h
 cases ry
 rcases hq with hq|hq
 ·obtain⟨its,r,pl,hz⟩:=I.list hq
  refine SeqAt.notIn_listAt (Ng x) pl.isList (fun w hw=>Du rx fx r fs w (by simpa using hw)) ⟨.bl _,H,I,rfl,?_⟩
  rw[show its.toArray.any (Ng x)=its.any (Ng x)by simp,Ii r fs]
  exact q
 ·obtain⟨its,r,pl,hz⟩:=I.tuple hq
  refine SeqAt.notIn_tupleAt (Ng x) pl (fun w hw=>Du rx fx r fs w (by simpa using hw)) ⟨.bl _,H,I,rfl,?_⟩
  rw[show its.toArray.any (Ng x)=its.any (Ng x)by simp,Ii r fs]
  exact q
theorem xJ:EJ X (.builtin "len") (fun xs H Q=> ∃p ys,xs=[.ref p]/\(GK X.K H p ys\/EH X.K H p ys)/\Q (.int ys.length) H):=by
 intro pins s σ H xs us Q I r h
 obtain⟨p,ys,rfl,hq,q⟩:=h
 obtain⟨u,rfl,rx⟩:=GM r
 cases rx
 have hn:=En
 rcases hq with hq|hq
 ·obtain⟨its,r',pl,hz⟩:=I.list hq
  have hlen:=r'.length
  exact Calls.call_len_list pl.isList (by simp only[yD]<;>(first|lia|omega)) ⟨.int ys.length,H,I.tok _,⟨s.toks+1,by rw[yD,hlen]⟩,q⟩
 ·obtain⟨its,r',pl,hz⟩:=I.tuple hq
  have hlen:=r'.length
  exact len_tuple pl (by simp only[yD]<;>(first|lia|omega)) ⟨.int ys.length,H,I.tok _,⟨s.toks+1,by rw[yD,hlen]⟩,q⟩
theorem Df:EJ X (.builtin "len") (fun xs H Q=> ∃z,xs=[.str z]/\z.length<=sizeLine/\Q (.int z.length) H):=by
 intro pins s σ H xs us Q I r h
 obtain⟨z,rfl,hz,q⟩:=h
 obtain⟨u,rfl,t,rfl⟩:=GM r
 have hn:=En
 exact len_str (by(first|lia|omega)) ⟨.int z.length,H,I.tok _,⟨_,rfl⟩,q⟩
theorem De:EJ X (.type "list") (fun xs H Q=> ∃p ys,xs=[.ref p]/\(GK X.K H p ys\/EH X.K H p ys)/\ ∀l,H l=none->Q (.ref l) (upd H l (.lst ys))):=by
 intro pins s σ H xs us Q I r h
 obtain⟨p,ys,rfl,hq,q⟩:=h
 obtain⟨u,rfl,rx⟩:=GM r
 cases rx
 have fin: ∀(its:List Value),jP ys its->ys.length<=sizeLine-> ∀(h':Heap) (c':Nat),(∀b o',s.heap.get? b=some o'->h'.get? b=some o')->
   h'.get? s.heap.objs.size=some {cls:=.type "list",dict:=none,data:=.seq its.toArray c',slots:=#[]}->EP X pins σ Q (.ref s.heap.objs.size) {s with heap:=h'}:=fun its r' hz h' c' kp e=>
  ⟨.ref s.heap.objs.size,_,I.laid (t':=s.toks) kp (zS _) (show wI X.prog X.w _ h' _ (.lst ys)from⟨hz,its,c',r',e⟩),rfl,q _ (I.hok.fresh (zS _))⟩
 rcases hq with hq|hq
 ·obtain⟨its,r',pl,hz⟩:=I.list hq
  have hlen:=r'.length
  obtain⟨o,ho,hc,n,hd⟩:=pl.isList
  exact call_list_seq p (.inl rfl) ho hc hd (fun h' c' kp e=>fin its r' hz h' c' kp e) (by simp only[yD]<;>(first|lia|omega))
 ·obtain⟨its,r',pl,hz⟩:=I.tuple hq
  have hlen:=r'.length
  obtain⟨o,ho,hc,n,hd⟩:=pl
  exact call_list_seq p (.inr rfl) ho hc hd (fun h' c' kp e=>fin its r' hz h' c' kp e) (by simp only[yD]<;>(first|lia|omega))
theorem vN:EJ X (.type "tuple") (fun xs H Q=> ∃p ys,xs=[.ref p]/\((GK X.K H p ys/\ ∀l,H l=none->Q (.ref l) (upd H l (.tup ys)))\/(EH X.K H p ys/\Q (.ref p) H))):=by
 intro pins s σ H xs us Q I r h
 obtain⟨p,ys,rfl,h⟩:=h
 obtain⟨u,rfl,rx⟩:=GM r
 cases rx
 rcases h with⟨hq,q⟩|⟨hq,q⟩
 ·obtain⟨its,r',pl,hz⟩:=I.list hq
  have hlen:=r'.length
  refine call_tuple_list pl.isList (fun h' kp=>?_) (by simp only[yD]<;>(first|lia|omega))
  have I1:xM X pins σ H {s with heap:=h'}:=I.kept (t':=s.toks) kp
  have I2:xM X pins σ (upd H h'.objs.size (.tup ys)) {s with heap:=h'.push {cls:=.type "tuple",data:=.seq its.toArray}}:=
   I1.laid (t':=s.toks) (fun b o e=>zI _ e) (zS _) (show wI X.prog X.w _ _ _ (.tup ys)from⟨hz,its,r',IsTup.new _ _⟩)
  exact⟨.ref h'.objs.size,_,I2,rfl,q _ (I1.hok.fresh (zS _))⟩
 ·obtain⟨its,r',pl,hz⟩:=I.tuple hq
  exact call_tuple_same pl ⟨.ref p,H,I,rfl,q⟩

def tyV (K:PySem.W.Frag)(T:String)(x:V)(H:Hp):Prop:=match x with
 | .str _=>T="str"
 | .int _=>T="int"
 | .ref p=>(T="list"/\ ∃xs,GK K H p xs)\/(T="tuple"/\ ∃o,K.lookup p=some o/\o.cls=.type "tuple"/\o.dict=none)\/
   (T="dict"/\((∃kvs,H p=some (.dK kvs))\/ ∃kvs,H p=some (.dT kvs)))\/(T="set"/\ ∃S n,H p=some (.set S n))
 |_=>False
theorem Pe {pins:List (Addr×Obj)}{σ:St}{H:Hp}{s:Shared}{T:String}{x:V}{v:Value}(I:xM X pins σ H s)(r:kB x v)(ty:tyV X.K T x H):
  s.TypeIs v T/\ ∀a,v=.ref a-> ∃ob,s.heap.get? a=some ob/\ob.dict=none:=by
 cases x with
 |str z=>
  obtain⟨t,rfl⟩:=r
  cases(show T="str" from ty)
  exact⟨Aq s z t,fun _ e=>nomatch e⟩
 |int i=>
  obtain⟨t,rfl⟩:=r
  cases(show T="int" from ty)
  exact⟨typeIs_int s i t,fun _ e=>nomatch e⟩
 |ref p=>
  cases r
  rcases ty with⟨rfl,xs,hq⟩|⟨rfl,o,hk,hc,hd⟩|⟨rfl,hk⟩|⟨rfl,S,n,hk⟩
  ·obtain⟨its,_,pl,_⟩:=I.list hq
   refine⟨pl.isList.typeIs,fun a e=>?_⟩
   cases e
   obtain⟨o,n,e,c,hd,_⟩:=pl
   exact⟨o,e,hd⟩
  ·refine⟨⟨o,I.kIn p o hk,hc⟩,fun a e=>?_⟩
   cases e
   exact⟨o,I.kIn _ o hk,hd⟩
  ·have z: ∃o,s.heap.get? p=some o/\o.ExactDict:=by
    rcases hk with⟨kvs,hk⟩|⟨kvs,hk⟩
    ·obtain⟨_,_,_,_,o,_,_,e,ex,_⟩:=I.hok p _ hk
     exact⟨o,e,ex⟩
    ·obtain⟨_,_,_,_,o,_,_,e,ex,_⟩:=I.hok p _ hk
     exact⟨o,e,ex⟩
   obtain⟨o,e,ex⟩:=z
   refine⟨⟨o,e,ex.1⟩,fun a e2=>?_⟩
   cases e2
   exact⟨o,e,ex.2.1⟩
  ·obtain⟨o,_,_,_,e,ex,_⟩:=I.hok p _ hk
   refine⟨⟨o,e,ex.1⟩,fun a e2=>?_⟩
   cases e2
   exact⟨o,e,ex.2.1⟩
 |_=>exact False.elim ty
inductive WN (K:PySem.W.Frag) (T:String) (r:V->List V->Hp->VK->Prop) (x:V) (H1:Hp) (Q:VK):Prop
 |mk (h0:tyV K T x H1) (h1:r x [] H1 Q):WN K T r x H1 Q
def zAv (K:PySem.W.Frag)(T:String)(r:V->List V->Hp->VK->Prop)(to:TE):TE:=fun σ H Q=>to σ H fun x H1=>WN K T r x H1 Q
inductive YQ (K:PySem.W.Frag) (T:String) (r:V->List V->Hp->VK->Prop) (t:TA) (σ:St) (x:V) (H1:Hp) (Q:VK):Prop
 |mk (h0:tyV K T x H1) (h1:t σ H1 fun xs H2=>r x xs H2 Q):YQ K T r t σ x H1 Q
def tBM (K:PySem.W.Frag)(T:String)(r:V->List V->Hp->VK->Prop)(to:TE)(t:TA):TE:=fun σ H Q=>to σ H fun x H1=>YQ K T r t σ x H1 Q
variable {o e:Expr}{es:List Expr}{to:TE}{t:TA}{name:Str}{apos cpos:Pos}{T id:String}{r:V->List V->Hp->VK->Prop}
theorem PB (pa:PlainAttrs T)(slot:Slot T name id)(hty:typeOf (.builtin id)=pure (.type "method_descriptor"))(hm:SY X id r)(ho:PE X o to)
  (hbase:attributeBase o name X.env (eval o X.env)=eval o X.env:=by rfl) (hline:(apos.endLine==cpos.line)=true:=by rfl):PE X (.Call (.Attribute o name apos) [] [] cpos) (zAv X.K T r to):=by
 refine⟨?_⟩
 intro pins s σ H Q I h
 refine wpAny_Call_method0_late hbase hline (qR (ho pins s σ H _ I h) fun v s1 hzz=>?_)
 obtain⟨x,H1,I1,r1,ty,q1⟩:=hzz
 obtain⟨h1,h2⟩:=Pe I1 r1 ty
 exact⟨T,id,pa,slot,hty,h1,h2,qP rfl (PySem.evalArgs_none (hm pins s1 σ H1 x [] v [] Q I1 r1 .nil q1))⟩
theorem kK (pa:PlainAttrs T)(slot:Slot T name id)(hty:typeOf (.builtin id)=pure (.type "method_descriptor"))(hm:SY X id r)(ho:PE X o to)(ha:PA X (e::es) t)
  (hbase:attributeBase o name X.env (eval o X.env)=eval o X.env:=by rfl)
  (hfew:((backTo cpos (starEach (e::es) X.env)).all (fun x=>!x.1)&&(backToKw cpos (keywordEach [] X.env)).all (fun x=>x.1.isSome)
   &&decide ((e::es).length +([]:List Keyword).length +(if([]:List Keyword).isEmpty then 0 else 1)<30))=true:=by rfl)
  (hline:(apos.endLine==cpos.line)=true:=by rfl) (hs:starEach (e::es) X.env=(false,eval e X.env)::starEach es X.env:=by rfl) (hplain:(backTo cpos (starEach es X.env)).any (·.1)=false:=by rfl):
  PE X (.Call (.Attribute o name apos) (e::es) [] cpos) (tBM X.K T r to t):=by
 refine⟨?_⟩
 intro pins s σ H Q I h
 refine BB hbase hfew hline rfl (qR (ho pins s σ H _ I h) fun v s1 hzz=>?_)
 obtain⟨x,H1,I1,r1,ty,q1⟩:=hzz
 obtain⟨h1,h2⟩:=Pe I1 r1 ty
 refine⟨T,id,pa,slot,hty,h1,h2,?_⟩
 have hA:=ha cpos pins s1 σ H1 _ I1 q1
 rw[hs]at hA ⊢
 refine qP (by show(false || (backTo cpos (starEach es X.env)).any (·.1))=false;rw[hplain]<;>rfl) (vK ?_)
 exact qR hA fun us s2 ⟨vs,H2,I2,r2,q2⟩=>hm pins s2 σ H2 x vs v us Q I2 r1 r2 q2
/-xs.append(e),list.index on a module's tuple .. are SY facts of 06m-/
end
end L2

namespace L2
open PySem PySem.Spec PyProof.Rows

def YA (X:Cx)(id:String)(r:V->List V->Hp->VK->Prop):Prop:=
 ∀(pins:List (Addr×Obj)) (s:Shared) (σ:St) (H:Hp) (x:V) (xs:List V) (v:Value) (us:List Value) (Q:VK),xM X pins σ H s->kB x v->jP xs us->r x xs H Q->
  wpAny (model X.prog X.w) X.A (call (.builtin id) (v::us)) (EP X pins σ Q) X.xe s

theorem jP.one: ∀{x:V} {us:List Value},jP [x] us-> ∃u,us=[u]/\kB x u
 |_,_,.cons r .nil=>⟨_,rfl,r⟩
theorem jP.zero: ∀{us:List Value},jP [] us->us=[]
 |_,.nil=>rfl
theorem jP.dropLast {xs:List V}{us:List Value}(h:jP xs us):jP xs.dropLast us.dropLast:=by
 induction h with
 |nil=>exact .nil
 |cons r t ih=>
  cases t with
  |nil=>exact .nil
  |cons q t'=>exact .cons r ih
theorem jP.reverse {xs:List V}{us:List Value}(h:jP xs us):jP xs.reverse us.reverse:=by
 induction h with
 |nil=>exact .nil
 |cons r t ih=>rw[Ae,Ae];exact jP.append ih (.cons r .nil)
theorem Qk {α:Type}(l:List α):l.eraseIdx (l.length-1)=l.dropLast:=by
 induction l with
 |nil=>rfl
 |cons a r ih=>
  cases r with
  |nil=>rfl
  |cons b r=>
   have e:(a::b::r).length -1=((b::r).length -1)+1:=by
    have h1:(a::b::r).length =r.length+2:=rfl
    have h2:(b::r).length =r.length+1:=rfl
    (first|lia|omega)
   rw[e,List.eraseIdx_cons_succ,ih]
   all_goals rfl
section
variable {X:Cx}{pins:List (Addr×Obj)}{σ:St}{H:Hp}{s:Shared}{l b:Addr}{xs ys zs:List V}

theorem xM.lset {its its':List Value}{n:Nat}{f:Array Value->Array Value}{t':Nat}(I:xM X pins σ H s)(hH:H l=some (.lst xs))
  (e:s.heap.get? l=some {cls:=.type "list",data:=.seq its.toArray n}) (hf:f its.toArray=its'.toArray) (hv:jP ys its') (hz:ys.length<=sizeLine):
  xM X pins σ (upd H l (.lst ys)) {s with heap:=s.heap.update l (Obj.mapSeq f),toks:=t'}:=by
 have q:=PySem.IsL.update e f
 rw[hf]at q
 refine I.write (x:=l) (e:=l) (by rw[hH];exact trivial) (.inl rfl) (fun b' u hb hu=>(xQ s.heap (Obj.mapSeq f) (Ne.symm hb)).trans hu) ⟨_,q⟩ ?_
 exact⟨hz,its',_,hv,q⟩
theorem xM.lnew {its:List Value}{t':Nat}(I:xM X pins σ H s)(hv:jP ys its)(hz:ys.length<=sizeLine):
  xM X pins σ (upd H s.heap.objs.size (.lst ys)) {s with heap:=s.heap.push {cls:=.type "list",data:=.seq its.toArray},toks:=t'}:=
 I.laid (fun _ _ q=>zI _ q) (zS _) ⟨hz,its,0,hv,yG _ rfl⟩
theorem xM.fresh (I:xM X pins σ H s):H s.heap.objs.size=none:=I.hok.fresh (zS _)
theorem xM.lstM (I:xM X pins σ H s)(hH:H l=some (.lst xs)):xs.length<=sizeLine/\ ∃(its:List Value) (n:Nat),jP xs its/\xs.length=its.length/\s.heap.get? l=some {cls:=.type "list",data:=.seq its.toArray n}:=by
 obtain⟨z,its,n,r,e⟩:=I.hok l _ hH
 exact⟨z,its,n,r,r.length,e⟩

theorem Oh {n:Nat}(h:n<=sizeLine):Builtin.List.listTooLong n=false:=by
 unfold Builtin.List.listTooLong
 exact yJ (by(first|lia|omega))
end

section
variable {X:Cx}

inductive QM (x:V) (vs:List V) (H:Hp) (Q:VK):Prop
 |mk (l xs y:_) (h0:x=.ref l) (h1:vs=[y]) (h2:H l=some (.lst xs)) (h3:xs.length<sizeLine) (h4:Q .non (upd H l (.lst (xs++[y])))):QM x vs H Q
theorem xY:YA X "list.append" QM:=by
 intro pins s σ H x vs v us Q I rx rv h
 obtain⟨l,xs,y,rfl,rfl,hH,hz,q⟩:=h
 cases rx
 obtain⟨u,rfl,ru⟩:=rv.one
 obtain⟨z,its,n,r,hl,e⟩:=I.lstM hH
 refine wB F.slot_list_append ⟨_,e,rfl⟩ F.entry_list_append (F.args_list_append_2 _ _) (PySem.list_append l its.toArray n u (by rw[yD];(first|lia|omega))) ⟨e,?_⟩
 refine⟨.non,_,I.lset (its':=its++[u]) hH e (by simp) (r.append (.cons ru .nil)) ?_,rfl,q⟩
 rw[zC,List.length_singleton]
 (first|lia|omega)

inductive QK (x:V) (vs:List V) (H:Hp) (Q:VK):Prop
 |mk (l b xs zs:_) (h0:x=.ref l) (h1:vs=[.ref b]) (h2:H l=some (.lst xs)) (h3:H b=some (.lst zs)) (h4:xs.length+zs.length<=sizeLine) (h5:Q .non (upd H l (.lst (xs++zs)))):QK x vs H Q
theorem EA:YA X "list.extend" QK:=by
 intro pins s σ H x vs v us Q I rx rv h
 obtain⟨l,b,xs,zs,rfl,rfl,hH,hB,hz,q⟩:=h
 cases rx
 obtain⟨u,rfl,ru⟩:=rv.one
 cases ru
 obtain⟨z,its,n,r,hl,e⟩:=I.lstM hH
 obtain⟨z2,its2,n2,r2,hl2,e2⟩:=I.lstM hB
 have hsz:its.toArray.size+its2.toArray.size<=sizeLine:=by rw[yD,yD];(first|lia|omega)
 have hlong: ¬(!its.toArray.isEmpty&&Builtin.List.listTooLong (its.toArray.size+its2.toArray.size))=true:=by
  rw[Oh hsz,DH]
  exact yI
 refine wB F.slot_list_extend ⟨_,e,rfl⟩ F.entry_list_extend (F.args_list_extend_2 _ _)
  (AutoSeq1.list_extend_list_list_0 l its.toArray n b its2.toArray n2 hlong (by rw[yD];(first|lia|omega)) (by(first|lia|omega))) ⟨e,e2,?_⟩
 refine⟨.non,_,I.lset (its':=its++its2) hH e (by simp) (r.append r2) ?_,rfl,q⟩
 rw[zC]
 (first|lia|omega)

inductive Za (x:V) (vs:List V) (H:Hp) (Q:VK):Prop
 |mk (l xs y:_) (h0:x=.ref l) (h1:vs=[]) (h2:H l=some (.lst xs)) (h3:xs[xs.length-1]? =some y) (h4:Q y (upd H l (.lst xs.dropLast))):Za x vs H Q
theorem XW:YA X "list.pop" Za:=by
 intro pins s σ H x vs v us Q I rx rv h
 obtain⟨l,xs,y,rfl,rfl,hH,hy,q⟩:=h
 cases rx
 have hus:=rv.zero
 subst hus
 obtain⟨z,its,n,r,hl,e⟩:=I.lstM hH
 obtain⟨u,hu,ru⟩:=r.get hy
 have hy':its.toArray[its.toArray.size-1]? =some u:=by
  show its.toArray[its.length-1]? =some u
  rw[<-BP,<-hl]
  exact hu
 refine wB F.slot_list_pop ⟨_,e,rfl⟩ F.entry_list_pop (F.args_list_pop_1 _) (MeetsSeq.list_pop_last l its.toArray n u hy' (by rw[yD];(first|lia|omega))) ⟨e,?_⟩
 refine⟨y,_,I.lset (its':=its.dropLast) hH e ?_ r.dropLast ?_,ru,q⟩
 ·show its.toArray.eraseIdxIfInBounds (its.toArray.size-1)=its.dropLast.toArray
  rw[yD,List.eraseIdxIfInBounds_toArray,Qk]
 ·rw[List.length_dropLast]
  (first|lia|omega)

inductive NQ (x:V) (vs:List V) (H:Hp) (Q:VK):Prop
 |mk (l xs:_) (h0:x=.ref l) (h1:vs=[]) (h2:H l=some (.lst xs)) (h3:Q .non (upd H l (.lst xs.reverse))):NQ x vs H Q
theorem PV:YA X "list.reverse" NQ:=by
 intro pins s σ H x vs v us Q I rx rv h
 obtain⟨l,xs,rfl,rfl,hH,q⟩:=h
 cases rx
 have hus:=rv.zero
 subst hus
 obtain⟨z,its,n,r,hl,e⟩:=I.lstM hH
 refine wB F.slot_list_reverse ⟨_,e,rfl⟩ F.entry_list_reverse (F.args_list_reverse_1 _) (AutoSeq1.list_reverse_list_0 l its.toArray n (by rw[yD];(first|lia|omega))) ⟨e,?_⟩
 refine⟨.non,_,I.lset (its':=its.reverse) hH e (by simp) r.reverse ?_,rfl,q⟩
 rw[AH]
 (first|lia|omega)

inductive Tz (x:V) (vs:List V) (H:Hp) (Q:VK):Prop
 |mk (l xs:_) (h0:x=.ref l) (h1:vs=[]) (h2:H l=some (.lst xs)) (h3:Q .non (upd H l (.lst []))):Tz x vs H Q
theorem UB:YA X "list.clear" Tz:=by
 intro pins s σ H x vs v us Q I rx rv h
 obtain⟨l,xs,rfl,rfl,hH,q⟩:=h
 cases rx
 have hus:=rv.zero
 subst hus
 obtain⟨z,its,n,r,hl,e⟩:=I.lstM hH
 refine wB F.slot_list_clear ⟨_,e,rfl⟩ F.entry_list_clear (F.args_list_clear_1 _) (AutoSeq1.list_clear_list_0 l its.toArray n (by rw[yD];(first|lia|omega))) ⟨e,?_⟩
 exact⟨.non,_,I.lset (its':=[]) (ys:=[]) hH e rfl .nil (yZ _),rfl,q⟩

inductive Ze (x:V) (y:V) (H:Hp) (Q:VK):Prop
 |mk (l b xs zs:_) (h0:x=.ref l) (h1:y=.ref b) (h2:H l=some (.lst xs)) (h3:H b=some (.lst zs)) (h4:xs.length+zs.length<=sizeLine) (h5: ∀p,H p=none->Q (.ref p) (upd H p (.lst (xs++zs)))):Ze x y H Q
theorem BT:Jx X (binaryOp .Add) Ze:=by
 intro pins s σ H x y v u Q I rx ry h
 obtain⟨l,b,xs,zs,rfl,rfl,hH,hB,hz,q⟩:=h
 cases rx
 cases ry
 obtain⟨z,its,n,r,hl,e⟩:=I.lstM hH
 obtain⟨z2,its2,n2,r2,hl2,e2⟩:=I.lstM hB
 refine PySem.P.add_list e e2 ?_ (by rw[yD,yD];(first|lia|omega))
 have ea:its.toArray++its2.toArray=(its++its2).toArray:=by simp
 rw[ea]
 exact⟨.ref _,_,I.lnew (t':=s.toks) (r.append r2) (by rw[zC];(first|lia|omega)),rfl,q _ I.fresh⟩
end

section
variable {prog:Program}{w:World}{A:Around}{E:Value->Shared->Prop}{s:Shared}
set_option maxRecDepth 100000 in
end

section
variable {X:Cx}
end
end L2

namespace Att
open PySem PySem.W PySem.Calls PyProof.Rows

theorem Jw {P:Params}{h:Heap}: ∀(ns:List Int) (vs:List Value),WellAll P h vs (ns.map WData.int)->IntsAre vs ns:=by
 intro ns
 induction ns with
 |nil=>
  intro vs w
  rw[List.map_nil]at w
  cases w
  exact .nil
 |cons n ns ih=>
  intro vs w
  rw[List.map_cons]at w
  cases w with
  |cons a b=>
   cases a
   exact .cons _ _ (ih _ b)

theorem RH {l:OpenLaw}{n:Nat}(hn:l.most=some n){P:Params}{h:Heap}{args:List WData}{vals:List Value}
  (hpre:l.row.toRowW.claim.pre args=true) (hwl:WellAll P h vals args):
  ∃a vs ns,vals=[Value.ref a]/\args=[WData.list (ns.map WData.int)]/\h.get? a=some {cls:=.type "list",data:=.seq vs.toArray}/\IntsAre vs ns/\ns.length<=n:=by
 have hsh:WShape.hasAll [] args [.list .int]=true:=(pre_splitW hpre).1
 have hc:l.pre.holds [] {args:=args}=true:=(pre_splitW hpre).2
 obtain⟨d,r,rfl,h1,h2⟩:=hasAllW_cons hsh
 obtain rfl:=hasAllW_nil h2
 obtain⟨xs,rfl,h3⟩:=hasW_list h1
 obtain⟨ns,rfl⟩:=items_int h3
 have hlen:ns.length<=n:=by
  unfold OpenLaw.pre at hc
  have h4:(WTm.not (.lt (.lit (.int (n:Int))) (.len (.arg 0)))).holds [] {args:=[.list (ns.map .int)]}=true:=by
   have h4:=(holds_andW hc).1
   rw[hn]at h4
   exact h4
  have h5:=condW_of h4 (w_not (w_lt w_lit (w_len_list (w_arg rfl))))
  rw[List.length_map]at h5
  refine Nat.le_of_not_lt fun q=>?_
  have q':(n:Int)<((ns.length:Nat):Int):=by(first|lia|omega)
  first
   |(rw[decide_eq_true q']at h5;exact absurd h5 (by decide))
   |(simp at h5;(first|lia|omega))
 cases hwl with
 |cons w1 w2=>
  cases w2
  cases w1 with
  |list ho hall=>exact⟨_,_,ns,rfl,rfl,ho,Jw ns _ hall,hlen⟩

theorem RL (l:OpenLaw)(args:List WData):l.row.toRowW.claim.post args (.bool true) args=true:=
 postW_of (r:=l.row.toRowW) (X:=(true==true))
  (show WShape.has [] (.bool true) .bool =true by first|rfl|decide|simp[WShape.has,WShape.arms,WShape.armsAll])
  (show(WTm.eq .res (.lit (.bool true))).value [] {args:=args,res:=some (.bool true),after:=args}=some (.bool (true==true))from w_eq_bool (w_res rfl) w_lit) rfl

theorem attach_call {l:OpenLaw}{n:Nat}{q:Program}{loose:List Str}{XP:(Str->Option Value)->Heap->Prop}{YP:World->Heap->Prop}{d:DefRec}
  (hn:l.most=some n) (hdf:d.params.defaults=[])
  (call: ∀(w:World) (s₀ s₁:Shared) (mg mb:Str->Option Value) (fa:Addr) (o:Obj) (pm cd doc:Value) (a:Addr) (vs:List Value) (ns:List Int),
   Ground q loose [] XP w s₀ mg mb s₁.heap->YP w s₁.heap->
   s₁.heap.get? fa=some o->o.data=.func (docDef d.name d.params d.body d.scope pm cd doc)->s₁.heap.CodeRec cd d.name->mg d.name=some (.ref fa)->
   s₁.heap.get? a=some {cls:=.type "list",data:=.seq vs.toArray}->IntsAre vs ns->ns.length<=n->s₁.gens=#[]->
   codeAny (model l.prog w) callerA (.call (.ref fa) ⟨[.ref a],[]⟩) (fun r s'=>r=.ok (.ret (.bool true))/\OldK s₁.heap s'.heap/\s'.os=s₁.os/\AllBare s'.gens) s₁):
  WalkO q loose XP YP l.row.toRowW d [] (fun f vs=>PySem.call f vs):=by
 intro w s₀ s₁ mg mb G Y fa o pm cd doc dV kV ho hd hcd hD hmg hg args vals as hpre hlay hrd hwl hlo
 obtain rfl:dV=.none:=Dflts.none hD hdf
 obtain rfl:kV=.none:=Dflts.noKw hD
 obtain⟨a,vs,ns,rfl,rfl,hobj,hints,hlen⟩:=RH hn hpre hwl
 refine enter_call (codeAny_mono (call w s₀ s₁ mg mb fa o pm cd doc a vs ns G Y ho (fd_plain hd) hcd hmg hobj hints hlen hg) fun r s' hq=>?_)
 obtain⟨rfl,h2,h3,h4⟩:=hq
 exact⟨.inl ⟨.bool true,.bool true,[],rfl,fun _=>rfl,.bool true,RL l _,fun _=>⟨List.Pairwise.nil,fun _ hm=>(nomatch hm)⟩⟩,h2,h3,h4⟩

section
variable {prog:Program}{w:World}{A:Around}{E:Value->Shared->Prop}{s:Shared}{K:Frag}

def zBe (h:Heap)(L d:Addr):List (Addr×Obj):=(List.range h.objs.size).filterMap fun a=>if a=L\/a=d then none else(h.get? a).map fun o=>(a,o)
end
end Att

namespace L2
open PySem PySem.Spec PyProof.Rows

theorem Lh: ∀{vs:List Value} {ns:List Int},IntsAre vs ns->jP (ns.map V.int) vs
 |_,_,.nil=>.nil
 |_,_,.cons n t h=>.cons ⟨t,rfl⟩ (Lh h)

def WE (H:Hp):Prop:= ∀b,H b=none\/ ∃o xs,H b=some (.frz o (.lst xs))

theorem UF {P:Program}{w:World}{K:PySem.W.Frag}{mg mb:Str->Option Value}{CX:Jr}{k:Nat}{fa a:Addr}{fd:FuncData}{x:Str}{sp:Sp}{s₁:Shared}{vs:List Value}{ns:List Int}
  (KX:K.In s₁.heap) (hns:s₁.heap.Ns mainGlobals mg) (hb:s₁.heap.Ns builtinsNs mb) (hbb: ∀x:Str,x≠"__name__"->mb x=bootBuiltins x) (hlim:s₁.heap.NoLimit) (hg:s₁.gens=#[])
  (ha:s₁.heap.get? a=some {cls:=.type "list",data:=.seq vs.toArray}) (hi:IntsAre vs ns) (hl:ns.length<=sizeLine) (hr:uD k callerA)
  (F: ∀base:Heap,K.In base->base.Ns mainGlobals mg->jV P w K mg base CX k fa fd [x] sp) (hbind: ∀(s:Shared) (u:Value),BindsTo s fd ⟨[u],[]⟩ [(x,u)])
  (hsp: ∀H:Hp,WE H->GK K H a (ns.map V.int)->sp [.ref a] H (fun v _=>v=.bl true) fun _ _ _=>False)
  (hCX: ∀H e s',CX [] H s₁ (fun _ _ _=>False) e s'->False):
  codeAny (model P w) callerA (.call (.ref fa) ⟨[.ref a],[]⟩) (fun r s'=>r=.ok (.ret (.bool true))/\OldK s₁.heap s'.heap/\s'.os=s₁.os/\AllBare s'.gens) s₁:=by
 have rv:=Lh hi
 have lenV:=hi.length
 have core: ∀H:Hp,WE H->GK K H a (ns.map V.int)->GL P w H s₁.heap->(∀b,H b≠none->b=a)->(H a≠none->K.lookup a=none)->
   codeAny (model P w) callerA (.call (.ref fa) ⟨[.ref a],[]⟩) (fun r s'=>r=.ok (.ret (.bool true))/\OldK s₁.heap s'.heap/\s'.os=s₁.os/\AllBare s'.gens) s₁:=by
  intro H hO hS hok hA hK
  have base_of: ∀{b:Addr} {o:Obj},s₁.heap.get? b=some o->H b=none->(MY s₁.heap H).get? b=some o:=fun e n=>UR e n
  have noA: ∀{b:Addr} {o:Obj} {es:Array DictEntry} {ep:Nat},s₁.heap.get? b=some o->o.data=.dict es ep->H b=none:=fun{b o es ep} e d=>by
   cases q:H b with
   |none=>rfl
   |some u=>
    have e':b=a:=hA b (by rw[q];simp)
    subst e'
    rw[ha]at e;cases e
    have d':Data.seq vs.toArray _=Data.dict es ep:=d
    cases d'
  have nsK: ∀{b:Addr} {m:Str->Option Value},s₁.heap.Ns b m->(MY s₁.heap H).Ns b m:=fun{b m} ⟨o,es,ep,e,d,r⟩=>⟨o,es,ep,base_of e (noA e d),d,r⟩
  have hKb:K.In (MY s₁.heap H):=fun b o e=>base_of (KX b o e) (by
   cases q:H b with
   |none=>rfl
   |some u=>
    have e':b=a:=hA b (by rw[q];simp)
    subst e'
    rw[hK (by rw[q];simp)]at e;cases e)
  have hM:Mod K mg (MY s₁.heap H):=⟨hKb,nsK hns,⟨mb,nsK hb,hbb⟩,let⟨mc,h1,h2⟩:=hlim;⟨mc,nsK h1,h2⟩⟩
  have e0:Qx P w K mg (MY s₁.heap H) callerA [] s₁ H:=⟨rfl,hM,fun b o e=>Wm e,Nat.le_of_eq (Su _ _),trivial,fun b hb=>absurd (show b∈([]:List Addr)from hb) (by simp),hok,.of_eq hg⟩
  refine BD ((F _ hKb (nsK hns)).run callerA [] s₁ H ⟨[.ref a],[]⟩ [.ref a] [.ref a] _ _ hr e0 (hbind s₁ (.ref a)) (.cons rfl .nil) (hsp H hO hS)) fun r s' h=>?_
  cases r with
  |error e=>exact(hCX H e s' h).elim
  |ok fl=>
   cases fl with
   |next=>exact False.elim h
   |brk=>exact False.elim h
   |cont=>exact False.elim h
   |ret u=>
    obtain⟨v,H',os,bare,un,hok',r',q⟩:=h
    have q':v=.bl true:=q
    subst q'
    obtain rfl:u=Value.bool true:=r'
    refine⟨rfl,OldK.of_keep fun b o e=>?_,os,bare⟩
    cases q:H b with
    |none=>exact un.keep b o e q (by intro z;exact absurd (show b∈([]:List Addr)from z) (by simp)) (by simp)
    |some u=>
     rcases hO b with z|⟨ob,xs,z⟩
     ·rw[q]at z;cases z
     ·have z2:=un.frzs b ob _ z
      obtain⟨e1,_⟩:=hok b _ z
      obtain⟨e2,_⟩:=hok' b _ z2
      rw[e]at e1;cases e1
      exact e2
 cases hk:K.lookup a with
 |some o=>
  have e:=KX a o hk
  rw[ha]at e
  cases e
  refine core (fun _=>none) (fun _=>.inl rfl) (.inr ⟨_,vs.toArray,_,hk,rfl,rfl,rfl,by rw[yD,lenV];exact hl,by simpa using rv⟩) (fun b u z=>by have z':(none:Option HO)=some u:=z;cases z') (fun b z=>absurd rfl z) fun z=>absurd rfl z
 |none=>
  refine core (fun b=>if b=a then some (.frz {cls:=.type "list",data:=.seq vs.toArray} (.lst (ns.map V.int)))else none) (fun b=>?_) (.inl (.inr ⟨{cls:=.type "list",data:=.seq vs.toArray},zW rfl⟩)) (fun b u z=>?_) (fun b z=>?_) fun _=>hk
  ·by_cases hb:b=a
   ·exact .inr ⟨_,_,zW hb⟩
   ·exact .inl (zL hb)
  ·by_cases hb:b=a
   ·have z':=(zW hb).symm.trans z
    cases z'
    subst hb
    exact⟨ha,by rw[zD];exact hl,vs,_,rv,ha⟩
   ·have z':=(zL hb).symm.trans z
    cases z'
  ·by_cases hb:b=a
   ·exact hb
   ·exact absurd (zL hb) z
end L2

namespace L2
open PySem PySem.Spec PyProof.Rows

theorem walk_of {l:PySem.W.OpenLaw}{n k:Nat}{q:Program}{loose:List Str}{XP:(Str->Option Value)->Heap->Prop}{YP:World->Heap->Prop}{d:DefRec}{K:Params->PySem.W.Frag}{CX:World->Jr}{sp:World->Sp}{x:Str}
  (hn:l.most=some n) (hn2:n<=sizeLine) (hdf:d.params.defaults=[]) (hr:uD k callerA)
  (hY: ∀(w:World) (h:Heap),YP w h->(K w.params).In h)
  (F: ∀(w:World) (mg:Str->Option Value) (fa:Addr) (h:Heap),(K w.params).In h->h.Ns mainGlobals mg->mg d.name=some (.ref fa)->
   ∃fd:FuncData,(∀(s:Shared) (u:Value),BindsTo s fd ⟨[u],[]⟩ [(x,u)])/\
    ∀base:Heap,(K w.params).In base->base.Ns mainGlobals mg->jV l.prog w (K w.params) mg base (CX w) k fa fd [x] (sp w))
  (hsp: ∀(w:World) (H:Hp) (a:Addr) (ns:List Int),ns.length<=n->WE H->GK (K w.params) H a (ns.map V.int)->sp w [.ref a] H (fun v _=>v=.bl true) fun _ _ _=>False)
  (hCX: ∀(w:World) (H:Hp) (s:Shared) (e:Value) (s':Shared),CX w [] H s (fun _ _ _=>False) e s'->False):
  PySem.W.WalkO q loose XP YP l.row.toRowW d [] (fun f vs=>PySem.call f vs):=by
 refine Att.attach_call hn hdf fun w s₀ s₁ mg mb fa o pm cd doc a vs ns G Y ho hd hcd hmg hobj hints hlen hg=>?_
 have KX:=hY w _ Y
 obtain⟨fd,hb,hF⟩:=F w mg fa _ KX G.T.g hmg
 exact UF KX G.T.g G.T.b G.T.builtins G.T.nolimit hg hobj hints (yO hlen hn2) hr hF hb (fun H hO hS=>hsp w H a ns hlen hO hS) fun H e s'=>hCX w H s₁ e s'
end L2


namespace L2
open PySem PySem.Spec PyProof.Rows

def GC (s:Stmt)(j:Nat):Stmt:=match s with
 | .ClassDef _ _ _ body _ _ _ _ _ _ _=>body.getD j (.Pass ⟨0,0,0,0⟩)
 |_=>.Pass ⟨0,0,0,0⟩
def AA (s:Stmt):Arguments:=match s with
 | .FunctionDef _ a _ _ _ _ _ _ _ _=>a
 |_=>{posonlyargs:=[],args:=[],vararg:=none,kwonlyargs:=[],kw_defaults:=[],kwarg:=none,defaults:=[]}
def uC (s:Stmt):List Stmt:=match s with
 | .FunctionDef _ _ b _ _ _ _ _ _ _=>b
 |_=>[]
def yH (s:Stmt):Scope:=match s with
 | .FunctionDef _ _ _ _ _ _ sc _ _ _=>sc
 |_=>{kind:=.function,names:=[],isGenerator:=false,isCoroutine:=false}

abbrev E0:XK:=fun _ _ _=>False
structure vW (K:PySem.W.Frag)(x qual:Str)(st:Stmt)(f:Addr)(fd:FuncData):Prop where
 ex: ∃(oc:Value) (od:Option Addr) (kV doc pm:Value) (an:Option Addr) (cdv ct:Value) (osl:Array (Option Value)),
  fd=PySem.W.fnOf x qual (AA st) (uC st) (yH st) .none kV doc pm an cdv ct/\K.lookup f=some ⟨oc,od,.func fd,osl⟩/\PySem.W.codeIn K cdv qual=true
 kp:PySem.W.keepIn K (.ref f)=true
section
variable {P:Program}{w:World}{K:PySem.W.Frag}{mg:Str->Option Value}{base:Heap}
theorem vW.binds {x qual:Str}{st:Stmt}{f:Addr}{fd:FuncData}{ps:List Str}(F:vW K x qual st f fd)
  (h: ∀(kV doc pm:Value) (an:Option Addr) (cdv ct:Value) (us:List Value),us.length=ps.length->bindArgs (PySem.W.fnOf x qual (AA st) (uC st) (yH st) .none kV doc pm an cdv ct) ⟨us,[]⟩=pure (ps.zip us)):vU K fd ps []:=by
 obtain⟨oc,od,kV,doc,pm,an,cdv,ct,osl,rfl,lk,hcd⟩:=F.ex
 exact .all (h kV doc pm an cdv ct)
theorem UU {x qual:Str}{st:Stmt}{f:Addr}{oc:Value}{od an:Option Addr}{osl:Array (Option Value)}{kV doc pm cdv ct:Value}(l:K.lookup f=some ⟨oc,od,.func (PySem.W.fnOf x qual (AA st) (uC st) (yH st) .none kV doc pm an cdv ct),osl⟩)
  (c:PySem.W.codeIn K cdv qual=true) (k:PySem.W.keepIn K (.ref f)=true):vW K x qual st f (PySem.W.fnOf x qual (AA st) (uC st) (yH st) .none kV doc pm an cdv ct):=⟨⟨oc,od,kV,doc,pm,an,cdv,ct,osl,rfl,l,c⟩,k⟩
end
theorem Rb {A:Around}{k:Nat}(hr:uD k A):A.units+1<cLine:=jY (Nat.add_le_add_left (by decide:1<=64) _) hr.units
theorem qY {n:Nat}(h:n<=1000):n<sizeLine:=jY h (by decide)

section
variable {X:Cx}
theorem pv (i:Nat){x:Str}{pos:Pos}(hN:X.N[i]? =some x:=by rfl)(hv:Vis X.env.scope x:=by first|exact Or.inl rfl|exact Or.inr (Or.inl rfl)|exact Or.inr (Or.inr rfl))(hd:(x==("__debug__":Str))=false:=by decide)
  (hcd:(x==("__classdict__":Str))=false:=by decide):PE X (.Name x pos) (Xr i):=XH hN hv hd hcd
end

theorem Bi {A B:Prop}(h:B):if false=true then A else B:=by
 rw[zL yI]
 exact h
theorem AX {A B:Prop}(h:A):if true=true then A else B:=by
 rw[zW rfl]
 exact h
theorem kI {c A B:Prop}[Decidable c](h1:c->A)(h2: ¬c->B):if c then A else B:=by
 by_cases h:c
 ·rw[zW h]
  exact h1 h
 ·rw[zL h]
  exact h2 h
def wG (H H':Hp):Prop:= ∀b o,H b=some o->H' b=some o
theorem wG.refl (H:Hp):wG H H:=fun _ _ h=>h
theorem wG.trans {H H1 H2:Hp}(a:wG H H1)(b:wG H1 H2):wG H H2:=fun c o h=>b c o (a c o h)
theorem wG.free {H H':Hp}(e:wG H H'){l:Addr}(h:H' l=Option.none):H l=Option.none:=by
 cases q:H l with
 |none=>rfl
 |some o=>
  rw[e l o q]at h
  cases h
end L2

namespace L2
open PySem PySem.Spec PyProof.Rows

theorem Qn {prog:Program}{w:World}{A:Around}{R:Result->Shared->Prop}{s:Shared}{elt target iter:Expr}{ifs:List Expr}{scope:Scope}{pos:Pos}{it acc:Value}{env:Env}(J:Nat->Shared->Prop)
  (turn: ∀n s,J n s->wpAny (model prog w) A (pyNext it) (fun r s1=>match r with
   |none=>R (.ok .next) s1
   |some v=>wpAny (model prog w) A (letOwnedTupleGo target it v) (fun _ s1=>wpAny (model prog w) A (assign target env v) (fun _ s2=>
     wpAny (model prog w) A (forIn ifs true fun c r=>if r=true then do let ok<-isTrue c env (eval c env);pure (ForInStep.yield ok)else pure (ForInStep.yield r)) (fun ok s3=>
      if ok=true then wpAny (model prog w) A (eval elt env) (fun x s4=>
       wpAny (model prog w) A (call (.builtin "list.append") [acc,x]) (fun _ s5=> ∃m,m<n/\J m s5) (fun _ _=>False) s4) (fun _ _=>False) s3
      else ∃m,m<n/\J m s3) (fun _ _=>False) s2) (fun _ _=>False) s1) (fun _ _=>False) s1) (fun _ _=>False) s)
  (n:Nat) (h:J n s):
  codeAny (model prog w) A (.compLoop (.ListComp elt [⟨target,iter,ifs,0⟩] scope pos) 0 it acc env) R s:=by
 refine codeAny_loop rfl J (fun n s hI=>?_) n h
 show wpAny _ A ((compTurn (.ListComp elt [⟨target,iter,ifs,0⟩] scope pos) 0 it acc env).onRaise (fun x=>do noteFrame x env;theTreesLotGoes x)) _ _ s
 refine wpAny_noted (vQ (E:=fun _ _=>False) ?_ (fun _ _ q=>q) fun _ _ q=>q.elim)
 rw[compTurn_list]
 refine zE (Cf (zE (qR (turn n s hI) fun r s1 h1=>?_)))
 cases r with
 |none=>exact zR h1
 |some v=>
  refine zE (qR h1 fun _ s1 h1=>?_)
  refine zE (qR h1 fun _ s2 h2=>zE (qR h2 fun ok s3 h3=>?_))
  cases ok with
  |false=>exact zR ⟨rfl,h3⟩
  |true=>exact zE (zE (qR h3 fun x s4 h4=>zE (qR h4 fun _ s5 h5=>zR (zR ⟨rfl,h5⟩))))

theorem Hy {env:Env}: ∀(names:List (Str×NameKind)) (acc:List (Str×Addr)),(∀y∈names,y.2=.free-> ∃c,env.cells.lookup y.1=some c)->
  ∃cl:List (Str×Addr),(forIn names acc (fun(y:Str×NameKind) (r:List (Str×Addr))=>if(y.2==NameKind.free)=true then do let a<-cellOf env y.1;pure (ForInStep.yield ((y.1,a)::r))else pure (ForInStep.yield r)):Sem _)=pure cl/\
   ∀x,(∀c,cl.lookup x=some c->acc.lookup x=some c\/env.cells.lookup x=some c)/\((acc.lookup x).isSome =true\/(x,NameKind.free)∈names->(cl.lookup x).isSome =true)
 |[],acc,_=>⟨acc,rfl,fun x=>⟨fun c h=>.inl h,fun h=>h.elim id fun z=>nomatch z⟩⟩
 |(n,k)::r,acc,hf=>by
  by_cases hk:k=.free
  ·subst hk
   obtain⟨c,hc⟩:=hf (n,.free) zP rfl
   obtain⟨cl,e,q⟩:=Hy r ((n,c)::acc) fun y hy=>hf y (zT _ hy)
   refine⟨cl,?_,fun x=>⟨fun d hd=>?_,fun hx=>?_⟩⟩
   ·rw[vH]
    have e1:cellOf env n=pure c:=by unfold cellOf;simp only[hc]
    simp only[wQ,if_true,e1]
    exact e
   ·rcases(q x).1 d hd with z|z
    ·by_cases hx:x=n
     ·subst hx;rw[vC]at z;cases z;exact .inr hc
     ·rw[AB,beq_eq_false_iff_ne.mpr hx]at z;exact .inl z
    ·exact .inr z
   ·refine(q x).2 ?_
    by_cases hxn:x=n
    ·subst hxn;exact .inl (by rw[vC];rfl)
    ·rcases hx with z|z
     ·exact .inl (by rw[AB,beq_eq_false_iff_ne.mpr hxn];exact z)
     ·rcases List.mem_cons.mp z with z|z
      ·cases z;exact absurd rfl hxn
      ·exact .inr z
  ·obtain⟨cl,e,q⟩:=Hy r acc fun y hy=>hf y (zT _ hy)
   refine⟨cl,?_,fun x=>⟨(q x).1,fun hx=>(q x).2 ?_⟩⟩
   ·rw[vH]
    have hb:(k==NameKind.free)=false:=by simpa using hk
    simp only[hb,uH,EQ]
    exact e
   ·rcases hx with z|z
    ·exact .inl z
    ·rcases List.mem_cons.mp z with z|z
     ·cases z;exact absurd rfl hk
     ·exact .inr z
theorem Hz {env:Env}{scope:Scope}(hf: ∀y∈scope.names,y.2=.free-> ∃c,env.cells.lookup y.1=some c):
  ∃cl,closureFor scope env=pure cl/\(∀x c,cl.lookup x=some c->env.cells.lookup x=some c)/\ ∀x,(x,NameKind.free)∈scope.names-> ∃c,cl.lookup x=some c:=by
 obtain⟨cl,e,q⟩:=Hy scope.names [] hf
 refine⟨cl,?_,fun x c h=>?_,fun x hx=>Option.isSome_iff_exists.mp ((q x).2 (.inr hx))⟩
 ·unfold closureFor
  exact(xT (·>>=fun r=>pure r) e).trans rfl
 ·rcases(q x).1 c h with z|z
  ·simp at z
  ·exact z

abbrev Cx.comp (X:Cx)(N:List Str)(scope:Scope)(cl:List (Str×Addr))(C:Addr)(fp:List Addr)(s:Shared)(H:Hp):Cx:=
 {X with N:=N,s₀:=s,H₀:=H,env:=compEnvC scope cl C X.env,outer:=X.stack,stack:=X.stack,ex:=fp,fn:=fun _=>false,pn:=[],xe:=fun _ _=>False}

structure Xh (X:Cx)(ifs:List Expr)(t:TT):Prop where
 go: ∀(pins:List (Addr×Obj)) (s:Shared) (σ:St) (H:Hp) (Q:Bool->Hp->Prop),xM X pins σ H s->t σ H Q->
  wpAny (model X.prog X.w) X.A (forIn ifs true fun c r=>if r=true then do let ok<-isTrue c X.env (eval c X.env);pure (ForInStep.yield ok)else pure (ForInStep.yield r)) (TP X pins σ Q) X.xe s
instance {X:Cx}{ifs:List Expr}{t:TT}:CoeFun (Xh X ifs t) (fun _=> ∀(pins:List (Addr×Obj)) (s:Shared) (σ:St) (H:Hp) (Q:Bool->Hp->Prop),xM X pins σ H s->t σ H Q->
  wpAny (model X.prog X.w) X.A (forIn ifs true fun c r=>if r=true then do let ok<-isTrue c X.env (eval c X.env);pure (ForInStep.yield ok)else pure (ForInStep.yield r)) (TP X pins σ Q) X.xe s):=⟨Xh.go⟩
def zAl:TT:=fun _ H Q=>Q true H
theorem Gu {X:Cx}:Xh X [] zAl:=⟨fun _ _ _ H _ I h=>wpAny_tests_nil ⟨H,I,h⟩⟩
theorem VS {X:Cx}{c:Expr}{t:TT}(h:PT X c t):Xh X [c] t:=⟨fun pins s σ H Q I q=>wpAny_tests_one (h pins s σ H Q I q)⟩
def IL (own:Nat)(js:List Nat)(σ:St):St:=List.replicate own none++js.map fun j=>(σ[j]?).join
def No (J:It)(p:Addr)(σ0:St)(H0:Hp)(g:TG)(tt:TT)(te:TE)(R:Hp->Prop):Prop:=
 ∃W:Nat->Nat->St->Hp->Prop,(∃m,W 0 m σ0 H0)/\ ∀i m σ' H',W i m σ' H'->
  (J.stop i H'/\R H')\/(J.go i H'/\ ∀x H2,J.yld i H' x H2->g x σ' H2 fun σ3 H3=>tt σ3 H3 fun b H4=>
   if b=true then te σ3 H4 fun v H5=> ∃ys,H5 p=some (.lst ys)/\ys.length<sizeLine/\ ∃m',m'<m/\W (i+1) m' σ3 (upd H5 p (.lst (ys++[v])))
   else ∃m',m'<m/\W (i+1) m' σ3 H4)
def To (wi:TI)(own:Nat)(js:List Nat)(g:TG)(tt:TT)(te:TE):TE:=fun σ H Q=>wi σ H fun J H1=> ∀p,H1 p=none->No J p (IL own js σ) (upd H1 p (.lst [])) g tt te (Q (.ref p))
inductive Gp (N:List Str):List Str->List Nat->Prop where
 |nil:Gp N [] []
 |cons {y:Str} {j:Nat} {ys:List Str} {js:List Nat} (h:N[j]? =some y) (r:Gp N ys js):Gp N (y::ys) (j::js)
theorem Gp.at {N:List Str}: ∀{ys:List Str} {js:List Nat},Gp N ys js-> ∀(i:Nat) (y:Str),ys[i]? =some y-> ∃j,js[i]? =some j/\N[j]? =some y
 |_,_,.nil,_,_,e=>by simp at e
 |_,_,.cons (j:=j) h _,0,_,e=>by simp at e;subst e;exact⟨j,rfl,h⟩
 |_,_,.cons _ r,i+1,y,e=>by
  obtain⟨j,h1,h2⟩:=r.at i y (by simpa using e)
  exact⟨j,by simpa using h1,h2⟩
theorem Gp.length {N:List Str}: ∀{ys:List Str} {js:List Nat},Gp N ys js->ys.length=js.length
 |_,_,.nil=>rfl
 |_,_,.cons _ r=>by simp[r.length]
theorem EB {f:Str->NameKind->NameKind}: ∀{names:List (Str×NameKind)} {x:Str},(names.map fun y=>(y.1,f y.1 y.2)).lookup x=(names.lookup x).map (f x)
 |[],_=>rfl
 |(n,k)::r,x=>by
  by_cases h:x=n
  ·subst h;rw[yK,vC,vC];rfl
  ·have hb:(x==n)=false:=beq_eq_false_iff_ne.mpr h
   rw[yK,AB,AB,hb]
   exact EB
def NO (env:Env)(n:Str)(k:NameKind):NameKind:=if(k== .free&&env.scope.kind== .function&&env.kindOf n==some .cell)=true then .cell else k
theorem HN (scope:Scope)(env:Env)(x:Str):(relabel scope env).names.lookup x=(scope.names.lookup x).map (NO env x):=by
 have e:(relabel scope env).names =scope.names.map fun y=>(y.1,NO env y.1 y.2):=by
  unfold relabel
  refine List.map_congr_left fun y _=>?_
  obtain⟨n,k⟩:=y
  show(if(k== .free&&env.scope.kind== .function&&env.kindOf n==some .cell)=true then(n,NameKind.cell)else(n,k))=(n,NO env n k)
  unfold NO
  split<;>rfl
 rw[e,EB]

section
variable {X:Cx}{elt target iter:Expr}{ifs:List Expr}{scope:Scope}{own ys:List Str}{js:List Nat}{wi:TI}{g:TG}{tt:TT}{te:TE}{pos:Pos}
theorem Hx {pins:List (Addr×Obj)}{σ:St}{H:Hp}{s2:Shared}{it:Addr}{fp:List Addr}{tn:Nat->Heap->Prop}{J:It}{Q:VK}{E:Value->Shared->Prop}{cl:List (Str×Addr)}{RR:Value->Addr->Result->Shared->Prop}
  (hc:X.calm=true) (I:xM X pins σ H s2) (T:Nl X.prog X.w X.K target J fp it tn) (st:tn 0 s2.heap) (fpk: ∀b∈fp,Lc X pins H b)
  (hkind:scope.kind=.function) (hcell: ∀y∈scope.names,y.2≠ .cell) (fr:Gp X.N ys js) (hys: ∀y∈ys,X.env.kindOf y=some .cell)
  (hcl1: ∀x c,cl.lookup x=some c->X.env.cells.lookup x=some c) (hcl2: ∀x,(x,NameKind.free)∈scope.names-> ∃c,cl.lookup x=some c)
  (hvis: ∀y∈ys,(relabel scope X.env).names.lookup y=some .cell)
  (hg: ∀cl C fp s H,PG (X.comp (own++ys) scope cl C fp s H) target g) (ht: ∀cl C fp s H,Xh (X.comp (own++ys) scope cl C fp s H) ifs tt) (he: ∀cl C fp s H,PE (X.comp (own++ys) scope cl C fp s H) elt te)
  (h: ∀p,H p=none-> ∃W:Nat->Nat->St->Hp->Prop,(∃m,W 0 m (IL own.length js σ) (upd H p (.lst [])))/\ ∀i m σ' H',W i m σ' H'->
   (J.stop i H'/\Q (.ref p) H')\/(J.go i H'/\ ∀x H2,J.yld i H' x H2->g x σ' H2 fun σ3 H3=>tt σ3 H3 fun b H4=>
    if b=true then te σ3 H4 fun v H5=> ∃ys,H5 p=some (.lst ys)/\ys.length<sizeLine/\ ∃m',m'<m/\W (i+1) m' σ3 (upd H5 p (.lst (ys++[v])))
    else ∃m',m'<m/\W (i+1) m' σ3 H4))
  (hRR: ∀D C (H':Hp) (s':Shared),xM X pins σ H' s'->Q (.ref D) H'->(∃m,s'.heap.Ns C m)->H' C=none->C≠X.env.locals->X.s₀.heap.objs.size<=C->(∀x c,X.env.cells.lookup x=some c->c≠C)->(∀p∈X.pn++pins,p.1≠C)->RR (.ref D) C (.ok .next) s'):
  wpAny (model X.prog X.w) X.A (newList []) (fun acc s3=>wpAny (model X.prog X.w) X.A (newFunctionEnv scope X.env.globals cl [] X.env.qual none .none (some X.env)) (fun cenv s4=>
   codeAny (model X.prog X.w) X.A (.compStart (.ListComp elt [⟨target,iter,ifs,0⟩] scope pos) 0 (.ref it) acc {cenv with scope:=relabel scope X.env}) (RR acc cenv.locals) s4) E s3) E s2:=by
 refine jU (wpAny_newFunctionEnv hcell (by intro y hy;simp at hy) (fun h1 hns1 hsb1=>?_) hkind)
 have hnp:H s2.heap.objs.size=none:=I.hok.fresh (zS _)
 have I3:xM X pins σ (upd H s2.heap.objs.size (.lst [])) {s2 with heap:=s2.heap.push {cls:=.type "list",data:=.seq ([]:List Value).toArray},toks:=s2.toks}:=
  I.lnew (its:=[]) (ys:=[]) .nil (yZ _)
 obtain⟨W,⟨m0,w0⟩,turn⟩:=h _ hnp
 clear h
 generalize hH0:upd H s2.heap.objs.size (.lst [])=H0 at I3 w0
 generalize hp:s2.heap.objs.size=p at *
 have eS:({s2 with heap:=s2.heap.push {cls:=.type "list",data:=.seq ([]:List Value).toArray},toks:=s2.toks}:Shared)={s2 with heap:=s2.heap.push {cls:=.type "list",data:=.seq ([]:List Value).toArray}}:=rfl
 rw[eS]at I3
 clear eS
 generalize hs3:({s2 with heap:=s2.heap.push {cls:=.type "list",data:=.seq ([]:List Value).toArray}}:Shared)=s3 at *
 have heap3:s3.heap=s2.heap.push {cls:=.type "list",data:=.seq ([]:List Value).toArray}:=by rw[<-hs3]
 have old3: ∀b o,s2.heap.get? b=some o->s3.heap.get? b=some o:=fun b o e=>by rw[heap3];exact zI _ e
 generalize hC:s3.heap.objs.size=C at *
 have st3:tn 0 s3.heap:=T.keep _ _ _ st fun b _ o e=>old3 b o e
 have fp3: ∀b∈fp,b<C:=fun b hb=>by
  obtain⟨o,e,_⟩:=T.obj _ _ st3 b hb
  have:=yC e
  rw[hC]at this;exact this
 have nH0: ∀b∈fp,H0 b=none:=fun b hb=>by
  obtain⟨o,e,_⟩:=T.obj _ _ st b hb
  rw[<-hH0,zQ (fun z=>by have:=yC e;rw[hp,z]at this;exact jO _ this)]
  exact(fpk b hb).1
 have old1: ∀b o,s3.heap.get? b=some o->h1.get? b=some o:=fun b o e=>
  hsb1.extBut b o (fun z=>by have:=yC e;rw[hC,z]at this;exact jO _ this) (zI _ e)
 have nstk: ∀b∈fp,b∉frs X.stack:=fun b hb z=>by
  rcases List.mem_cons.mp (I.stkSub b z)with e|e
  ·exact(fpk b hb).2.1 e
  ·exact(fpk b hb).2.2.1 e
 have ncC: ∀x c,X.env.cells.lookup x=some c->c≠C:=fun x c e z=>by
  obtain⟨v,o,ho,_⟩:=I3.cell x c e
  have:=yC ho
  rw[hC,z]at this;exact jO _ this
 have LC:C≠X.env.locals:=fun z=>by have:=I3.lt;rw[hC,z]at this;exact jO _ this
 have sC:X.s₀.heap.objs.size<=C:=by rw[<-hC];exact I3.sz
 have rl: ∀x k,(compEnvC scope cl C X.env).kindOf x=some k->(k=.cell\/k=.free)->(x,NameKind.free)∈scope.names:=fun x k e hk=>by
  have e':(relabel scope X.env).names.lookup x=some k:=e
  rw[HN]at e'
  cases q:scope.names.lookup x with
  |none=>rw[q]at e';cases e'
  |some k0=>
   rw[q]at e'
   have m0:=wN q
   have n0:=hcell _ m0
   have:NO X.env x k0=k:=xU e'
   unfold NO at this
   split at this
   ·rename_i z
    have:k0=.free:=by
     simp only[wT,beq_iff_eq]at z
     exact z.1.1
    rw[<-this];exact m0
   ·rcases hk with hk|hk
    ·exact absurd (this.trans hk) n0
    ·rw[<-hk,<-this];exact m0
 let Y:=X.comp (own++ys) scope cl C fp s3 H0
 have okY:Y.Ok:=by
  refine⟨I.ok.mod,?_,I.ok.glob,I.ok.blt,?_,fun x y c e1 e2=>I.ok.inj x y c (hcl1 x c e1) (hcl1 y c e2),fun x hx=>?_,fun x c z=>(nomatch z),I.ok.hd,I.ok.frames,.inl rfl,fun b hb=>⟨?_,fun x c e=>(fpk b hb).2.2.2.2.1 x c (hcl1 x c e)⟩,fun b o e=>I3.bs b o e,?_,fun b o e hb=>?_,nstk,I3.stack,I3.stkFree⟩
  ·exact hkind
  ·exact Nat.le_of_eq hC
  ·rcases hx with hx|hx
   ·exact hcl2 x (rl x _ hx (.inl rfl))
   ·exact hcl2 x (rl x _ hx (.inr rfl))
  ·exact xK (fp3 b hb)
  ·exact yO I.ok.bsz I3.sz
  ·rcases(fpk b hb).2.2.2.1 with z|z
   ·exact I.ok.noex b o e z
   ·exact absurd (yR (yC e) (yO I.ok.bsz z)) (jO _)
 have I4:xM Y [] (IL own.length js σ) H0 {s3 with heap:=h1,toks:=s3.toks+([]:List (Str×Value)).length}:=by
  refine⟨okY,rfl,I3.bare,Un.kept old1,⟨_,hns1,fun i x v e1 e2 e3=>?_⟩,fun x c e=>?_,?_,fun x c e=>I3.freeC x c (hcl1 x c e),fun p hp=>absurd (show p∈([]:List (Addr×Obj))from hp) (by simp),I3.hok.kept old1,?_⟩
  ·have e1:(own++ys)[i]? =some x:=e1
   have hi:own.length<=i:=Nat.le_of_not_lt fun lt=>by
    unfold IL at e2
    rw[vF (by simpa using lt),EV]at e2
    split at e2<;>cases e2
   rw[qO hi]at e1
   obtain⟨j,hj,hN⟩:=fr.at _ _ e1
   unfold IL at e2
   rw[qO (by simpa using hi),uX,zN,hj]at e2
   have e2:(σ[j]?).join =some v:=xU e2
   have e2':σ[j]? =some (some v):=by
    cases q:σ[j]? with
    |none=>rw[q]at e2;cases e2
    |some z=>rw[q]at e2;rw[show z=some v from e2]
   have my:=zM e1
   have hk:=hys x my
   obtain⟨m,hn,hl⟩:=I3.loc
   obtain⟨u,r,q⟩:=hl j x v hN e2' (.inr (.inl hk))
   refine⟨u,r,?_⟩
   rcases q with⟨k,_⟩|⟨_,c,e,z⟩
   ·rw[hk]at k;cases k
   ·obtain⟨c',e'⟩:=hcl2 x (rl x _ (hvis x my) (.inl rfl))
    have:c'=c:=by have:=hcl1 x c' e';rw[e]at this;exact(xU this).symm
    subst this
    refine .inr ⟨?_,c',e',?_⟩
    ·exact .inl (hvis x my)
    ·obtain⟨o,ho,hd⟩:=z
     exact⟨o,old1 _ _ ho,hd⟩
  ·obtain⟨v,o,ho,hd⟩:=I3.cell x c (hcl1 x c e)
   exact⟨v,o,old1 _ _ ho,hd⟩
  ·exact I3.hok.fresh (Nat.le_of_eq hC)
  ·unfold IL
   show _=(own++ys).length
   rw[zC,uX,zD,zC,fr.length]
 have stat: ∀{H':Hp},(∀b∈fp,H' b=none)-> ∀b∈fp,Lc Y [] H' b:=fun hn b hb=>
  ⟨hn b hb,xK (fp3 b hb),nstk b hb,.inl hb,fun x c e=>(fpk b hb).2.2.2.2.1 x c (hcl1 x c e),fun p hp=>absurd (show p∈([]:List (Addr×Obj))from hp) (by simp)⟩
 have fin: ∀{σ':St} {H':Hp} {s':Shared},xM Y [] σ' H' s'->Q (.ref p) H'->RR (.ref p) C (.ok .next) s':=fun{σ' H' s'} I' q=>by
  have back:xM X pins σ H' s':=I3.call' (ch:=fp) I'.os I'.base I'.hok I'.bare fun b hb=>⟨(fpk b hb).2.2.2.1,(fpk b hb).2.1,(fpk b hb).2.2.2.2.1,(fpk b hb).2.2.2.2.2⟩
  obtain⟨m,hn,_⟩:=I'.loc
  exact hRR p C H' s' back q ⟨m,hn⟩ I'.free LC sC ncC fun q hq z=>by
   have:=yC (I3.pin q hq).1
   rw[hC,z]at this;exact jO _ this
 have loop: ∀s4:Shared,s4={s3 with heap:=h1,toks:=s3.toks+([]:List (Str×Value)).length}->
   codeAny (model X.prog X.w) X.A (.compLoop (.ListComp elt [⟨target,iter,ifs,0⟩] scope pos) 0 (.ref it) (.ref p) (compEnvC scope cl C X.env)) (RR (.ref p) C) s4:=by
  rintro s4 rfl
  refine Qn (fun n s'=> ∃i σ' H',xM Y [] σ' H' s'/\tn i s'.heap/\(∀b∈fp,H' b=none)/\W i n σ' H') ?_ m0 ⟨0,_,_,I4,T.keep _ _ _ st3 fun b _ o e=>old1 b o e,nH0,w0⟩
  rintro n s5 ⟨i,σ5,H5,I5,st5,fr5,w5⟩
  rcases turn i n σ5 H5 w5 with⟨stop,qn⟩|⟨go,step⟩
  ·refine qR (T.done Y rfl rfl rfl hc i [] s5 σ5 H5 (fun _ _=>False) I5 (stat fr5) st5 stop) fun r s6 hzz=>?_
   obtain⟨hr,I6⟩:=hzz
   subst hr
   exact fin I6 qn
  ·refine qR (T.item Y rfl rfl rfl hc i [] s5 σ5 H5 (fun _ _=>False) I5 (stat fr5) st5 go) fun r s6 hzz=>?_
   obtain⟨u,hr,h6⟩:=hzz
   subst hr
   refine qR h6 fun _ s7 hzz=>?_
   obtain⟨x,H7,I7,r7,y7,st7,fr7⟩:=hzz
   have I7':=I7.pinned (stat fr7) (T.obj _ _ st7)
   have again: ∀{σ9:St} {H9:Hp} {s9:Shared} {m':Nat},xM Y ([]++Kb fp s7.heap) σ9 H9 s9->m'<n->W (i+1) m' σ9 H9-> ∃m,m<n/\ ∃i σ' H',xM Y [] σ' H' s9/\tn i s9.heap/\(∀b∈fp,H' b=none)/\W i m σ' H':=fun{σ9 H9 s9 m'} I9 hm w9=>by
    refine⟨m',hm,i+1,σ9,H9,I9.unpinned,T.keep _ _ _ st7 fun b hb o e=>(I9.pin (b,o) (yW _ (yW _ (Fu hb e)))).1,fun b hb=>?_,w9⟩
    obtain⟨o,e,d⟩:=T.obj _ _ st7 b hb
    exact(I9.pin (b,o) (yW _ (yW _ (Fu hb e)))).2.1
   refine qR (hg cl C fp s3 H0 _ s7 σ5 H7 x u _ I7' r7 (step x H7 y7)) fun _ s8 hzz=>?_
   obtain⟨σ8,H8,I8,q8⟩:=hzz
   refine qR (ht cl C fp s3 H0 _ s8 σ8 H8 _ I8 q8) fun b s9 hzz=>?_
   obtain⟨H9,I9,q9⟩:=hzz
   cases b with
   |false=>
    obtain⟨m',hm,w9⟩:=q9
    exact again I9 hm w9
   |true=>
    refine qR (he cl C fp s3 H0 _ s9 σ8 H9 _ I9 q9) fun y s10 hzz=>?_
    obtain⟨v,H10,I10,r10,zs,e10,z10,m',hm,w10⟩:=hzz
    refine qR (xY (X:=Y) _ s10 σ8 H10 (.ref p) [v] (.ref p) [y] (fun _ H'=>H'=upd H10 p (.lst (zs++[v]))) I10 rfl (.cons r10 .nil) ⟨p,zs,v,rfl,rfl,e10,z10,rfl⟩) fun _ s11 hzz=>?_
    obtain⟨_,H11,I11,_,q11⟩:=hzz
    subst q11
    exact again I11 hm w10
 have st4:tn 0 h1:=T.keep _ _ _ st3 fun b _ o e=>old1 b o e
 exact codeAny_compStart_list (loop _ rfl) (T.self _ 0 _ _ _ st4 (loop _ rfl))
end

section
variable {X:Cx}{elt target iter:Expr}{ifs:List Expr}{scope:Scope}{own ys:List Str}{js:List Nat}{wi:TI}{g:TG}{tt:TT}{te:TE}{pos:Pos}
structure Nn (X:Cx)(scope:Scope)(ys:List Str):Prop where
 kind:scope.kind=.function
 cell: ∀y∈scope.names,y.2≠ .cell
 loc: ∀y∈scope.names,y.2=.local->scope.names.lookup y.1=some .local
 free: ∀y∈scope.names,y.2=.free->X.env.kindOf y.1=some .cell
 cap: ∀y∈ys,X.env.kindOf y=some .cell
 vis: ∀y∈ys,(relabel scope X.env).names.lookup y=some .cell
def Rq (sc scope:Scope)(ys:List Str):Bool:=
 scope.kind== .function&&sc.kind== .function&&(scope.names.all fun y=>y.2 != .cell&&(y.2 != .local || scope.names.lookup y.1==some .local)&&(y.2 != .free || sc.names.lookup y.1==some .cell))&&
  ys.all fun y=>sc.names.lookup y==some .cell&&scope.names.lookup y==some .free
theorem BW {sc:Scope}(hsc:X.env.scope=sc)(h:Rq sc scope ys=true):Nn X scope ys:=by
 unfold Rq at h
 simp only[wT,wC,beq_iff_eq,bne_iff_ne,Bool.or_eq_true,ne_eq]at h
 obtain⟨⟨⟨h1,h0⟩,h2⟩,h3⟩:=h
 subst hsc
 refine⟨h1,fun y hy=>(h2 y hy).1.1,fun y hy e=>?_,fun y hy e=>?_,fun y hy=>(h3 y hy).1,fun y hy=>?_⟩
 ·rcases(h2 y hy).1.2 with z|z
  ·exact absurd e z
  ·exact z
 ·rcases(h2 y hy).2 with z|z
  ·exact absurd e z
  ·exact z
 ·rw[HN,(h3 y hy).2]
  show some (NO X.env y .free)=_
  have z:X.env.kindOf y=some .cell:=(h3 y hy).1
  unfold NO
  rw[z,h0]
  rfl
theorem HU (hc:X.calm=true)(hi:PI X target iter wi)(S:Nn X scope ys)(fr:Gp X.N ys js)
  (hg: ∀cl C fp s H,PG (X.comp (own++ys) scope cl C fp s H) target g) (ht: ∀cl C fp s H,Xh (X.comp (own++ys) scope cl C fp s H) ifs tt) (he: ∀cl C fp s H,PE (X.comp (own++ys) scope cl C fp s H) elt te)
  (hs: ∀x,foldedSetIterable iter X.env x=pure x:=by intro _;rfl):PE X (.ListComp elt [⟨target,iter,ifs,0⟩] scope pos) (To wi own.length js g tt te):=by
 refine⟨?_⟩
 intro pins s σ H Q I h
 rw[eval_ListComp]
 obtain⟨cl,e,c1,c2⟩:=Hz (env:=X.env) (scope:=scope) fun y hy hf=>I.ok.has y.1 (.inl (S.free y hy hf))
 refine AL (use:=none) rfl hs e S.kind S.loc (qR (hi pins s σ H _ I h) fun v s1 h1=>qR h1 fun itv s2 h2=>?_)
 obtain⟨it,fp,tn,J,H2,e,I2,T,st2,f2,q2⟩:=h2
 subst e
 refine Hx (Q:=Q) (RR:=fun acc C=>compPost (model X.prog X.w) X.A X.xe none (EP X pins σ Q) acc C) hc I2 T st2 f2 S.kind S.cell fr S.cap c1 c2 S.vis hg ht he q2 ?_
 intro D C H' s' I' q hm n1 n2 n3 n4 n5
 obtain⟨m,hn⟩:=hm
 exact⟨m,hn,fun h' hs'=>⟨.ref D,H',I'.turned (fun b o hb e=>(hs'.2 b hb).trans e) n1 n2 (.inr n3) n4 n5,rfl,q⟩⟩
theorem Px {i:Nat}{x:Str}{pos' spos:Pos}(hN:X.N.Nodup)(hix:X.N[i]? =some x)(hx:X.env.scope.names.lookup x=some .local)(hc:X.calm=true)(hi:PI X target iter wi)(S:Nn X scope ys)(fr:Gp X.N ys js)
  (hg: ∀cl C fp s H,PG (X.comp (own++ys) scope cl C fp s H) target g) (ht: ∀cl C fp s H,Xh (X.comp (own++ys) scope cl C fp s H) ifs tt) (he: ∀cl C fp s H,PE (X.comp (own++ys) scope cl C fp s H) elt te)
  (hsw:swapsWith (.ListComp elt [⟨target,iter,ifs,0⟩] scope pos) (some (.Name x pos')) spos.line X.env=pure true:=by rfl)
  (hs: ∀x,foldedSetIterable iter X.env x=pure x:=by intro _;rfl):PS X (.Assign [.Name x pos'] (.ListComp elt [⟨target,iter,ifs,0⟩] scope pos) spos) (fun D σ H=>To wi own.length js g tt te σ H fun v H1=>D.nx (σ.set i (some v)) H1):=by
 refine⟨?_⟩
 intro pins s σ H D I h
 rw[exec_Assign_Name_used _ _ _ _ hsw]
 refine zE (Cf (zE ?_))
 show wpAny _ X.A (do let _<-comprehension (.ListComp elt [⟨target,iter,ifs,0⟩] scope pos) scope X.env _ (newList []) false (eval iter X.env) (some (assign (.Name x pos') X.env))) _ _ s
 obtain⟨cl,e,c1,c2⟩:=Hz (env:=X.env) (scope:=scope) fun y hy hf=>I.ok.has y.1 (.inl (S.free y hy hf))
 refine zE (qR (AL (use:=some (assign (.Name x pos') X.env)) (Q:=fun _ s'=>SP X pins D .next s') rfl hs e S.kind S.loc
  (qR (hi pins s σ H _ I h) fun v s1 h1=>qR h1 fun itv s2 h2=>?_)) fun _ s' hq=>zR (zR hq))
 obtain⟨it,fp,tn,J,H2,e,I2,T,st2,f2,q2⟩:=h2
 subst e
 refine Hx (Q:=fun v H1=>D.nx (σ.set i (some v)) H1) (RR:=fun acc C=>compPost (model X.prog X.w) X.A X.xe (some (assign (.Name x pos') X.env)) (fun _ s'=>SP X pins D .next s') acc C) hc I2 T st2 f2 S.kind S.cell fr S.cap c1 c2 S.vis hg ht he q2 ?_
 intro B C H' s' I' q hm n1 n2 n3 n4 n5
 obtain⟨m,hn⟩:=hm
 show wpAny _ X.A (assign (.Name x pos') X.env (.ref B)) _ _ _
 refine wpAny_assign_Name (Lj I' hN hix (.inl hx) (v:=.ref B) rfl (fun s2 I2 hsb=>?_) (.inr hx))
 obtain⟨a,hsb,ha⟩:=hsb
 have ne:C≠a:=by
  rcases ha with z|z
  ·rw[z];exact n2
  ·exact Ne.symm (n4 x a z)
 exact⟨m,hn.sameBut hsb ne,fun h' hs'=>⟨_,H',I2.turned (fun b o hb e=>(hs'.2 b hb).trans e) n1 n2 (.inr n3) n4 n5,q⟩⟩
end
end L2

namespace L2
open PySem PySem.Spec PyProof.Rows
section
variable {X:Cx}{x:Str}{p pos:Pos}{e:Expr}{es:List Expr}{t:TA}

def uE (mg:Str->Option Value)(x:Str)(i:Int):Prop:= ∃t,mg x=some (.int i t)
theorem xH {i:Int}(hg:Gl X x)(hm:uE X.mg x i)(hd:(x==("__debug__":Str))=false:=by decide):PE X (.Name x pos) (tC (.int i)):=by
 obtain⟨t,hm⟩:=hm
 exact MM (v:=.int i) hg hm ⟨t,rfl⟩ hd
theorem Fp {a:Addr}(hg:Gl X x)(hm:X.mg x=some (.ref a))(hd:(x==("__debug__":Str))=false:=by decide):PE X (.Name x pos) (tC (.ref a)):=MM (v:=.ref a) hg hm rfl hd

structure vV (P:Program)(w:World)(K:PySem.W.Frag)(mg:Str->Option Value)(base:Heap)(CX:Jr)(k:Nat)(x:Str)(ps:List Str)(sp:Sp):Prop where
 ex: ∃f fd,jV P w K mg base CX k f fd ps sp/\mg x=some (.ref f)/\PySem.W.keepIn K (.ref f)=true/\vU K fd ps []
theorem yF {CX:Jr}{k n:Nat}{ps:List Str}{sp:Sp}{E:XK}(C:vV X.prog X.w X.K X.mg X.base CX k x ps sp)(hr:uD n X.A)(hg:Gl X x)(ha:PA X (e::es) t)(hx:AZ CX X E)(hk:k<=n:=by first|decide|(first|lia|omega))(hdb:(x==("__debug__":Str))=false:=by decide)
  (he:starEach (e::es) X.env=(false,eval e X.env)::starEach es X.env:=by rfl) (hpl:(backTo pos (starEach es X.env)).any (·.1)=false:=by rfl):PE X (.Call (.Name x p) (e::es) [] pos) (QC sp [] E t):=by
 obtain⟨f,fd,F,hm,kp,hb⟩:=C.ex
 exact Wa F (hr.mono hk) hg hm kp hb .nil hx ha hdb he hpl
theorem Lq {CX:Jr}{k n:Nat}{ps:List Str}{sp:Sp}{E:XK}(C:vV X.prog X.w X.K X.mg X.base CX k x ps sp)(hr:uD n X.A)(hg:Gl X x)(hx:AZ CX X E)(hk:k<=n:=by first|decide|(first|lia|omega))(hdb:(x==("__debug__":Str))=false:=by decide):
  PE X (.Call (.Name x p) [] [] pos) (QC sp [] E Tl):=by
 obtain⟨f,fd,F,hm,kp,hb⟩:=C.ex
 exact Ub F (hr.mono hk) hg hm kp hb .nil hx hdb

inductive IZ:List Expr->List V->Prop where
 |nil:IZ [] []
 |int {i j pos es vs} (r:IZ es vs):IZ (.Constant (.int i) j pos::es) (.int i::vs)
 |str {x j pos es vs} (r:IZ es vs):IZ (.Constant (.str x) j pos::es) (.str x::vs)
theorem Bg: ∀{es:List Expr} {vs:List V},IZ es vs->PA X es (fun _ H Q=>Q vs H)
 |_,_,.nil=>⟨fun pos pins s σ H Q I h=>zH pos pins s σ H Q I h⟩
 |_,_,.int r=>⟨fun pos pins s σ H Q I h=>zA zX (Bg r) (by rfl) pos pins s σ H Q I h⟩
 |_,_,.str r=>⟨fun pos pins s σ H Q I h=>zA kQ (Bg r) (by rfl) pos pins s σ H Q I h⟩

def Zd (K:PySem.W.Frag):List V->Hp->VK->Prop:=fun xs H Q=>
 (∃x n t b,xs=[x,.ty n]/\Ij K H x t/\PySem.W.kitOne K t (.type n)=some b/\Q (.bl b) H)\/ ∃x C t b,xs=[x,.ref C]/\Ij K H x t/\PySem.W.kitOne K t (.ref C)=some b/\Q (.bl b) H
theorem SR (K:PySem.W.Frag)(hK:X.K=K):EJ X (.builtin "isinstance") (Zd K):=by
 subst hK
 intro pins s σ H xs us Q I r h
 rcases h with⟨x,n,t,b,rfl,ty,e,q⟩|⟨x,C,t,b,rfl,ty,e,q⟩
 ·obtain⟨u,w',rfl,ru,rw'⟩:=NA r
  cases rw'
  exact LM I ru ty e fun tk=>⟨.bl b,H,I.tok tk,rfl,q⟩
 ·obtain⟨u,w',rfl,ru,rw'⟩:=NA r
  cases rw'
  exact LM I ru ty e fun tk=>⟨.bl b,H,I.tok tk,rfl,q⟩
theorem Al:EJ X (.builtin "isinstance") (Zd X.K):=SR X.K rfl

theorem MW (K:PySem.W.Frag)(hK:X.K=K):ZG X (XA K):=hK▸qL
theorem GQ {v:Value}{o:Option Int}(p:IsPart v o): ∃l:Option (Int×Tok),v=partValue l/\l.map (·.1)=o:=by
 cases p with
 |none=>exact⟨none,rfl,rfl⟩
 |int i t=>exact⟨some (i,t),rfl,rfl⟩
inductive YY (x:V) (lo:Option Int) (hi:Option Int) (H:Hp) (Q:VK):Prop
 |mk (z:_) (h0:x=.str z) (h1:z.length<=sizeLine) (h2:Q (.str (Txt.slice z lo hi)) H):YY x lo hi H Q
theorem Xx:SlR X YY:=by
 intro pins s σ H x v vl vu lo hi sl Q I rx hs pl pu h
 obtain⟨z,rfl,hz,q⟩:=h
 obtain⟨t,rfl⟩:=(show ∃t,v=Value.str z t from rx)
 obtain⟨l,rfl,rfl⟩:=GQ pl
 obtain⟨u,rfl,rfl⟩:=GQ pu
 refine⟨"str",_,F.slot_str_getitem.lookup,Aq s z t,wpAny_getItem_str_slice (l:=l) (u:=u) (st:=none) hs rfl ?_⟩
 unfold sliceMade Txt.slice at *
 split
 ·rename_i c
  have c':((1:Int)==1&&(Builtin.Str.strSliceIndices (l.map (·.1)) (u.map (·.1)) 1 z.length).length ==z.length)=true:=c
  rw[zW c']at q
  exact⟨.str z,H,I,⟨t,rfl⟩,q⟩
 ·rename_i c
  have c': ¬((1:Int)==1&&(Builtin.Str.strSliceIndices (l.map (·.1)) (u.map (·.1)) 1 z.length).length ==z.length)=true:=c
  have le:=Txt.slice_le z (l.map (·.1)) (u.map (·.1))
  unfold Txt.slice at le
  rw[zL c']at q le
  exact⟨yO le hz,.str _,H,I.tok _,⟨_,rfl⟩,q⟩

theorem JN: ∀{ys:List Str} {us:List Value},jP (ys.map V.str) us->StrsAre us ys
 |[],_,.nil=>.nil
 |y::ys,_,.cons r t=>by
  obtain⟨k,rfl⟩:=(show ∃t,_=Value.str y t from r)
  exact .cons y k (JN t)
inductive Tx (K:PySem.W.Frag) (x:V) (vs:List V) (H:Hp) (Q:VK):Prop
 |mk (z l ys:_) (h0:x=.str z) (h1:vs=[.ref l]) (h2:GK K H l (ys.map V.str)) (h3:(ys.map (·.length)).sum +ys.length*z.length<=16777216) (h4:Q (.str (Txt.join z ys)) H):Tx K x vs H Q
theorem Gz:SY X "str.join" (Tx X.K):=by
 intro pins s σ H x vs v us Q I rx rv h
 obtain⟨z,l,ys,rfl,rfl,hl,hz,q⟩:=h
 obtain⟨t,rfl⟩:=(show ∃t,v=Value.str z t from rx)
 obtain⟨u,rfl,ru⟩:=rv.one
 cases ru
 obtain⟨its,r,pl,hsz⟩:=I.list hl
 exact join_list pl.isList (by simpa using JN r) hz fun t' k=>⟨.str _,H,I.tok k,⟨t',rfl⟩,q⟩

def Nm (xs:List V)(y:V)(j:Nat):Prop:=(∃z,xs[j]? =some z/\Nc z y=true)/\ ∀(m:Nat) (z:V),m<j->xs[m]? =some z->Nc z y=false
inductive Pw (S:Hp->Addr->List V->Prop) (x:V) (vs:List V) (H:Hp) (Q:VK):Prop
 |mk (l xs y j:_) (h0:x=.ref l) (h1:vs=[y]) (h2:S H l xs) (h3:Cm y=true) (h4:xs.all Cm=true) (h5:Nm xs y j) (h6:Q (.int (j:Nat)) H):Pw S x vs H Q
theorem Jn {xs:List V}{its:List Value}{y:V}{j:Nat}(r:jP xs its)(fx:xs.all Cm=true)(f:Nm xs y j):
  ∃hj:j<its.length,Ng y its[j]=true/\ ∀m (hm:m<its.length),m<j->Ng y its[m]=false:=by
 obtain⟨⟨z,hz,ez⟩,hno⟩:=f
 have fz: ∀{m:Nat} {z:V},xs[m]? =some z->Cm z=true:=fun{m z} h=>List.all_eq_true.mp fx z (zM h)
 obtain⟨u,hu,ru⟩:=r.get hz
 obtain⟨hj,eu⟩:=List.getElem?_eq_some_iff.mp hu
 refine⟨hj,?_,fun m hm hlt=>?_⟩
 ·rw[eu,Nf ru (fz hz)];exact ez
 ·have hm':m<xs.length:=by rw[r.length];exact hm
  have hx:xs[m]? =some xs[m]:=zB hm'
  obtain⟨u',hu',ru'⟩:=r.get hx
  obtain⟨_,eu'⟩:=List.getElem?_eq_some_iff.mp hu'
  rw[eu',Nf ru' (fz hx)]
  exact hno m _ hlt hx
theorem Sk:SY X "list.index" (Pw (GK X.K)):=by
 intro pins s σ H x vs v us Q I rx rv h
 obtain⟨l,xs,y,j,rfl,rfl,hl,fy,fx,fa,q⟩:=h
 cases rx
 obtain⟨u,rfl,ru⟩:=rv.one
 obtain⟨its,r,pl,hsz⟩:=I.list hl
 obtain⟨hj,h1,h2⟩:=Jn r fx fa
 obtain⟨⟨cls,dd,data,sl⟩,n,ho,hc,hd,hdat⟩:=pl
 simp only at hc hd hdat
 subst hc hd hdat
 refine wB F.slot_list_index ⟨_,ho,rfl⟩ F.entry_list_index (F.args_list_index_2 _ _)
  (SeqAt.list_indexAt l its.toArray n _ sl u (Ng y) j (by simpa using hj) ?_ (by simpa using h1) (by simpa using h2)) ⟨ho,fun w hw=>Du ru fy r fx w (by simpa using hw),?_⟩
 ·have:=En
  have z:=r.length
  (first|lia|omega)
 ·exact⟨.int j,H,I.tok _,⟨_,rfl⟩,q⟩
theorem KN (l:Addr)(items:Array Value)(n:Nat)(dd:Option Addr)(sl:Array (Option Value))(x:Value)(e:Value->Bool)(j:Nat)(hj:j<items.size)
  (hit:e items[j]=true) (hno: ∀m (hm:m<items.size),m<j->e items[m]=false):
  Meets (Builtin.«tuple.index» ⟨[.ref l,x],[]⟩)
   (fun A R s=>s.heap.get? l=some {cls:=.type "tuple",dict:=dd,data:=.seq items n,slots:=sl}/\(∀y,y∈items->SeqAt.EqAt A.in1 s y x (e y))/\R (.ok (.ret (.int j s.toks))) {s with toks:=s.toks+1}):=by
 intro prog w A R s h
 obtain⟨hp,g,d,tk,os⟩:=s;obtain⟨hl,he,h⟩:=h
 unfold Builtin.«tuple.index»
 simp only[Std.Legacy.Range.forIn_eq_forIn_range']
 wp_walk using AN hl,wpAny_forIn_list _ (fun rest b s'=>b.1=none/\s'=⟨hp,g,d,tk,os⟩/\ ∃i,i<=j/\rest=List.range' i (items.size-i)) _
 case turn=>
  rintro i rest b s' ⟨hb,rfl,i',hi',hr⟩
  have hlt:i'<items.size:=by(first|lia|omega)
  obtain⟨q,hq⟩: ∃q,items.size-i'=q+1:=⟨items.size-i'-1,by(first|lia|omega)⟩
  rw[hq,List.range'_succ]at hr
  injection hr with hi hrest
  subst hi
  rw[AD hlt]
  refine zE (he _ (Array.getElem_mem hlt) prog w _ _ ?_)
  by_cases hij:i=j
  ·subst hij
   rw[hit]
   wp_walk
   exact h
  ·rw[hno i hlt (by(first|lia|omega))]
   wp_walk
   exact⟨rfl,rfl,i+1,by(first|lia|omega),by rw[hrest,show items.size-(i+1)=q by(first|lia|omega)]⟩
 case fin=>
  rintro b s' ⟨_,_,i',hi',hr⟩
  exfalso
  have:=xT List.length hr
  rw[List.length_range']at this
  simp at this
  (first|lia|omega)
 exact⟨rfl,rfl,0,yZ _,by simp[Std.Legacy.Range.size]⟩
theorem Sj:SY X "tuple.index" (Pw (EH X.K)):=by
 intro pins s σ H x vs v us Q I rx rv h
 obtain⟨l,xs,y,j,rfl,rfl,hl,fy,fx,fa,q⟩:=h
 cases rx
 obtain⟨u,rfl,ru⟩:=rv.one
 obtain⟨its,r,pl,hsz⟩:=I.tuple hl
 obtain⟨hj,h1,h2⟩:=Jn r fx fa
 obtain⟨⟨cls,dd,data,sl⟩,ho,hc,n,hd⟩:=pl
 simp only at hc hd
 subst hc hd
 refine wB F.slot_tuple_index ⟨_,ho,rfl⟩ F.entry_tuple_index (F.args_tuple_index_2 _ _)
  (KN l its.toArray n dd sl u (Ng y) j (by simpa using hj) (by simpa using h1) (by simpa using h2)) ⟨ho,fun w hw=>Du ru fy r fx w (by simpa using hw),?_⟩
 exact⟨.int j,H,I.tok _,⟨_,rfl⟩,q⟩
end
end L2

namespace L2
open PySem PySem.Spec PyProof.Rows
theorem qJ:bootBuiltins "len"=some (.builtin "len"):=PySem.boot_len
theorem kX:bootBuiltins "isinstance"=some (.builtin "isinstance"):=by decide+kernel
theorem IS:bootBuiltins "int"=some (.type "int"):=by decide+kernel
theorem Ru:bootBuiltins "bool"=some (.type "bool"):=by decide+kernel
theorem KG:bootBuiltins "str"=some (.type "str"):=by decide+kernel
theorem Ig:bootBuiltins "list"=some (.type "list"):=by decide+kernel
theorem Am:bootBuiltins "tuple"=some (.type "tuple"):=by decide+kernel
theorem OO:bootBuiltins "reversed"=some (.type "reversed"):=by decide+kernel
theorem small {n:Nat}(h:n<=1000):n<=sizeLine:=uF (qY h)
theorem sm0:0<=sizeLine:=small (by decide)
theorem sm1:1<=sizeLine:=small (by decide)
theorem sm2:2<=sizeLine:=small (by decide)
theorem sm3:3<=sizeLine:=small (by decide)
theorem sm4:4<=sizeLine:=small (by decide)
theorem sm6:6<=sizeLine:=small (by decide)
theorem sm13:13<=sizeLine:=small (by decide)
theorem sm18:18<=sizeLine:=small (by decide)
theorem zV {H:Hp}{p:Addr}(h:H p=none)(o:HO):wG H (upd H p o):=fun b u q=>by rw[zQ (zK q h)];exact q

def Xf (K:PySem.W.Frag)(H:Hp)(a:Addr)(ns:List Int):Prop:=
 (∃o,H a=some (.frz o (.lst (ns.map V.int))))\/
  ∃(o:Obj) (its:Array Value) (n:Nat),K.lookup a=some o/\o.cls=.type "list"/\o.dict=none/\o.data=.seq its n/\its.size<=sizeLine/\jP (ns.map V.int) its.toList
theorem Xf.sq {K:PySem.W.Frag}{H:Hp}{a:Addr}{ns:List Int}(h:Xf K H a ns):GK K H a (ns.map V.int):=by
 rcases h with h|h
 ·exact .inl (.inr h)
 ·exact .inr h
theorem Xf.of {K:PySem.W.Frag}{H:Hp}{a:Addr}{ns:List Int}(hO:WE H)(h:GK K H a (ns.map V.int)):Xf K H a ns:=by
 rcases h with(h|h)|h
 ·rcases hO a with z|⟨o,xs,z⟩
  ·rw[h]at z;cases z
  ·rw[h]at z;cases z
 ·exact .inl h
 ·exact .inr h
def kJ (st:Addr)(H H':Hp):Prop:= ∀b o,b≠st->H b=some o->H' b=some o
theorem kJ.refl (st:Addr)(H:Hp):kJ st H H:=fun _ _ _ e=>e
theorem kJ.trans {st:Addr}{H H1 H2:Hp}(a:kJ st H H1)(b:kJ st H1 H2):kJ st H H2:=fun c o n e=>b c o n (a c o n e)
theorem kJ.same {st:Addr}{H H1:Hp}(a:wG H H1):kJ st H H1:=fun c o _ e=>a c o e
theorem kJ.upd {st:Addr}{H:Hp}{o:HO}:kJ st H (upd H st o):=fun c u n e=>by rw[zQ n];exact e
theorem kJ.new {st p:Addr}{H:Hp}(o:HO)(h:H p=none):kJ st H (L2.upd H p o):=kJ.same (zV h o)
def zBv (K:PySem.W.Frag)(H:Hp)(st:Addr):Prop:= ∃a ns k c,H st=some (.lst [.ref a,.int k,.int c])/\Xf K H a ns/\ns.length<=63/\0<=k/\0<=c
structure Drawn (K:PySem.W.Frag)(st:Addr)(H H':Hp):Prop where
 draw:zBv K H' st
 keep:kJ st H H'
inductive NH (K:PySem.W.Frag) (vs:List V) (H:Hp) (Q:VK) (E:XK):Prop
 |mk (a:Addr) (ns:List Int) (h0:vs=[.ref a]) (h1:Xf K H a ns) (h2:ns.length<=63) (h3: ∀H',Q (.bl true) H'):NH K vs H Q E
theorem Ry {ns:List Int}{k:Int}(h0:0<=k)(h:k<(ns.length:Int)): ∃v:Int,Fz (ns.map V.int) k=some (.int v):=by
 have hk:k.toNat<ns.length:=by(first|lia|omega)
 have q:Fz (ns.map V.int) ((k.toNat:Nat):Int)=some (.int ns[k.toNat]):=By (by rw[zN,zB hk]<;>rfl)
 rw[show((k.toNat:Nat):Int)=k by(first|lia|omega)]at q
 exact⟨_,q⟩

def Mj (n:Nat)(fs:St)(Pv:Nat->List V->Hp->Prop)(i m:Nat)(σ:St)(H:Hp):Prop:=i<=n/\m=n-i/\(∃v,σ=v::fs)/\ ∃ys,Pv i ys H
theorem Mj.next {n:Nat}{fs:St}{Pv:Nat->List V->Hp->Prop}{i:Nat}{v:Option V}{H:Hp}{ys:List V}(hi:i<n)(h:Pv (i+1) ys H): ∃m',m'<n-i/\Mj n fs Pv (i+1) m' (v::fs) H:=
 ⟨n-(i+1),by(first|lia|omega),by(first|lia|omega),rfl,⟨v,rfl⟩,ys,h⟩
theorem Vn {lo:Int}{n:Nat}{fs:St}{tt:TT}{te:TE}{R:Hp->Prop}{p:Addr}{H0:Hp}(Pv:Nat->List V->Hp->Prop)(h0:Pv 0 [] H0)
  (hs: ∀i ys H,i<n->Pv i ys H->tt (some (.int (lo+(i:Nat)))::fs) H fun b H4=>
   if b=true then te (some (.int (lo+(i:Nat)))::fs) H4 fun v H5=> ∃ys,H5 p=some (.lst ys)/\ys.length<sizeLine/\ ∃m',m'<n-i/\Mj n fs Pv (i+1) m' (some (.int (lo+(i:Nat)))::fs) (upd H5 p (.lst (ys++[v])))
   else ∃m',m'<n-i/\Mj n fs Pv (i+1) m' (some (.int (lo+(i:Nat)))::fs) H4)
  (hd: ∀ys H,Pv n ys H->R H):No (Xl lo n) p (none::fs) H0 (Rc 0) tt te R:=by
 refine⟨Mj n fs Pv,⟨n,yZ _,rfl,⟨_,rfl⟩,[],h0⟩,fun i m σ' H' w=>?_⟩
 obtain⟨hi,rfl,⟨v,rfl⟩,ys,hp⟩:=w
 by_cases hlt:i<n
 ·refine .inr ⟨hlt,fun x H2 y=>?_⟩
  obtain⟨rfl,rfl⟩:=y
  exact hs i ys _ hlt hp
 ·have:i=n:=by(first|lia|omega)
  subst this
  exact .inl ⟨zS _,hd ys H' hp⟩
theorem UI {K:PySem.W.Frag}{t:Value}{n:String}{b:Bool}(h:PySem.W.subIn K t (.type n)=some b)(h1:(t==Value.type n)=false:=by decide)(h2:PySem.W.kitMeta n=true:=by decide+kernel):PySem.W.kitOne K t (.type n)=some b:=by
 unfold PySem.W.kitOne PySem.W.kitCls
 rw[h1]
 simp only[uH,EQ,h2,if_true]
 exact h
theorem Dv {K:PySem.W.Frag}{t:Value}(h:(t==t)=true:=by decide):PySem.W.kitOne K t t=some true:=by
 unfold PySem.W.kitOne
 rw[zW h]
theorem Pm {K:PySem.W.Frag}{a:Addr}{its:Array Value}{n:Nat}{sl:Array (Option Value)}{dd:Option Addr}{xs:List V}(h:K.lookup a=some ⟨.type "tuple",dd,.seq its n,sl⟩)(hz:its.size<=sizeLine)(r:jP xs its.toList)(H:Hp):EH K H a xs:=
 .inr ⟨_,its,n,h,rfl,rfl,hz,r⟩
end L2

namespace L2
open PySem PySem.Spec PySem.W PyProof.Rows
section
variable {prog:Program}{w:World}{A:Around}{K:Frag}{E:Value->Shared->Prop}{h:Heap}{g:Array GenState}{d:PySem.Drawn}{t:Nat}{os:OsState}{R:Result->Shared->Prop}
variable {nm q:Str}{C N f:Addr}{bs bm bmB:List Value}{hdct:Bool}{sn:List Str}{sub:List Value}{ab:Bool}{col:Option Bool}{dd:Option Addr}{k0 k1 k2 k3 k5:Option Value}{B newId initId:String}
abbrev Qj (C tp:Addr):Obj:={cls:=.ref C,data:=.fields #[.ref tp,.none,.none,.none,.bool false,.none]}
abbrev Ce (h:Heap)(C:Addr)(rest:List Value):Heap:=(h.push {cls:=.type "tuple",data:=.seq rest.toArray}).push (Qj C h.objs.size)
theorem Vc (X:K.In h)(hC:h.get? C=some (excClassObj nm q C N bs bm hdct sn sub ab col dd k0 k1 k2 k3 k5 newId))(F:ExcBaseFacts B newId initId bmB)(T:OwnTail h bmB bm)
  (hi:findIn K (.ref C) "__init__"=some (some (.ref f))) (hf:typeIn K (.ref f)=some (.type "function")) {rest:List Value} (hrest:rest.length<=sizeLine)
  (hq:codeAny (model prog w) (A.under (.builtin "type.__call__" ⟨.ref C::rest,[]⟩)) (.call (.ref f) ⟨.ref (h.objs.size+1)::rest,[]⟩) (InitBack (h.objs.size+1) R) ⟨Ce h C rest,g,d,t,os⟩):
  codeAny (model prog w) A (.call (.ref C) ⟨rest,[]⟩) R ⟨h,g,d,t,os⟩:=by
 have f1:=tc_lookup
 have f2:=tc_bind (.ref C)
 have hT:(⟨h,g,d,t,os⟩:Shared).TypeIs (.ref C) "type":=⟨_,hC,rfl⟩
 refine codeAny_of_tree ?_
 show wpAny _ _ (callAny (.ref C) _) _ _ _
 repeat (any_goals (first|assumption|with_reducible refine BA hC ?_ |wp_step))
 refine⟨rfl,?_⟩
 refine codeAny_call_builtin_at (Code.quiet_builtin _ (by decide+kernel)) entry_typeCall (wpAny_check_type_call_sub hC ?_)
 repeat (first|with_reducible refine BA hC ?_ |with_reducible refine wpAny_madeBy_exc hC ?_ |wp_step)
 refine codeAny_call_builtin_code (Code.quiet_builtin _ F.quiet) (wpAny_check_new_subT F T hC ?_)
 refine codeAny_exc_new_subT F T hC ?_ hrest
 show wpAny _ _ _ _ _ _
 have k: ∀b o,h.get? b=some o->(Ce h C rest).get? b=some o:=fun b o e=>zI _ (zI _ e)
 have hx:(Ce h C rest).get? (h.objs.size+1)=some (Qj C h.objs.size):=by heap_get
 have t1:Looks (model prog w) (Ce h C rest) (typeOf (.ref (h.objs.size+1))) (.ref C):=(Looks.ld hx).andThen .now
 have hcC:(Value.ref C::bm).contains (.ref C)=true:=by simp
 have i1:=(looks_findIn (M:=model prog w) X hi).keeps k
 have b1:=(bind_fn (M:=model prog w) X (.ref (h.objs.size+1)) hf).keeps k
 have s1:Looks (model prog w) (Ce h C rest) (isSubtype (.ref C) (.ref C)) true:=by
  intro A' Q' E' s' kk hq'
  obtain⟨h',g',d',t',os'⟩:=s'
  refine wpAny_isSubtype_exc (kk _ _ (k _ _ hC)) ?_
  rw[hcC];exact hq'
 have n1:Looks (model prog w) (Ce h C rest) (isInstance (.ref (h.objs.size+1)) (.ref C)) true:=t1.andThen s1
 refine zE (n1.at ?_)
 have c1:Looks (model prog w) (Ce h C rest) (specialOf (.ref (h.objs.size+1)) "__init__") (some (.ref f)):=t1.andThen i1
 unfold callSpecial?
 repeat (first|with_reducible refine wpAny_call ?_ |lk)
 refine BD hq fun r s' z=>?_
 rcases r with e|(v|_|_|_)<;>first|exact z|exact z.elim|skip
 obtain⟨rfl,z⟩:=z
 exact zR (zR z)

structure Jq (K:Frag)(C:Addr):Prop where
 cd: ∃cd,clsIn K C=some cd/\cd.hasDict=true/\ ∀self,refuseLoop self "__setattr__" cd.mro=pure ()
 obj:mroIn K C (.type "object")=some true
 base:mroIn K C (.type "BaseException")=some true
 sa:findIn K (.ref C) "__setattr__"=some (some (.builtin "object.__setattr__"))
 ga:findIn K (.ref C) "__getattribute__"=some (some (.builtin "BaseException.__getattribute__"))
 noHook:findIn K (.ref C) "__getattr__"=some none

section
variable {s:Shared}{x:Addr}{ox:Obj}{od:Option Obj}{name:Str}{v:Value}{expr:Bool}{Q:Value->Shared->Prop}
theorem Rh {tk:Tok}{R:Result->Shared->Prop}(X:K.In s.heap)(I:InstAt s.heap x ox C od)(Ec:Jq K C)(ha:findIn K (.ref C) name=some none)
  (hq:wpAny (model prog w) A.in1 (PySem.Builtin.ObjectAttr.storeInOwnDict (.ref x) (.ref C) (.str name tk) name v false)
   (fun fin s'=>match fin with| .done f=>R (.ok f) s'| .again c'=>c'.quiet=true/\codeAny (model prog w) A c' R s') (fun e s'=>R (.error e) s') s):
  codeAny (model prog w) A (.call (.builtin "object.__setattr__") ⟨[.ref x,.str name tk,v],[]⟩) R s:=by
 have SF:=PySem.F.store_object
 obtain⟨cd,hc,hd,hp⟩:=Ec.cd
 have sub:Looks (model prog w) s.heap (isInstance (.ref x) (.type "object")) true:=I.type.andThen (looks_mroIn X Ec.obj)
 refine codeAny_call_builtin SF.slot.plain SF.entry (@check_slot (model prog w) _ _ s "object.__setattr__" "object" "__setattr__" (.ref x) [.str name tk,v] [] _ SF.kind SF.split sub (SF.args (.ref x) (.str name tk) v) ?_)
 have hm:Looks (model prog w) s.heap (mroOf (.ref C)) cd.mro:=(looks_clsIn X hc).andThen .now
 rw[osa_eq,refuse_eq]
 refine zE (zE (I.type.here (zE (hm.here ?_))))
 rw[hp]
 exact zR (zE (I.type.here (zE ((looks_findIn X ha).here (zE (zR hq))))))
theorem OE {vs:Array Value}{Qu:Unit->Shared->Prop}(X:K.In s.heap)(hx:s.heap.get? x=some ox)(hcl:ox.cls=.ref C)(hdi:ox.dict=none)(hda:ox.data=.fields vs)(Ec:Jq K C)(ha:findIn K (.ref C) name=some none)
  (hq: ∀h',h'.Ns1 s.heap.objs.size (fun y=>if y=name then some v else none)->h'.get? x=some {ox with dict:=some s.heap.objs.size}->(∀b o,b≠x->s.heap.get? b=some o->h'.get? b=some o)->Qu () {s with heap:=h',toks:=s.toks+2}):
  wpAny (model prog w) A (setAttr (.ref x) name v) Qu E s:=by
 have I:InstAt s.heap x ox C none:=⟨hx,hcl,by unfold notCls;rw[hda],by rw[hdi];trivial⟩
 obtain⟨cd,hc,hd,hp⟩:=id Ec.cd
 refine set_plain X I Ec.sa (Rh (s:={s with toks:=s.toks+1}) X I Ec ha ?_)
 have hxlt:=yC hx
 clear I
 obtain⟨oc,odi,oda,osl⟩:=ox
 dsimp only at hcl hdi hda
 subst hcl hdi hda
 refine zE (zR (zE (zE (wpAny_loadPart hx (zE (Looks.here (s:={s with toks:=s.toks+1}) (looks_clsIn X hc) ?_))))))
 rw[hd]
 show wpAny _ _ (alloc {cls:=Value.type "dict",data:=Data.dict #[]}>>=_) _ _ _
 refine zE (wpAny_alloc (zE ?_))
 have hx1:=zI (h:=s.heap) ({cls:=Value.type "dict",data:=Data.dict #[]}:Obj) hx
 refine wpAny_update hx1 (zR ?_)
 have ne:s.heap.objs.size≠x:=kH hxlt
 have hx2:=kD (fun o:Obj=>{o with dict:=some s.heap.objs.size}) hx1 rfl
 have hd2:((s.heap.push ({cls:=Value.type "dict",data:=Data.dict #[]}:Obj)).update x fun o=>{o with dict:=some s.heap.objs.size}).Ns1 s.heap.objs.size (fun _=>none):=by
  refine⟨_,#[],_,(xQ _ _ (Ne.symm ne)).trans (yG _ rfl),rfl,fun e he=>by simp at he,List.Pairwise.nil,fun n=>rfl⟩
 refine zE (zR (zE ?_))
 refine wpAny_nsSet1 (s:={s with heap:=(s.heap.push ({cls:=Value.type "dict",data:=Data.dict #[]}:Obj)).update x fun o=>{o with dict:=some s.heap.objs.size},toks:=s.toks+1}) hd2 fun h' hn2 hs2=>?_
 have w0:PySem.Within (fun _:Str=>(none:Option Value)) []:=fun n hn=>by first|cases hn|exact absurd rfl hn|simp at hn
 obtain⟨oD,esD,epD,hoD,hdD,hcD⟩:=hn2.count (DZ name v w0)
 refine zE (EM hoD (by rw[hdD];exact EO (yO hcD (show 1<=sizeLine+1 by decide))) ?_)
 refine zR (hq _ hn2 ((hs2.2 _ (Ne.symm ne)).trans hx2) fun b o hb e=>?_)
 have hbs:b≠s.heap.objs.size:=xK (yC e)
 exact(hs2.2 _ hbs).trans ((xQ _ _ (Ne.symm hb)).trans (zI _ e))
theorem Nb {vs:Array Value}{dx:Addr}{mA:Str->Option Value}{ns:List Str}{Qu:Unit->Shared->Prop}(X:K.In s.heap)(hx:s.heap.get? x=some ox)(hcl:ox.cls=.ref C)(hdi:ox.dict=some dx)(hda:ox.data=.fields vs)(hn:s.heap.Ns1 dx mA)
  (hw:PySem.Within mA ns) (hsz:ns.length<sizeLine) (Ec:Jq K C) (ha:findIn K (.ref C) name=some none)
  (hq: ∀h',h'.Ns1 dx (fun y=>if y=name then some v else mA y)->Heap.SameBut dx s.heap h'->Qu () {s with heap:=h',toks:=s.toks+2}):
  wpAny (model prog w) A (setAttr (.ref x) name v) Qu E s:=by
 obtain⟨od,hod,_⟩:=LF hn
 have I:InstAt s.heap x ox C (some od):=⟨hx,hcl,by unfold notCls;rw[hda],by rw[hdi];exact hod⟩
 obtain⟨cd,hc,hd,hp⟩:=id Ec.cd
 refine set_plain X I Ec.sa (Rh (s:={s with toks:=s.toks+1}) X I Ec ha ?_)
 clear I
 obtain⟨oc,odi,oda,osl⟩:=ox
 dsimp only at hcl hdi hda
 subst hcl hdi hda
 refine zE (zR (zE (zE (wpAny_loadPart hx (zE (Looks.here (s:={s with toks:=s.toks+1}) (looks_clsIn X hc) ?_))))))
 rw[hd]
 refine zR (a:=some dx) (zE (zR (zE ?_)))
 refine wpAny_nsSet1 (s:={s with toks:=s.toks+1}) hn fun h' hn2 hs2=>?_
 obtain⟨oD,esD,epD,hoD,hdD,hcD⟩:=hn2.count (DZ name v hw)
 refine zE (EM hoD (by rw[hdD];exact EO (yO hcD (by rw[zJ];(first|lia|omega)))) ?_)
 exact zR (hq _ hn2 hs2)
end
end
end L2

namespace L2
open PySem PySem.Spec PyProof.Rows
def Mi (x C:Addr)(od:Option Addr):HO:=.ext fun h=> ∃o vs,h.get? x=some o/\o.cls=.ref C/\o.dict=od/\o.data=.fields vs/\6<=vs.size
def IW (x C:Addr)(od:Option Addr):HO:=.ext fun h=> ∃o vs,h.get? x=some o/\o.cls=.ref C/\o.dict=od/\o.data=.fields vs/\6<=vs.size/\vs[1]? =some .none
def OY (dx:Addr)(fs:List (Str×V)):HO:=.ext fun h=> ∃mA,h.Ns1 dx mA/\(∀f,Dx (fs.lookup f) (mA f))/\PySem.Within mA (fs.map (·.1))
section
variable {P:Program}{w:World}{H:Hp}{h:Heap}{x C dx:Addr}{od:Option Addr}{fs:List (Str×V)}
theorem Mi.ok {o:Obj}{vs:Array Value}(e:h.get? x=some o)(hc:o.cls=.ref C)(hd:o.dict=od)(hf:o.data=.fields vs)(hz:6<=vs.size):wI P w H h x (Mi x C od):=
 ⟨⟨o,vs,e,hc,hd,hf,hz⟩,⟨o,e⟩,fun h1 h2 ⟨o,vs,e,r⟩ k=>⟨o,vs,k o e,r⟩⟩
theorem IW.ok {o:Obj}{vs:Array Value}(e:h.get? x=some o)(hc:o.cls=.ref C)(hd:o.dict=od)(hf:o.data=.fields vs)(hz:6<=vs.size)(h1:vs[1]? =some .none):wI P w H h x (IW x C od):=
 ⟨⟨o,vs,e,hc,hd,hf,hz,h1⟩,⟨o,e⟩,fun g1 g2 ⟨o,vs,e,r⟩ k=>⟨o,vs,k o e,r⟩⟩
theorem IW.get (ok:GL P w H h)(e:H x=some (IW x C od)): ∃o vs,h.get? x=some o/\o.cls=.ref C/\o.dict=od/\o.data=.fields vs/\6<=vs.size/\vs[1]? =some .none:=(ok x _ e).1
theorem Mi.get (ok:GL P w H h)(e:H x=some (Mi x C od)): ∃o vs,h.get? x=some o/\o.cls=.ref C/\o.dict=od/\o.data=.fields vs/\6<=vs.size:=(ok x _ e).1
theorem OY.ok {mA:Str->Option Value}(n:h.Ns1 dx mA)(r: ∀f,Dx (fs.lookup f) (mA f))(wi:PySem.Within mA (fs.map (·.1))):wI P w H h dx (OY dx fs):=by
 obtain⟨o,es,ep,e,q⟩:=id n
 exact⟨⟨mA,n,r,wi⟩,⟨o,e⟩,fun h1 h2 ⟨mA,n,r⟩ k=>⟨mA,n.at k,r⟩⟩
theorem OY.get (ok:GL P w H h)(e:H dx=some (OY dx fs)): ∃mA,h.Ns1 dx mA/\(∀f,Dx (fs.lookup f) (mA f))/\PySem.Within mA (fs.map (·.1)):=(ok dx _ e).1
end

def YU (K:PySem.W.Frag)(ta tv:TE)(f:Str):TS:=fun D σ H=>tv σ H fun y H1=>ta σ H1 fun u H2=> ∃a C od,u=.ref a/\H2 a=some (IW a C od)/\Jq K C/\vT K C f/\
 ((od=none/\ ∀d,H2 d=none->D.nx σ (upd (upd H2 d (OY d [(f,y)])) a (IW a C (some d))))\/ ∃d fs,od=some d/\H2 d=some (OY d fs)/\fs.length<1000/\D.nx σ (upd H2 d (OY d (Fl f y fs))))
section
variable {X:Cx}{o e value:Expr}{f:Str}{pos pos':Pos}{ta tv:TE}
theorem xM.excDict {pins:List (Addr×Obj)}{σ:St}{H:Hp}{s:Shared}{h':Heap}{a C:Addr}{oa ob:HO}{t':Nat}(I:xM X pins σ H s)(ha:H a=some (IW a C none))
  (keep: ∀b o,b≠a->s.heap.get? b=some o->h'.get? b=some o) (hat: ∃o,h'.get? a=some o) (hoa:wI X.prog X.w (upd (upd H s.heap.objs.size ob) a oa) h' a oa) (hob:wI X.prog X.w (upd (upd H s.heap.objs.size ob) a oa) h' s.heap.objs.size ob):
  xM X pins σ (upd (upd H s.heap.objs.size ob) a oa) {s with heap:=h',toks:=t'}:=by
 have hd:H s.heap.objs.size=none:=I.fresh
 have nda:a≠s.heap.objs.size:=zK ha hd
 have off: ∀b u,H b=some u->u≠IW a C none->b≠a/\b≠s.heap.objs.size:=fun b u e ne=>⟨fun z=>by rw[z,ha]at e;exact ne (xU e).symm,zK e hd⟩
 have up: ∀b,b≠a->b≠s.heap.objs.size->upd (upd H s.heap.objs.size ob) a oa b=H b:=fun b h1 h2=>by rw[zQ h1,zQ h2]
 refine I.un ⟨fun b o e n _ _=>keep b o (fun z=>by rw[z,ha]at n;cases n) e,fun b o e n _ _=>⟨o.slots,keep b o (fun z=>by rw[z,ha]at n;cases n) e⟩,fun b o e n _=>?_,fun b o e _=>?_,fun b xs e=>?_,fun b o xs e=>?_,fun b ps e=>?_⟩ fun b u e=>?_
 ·rw[up b (fun z=>by rw[z,ha]at n;cases n) (xK (yC e))];exact n
 ·by_cases z:b=a
  ·subst z;exact hat
  ·exact⟨o,keep b o z e⟩
 ·obtain⟨h1,h2⟩:=off b _ e (by intro z;cases z)
  rw[up b h1 h2];exact e
 ·obtain⟨h1,h2⟩:=off b _ e (by intro z;cases z)
  rw[up b h1 h2];exact e
 ·obtain⟨h1,h2⟩:=off b _ e (by intro z;cases z)
  exact⟨#[],by rw[up b h1 h2,e];simp⟩
 ·by_cases z:b=a
  ·subst z;rw[zG]at e;cases e;exact hoa
  ·rw[zQ z]at e
   by_cases z2:b=s.heap.objs.size
   ·subst z2;rw[zG]at e;cases e;exact hob
   ·rw[zQ z2]at e
    refine(I.hok b u e).stay (fun c v hc q=>keep c v ?_ q) (fun c q=>?_) fun c xs q=>?_
    ·rcases hc with hc|hc
     ·rw[hc];exact z
     ·exact(off c _ hc (by intro z;cases z)).1
    ·obtain⟨h1,h2⟩:=off c _ q (by intro z;cases z)
     rw[up c h1 h2];exact q
    ·obtain⟨h1,h2⟩:=off c _ q (by intro z;cases z)
     rw[up c h1 h2];exact q
theorem MJ (ha:PE X o ta)(hv:PE X value tv)(hs:swapsWith value (some (.Attribute o f pos')) pos.line X.env=pure false:=by rfl):PS X (.Assign [.Attribute o f pos'] value pos) (YU X.K ta tv f):=by
 refine⟨?_⟩
 intro pins s σ H D I h
 refine BK (qR (hv pins s σ H _ I h) fun u s1 ⟨y,H1,I1,ry,q⟩=>qR (ha pins s1 σ H1 _ I1 q) fun ov s2 ⟨x,H2,I2,rx,a,C,od,ex,ea,ec,na,q2⟩=>?_) hs
 subst ex
 obtain rfl:ov=Value.ref a:=rx
 obtain⟨ox,vs,gx,hcl,hdi,hda,hz,h1⟩:=IW.get I2.hok ea
 rcases q2 with⟨rfl,q2⟩|⟨d,fs,rfl,hd,hl,q2⟩
 ·refine OE I2.kIn gx hcl hdi hda ec na fun h' hn hx' keep=>?_
  refine⟨σ,_,I2.excDict ea keep ⟨_,hx'⟩ (IW.ok hx' hcl rfl hda hz h1) (OY.ok hn (fun g=>?_) fun g hg=>?_),q2 _ I2.fresh⟩
  ·show Dx ([(f,y)].lookup g) (if g=f then some u else none)
   by_cases z:g=f
   ·subst z;rw[vC,zW rfl];exact ry
   ·rw[AB,beq_eq_false_iff_ne.mpr z,zL z];exact True.intro
  ·by_cases z:g=f
   ·subst z;simp
   ·exact absurd (show(if g=f then some u else none)=none by rw[zL z]) hg
 ·obtain⟨mA,n,r,wi⟩:=OY.get I2.hok hd
  refine Nb I2.kIn gx hcl hdi hda n wi (by rw[zD,At];(first|lia|omega)) ec na fun h' hn sb=>?_
  refine⟨σ,_,I2.write (x:=d) (e:=d) (by rw[hd];exact True.intro) (.inl rfl) (fun b q hb z=>(sb.2 b hb).trans z) (let⟨o,_,_,e',_⟩:=hn;⟨o,e'⟩) (OY.ok hn (fun g=>?_) fun g hg=>?_),q2⟩
  ·show Dx ((Fl f y fs).lookup g) (if g=f then some u else mA g)
   rw[Ge]
   by_cases q:g=f
   ·rw[zW q,zW q];exact ry
   ·rw[zL q,zL q];exact r g
  ·by_cases q:g=f
   ·rw[q];exact(ED f y fs).1
   ·refine(ED f y fs).2 g (wi g fun z=>hg ?_)
    show(if g=f then some u else mA g)=none
    rw[zL q];exact z
end

def SV (X:Cx)(pins:List (Addr×Obj))(H:Hp)(T:Addr):Prop:=H T=none/\X.s₀.heap.objs.size<=T/\T≠X.env.locals/\ ∀p∈X.pn++pins,p.1≠T
def Tb (X:Cx)(pins:List (Addr×Obj))(H:Hp)(x:Addr)(h:Heap):Prop:=
 ∃oe vs,h.get? x=some oe/\oe.data=.fields vs/\(vs[1]? =some .none\/ ∃T oT ts fl,vs[1]? =some (.ref T)/\T≠x/\SV X pins H T/\h.get? T=some oT/\oT.data=.fields ts/\ts[3]? =some fl/\(fl=.none\/fl=rawInt X.env.locals))
def SU (X:Cx)(pins:List (Addr×Obj))(H:Hp)(x:Addr)(fl:Value)(h:Heap):Prop:=
 ∃oe vs T oT ts,h.get? x=some oe/\oe.data=.fields vs/\vs[1]? =some (.ref T)/\T≠x/\SV X pins H T/\h.get? T=some oT/\oT.data=.fields ts/\ts[3]? =some fl
theorem SU.tb {X:Cx}{pins:List (Addr×Obj)}{H:Hp}{x:Addr}{fl:Value}{h:Heap}(t:SU X pins H x fl h)(hf:fl=.none\/fl=rawInt X.env.locals):Tb X pins H x h:=by
 obtain⟨oe,vs,T,oT,ts,e,d,h1,r1,r2,r3,r4,r5⟩:=t
 exact⟨oe,vs,e,d,.inr ⟨T,oT,ts,fl,h1,r1,r2,r3,r4,r5,hf⟩⟩
section
variable {X:Cx}{pins:List (Addr×Obj)}{σ:St}{H:Hp}{s:Shared}{h':Heap}{x C:Addr}{od:Option Addr}
theorem xM.flight (I:xM X pins σ H s)(hx:H x=some (Mi x C od)){ch:List Addr}(hch: ∀b∈ch,SV X pins H b)(ncell: ∀b∈ch,∀y c,X.env.cells.lookup y=some c->c≠b)
  (keep: ∀b o,b≠x->b∉ch->b∉frs X.stack->s.heap.get? b=some o->h'.get? b=some o) (slot: ∀b o,b≠x->b∉ch->s.heap.get? b=some o-> ∃sl,h'.get? b=some {o with slots:=sl})
  (hx': ∃o vs,h'.get? x=some o/\o.cls=.ref C/\o.dict=od/\o.data=.fields vs/\6<=vs.size):xM X pins σ H {s with heap:=h'}:=by
 have nx: ∀b,H b=none->b≠x:=fun b n z=>by rw[z,hx]at n;cases n
 have nst: ∀b,b≠X.env.locals->b∉X.fs->b∉frs X.stack:=fun b h1 h2 z=>(List.mem_cons.mp (I.stkSub b z)).elim h1 h2
 have nch: ∀b u,H b=some u->b∉ch:=fun b u e z=>by rw[(hch b z).1]at e;cases e
 have nfr: ∀b u,H b=some u->b∉frs X.stack:=fun b u e z=>by rw[I.stkFree b z]at e;cases e
 refine I.step (g':=s.gens) (d':=s.drawn) (t':=s.toks) (ch:=ch) (fun b hb=>⟨.inr (hch b hb).2.1,(hch b hb).2.2.1,ncell b hb,(hch b hb).2.2.2⟩)
  (fun b o hL hf hc e n=>keep b o (nx b n) hc (nst b hL hf) e) (fun b o hL hf hc e n=>slot b o (nx b n) hc e) (fun b o hc e n=>n) (fun b o hc e=>?_) (fun _ _ e=>e) (fun _ _ _ e=>e) (fun b ps e=>⟨#[],by rw[e];simp⟩) (fun m hm=>?_) (fun b u e=>?_) I.bare
 ·by_cases z:b=x
  ·subst z;obtain⟨o,_,g,_⟩:=hx';exact⟨o,g⟩
  ·obtain⟨sl,q⟩:=slot b o z hc e;exact⟨_,q⟩
 ·obtain⟨o,es,ep,ho,hd,r⟩:=hm
  obtain⟨sl,q⟩:=slot _ o (nx _ I.free) (fun z=>(hch _ z).2.2.1 rfl) ho
  exact⟨_,es,ep,q,hd,r⟩
 ·by_cases z:b=x
  ·subst z;rw[hx]at e;cases e
   obtain⟨o,vs,g,r1,r2,r3,r4⟩:=hx'
   exact Mi.ok g r1 r2 r3 r4
  ·refine(I.hok b u e).stay (fun c v hc q=>?_) (fun _ q=>q) fun _ _ q=>q
   rcases hc with hc|hc
   ·rw[hc]at q ⊢;exact keep b v z (nch b u e) (nfr b u e) q
   ·exact keep c v (fun z2=>by rw[z2,hx]at hc;cases hc) (nch c _ hc) (nfr c _ hc) q

theorem SV.ncell {T:Addr}{oT:Obj}{ts:Array Value}(I:xM X pins σ H s)(g:s.heap.get? T=some oT)(d:oT.data=.fields ts): ∀b∈[T],∀y c,X.env.cells.lookup y=some c->c≠b:=fun b hb y c e z=>by
 rw[List.mem_singleton.mp hb]at z
 obtain⟨v,o,ho,hd⟩:=I.cell y c e
 rw[z,g]at ho;cases ho;rw[d]at hd;cases hd
theorem LS {M:Model}{A:Around}{E:Value->Shared->Prop}{Q:Unit->Shared->Prop}{head:Value}{hadNext:Bool}(I:xM X pins σ H s)(hst:X.stack=X.env::X.outer)(hfr:X.env.frame=some X.env.locals)(hA:A.frames=some X.stack)
  (hx:H x=some (Mi x C od)) (hq: ∀s',xM X pins σ H s'->SU X pins H x (rawInt X.env.locals) s'.heap->Q () s'):
  wpAny M A (do let a<-frameOf X.env;let pl<-entryPlaceOf X.env.locals hadNext;let b<-EntryCells.newEntry head a .none (rawInt X.env.locals) .none pl;setField (.ref x) 1 b) Q E s:=by
 have hl:s.heap.FunFrames X.base (X.env::X.outer):=hst▸I.stack
 refine zE (wpAny_frameOf_fun (hst▸hA) hl hfr fun h1 hs1=>?_)
 refine zE (wpAny_entryPlaceOf fun pl hpl=>?_)
 unfold EntryCells.newEntry newFields
 refine zE (jU ?_ (hpl.sizeOk5 _ _ _ _ _))
 obtain⟨ox,vs,gx,hcl,hdi,hda,hz⟩:=Mi.get I.hok hx
 have hxf:x∉(X.env::X.outer).filterMap (·.frame):=fun hm=>by
  obtain⟨_,o,ho,hnf⟩:=hl.mem hm
  rw[gx]at ho;cases ho;exact hnf vs hda
 have gx1:h1.get? x=some ox:=(hs1.2.1 x hxf).trans gx
 generalize hob:({cls:=.type "traceback",dict:=none,data:=.fields ([head,.ref X.env.locals,.none,rawInt X.env.locals,.none]++(if pl.isEmpty then List.replicate 6 Value.none else pl)).toArray}:Obj)=ob
 have gx2:=zI (h:=h1) ob gx1
 have hz1:1<vs.size:=by(first|lia|omega)
 refine wW gx2 hda hz1 ?_
 have sz:h1.objs.size=s.heap.objs.size:=hs1.1
 have hd3:=qE hda (·.setIfInBounds 1 (Value.ref h1.objs.size))
 have gx3:=kD (Obj.mapFields (·.setIfInBounds 1 (Value.ref h1.objs.size))) gx2 (vB hd3)
 have hTx:h1.objs.size≠x:=kH (yC gx1)
 have gT:(h1.push ob).get? h1.objs.size=some ob:=yG _ (by rw[<-hob];rfl)
 have hT:H h1.objs.size=none:=by rw[sz];exact I.fresh
 have keep: ∀b o,b≠x->h1.get? b=some o->((h1.push ob).update x (Obj.mapFields (·.setIfInBounds 1 (Value.ref h1.objs.size)))).get? b=some o:=fun b o hb e=>by
  rw[xQ _ _ (Ne.symm hb)];exact zI _ e
 have I':xM X pins σ H {s with heap:=(h1.push ob).update x (Obj.mapFields (·.setIfInBounds 1 (Value.ref h1.objs.size)))}:=by
  refine I.flight hx (ch:=[]) (fun b hb=>(nomatch hb)) (fun b hb=>(nomatch hb)) (fun b o hb _ hf e=>keep b o hb ((hs1.2.1 b (by rw[<-hst];exact hf)).trans e)) (fun b o hb _ e=>?_) ⟨_,_,gx3,(Ea _ _).trans hcl,?_,hd3,by simp;exact hz⟩
  ·obtain⟨sl,q⟩:=hs1.2.2 b o e
   exact⟨sl,keep b _ hb q⟩
  ·obtain⟨oc,odi,oda,osl⟩:=ox
   simp only at hda
   subst hda
   exact hdi
 refine hq _ I' ⟨_,_,h1.objs.size,ob,_,gx3,hd3,by simp[hz1],hTx,⟨hT,?_,?_,fun p hp z=>?_⟩,?_,by rw[<-hob],?_⟩
 ·rw[sz];exact I.sz
 ·rw[sz];exact kH I.lt
 ·have:=yC (I.pin p hp).1
  rw[z,sz]at this;exact jO _ this
 ·rw[xQ _ _ (Ne.symm hTx)];exact gT
 ·first|(simp;done)|(rcases hpl with rfl|⟨_,_,_,_,_,_,_,rfl⟩<;>simp)
theorem OB {M:Model}{A:Around}{E:Value->Shared->Prop}{Q:Unit->Shared->Prop}(I:xM X pins σ H s)(hst:X.stack=X.env::X.outer)(hfr:X.env.frame=some X.env.locals)(hA:A.frames=some X.stack)
  (hx:H x=some (Mi x C od)) (tb:Tb X pins H x s.heap) (hq: ∀s',xM X pins σ H s'->SU X pins H x (rawInt X.env.locals) s'.heap->Q () s'):wpAny M A (noteFrame (.ref x) X.env) Q E s:=by
 obtain⟨oe,vs,ge,hd,h1⟩:=tb
 unfold noteFrame
 simp only[hfr]
 rcases h1 with h1|⟨T,oT,ts,fl,h1,hTx,ours,gT,dT,h3,hfl⟩
 ·refine zE (xB ge hd h1 ?_)
  rw[zL (by decide)]
  exact LS I hst hfr hA hx hq
 ·refine zE (xB ge hd h1 ?_)
  rw[zW (show(Value.ref T !=Value.none)=true from by simp)]
  refine zE (xB gT dT h3 ?_)
  rcases hfl with rfl|rfl
  ·rw[zL (show ¬((Value.none==rawInt X.env.locals)=true)from by simp[rawInt])]
   refine zE (wW gT dT (Array.getElem?_eq_some_iff.mp h3).1 ?_)
   have other: ∀b,b≠T->(s.heap.update T (Obj.mapFields (·.setIfInBounds 3 Value.none))).get? b=s.heap.get? b:=fun b hb=>xQ _ _ (Ne.symm hb)
   obtain⟨ox,ws,gx,r⟩:=Mi.get I.hok hx
   have I':xM X pins σ H {s with heap:=s.heap.update T (Obj.mapFields (·.setIfInBounds 3 Value.none))}:=by
    refine I.flight hx (ch:=[T]) (fun b hb=>by rw[List.mem_singleton.mp hb];exact ours) (SV.ncell I gT dT) (fun b o hb hc _ e=>(other b fun z=>hc (by simp[z])).trans e) (fun b o hb hc e=>⟨o.slots,(other b fun z=>hc (by simp[z])).trans e⟩) ⟨ox,ws,(other x (Ne.symm hTx)).trans gx,r⟩
   exact LS I' hst hfr hA hx hq
  ·rw[zW (show(rawInt X.env.locals==rawInt X.env.locals)=true from by simp)]
   exact zR (hq s I ⟨oe,vs,T,oT,ts,ge,hd,h1,hTx,ours,gT,dT,h3⟩)
theorem Rf {M:Model}{A:Around}{E:Value->Shared->Prop}{Q:Unit->Shared->Prop}{fl:Value}{to:Option Addr}(I:xM X pins σ H s)(hx:H x=some (Mi x C od))(tb:SU X pins H x fl s.heap)
  (hq: ∀s',xM X pins σ H s'->SU X pins H x (to.elim Value.none fun f=>rawInt f) s'.heap->Q () s'):wpAny M A (setFlight (.ref x) to) Q E s:=by
 obtain⟨oe,vs,T,oT,ts,ge,hd,h1,hTx,ours,gT,dT,h3⟩:=tb
 unfold setFlight
 refine zE (xB ge hd h1 ?_)
 rw[zW (show(Value.ref T !=Value.none)=true from by simp)]
 have hsz3:=(Array.getElem?_eq_some_iff.mp h3).1
 refine wW gT dT hsz3 (hq _ ?_ ?_)
 ·obtain⟨ox,ws,gx,r⟩:=Mi.get I.hok hx
  exact I.flight hx (ch:=[T]) (fun b hb=>by rw[List.mem_singleton.mp hb];exact ours) (SV.ncell I gT dT) (fun b o hb hc _ e=>(xQ _ _ (fun z=>hc (by simp[z]))).trans e) (fun b o hb hc e=>⟨o.slots,(xQ _ _ (fun z=>hc (by simp[z]))).trans e⟩) ⟨ox,ws,(xQ _ _ hTx).trans gx,r⟩
 ·exact⟨oe,vs,T,_,_,(xQ _ _ hTx).trans ge,hd,h1,hTx,ours,kD _ gT (vB (qE dT _)),qE dT _,by simp[hsz3]⟩
end

def jX (P:Program)(w:World):Jr:=fun outer H s E e s'=> ∃x C d H',e=.ref x/\s'.os=s.os/\AllBare s'.gens/\Un (frs outer) [] H H' s.heap s'.heap/\GL P w H' s'.heap/\H' x=some (Mi x C d)/\
 (∃oe vs T oT ts,s'.heap.get? x=some oe/\oe.data=.fields vs/\vs[1]? =some (.ref T)/\T≠x/\H' T=none/\s.heap.objs.size<=T/\s'.heap.get? T=some oT/\oT.data=.fields ts/\ts[3]? =some .none)/\E (.ref C) d H'
theorem OL {P:Program}{w:World}{outer:List Env}{H:Hp}{s:Shared}{e:Value}{s':Shared}(h:jX P w outer H s (fun _ _ _=>False) e s'):False:=by
 obtain⟨_,_,_,_,_,_,_,_,_,_,_,z⟩:=h
 exact z
def SW (X:Cx)(E:XK):Value->Shared->Prop:=fun e s1=> ∃x C d pins σ H,e=.ref x/\xM X pins σ H s1/\H x=some (Mi x C d)/\Tb X pins H x s1.heap/\E (.ref C) d H
abbrev Cx.exc (X:Cx)(E:XK):Cx:=X.wish (SW X E)
section
variable {X:Cx}{E:XK}
theorem jZ {P:Program}{w:World}:AZ (jX P w) X E0:=fun _ _ _ _ _ _ _ h=>(OL h).elim
theorem Wy {pins:List (Addr×Obj)}{σ:St}{H:Hp}{s s':Shared}{e:Value}(I:xM X pins σ H s)(h:jX X.prog X.w X.stack H s E e s'):SW X E e s':=by
 obtain⟨x,C,d,H',rfl,ho,hg,u,hok,hx,⟨oe,vs,T,oT,ts,ge,hd,h1,hTx,hT,lo,gT,dT,h3⟩,q⟩:=h
 have I':xM X pins σ H' s':=I.call' (ch:=[]) ho u hok hg fun b z=>(nomatch z)
 refine⟨x,C,d,pins,σ,H',rfl,I',hx,⟨oe,vs,ge,hd,.inr ⟨T,oT,ts,.none,h1,hTx,⟨hT,yO I.sz lo,kH (yR I.lt lo),fun p hp z=>?_⟩,gT,dT,h3,.inl rfl⟩⟩,q⟩
 have:=yC (I.pin p hp).1
 rw[z]at this
 exact absurd (yR this lo) (jO _)
theorem kG:AZ (jX X.prog X.w) (X.exc E) E:=fun pins σ H s e s' I h=>Wy I.unwish h
theorem SB {e:Value}{s1:Shared}{E':Value->Shared->Prop}(hst:X.stack=X.env::X.outer)(hfr:X.env.frame=some X.env.locals)(hex:X.ex=[])(h:SW X E e s1):
  wpAny (model X.prog X.w) X.A (leaving X.env e) (fun _ s''=>jX X.prog X.w X.outer X.H₀ X.s₀ E e s'') E' s1:=by
 obtain⟨x,C,d,pins,σ,H,rfl,I,hx,tb,q⟩:=h
 unfold leaving
 refine zE (OB I hst hfr I.ok.frames hx tb fun s2 I2 t2=>Rf (to:=none) I2 hx t2 fun s3 I3 t3=>?_)
 obtain⟨oe,vs,T,oT,ts,ge,hd,h1,hTx,ours,gT,dT,h3⟩:=t3
 have b:=I3.base
 rw[hex]at b
 exact⟨x,C,d,H,rfl,I3.os,I3.bare,b,I3.hok,hx,⟨oe,vs,T,oT,ts,ge,hd,h1,hTx,ours.1,ours.2.1,gT,dT,h3⟩,q⟩
theorem Gw (hst:X.stack=X.env::X.outer)(hfr:X.env.frame=some X.env.locals):PassesOwn (model X.prog X.w) X.A X.env (SW X E):=fun e s1 h=>by
 obtain⟨x,C,d,pins,σ,H,rfl,I,hx,tb,q⟩:=h
 refine OB I hst hfr I.ok.frames hx tb fun s2 I2 t2=>?_
 have t2':=t2
 obtain⟨oe,vs,T,oT,ts,ge,hd,h1,hTx,ours,gT,dT,h3⟩:=t2
 unfold cameBackBy
 refine zE (xB ge hd h1 ?_)
 rw[zL (show ¬((Value.ref T==Value.none)=true)from by simp)]
 rw[hfr]
 exact Rf (to:=some X.env.locals) I2 hx t2' fun s3 I3 t3=>⟨x,C,d,pins,σ,H,rfl,I3,hx,t3.tb (.inr rfl),q⟩
end
section
variable {P:Program}{w:World}{K:PySem.W.Frag}{mg:Str->Option Value}{base:Heap}
theorem vW.okN {CX:Jr}{x qual:Str}{st:Stmt}{f:Addr}{fd:FuncData}{N ps:List Str}{k:Nat}{sp:Sp}(F:vW K x qual st f fd)(S:xI N ps (yH st))(len: ∀vs H Q E,sp vs H Q E->vs.length=ps.length)
  (hbody: ∀(cdv:Value) (A:Around) (outer:List Env) (s:Shared) (H:Hp) (vs:List V) (Q:VK) (E:XK),uD k (A.deeper (envOfC qual (yH st) s.heap.objs.size f cdv))->sp vs H Q E->
   ∃t,OZ (KD CX P w K mg base N qual (yH st) f cdv A outer s H E).nox (uC st) t/\t {nx:=fun _ H'=>Q .non H',rt:=Q} (FD N vs) H):jV P w K mg base CX (k+1) f fd ps sp:=by
 obtain⟨oc,od,kV,doc,pm,an,cdv,ct,osl,rfl,lk,hcd⟩:=F.ex
 refine Xc lk hcd S len fun A outer s H vs Q E hr hsp=>?_
 obtain⟨t,h,q⟩:=hbody cdv A outer s H vs Q E hr hsp
 exact⟨t,h.nox,q⟩
theorem vW.okX {x qual:Str}{st:Stmt}{f:Addr}{fd:FuncData}{N ps:List Str}{k:Nat}{sp:Sp}(F:vW K x qual st f fd)(S:xI N ps (yH st))(len: ∀vs H Q E,sp vs H Q E->vs.length=ps.length)
  (hbody: ∀(cdv:Value) (A:Around) (outer:List Env) (s:Shared) (H:Hp) (vs:List V) (Q:VK) (E:XK),uD k (A.deeper (envOfC qual (yH st) s.heap.objs.size f cdv))->sp vs H Q E->
   ∃t,OZ ((KD (jX P w) P w K mg base N qual (yH st) f cdv A outer s H E).exc E) (uC st) t/\t {nx:=fun _ H'=>Q .non H',rt:=Q} (FD N vs) H):jV P w K mg base (jX P w) (k+1) f fd ps sp:=by
 obtain⟨oc,od,kV,doc,pm,an,cdv,ct,osl,rfl,lk,hcd⟩:=F.ex
 refine Xc lk hcd S len fun A outer s H vs Q E hr hsp=>?_
 obtain⟨t,h,q⟩:=hbody cdv A outer s H vs Q E hr hsp
 refine⟨t,⟨fun pins s1 σ H1 D I hw=>?_⟩,q⟩
 refine vQ (h pins s1 σ H1 D (I.wish _) hw) (fun fl s2 hs=>hs.unwish) fun e s2 fl=>?_
 exact SB rfl rfl rfl fl
end
end L2

namespace L2
open PySem PySem.Spec PyProof.Rows
abbrev DW:List Value:=[.type "ValueError",.type "Exception",.type "BaseException",.type "object"]
structure OW (K:PySem.W.Frag)(C f:Addr):Prop where
 cls: ∃(B nw ini:String) (bmB:List Value),ExcBaseFacts B nw ini bmB/\bmB.contains (.type "BaseException")=true/\ ∃nm q N bs bm hdct sn sub ab col dd k0 k1 k2 k3 k5,K.lookup C=some (excClassObj nm q C N bs bm hdct sn sub ab col dd k0 k1 k2 k3 k5 nw)/\ ∀h,K.In h->OwnTail h bmB bm
 init:PySem.W.findIn K (.ref C) "__init__"=some (some (.ref f))
 fn:PySem.W.typeIn K (.ref f)=some (.type "function")
 kp:PySem.W.keepIn K (.ref C)=true
 ec:Jq K C
theorem OW.ofValue {K:PySem.W.Frag}{C f:Addr}(h: ∃nm q N bs bm hdct sn sub ab col dd k0 k1 k2 k3 k5,K.lookup C=some (excClassObj nm q C N bs bm hdct sn sub ab col dd k0 k1 k2 k3 k5 "ValueError.__new__")/\ ∀h,K.In h->OwnTail h DW bm)
  (i:PySem.W.findIn K (.ref C) "__init__"=some (some (.ref f))) (fn:PySem.W.typeIn K (.ref f)=some (.type "function")) (kp:PySem.W.keepIn K (.ref C)=true) (ec:Jq K C):OW K C f:=
 ⟨⟨_,_,_,DW,F.excBase_ValueError,by decide,h⟩,i,fn,kp,ec⟩
section
variable {X:Cx}{pins:List (Addr×Obj)}{σ:St}{H:Hp}{s:Shared}
theorem xM.excMade (I:xM X pins σ H s)(C:Addr)(us:List Value):xM X pins σ (upd H (s.heap.objs.size+1) (IW (s.heap.objs.size+1) C none)) {s with heap:=Ce s.heap C us}:=by
 have gx:(Ce s.heap C us).get? (s.heap.objs.size+1)=some (Qj C s.heap.objs.size):=by heap_get
 refine I.laid (t':=s.toks) (fun b o e=>zI _ (zI _ e)) (Nat.le_succ _) (IW.ok gx rfl rfl rfl (show 6<=6 by decide) rfl)
theorem VP {CX:Jr}{k:Nat}{f C:Addr}{fd:FuncData}{ps:List Str}{sp:Sp}{E:XK}{Q:Addr->Hp->Prop}{us:List Value}{vs:List V}(M:OW X.K C f)(G:jV X.prog X.w X.K X.mg X.base CX k f fd ps sp)(hr:uD (k+1) X.A)(hb:vU X.K fd ps [])
  (hx:AZ CX X E) (I:xM X pins σ H s) (r:jP vs us) (hz:us.length<=sizeLine)
  (h: ∀x,H x=none->sp (.ref x::vs) (upd H x (IW x C none)) (fun v H2=>v=.non/\Q x H2) E):
  wpAny (model X.prog X.w) X.A (call (.ref C) us) (fun u s'=> ∃x H',u=.ref x/\xM X pins σ H' s'/\Q x H') X.xe s:=by
 have hq:=h (s.heap.objs.size+1) (I.hok.fresh (Nat.le_succ _))
 have I2:=I.excMade C us
 have r2:jP (V.ref (s.heap.objs.size+1)::vs) (Value.ref (s.heap.objs.size+1)::us):=.cons rfl r
 have hl:(Value.ref (s.heap.objs.size+1)::us++[]).length =ps.length:=by
  have e:=r2.length
  rw[G.len _ _ _ _ hq]at e
  rw[yX]
  exact e.symm
 obtain⟨_,_,_,bmB,BF,hcb,nm,q,N,bs,bm,hdct,sn,sub,ab,col,dd,k0,k1,k2,k3,k5,hC,T⟩:=M.cls
 have KI:=I.kIn
 have bd:=hb {s with heap:=Ce s.heap C us} (Value.ref (s.heap.objs.size+1)::us) I2.kIn hl
 rw[yX]at bd
 obtain⟨hh,g,d,t,os⟩:=s
 refine wpAny_call (Vc KI (KI _ _ hC) BF (T _ KI) M.init M.fn hz (BD (G.run _ X.stack _ _ ⟨Value.ref (hh.objs.size+1)::us,[]⟩ _ _ _ E (hr.make C us []) (I2.env0.make C us []) bd r2 hq) fun r s' hq'=>?_))
 cases r with
 |error e=>exact hx pins σ _ _ e s' I2 hq'
 |ok fl=>
  cases fl with
  |ret u=>
   obtain⟨v,H',I3,rv,ev,q3⟩:=I2.after hq'
   subst ev
   exact⟨rv,hh.objs.size+1,H',rfl,I3,q3⟩
  |next=>exact False.elim hq'
  |brk=>exact False.elim hq'
  |cont=>exact False.elim hq'
theorem Pu {M:Model}{A:Around}{E:Value->Shared->Prop}{env:Env}{xs:Sem Value}{Q:Flow->Shared->Prop}{K:PySem.W.Frag}{C:Addr}{s:Shared}{f:Addr}(hM:OW K C f)(hh:A.handled=none)
  (h:wpAny M A xs (fun v s1=> ∃x oe vs,v=.ref x/\K.In s1.heap/\s1.heap.get? x=some oe/\oe.cls=.ref C/\oe.data=.fields vs/\vs[1]? =some .none/\E (.ref x) s1) E s):
  wpAny M A (raiseStmt env (some xs) none) Q E s:=by
 obtain⟨_,_,_,bmB,BF,hcb,nm,q,N,bs,bm,hdct,sn,sub,ab,col,dd,k0,k1,k2,k3,k5,hC,T⟩:=hM.cls
 unfold raiseStmt
 refine zE (qR h fun v s1 h1=>?_)
 obtain⟨x,oe,vs,rfl,KI,ge,hcl,hd,h1,hE⟩:=h1
 have hC1:=KI _ _ hC
 have hcB:(Value.ref C::bm).contains (.type "BaseException")=true:=by rw[List.contains_cons,(T _ KI).hasType hcb,Bool.or_true]
 obtain⟨hp,g,d,tk,os⟩:=s1
 repeat (first|(with_reducible refine BA ge ?_;try rw[hcl])|with_reducible refine BA hC1 ?_ |(with_reducible refine wpAny_isSubtype_exc hC1 ?_;rw[hcB])|with_reducible refine xB ge hd h1 ?_ |wp_step)
 exact wpAny_raiseNew_none hh hE
theorem xM.excFlies {x C d:Addr}(I:xM X pins σ H s)(hx:H x=some (IW x C (some d))):xM X pins σ (upd H x (Mi x C (some d))) s:=by
 obtain⟨o,vs,g,r1,r2,r3,r4,r5⟩:=IW.get I.hok hx
 exact I.write (h':=s.heap) (t':=s.toks) (x:=x) (e:=x) (by rw[hx];exact True.intro) (.inl rfl) (fun _ _ _ q=>q) ⟨o,g⟩ (Mi.ok g r1 r2 r3 r4)
end
def Tk (C:Addr)(sp:Sp)(E:XK)(t:TA):TS:=fun _ σ H=>t σ H fun vs H1=>vs.length<=sizeLine/\ ∀x,H1 x=none->
 sp (.ref x::vs) (upd H1 x (IW x C none)) (fun v H2=>v=.non/\ ∃d,H2 x=some (IW x C (some d))/\E (.ref C) (some d) (upd H2 x (Mi x C (some d)))) E
section
variable {X:Cx}{E:XK}{k:Nat}{f C:Addr}{fd:FuncData}{ps:List Str}{sp:Sp}{x:Str}{np cpos pos:Pos}{e:Expr}{es:List Expr}{t:TA}
theorem TF (M:OW X.K C f)(G:jV X.prog X.w X.K X.mg X.base (jX X.prog X.w) k f fd ps sp)(hr:uD (k+1) X.A)(hg:Gl (X.exc E) x)(hm:X.mg x=some (.ref C))(hb:vU X.K fd ps [])(ha:PA (X.exc E) (e::es) t)(hc:X.calm=true:=by rfl)
  (hdb:(x==("__debug__":Str))=false:=by decide) (he:starEach (e::es) X.env=(false,eval e X.env)::starEach es X.env:=by rfl) (hpl:(backTo cpos (starEach es X.env)).any (·.1)=false:=by rfl):
  PS (X.exc E) (.Raise (some (.Call (.Name x np) (e::es) [] cpos)) none pos) (Tk C sp E t):=by
 refine⟨?_⟩
 intro pins s σ H D I h
 have cal:wpAny (model X.prog X.w) X.A (eval (.Call (.Name x np) (e::es) [] cpos) X.env) (fun v s1=> ∃y oe vs,v=.ref y/\X.K.In s1.heap/\s1.heap.get? y=some oe/\oe.cls=.ref C/\oe.data=.fields vs/\vs[1]? =some .none/\SW X E (.ref y) s1) (SW X E) s:=by
  refine wX (HZ (X:=X.exc E) I hg hm ?_ hdb)
  refine Bb (h₀:=X.base) I.ok.mod.kin M.kp (qR (ha cpos pins s σ H _ I h) fun us s1 ⟨vs,H1,I1,r,hz,q⟩=>⟨I1.kIn,?_⟩) he hpl
  refine qR (VP (X:=X.exc E) (Q:=fun y H2=> ∃d,H2 y=some (IW y C (some d))/\E (.ref C) (some d) (upd H2 y (Mi y C (some d)))) M G hr hb kG I1 r (by have:=r.length;rw[jM];(first|lia|omega)) q) fun v s2 ⟨y,H2,ev,I2,d,hy,qe⟩=>?_
  ·subst ev
   obtain⟨o,ws,g,r1,r2,r3,r4,r5⟩:=IW.get I2.hok hy
   exact⟨y,o,ws,rfl,I2.kIn,g,r1,r3,r5,y,C,some d,pins,σ,_,rfl,I2.unwish.excFlies hy,zG,⟨o,ws,g,r3,.inl r5⟩,qe⟩
 show wpAny _ _ (exec (.Raise (some (.Call (.Name x np) (e::es) [] cpos)) none pos) X.env) _ _ _
 rw[arm_exec_Raise]
 refine zE (Cf (Pu (K:=X.K) M (I.ok.hd hc) ?_))
 exact zE (qR cal fun v s1 h1=>zE (Cf (zR h1)))
end
end L2

namespace L2
open PySem PySem.Spec PyProof.Rows
section
variable {X:Cx}{pins:List (Addr×Obj)}{σ:St}{H:Hp}{s:Shared}
end
structure Mch (K:PySem.W.Frag)(C CE:Addr):Prop where
 sub:PySem.W.subIn K (.ref C) (.ref CE)=some true
 ty:PySem.W.typeIn K (.ref CE)=some (.type "type")
 cl:(PySem.W.clsIn K CE).isSome =true
 base:PySem.W.subIn K (.ref CE) (.type "BaseException")=some true
def behind (D:FJ)(i:Nat):FJ:={nx:=fun σ H=>D.nx (σ.set i none) H,rt:=D.rt,bk:=fun σ H=>D.bk (σ.set i none) H,ct:=fun σ H=>D.ct (σ.set i none) H}
section
variable {X:Cx}
end
end L2

namespace L2
open PySem PySem.Spec PyProof.Rows
def VB (K:PySem.W.Frag)(H:Hp):Nat->V->V->Prop
 |0,x,y=>Cm x=true/\x=y
 |n+1,x,y=>(Cm x=true/\x=y)\/ ∃a b xs ys,x=.ref a/\y=.ref b/\((GK K H a xs/\GK K H b ys)\/(EH K H a xs/\EH K H b ys))/\Paired (VB K H n) xs ys
theorem VB.flat {K:PySem.W.Frag}{H:Hp}{x:V}(h:Cm x=true): ∀n,VB K H n x x
 |0=>⟨h,rfl⟩
 |_+1=>.inl ⟨h,rfl⟩
theorem OG: ∀{x:V},Cm x=true->Nc x x=true
 | .non,_=>rfl
 | .bl b,_=>wQ b
 | .int i,_=>wQ i
 | .str z,_=>wQ z
theorem Paired.get {α β:Type}{F:α->β->Prop}: ∀{xs:List α} {ys:List β},Paired F xs ys-> ∀(j:Nat) (x:α) (y:β),xs[j]? =some x->ys[j]? =some y->F x y
 |_,_,.nil,j,x,y,h,_=>by simp at h
 |_,_,.cons r t,0,x,y,h,q=>by simp at h q;subst h;subst q;exact r
 |_,_,.cons r t,j+1,x,y,h,q=>Paired.get t j x y (by simpa using h) (by simpa using q)
theorem Paired.len {α β:Type}{F:α->β->Prop}: ∀{xs:List α} {ys:List β},Paired F xs ys->xs.length=ys.length
 |_,_,.nil=>rfl
 |_,_,.cons _ t=>by simp[Paired.len t]
theorem Paired.imp {α β:Type}{F G:α->β->Prop}(h: ∀x y,F x y->G x y): ∀{xs:List α} {ys:List β},Paired F xs ys->Paired G xs ys
 |_,_,.nil=>.nil
 |_,_,.cons r t=>.cons (h _ _ r) (Paired.imp h t)
theorem EG (n:Nat):(List.range n).all (fun _=>true)=true:=List.all_eq_true.mpr fun _ _=>rfl
section
variable {X:Cx}{pins:List (Addr×Obj)}{σ:St}{H:Hp}{s:Shared}
theorem Dn {K:PySem.W.Frag}{xs ys:List V}{us vs:List Value}{R:V->V->Prop}(p:Paired R xs ys)(r:jP xs us)(q:jP ys vs)(P:Value->Value->Prop)(h: ∀x y u v,R x y->kB x u->kB y v->P u v):
  us.toArray.size=vs.toArray.size/\ ∀j (h1:j<us.toArray.size) (h2:j<vs.toArray.size),P us.toArray[j] vs.toArray[j]:=by
 refine⟨?_,fun j h1 h2=>?_⟩
 ·have e1:=r.length;have e2:=q.length;have e3:=Paired.len p
  simp only[yD];(first|lia|omega)
 ·have l1:j<us.length:=by simpa using h1
  have l2:j<vs.length:=by simpa using h2
  have e1:=r.length;have e2:=q.length
  have g1:xs[j]? =some xs[j]:=zB (by(first|lia|omega))
  have g2:ys[j]? =some ys[j]:=zB (by(first|lia|omega))
  simp only[List.getElem_toArray]
  exact h _ _ _ _ (Paired.get p j _ _ g1 g2) (Paired.get r j _ _ g1 (zB l1)) (Paired.get q j _ _ g2 (zB l2))
theorem II (I:xM X pins σ H s): ∀(n:Nat) (x y:V) (u v:Value) (A:Around),VB X.K H n x y->kB x u->kB y v->A.units+n<=cLine->SeqAt.EqAt A s u v true
 |0,x,y,u,v,A,⟨f,e⟩,ru,rv,_=>by subst e;rw[<-OG f];exact Ql ru rv f f
 |n+1,x,y,u,v,A,.inl ⟨f,e⟩,ru,rv,_=>by subst e;rw[<-OG f];exact Ql ru rv f f
 |n+1,x,y,u,v,A,.inr ⟨a,b,xs,ys,ex,ey,hs,p⟩,ru,rv,hu=>by
  subst ex ey
  cases ru;cases rv
  by_cases hab:a=b
  ·subst hab;exact SeqAt.EqAt.same _
  refine SeqAt.EqAt.of_refs hab ?_
  rcases hs with⟨ha,hb⟩|⟨ha,hb⟩
  ·obtain⟨us,r,pa,_⟩:=I.list ha
   obtain⟨vs,q,pb,_⟩:=I.list hb
   obtain⟨sz,he⟩:=Dn (K:=X.K) p r q (fun u v=>SeqAt.EqAt A.in1 s u v true) fun x y u v e ru rv=>II I n x y u v A.in1 e ru rv (by show A.units+1+n<=_;(first|lia|omega))
   have:=SeqAt.RcAt.lists (e:=fun _=>true) pa.isList pb.isList sz (by(first|lia|omega)) he
   rwa [EG]at this
  ·obtain⟨us,r,pa,_⟩:=I.tuple ha
   obtain⟨vs,q,pb,_⟩:=I.tuple hb
   obtain⟨sz,he⟩:=Dn (K:=X.K) p r q (fun u v=>SeqAt.EqAt A.in1 s u v true) fun x y u v e ru rv=>II I n x y u v A.in1 e ru rv (by show A.units+1+n<=_;(first|lia|omega))
   have:=DY (e:=fun _=>true) pa pb (by(first|lia|omega)) he
   rw[EG,sz,wQ]at this
   exact this
inductive XB (K:PySem.W.Frag) (k:Bool) (x:V) (y:V) (H:Hp) (Q:VK):Prop
 |mk (a b xs ys n:_) (h0:x=.ref a) (h1:y=.ref b) (h2:((GK K H a xs/\GK K H b ys)\/(EH K H a xs/\EH K H b ys))) (h3:Paired (VB K H n) xs ys) (h4:n<=100) (h5:Q (.bl k) H):XB K k x y H Q
theorem Ud {k:Nat}(hr:uD k X.A):Jx X (compareOp .Eq) (XB X.K true):=by
 intro pins s σ H x y v u Q I rx ry h
 obtain⟨a,b,xs,ys,n,rfl,rfl,hs,p,hn,q⟩:=h
 cases rx;cases ry
 have hu:=hr.un
 rcases hs with⟨ha,hb⟩|⟨ha,hb⟩
 ·obtain⟨us,r,pa,_⟩:=I.list ha
  obtain⟨vs,q',pb,_⟩:=I.list hb
  obtain⟨sz,he⟩:=Dn (K:=X.K) p r q' (fun u v=>SeqAt.EqAt X.A.in1 s u v true) fun x y u v e ru rv=>II I n x y u v X.A.in1 e ru rv (by show X.A.units+1+n<=_;(first|lia|omega))
  have:=SeqAt.RcAt.lists (e:=fun _=>true) pa.isList pb.isList sz (by(first|lia|omega)) he
  rw[EG]at this
  exact this _ _ _ _ ⟨.bl true,H,I,rfl,q⟩
 ·obtain⟨us,r,pa,_⟩:=I.tuple ha
  obtain⟨vs,q',pb,_⟩:=I.tuple hb
  obtain⟨sz,he⟩:=Dn (K:=X.K) p r q' (fun u v=>SeqAt.EqAt X.A.in1 s u v true) fun x y u v e ru rv=>II I n x y u v X.A.in1 e ru rv (by show X.A.units+1+n<=_;(first|lia|omega))
  have:=DY (e:=fun _=>true) pa pb (by(first|lia|omega)) he
  rw[EG,sz,wQ]at this
  exact this _ _ _ _ ⟨.bl true,H,I,rfl,q⟩
theorem XN {k:Nat}(hr:uD k X.A):Jx X (compareOp .NotEq) (XB X.K false):=by
 intro pins s σ H x y v u Q I rx ry h
 obtain⟨a,b,xs,ys,n,rfl,rfl,hs,p,hn,q⟩:=h
 cases rx;cases ry
 have hu:=hr.un
 rcases hs with⟨ha,hb⟩|⟨ha,hb⟩
 ·obtain⟨us,r,pa,_⟩:=I.list ha
  obtain⟨vs,q',pb,_⟩:=I.list hb
  obtain⟨sz,he⟩:=Dn (K:=X.K) p r q' (fun u v=>SeqAt.EqAt X.A.in1 s u v true) fun x y u v e ru rv=>II I n x y u v X.A.in1 e ru rv (by show X.A.units+1+n<=_;(first|lia|omega))
  have:=SeqAt.RcNeAt.lists (e:=fun _=>true) pa.isList pb.isList sz (by(first|lia|omega)) he
  rw[EG]at this
  exact this _ _ _ _ ⟨.bl false,H,I,rfl,q⟩
 ·obtain⟨us,r,pa,_⟩:=I.tuple ha
  obtain⟨vs,q',pb,_⟩:=I.tuple hb
  obtain⟨sz,he⟩:=Dn (K:=X.K) p r q' (fun u v=>SeqAt.EqAt X.A.in1 s u v true) fun x y u v e ru rv=>II I n x y u v X.A.in1 e ru rv (by show X.A.units+1+n<=_;(first|lia|omega))
  have:=SeqAt.RcNeAt.tuples (e:=fun _=>true) pa pb (by(first|lia|omega)) he
  rw[EG,sz,wQ]at this
  exact this _ _ _ _ ⟨.bl false,H,I,rfl,q⟩
def Xm (i j:Int):Prop:=0<j/\j.natAbs.log2<8000
theorem NZ:Jx X (binaryOp .FloorDiv) (rI Xm fun i j=>.int (i / j)):=opI fun i j _ _ _ _ _ hc q=>by
 rw[<-Int.fdiv_eq_ediv_of_nonneg i (by have:=hc.1;(first|lia|omega))]at q
 exact floordiv_int (by have:=hc.1;(first|lia|omega)) q (.inl (PyProof.noPylong_of_log2 (by have:=hc.2;(first|lia|omega))))
def zAu (t:TS):TS:=fun D σ H=> ∃P:St->Hp->Prop,t {D with nx:=P} σ H/\ ∀σ' H',P σ' H'->D.nx σ' H'
theorem Ek {st:Stmt}{t:TS}(h:PS X st t):PS X st (zAu t):=by
 refine⟨?_⟩
 intro pins s σ H D I hw
 obtain⟨P,h1,h2⟩:=hw
 refine vQ (h pins s σ H _ I h1) (fun f s' q=>?_) fun _ _ z=>z
 cases f with
 |next=>obtain⟨σ1,H1,I1,q⟩:=q;exact⟨σ1,H1,I1,h2 _ _ q⟩
 |brk=>exact q
 |cont=>exact q
 |ret u=>exact q
structure Ld (P:Program)(w:World)(K:PySem.W.Frag)(mg:Str->Option Value)(base:Heap)(CX:Jr)(k:Nat)(C:Addr)(m:Str)(ps:List Str)(sp:Sp):Prop where
 ex: ∃f fd,jV P w K mg base CX k f fd ps sp/\RC K C/\WF K C m f/\vU K fd ps []
end
section
variable {X:Cx}{o e:Expr}{es:List Expr}{m:Str}{apos pos:Pos}{ta:TE}{t:TA}{E:XK}{C:Addr}
theorem Cj {CX:Jr}{k n:Nat}{ps:List Str}{sp:Sp}{pl:Sem Bool}(he:PE X o ta)(G:Ld X.prog X.w X.K X.mg X.base CX k C m ps sp)(hr:uD n X.A)(ha:PA X (e::es) t)(hx:AZ CX X E)(hk:k<=n:=by first|decide|(first|lia|omega))
  (hst:starEach (e::es) X.env=(false,eval e X.env)::starEach es X.env:=by rfl) (hpl:(backTo pos (starEach es X.env)).any (·.1)=false:=by rfl)
  (ht:eval (.Call (.Attribute o m apos) (e::es) [] pos) X.env=(do
   let ov<-eval o X.env
   standAt apos.atName
   let(f,first)<-holding [ov] (getMethod ov m pl)
   callWith pos f first (backTo pos (starEach (e::es) X.env)) (backToKw pos (keywordEach [] X.env))):=by rfl):
  PE X (.Call (.Attribute o m apos) (e::es) [] pos) (QB C m sp [] E ta t):=by
 obtain⟨f,fd,F,c,hm,hb⟩:=G.ex
 exact VY he c hm F (hr.mono hk) hb .nil hx ha hst hpl ht
theorem Lp {CX:Jr}{k n:Nat}{ps:List Str}{sp:Sp}{pl:Sem Bool}(he:PE X o ta)(G:Ld X.prog X.w X.K X.mg X.base CX k C m ps sp)(hr:uD n X.A)(hx:AZ CX X E)(hk:k<=n:=by first|decide|(first|lia|omega))
  (ht:eval (.Call (.Attribute o m apos) [] [] pos) X.env=(do
   let ov<-eval o X.env
   standAt apos.atName
   let(f,first)<-holding [ov] (getMethod ov m pl)
   callWith pos f first (backTo pos (starEach [] X.env)) (backToKw pos (keywordEach [] X.env))):=by rfl):
  PE X (.Call (.Attribute o m apos) [] [] pos) (QB C m sp [] E ta Tl):=by
 obtain⟨f,fd,F,c,hm,hb⟩:=G.ex
 exact TU he c hm F (hr.mono hk) hb .nil hx ht
structure VC (P:Program)(w:World)(K:PySem.W.Frag)(mg:Str->Option Value)(base:Heap)(CX:Jr)(k:Nat)(x:Str)(C:Addr)(ps:List Str)(sp:Sp):Prop where
 ex: ∃f fd,Mk K C f/\jV P w K mg base CX k f fd ps sp/\mg x=some (.ref C)/\vU K fd ps []
theorem NY {x:Str}{p:Pos}{CX:Jr}{k n:Nat}{ps:List Str}{sp:Sp}(G:VC X.prog X.w X.K X.mg X.base CX k x C ps sp)(hr:uD n X.A)(hg:Gl X x)(ha:PA X (e::es) t)(hx:AZ CX X E)(hk:k+1<=n:=by first|decide|(first|lia|omega))
  (hdb:(x==("__debug__":Str))=false:=by decide) (he:starEach (e::es) X.env=(false,eval e X.env)::starEach es X.env:=by rfl) (hpl:(backTo pos (starEach es X.env)).any (·.1)=false:=by rfl):
  PE X (.Call (.Name x p) (e::es) [] pos) (WK C sp [] E t):=by
 obtain⟨f,fd,M,F,hm,hb⟩:=G.ex
 exact VZ M F (hr.mono hk) hg hm hb .nil hx ha hdb he hpl
structure EK (P:Program)(w:World)(K:PySem.W.Frag)(mg:Str->Option Value)(base:Heap)(k:Nat)(x:Str)(C:Addr)(ps:List Str)(sp:Sp):Prop where
 ex: ∃f fd,OW K C f/\jV P w K mg base (jX P w) k f fd ps sp/\mg x=some (.ref C)/\vU K fd ps []
theorem qQ {x:Str}{np cpos:Pos}{k n:Nat}{ps:List Str}{sp:Sp}(G:EK X.prog X.w X.K X.mg X.base k x C ps sp)(hr:uD n X.A)(hg:Gl (X.exc E) x)(ha:PA (X.exc E) (e::es) t)(hc:X.calm=true:=by rfl)(hk:k+1<=n:=by first|decide|(first|lia|omega))
  (hdb:(x==("__debug__":Str))=false:=by decide) (he:starEach (e::es) X.env=(false,eval e X.env)::starEach es X.env:=by rfl) (hpl:(backTo cpos (starEach es X.env)).any (·.1)=false:=by rfl):
  PS (X.exc E) (.Raise (some (.Call (.Name x np) (e::es) [] cpos)) none pos) (Tk C sp E t):=by
 obtain⟨f,fd,M,F,hm,hb⟩:=G.ex
 exact TF M F (hr.mono hk) hg hm hb ha hc hdb he hpl
end
end L2

namespace L2
open PySem PySem.Spec PySem.Builtin.Str PyProof.Rows
section
variable {X:Cx}
theorem Lg: ∀(ts:List Str) (k:Nat),jP (ts.map V.str) (strsFrom k ts)
 |[],_=>.nil
 |x::r,k=>.cons ⟨k,rfl⟩ (Lg r (k+1))
def WI (mg:Str->Option Value)(x z:Str):Prop:= ∃t,mg x=some (.str z t)
theorem QP {x z:Str}{pos:Pos}(hg:Gl X x)(hm:WI X.mg x z)(hd:(x==("__debug__":Str))=false:=by decide):PE X (.Name x pos) (tC (.str z)):=by
 obtain⟨t,hm⟩:=hm
 exact MM (v:=.str z) hg hm ⟨t,rfl⟩ hd
inductive Tw (x:V) (vs:List V) (H:Hp) (Q:VK):Prop
 |mk (t sep:Str) (h0:x=.str t) (h1:vs=[.str sep]) (h2:(sep.length==0)=false) (h3:t.length<=sizeLine) (h4:(Txt.split t sep).length<=sizeLine) (h5: ∀p,H p=none->Q (.ref p) (upd H p (.lst ((Txt.split t sep).map V.str)))):Tw x vs H Q
theorem Oo:SY X "str.split" Tw:=by
 intro pins s σ H x vs v us Q I rx rv h
 obtain⟨t,sep,rfl,rfl,hs,hz,hn,q⟩:=h
 obtain⟨tk,rfl⟩:=rx
 obtain⟨u,rfl,ru⟩:=rv.one
 obtain⟨tk2,rfl⟩:=ru
 have one:Txt.split t sep=[t]-> ∀k',EP X pins σ Q (.ref s.heap.objs.size) {s with heap:=s.heap.push {cls:=.type "list",data:=.seq [Value.str t tk].toArray},toks:=k'}:=fun e k'=>by
  have q':=q _ I.fresh
  rw[e]at q' hn
  exact⟨.ref s.heap.objs.size,_,I.lnew (ys:=[V.str t]) (.cons ⟨tk,rfl⟩ .nil) hn,rfl,q'⟩
 cases h1:(decide (t.length<sep.length) || decide (PySem.Builtin.Str.strKind t<PySem.Builtin.Str.strKind sep))
 ·cases hf:(occurrences t sep 0 t.length (t.length+1)).isEmpty
  ·have e:Txt.split t sep=partsBetween t (occurrences t sep 0 t.length (t.length+1)) sep.length:=(zL (CQ h1)).trans (zL (CQ hf))
   rw[e]at hn q
   refine wB EY (Aq _ _ _) Ef (DE _ _) (meets_str_split_sep t sep tk tk2 h1 hs hf hz hn) ?_
   exact⟨.ref s.heap.objs.size,_,I.lnew (Lg _ _) (by rw[zD];exact hn),rfl,q _ I.fresh⟩
  ·have e:Txt.split t sep=[t]:=(zL (CQ h1)).trans (zW hf)
   exact wB EY (Aq _ _ _) Ef (DE _ _) (meets_str_split_not_found t sep tk tk2 h1 hs hf) (one e _)
 ·have e:Txt.split t sep=[t]:=zW h1
  exact wB EY (Aq _ _ _) Ef (DE _ _) (meets_str_split_cannot_occur t sep tk tk2 h1) (one e _)
inductive QJ (x:V) (vs:List V) (H:Hp) (Q:VK):Prop
 |mk (t y:Str) (h0:x=.str t) (h1:vs=[.str y]) (h2:Q (.bl (decide (0+y.length<=t.length)&&subAt t y 0)) H):QJ x vs H Q
theorem Sh:SY X "str.startswith" QJ:=by
 intro pins s σ H x vs v us Q I rx rv h
 obtain⟨t,y,rfl,rfl,q⟩:=h
 obtain⟨tk,rfl⟩:=rx
 obtain⟨u,rfl,ru⟩:=rv.one
 obtain⟨tk2,rfl⟩:=ru
 exact wB F.slot_str_startswith (Aq _ _ _) F.entry_str_startswith (F.args_str_startswith_2 _ _) (gives_str_startswith t y tk tk2).meets ⟨.bl _,H,I,rfl,q⟩
theorem Nj:EJ X (.type "int") (fun xs H Q=> ∃(x:Str) (n:Int),xs=[.str x]/\PySem.intText? x=some n/\x.length<=640/\Q (.int n) H):=by
 intro pins s σ H xs us Q I r h
 obtain⟨x,n,rfl,hn,hl,q⟩:=h
 obtain⟨u,rfl,t,rfl⟩:=GM r
 exact PySem.W.KIN.call_text hn hl ⟨.int _,H,I.tok _,⟨_,rfl⟩,q⟩
section
variable {e:Expr}{te:TE}{pos:Pos}
end
def OV (x:Str):It:=⟨fun i _=>i<x.cps.size,fun i H v H'=>H'=H/\ ∃c,x.cps[i]? =some c/\v=.str ⟨#[c]⟩,fun i _=>x.cps.size<=i⟩
inductive WY (v:V) (H1:Hp) (R:It->Hp->Prop):Prop
 |mk (x:Str) (h0:v=.str x) (h1:R (OV x) H1):WY v H1 R
def zBi (tl:TE):TI:=fun σ H R=>tl σ H fun v H1=>WY v H1 R
theorem FO (x:Str):strIterType x="str_ascii_iterator"\/strIterType x="str_iterator":=by
 unfold strIterType
 split
 ·exact .inl rfl
 ·exact .inr rfl
theorem Th {P:Program}{w:World}{K:PySem.W.Frag}{tg:Expr}(it:Addr)(x:Str)(t:Tok):Nl P w K tg (OV x) [it] it (fun i h=>h.IsStrIter it (strIterType x) x t i) where
 mem:=by simp
 obj:=fun i h st b hb=>by
  have e:b=it:=by simpa using hb
  subst e
  obtain⟨o,e,c,d⟩:=st
  exact⟨o,e,fun v z=>by rw[d]at z;cases z⟩
 keep:=fun i h h' st k=>by
  obtain⟨o,e,r⟩:=st
  exact⟨o,k it (by simp) o e,r⟩
 item:=by
  intro X hP hw hK hc i pins s σ H E I hf st hg
  subst hP hw hK
  obtain⟨f0,f1,f2,f3,f4,f5⟩:=hf it (by simp)
  have hx:x.cps[i]? =some (x.cps[i]'hg):=AD hg
  generalize x.cps[i]'hg=c at hx
  have I1: ∀h',Heap.SameBut it s.heap h'->xM X pins σ H {s with heap:=h',toks:=s.toks+1}:=fun h' sb=>I.turned (t':=s.toks+1) (fun b o hb e=>(sb.2 b hb).trans e) f0 f1 f3 f4 f5
  rcases FO x with e|e
  ·rw[e]at st ⊢
   refine wpAny_pyNext_ascii_item st hx fun h' st' sb=>?_
   obtain⟨o,e,cl,d⟩:=id st'
   exact⟨_,rfl,Kw (s:={s with heap:=h',toks:=s.toks+1}) e cl d (by decide) ⟨.str ⟨#[c]⟩,H,I1 h' sb,⟨_,rfl⟩,⟨rfl,c,hx,rfl⟩,st',fun b hb=>(hf b hb).1⟩⟩
  ·rw[e]at st ⊢
   refine wpAny_pyNext_wide_item st hx fun h' st' sb=>?_
   obtain⟨o,e,cl,d⟩:=id st'
   exact⟨_,rfl,Kw (s:={s with heap:=h',toks:=s.toks+1}) e cl d (by decide) ⟨.str ⟨#[c]⟩,H,I1 h' sb,⟨_,rfl⟩,⟨rfl,c,hx,rfl⟩,st',fun b hb=>(hf b hb).1⟩⟩
 done:=by
  intro X hP hw hK hc i pins s σ H E I hf st hg
  subst hP hw hK
  obtain⟨f0,f1,f2,f3,f4,f5⟩:=hf it (by simp)
  have hx:x.cps[i]? =none:=Array.getElem?_eq_none hg
  rcases FO x with e|e
  ·rw[e]at st
   exact wpAny_pyNext_ascii_end (I.ok.hd hc) st hx fun h' eb=>⟨rfl,I.turned (t':=s.toks) (fun b o hb e=>eb b o hb e) f0 f1 f3 f4 f5⟩
  ·rw[e]at st
   exact wpAny_pyNext_wide_end (I.ok.hd hc) st hx fun h' eb=>⟨rfl,I.turned (t':=s.toks) (fun b o hb e=>eb b o hb e) f0 f1 f3 f4 f5⟩
 self:=by
  intro A i s Q E st h
  rcases FO x with e|e
  ·rw[e]at st
   exact wpAny_pyIter_striter_ascii st h
  ·rw[e]at st
   exact wpAny_pyIter_striter_wide st h
theorem XF {tg l:Expr}{tl:TE}(hl:PE X l tl):PI X tg l (zBi tl):=by
 refine⟨?_⟩
 intro pins s σ H R I h
 refine qR (hl pins s σ H _ I h) fun v s1 z=>?_
 obtain⟨y,H1,I1,r1,x,rfl,q⟩:=z
 obtain⟨t,rfl⟩:=r1
 refine wpAny_pyIter_strU ?_
 refine⟨s1.heap.objs.size,[s1.heap.objs.size],_,_,H1,rfl,I1.kept (t':=s1.toks) fun b o e=>zI _ e,Th _ x t,⟨_,yG _ rfl,rfl,rfl⟩,fun b hb=>?_,q⟩
 have e:b=s1.heap.objs.size:=by simpa using hb
 subst e
 exact I1.fpOk (zS _) (I1.hok.fresh (zS _))
theorem Ws {x:Str}{g:TG}{tb:TS}{D:FJ}{σ:St}{H:Hp}(Pv:Nat->St->Hp->Prop)(h0:Pv 0 σ H)
  (hs: ∀i c σ H,x.cps[i]? =some c->Pv i σ H->g (.str ⟨#[c]⟩) σ H fun σ2 H2=>tb {D with nx:=Pv (i+1),ct:=Pv (i+1),bk:=D.nx} σ2 H2) (hd: ∀σ H,Pv x.cps.size σ H->D.nx σ H):
  ∃W:Nat->Nat->St->Hp->Prop,(∃m,W 0 m σ H)/\ ∀i m σ H,W i m σ H->
   ((OV x).stop i H/\D.nx σ H)\/((OV x).go i H/\ ∃N:St->Hp->Prop,(∀σ' H',N σ' H'-> ∃m',m'<m/\W (i+1) m' σ' H')/\ ∀v H',(OV x).yld i H v H'->g v σ H' fun σ2 H2=>tb {D with nx:=N,ct:=N,bk:=D.nx} σ2 H2):=by
 refine⟨fun i m σ H=>m=x.cps.size-i/\i<=x.cps.size/\Pv i σ H,⟨x.cps.size,rfl,yZ _,h0⟩,?_⟩
 rintro i m σ H ⟨rfl,hi,p⟩
 by_cases hlt:i<x.cps.size
 ·refine .inr ⟨hlt,Pv (i+1),fun σ' H' p'=>⟨x.cps.size-(i+1),by(first|lia|omega),rfl,hlt,p'⟩,fun v H' y=>?_⟩
  obtain⟨e,c,hx,rfl⟩:=y
  subst e
  exact hs i c σ _ hx p
 ·have e:i=x.cps.size:=by(first|lia|omega)
  subst e
  exact .inl ⟨zS _,hd σ H p⟩
end
end L2

namespace L2
open PySem
def vS (c:Nat):List (List Nat)->List Nat
 |[]=>[]
 |[a]=>a
 |a::b::r=>a++c::vS c (b::r)
theorem Qh (c:Nat)(a:List Nat)(r:List (List Nat)): ∃x,vS c (a::r)=a++x/\((r=[]/\x=[])\/(r≠[]/\x=c::vS c r)):=by
 cases r with
 |nil=>exact⟨[],(by rw[yX];rfl),.inl ⟨rfl,rfl⟩⟩
 |cons b r=>exact⟨_,rfl,.inr ⟨(fun z=>nomatch z),rfl⟩⟩
theorem AJ (c:Nat): ∀ts:List Str,(Str.join ⟨#[c]⟩ ts).cps.toList =vS c (ts.map fun t=>t.cps.toList)
 |[]=>rfl
 |[t]=>rfl
 |t::u::r=>by
  have ih:=AJ c (u::r)
  show(t++⟨#[c]⟩++Str.join ⟨#[c]⟩ (u::r)).cps.toList =t.cps.toList++c::vS c ((u::r).map fun t=>t.cps.toList)
  rw[<-ih]
  show(t.cps++#[c]++(Str.join ⟨#[c]⟩ (u::r)).cps).toList =_
  simp
theorem Wz {ts us:List Str}(h:ts.map (fun t=>t.cps.toList)=us.map (fun t=>t.cps.toList)):ts=us:=by
 induction ts generalizing us with
 |nil=>cases us with
  |nil=>rfl
  |cons u us=>cases h
 |cons t ts ih=>cases us with
  |nil=>cases h
  |cons u us=>
   rw[yK,yK]at h
   injection h with h1 h2
   rw[ih h2]
   obtain⟨a⟩:=t
   obtain⟨b⟩:=u
   have:a=b:=Array.toList_inj.mp h1
   rw[this]
open PySem.NumText PySem.W
abbrev uL (n:Int):Str:=Str.ofString (toString n)
abbrev Gj (m:Nat):List Nat:=(Nat.toDigits 10 m).map Char.toNat
theorem GF {m:Nat}(h:m<10):Gj m=[48+m]:=by
 have: ∀m:Fin 10,(Nat.digitChar m.1).toNat =48+m.1:=by decide
 show(Nat.toDigits 10 m).map Char.toNat=_
 rw[Nat.toDigits_of_lt_base h]
 show[(Nat.digitChar m).toNat]=_
 rw[this ⟨m,h⟩]
theorem JI {m:Nat}(h: ¬m<10):Gj m=Gj (m / 10)++[48+m % 10]:=by
 have hm:m % 10<10:=DB m (by decide)
 have t:Nat.toDigits 10 (m / 10)++Nat.toDigits 10 (m % 10)=Nat.toDigits 10 (10*(m / 10)+m % 10):=Nat.toDigits_append_toDigits (by decide) (by(first|lia|omega)) hm
 rw[Nat.div_add_mod]at t
 show(Nat.toDigits 10 m).map Char.toNat=_
 rw[<-t,yA]
 have:=GF hm
 show Gj (m / 10)++Gj (m % 10)=_
 rw[this]
theorem EE (m:Nat):AllDigits (Gj m):=by
 induction m using Nat.strongRecOn with
 |_ m ih=>
  intro c hc
  by_cases h:m<10
  ·rw[GF h]at hc
   rw[List.mem_singleton.mp hc]
   (first|lia|omega)
  ·rw[JI h]at hc
   rcases List.mem_append.mp hc with z|z
   ·exact ih (m / 10) (by(first|lia|omega)) c z
   ·rw[List.mem_singleton.mp z]
    have:m % 10<10:=DB m (by decide)
    (first|lia|omega)
theorem GG (m:Nat): ∃c r,Gj m=c::r/\(m≠0->c≠48):=by
 induction m using Nat.strongRecOn with
 |_ m ih=>
  by_cases h:m<10
  ·exact⟨_,_,GF h,fun z=>by(first|lia|omega)⟩
  ·obtain⟨c,r,e,n⟩:=ih (m / 10) (by(first|lia|omega))
   exact⟨c,r++[48+m % 10],by rw[JI h,e];rfl,fun _=>n (by(first|lia|omega))⟩
theorem Ic: ∀{k m:Nat},m<10^(k+1)->(Gj m).length<=k+1
 |0,m,h=>by rw[GF (by(first|lia|omega))];exact zS _
 |k+1,m,h=>by
  by_cases c:m<10
  ·rw[GF c]
   show 1<=_
   (first|lia|omega)
  ·have:m / 10<10^(k+1):=by
    rw[Nat.pow_succ]at h
    exact Nat.div_lt_of_lt_mul (by rw[Nat.mul_comm];exact h)
   have:=Ic this
   rw[JI c,zC]
   show _+1<=_
   (first|lia|omega)
theorem OJ (m:Nat):digitsVal (Gj m)=m:=KIN.val_back m
theorem Ez (n:Int):(0<=n/\(uL n).cps.toList =Gj n.natAbs)\/(n<0/\(uL n).cps.toList =45::Gj n.natAbs):=by
 cases n with
 |ofNat m=>exact .inl ⟨Int.natCast_nonneg m,KIN.signs_num m⟩
 |negSucc m=>
  refine .inr ⟨Int.negSucc_lt_zero m,?_⟩
  have e:toString (Int.negSucc m)="-"++Nat.repr (m+1):=rfl
  show(Str.ofString (toString (Int.negSucc m))).cps.toList =45::(Nat.toDigits 10 (m+1)).map Char.toNat
  rw[e,PyProof.Rows.signs_ofString]
  rw[String.toList_append,yA,Nat.toList_repr]
  rfl
theorem Ux {n:Int}(h:n.natAbs<10^600):PySem.intText? (uL n)=some n/\(uL n).length<=601:=by
 have hl:(Gj n.natAbs).length<=600:=Ic (k:=599) h
 obtain⟨c,r,e,_⟩:=GG n.natAbs
 have ne:Gj n.natAbs≠[]:=by rw[e];exact fun z=>nomatch z
 have ln:(uL n).cps.toList.length =(uL n).length:=yQ
 rcases Ez n with⟨h0,hc⟩|⟨h0,hc⟩
 ·rw[hc]at ln
  refine⟨?_,by(first|lia|omega)⟩
  rw[intText_digits (by rw[hc];exact EE _) (by rw[hc];exact ne) (by(first|lia|omega)),hc,OJ]
  exact xT some (by(first|lia|omega))
 ·rw[hc,zJ]at ln
  refine⟨?_,by(first|lia|omega)⟩
  rw[intText_neg hc (EE _) ne (by(first|lia|omega)),OJ]
  exact xT some (by(first|lia|omega))
end L2

namespace L2
open PySem
theorem VM (c:Nat)(x:Str):(!(Builtin.Str.occurrences x ⟨#[c]⟩ 0 x.length 1).isEmpty)=decide (c∈x.cps.toList):=StrLaws.found_one x c
def BL (w sg:Str):Bool:=w.cps.toList.all fun c=>decide (c∈sg.cps.toList)
def vR (x:Str):Str:=match x.cps.toList with
 |45::r=>⟨r.toArray⟩
 |_=>x
theorem Sl:(Str.ofString "-")=⟨#[45]⟩:=by decide
theorem HF (x:Str):(decide (0+(Str.ofString "-").length<=x.length)&&Builtin.Str.subAt x (Str.ofString "-") 0)=true ↔ x.cps.toList[0]? =some 45:=by
 rw[jW,DX,Sl]
 exact StrLaws.subAt_one x 45 0
theorem Dw {x:Str}{r:List Nat}(h:x.cps.toList=45::r):vR x=⟨r.toArray⟩/\Txt.slice x (some 1) none=⟨r.toArray⟩:=by
 constructor
 ·unfold vR
  rw[h]<;>rfl
 ·have hl:x.cps.toList.length=x.length:=yQ
  rw[h,zJ]at hl
  have e:=eq_of_beq (PyProof.Rows.slice_closes_fromL (x:=x) (i:=1) (b:=(x.length:Int)) (by decide) (by(first|lia|omega)) rfl)
  rw[e,h]
  show(⟨((45::r).drop 1 |>.take ((x.length:Int)-1).toNat).toArray⟩:Str)=_
  rw[List.drop_one,List.tail_cons,xP (by(first|lia|omega))]
theorem BV {x:Str}(h: ¬x.cps.toList[0]? =some 45):vR x=x:=by
 unfold vR
 split
 ·rename_i r e
  rw[e]at h
  exact absurd rfl h
 ·rfl
theorem UZ (x:Str):(vR x).length<=x.length:=by
 by_cases c:x.cps.toList[0]? =some 45
 ·obtain⟨r,er⟩: ∃r,x.cps.toList=45::r:=by
   cases e:x.cps.toList with
   |nil=>rw[e]at c;cases c
   |cons a r=>rw[e]at c;cases c;exact⟨r,rfl⟩
  have hl:x.cps.toList.length=x.length:=yQ
  rw[er,zJ]at hl
  rw[(Dw er).1]
  show r.toArray.size<=_
  rw[yD]
  (first|lia|omega)
 ·rw[BV c]
  exact zS _
def Ab (x:Str)(most:Int):Bool:=decide (1<=(vR x).length)&&decide (((vR x).length:Int)<=most)&&BL (vR x) "0123456789"&&(decide (x="0") || !decide ((vR x).cps.toList[0]? =some 48))
theorem UY (n:Int):(vR (uL n)).cps.toList =Gj n.natAbs:=by
 rcases Ez n with⟨_,e⟩|⟨_,e⟩
 ·rw[BV (fun z=>?_),e]
  obtain⟨c,r,ed,_⟩:=GG n.natAbs
  have:=EE n.natAbs c (by rw[ed];exact zP)
  rw[e,ed]at z
  cases z
  (first|lia|omega)
 ·rw[(Dw e).1]
theorem Jo:(Str.ofString "0123456789").cps.toList =[48,49,50,51,52,53,54,55,56,57]:=by decide
theorem SD {c:Nat}(h:48<=c/\c<=57):c∈(Str.ofString "0123456789").cps.toList:=by
 rw[Jo]
 have:c=48\/c=49\/c=50\/c=51\/c=52\/c=53\/c=54\/c=55\/c=56\/c=57:=by(first|lia|omega)
 simpa using this
theorem Gx {n:Int}{k:Nat}{most:Int}(h:n.natAbs<10^(k+1))(hk:((k+1:Nat):Int)<=most):Ab (uL n) most=true:=by
 have ef:=UY n
 have hl:(vR (uL n)).cps.toList.length =(vR (uL n)).length:=yQ
 obtain⟨c,r,ed,hn⟩:=GG n.natAbs
 have dl:=Ic h
 rw[ef]at hl
 have l1:1<=(Gj n.natAbs).length:=by rw[ed];exact Nat.succ_le_succ (yZ _)
 have ia:BL (vR (uL n)) "0123456789"=true:=by
  unfold BL
  rw[ef,wC]
  intro d hd
  exact yE (SD (EE _ d hd))
 unfold Ab
 rw[yE (by(first|lia|omega)),yE (by(first|lia|omega)),ia,ef,ed]
 by_cases z:n=0
 ·subst z
  rw[yE (show uL 0=("0":Str)by decide)]
  rfl
 ·have:c≠48:=hn (by(first|lia|omega))
  rw[yJ (show ¬(c::r)[0]? =some 48 from fun e=>this (by injection e))]
  simp
theorem Sf {n:Int}{c:Nat}(h:c∈(uL n).cps.toList):c=45\/(48<=c/\c<=57):=by
 rcases Ez n with⟨_,e⟩|⟨_,e⟩
 ·rw[e]at h
  exact .inr (EE _ c h)
 ·rw[e]at h
  rcases List.mem_cons.mp h with z|z
  ·exact .inl z
  ·exact .inr (EE _ c z)
def Js (x:Str):Int:=(PySem.intText? x).getD 0
theorem IE {x:Str}{most:Int}(h:Ab x most=true):1<=(vR x).length/\((vR x).length:Int)<=most/\ ∀c∈(vR x).cps.toList,48<=c/\c<=57:=by
 unfold Ab at h
 rw[jW,jW,jW]at h
 obtain⟨⟨⟨h1,h2⟩,h3⟩,_⟩:=h
 refine⟨yB h1,yB h2,fun c hc=>?_⟩
 unfold BL at h3
 rw[wC]at h3
 have:=yB (h3 c hc)
 rw[Jo]at this
 simp at this
 (first|lia|omega)
theorem Sg {x:Str}(h:Ab x 60=true):PySem.intText? x=some (Js x)/\x.length<=640:=by
 obtain⟨h1,h2,h3⟩:=IE h
 have hl:(vR x).cps.toList.length =(vR x).length:=yQ
 have ne:(vR x).cps.toList≠[]:=fun z=>by rw[z]at hl;have:([]:List Nat).length =0:=rfl;(first|lia|omega)
 by_cases c:x.cps.toList[0]? =some 45
 ·obtain⟨r,er⟩: ∃r,x.cps.toList=45::r:=by
   cases e:x.cps.toList with
   |nil=>rw[e]at c;cases c
   |cons a r=>rw[e]at c;cases c;exact⟨r,rfl⟩
  have ef:(vR x).cps.toList =r:=by rw[(Dw er).1]
  rw[ef]at h3 ne hl
  have hx:x.cps.toList.length=x.length:=yQ
  rw[er,zJ]at hx
  refine⟨?_,by(first|lia|omega)⟩
  unfold Js
  rw[intText_neg er h3 ne (by(first|lia|omega))]
  rfl
 ·have ef:=BV c
  rw[ef]at h2 h3 ne hl
  refine⟨?_,by(first|lia|omega)⟩
  unfold Js
  rw[intText_digits h3 ne (by(first|lia|omega))]
  rfl
theorem NB {n:Int}(h:n.natAbs<10^600):Js (uL n)=n:=by
 unfold Js
 rw[(Ux h).1]
 rfl
end L2

namespace L2
open PySem
def lettersS:Str:="abcdefghijklmnopqrstuvwxyz"
def kwH:List Str:=["fun","with","is"]
def kwW:List Str:=["set","all","pick","loop","call","fail","add","sub","mul","quo","rest","less","same","push","at","put","size","new"]
def jF (w:Str):Bool:=decide (1<=w.length)&&decide (w.length<=8)&&BL w lettersS&&!decide (w∈kwH)&&!decide (w∈kwW)
def wE:List (Str×Int)->Str->Option Int
 |[],_=>none
 |p::r,x=>if p.1=x then some p.2 else wE r x
def Hs:List Str->Int->List (Str×Int)->List (Str×Int)
 |[],_,acc=>acc
 |w::r,f,acc=>if w="fun" then Hs r (f+1) (match r with|[]=>acc|n::_=>if(wE acc n).isSome then acc else acc++[(n,f)])else Hs r f acc
def Ft (W:List Str):List (Str×Int):=Hs W 0 []
def CB:List Str->Nat->Int×List Int
 |[],n=>(n,[])
 |w::r,n=>
  let q:=CB r (n+1)
  let e:Int:=if w="with" then n else q.1
  (e,if w="fun" then(e-n-2)::q.2 else q.2)
def EF (W:List Str):List Int:=(CB W 0).2
section
variable (W:List Str)
def AG (a:Nat):Except Nat Str:=match W[a]? with|some w=>.ok w|none=>.error a
def GJ (a:Nat)(there:List Str):Except Nat Str:=match W[a]? with
 |some w=>if jF w=true/\w∉there then .ok w else .error a
 |none=>.error a
def vO (most:Nat)(last:Str):Nat->Nat->List Str->Except Nat (Nat×List Str)
 |0,a,_=>.error a
 |n+1,a,bs=>match W[a]? with
  |none=>.error a
  |some w=>if w=last then .ok (a+1,bs)else if bs.length=most then .error a else if jF w=true/\w∉bs then vO most last n (a+1) (bs++[w])else .error a
def KH (a:Nat)(bs:List Str):Except Nat Nat:=match W[a]? with
 |some w=>if w∈bs then .ok (bs.idxOf w)else .error a
 |none=>.error a
def ID (a:Nat):Except Nat Int:=match W[a]? with
 |some w=>if Ab w 60=true then .ok (Js w)else .error a
 |none=>.error a
def FF (a:Nat)(least:Int):Except Nat Int:=match ID W a with
 | .ok n=>if n<least\/12<n then .error a else .ok n
 | .error e=>.error e
def Bw (num:List (Str×Int))(a:Nat):Except Nat Int:=match W[a]? with
 |some w=>if jF w=true then(match wE num w with|some f=>.ok f|none=>.error a)else .error a
 |none=>.error a
def Ex (num:List (Str×Int))(a:Nat)(k:Int)(bs:List Str):Except Nat (List Int×Nat):=
 if k=0 then(match ID W a with| .ok n=>.ok ([n],a+1)| .error e=>.error e)
 else if k=1\/k=2 then(match KH W a bs with| .ok n=>.ok ([(n:Int)],a+1)| .error e=>.error e)
 else if k=3 then(match FF W a 1 with| .ok n=>.ok ([n],a+1)| .error e=>.error e)
 else if k=4 then(match FF W a 2 with| .ok n=>.ok ([n],a+1)| .error e=>.error e)
 else if k=6 then(match Bw W num a with| .ok n=>.ok ([n],a+1)| .error e=>.error e)
 else .ok ([],a)
def DU (a:Nat)(bs:List Str):Except Nat (Int×Nat):=match W[a]? with
 |some w=>if Ab w 60=true then .ok (0,a)else if w∈bs then .ok (1,a)else if w∈kwW then .ok (2+(kwW.idxOf w:Int),a+1)else .error a
 |none=>.error a
end
def partsW:List Int:=[1,2,2,2,2,2,2,2,2,2,3,1,0]
def Ib (cnt:List Int)(k:Int)(ns:List Int):Int:=
 if k=0\/k=1 then 0 else if k=2 then 1 else if k=3 then ns.headD 0 else if k=4 then 1+ns.headD 0 else if k=5 then 2
 else if k=6 then(cnt[(ns.headD 0).toNat]?).getD 0 else(partsW[(k-7).toNat]?).getD 0
abbrev Yu:=Nat->List Int->Except Nat (Nat×List Int)
def uW (f:Yu):Nat->Yu
 |0,a,bd=>.ok (a,bd)
 |n+1,a,bd=>match f a bd with| .ok q=>uW f n q.1 q.2| .error e=>.error e
def Bs (W:List Str)(num:List (Str×Int))(cnt:List Int)(bs:List Str):Nat->Yu
 |0,a,_=>.error a
 |d+1,a,bd=>match DU W a bs with
  | .error e=>.error e
  | .ok q=>match Ex W num q.2 q.1 bs with
   | .error e=>.error e
   | .ok r=>uW (Bs W num cnt bs d) (Ib cnt q.1 r.1).toNat r.2 (bd++q.1::r.1)
structure RS where
 at_:Nat
 names:List (Str×List Str)
 heads:List Int
 bodies:List Int
def KY (W:List Str)(num:List (Str×Int))(cnt:List Int)(s:RS):Except Nat RS:=match W[s.at_]? with
 |none=>.error s.at_
 |some w=>if w≠"fun"\/s.names.length=16 then .error s.at_ else match GJ W (s.at_+1) (s.names.map (·.1))with
  | .error e=>.error e
  | .ok nm=>match vO W (if s.names=[]then 0 else 4) "with" (W.length+1) (s.at_+2) []with
   | .error e=>.error e
   | .ok q=>match vO W 12 "is" (W.length+1) q.1 q.2 with
    | .error e=>.error e
    | .ok r=>match Bs W num cnt r.2 10 r.1 s.bodies with
     | .error e=>.error e
     | .ok z=>.ok ⟨z.1,s.names++[(nm,r.2)],s.heads++[(q.2.length:Int),(r.2.length:Int)],z.2⟩
def GW (W:List Str)(num:List (Str×Int))(cnt:List Int):Nat->RS->Except Nat RS
 |0,s=>.ok s
 |n+1,s=>if s.at_<W.length then(match KY W num cnt s with| .error e=>.error e| .ok s'=>GW W num cnt n s')else .ok s
def QI (W:List Str):Except Nat RS:=match KY W (Ft W) (EF W) ⟨0,[],[],[]⟩with
 | .error e=>.error e
 | .ok s=>GW W (Ft W) (EF W) W.length s
def MF (s:RS):List Int:=(s.names.length:Int)::(s.heads++s.bodies)
section
variable {W:List Str}{num:List (Str×Int)}{cnt:List Int}{bs:List Str}
theorem Gi {a:Nat}{w:Str}(h:W[a]? =some w):a<W.length:=by
 rw[List.getElem?_eq_some_iff]at h
 exact h.1
theorem QV {a:Nat}{n:Int}(h:ID W a=.ok n):a<W.length:=by
 unfold ID at h
 split at h
 ·rename_i w e;exact Gi e
 ·cases h
theorem Rw {a n:Nat}(h:KH W a bs=.ok n):a<W.length/\n<bs.length:=by
 unfold KH at h
 split at h
 ·rename_i w e
  split at h
  ·rename_i m;cases h;exact⟨Gi e,List.idxOf_lt_length_iff.mpr m⟩
  ·cases h
 ·cases h
theorem Kk {a:Nat}{l n:Int}(h:FF W a l=.ok n):a<W.length/\l<=n/\n<=12:=by
 unfold FF at h
 split at h
 ·rename_i m e
  split at h
  ·cases h
  ·cases h;exact⟨QV e,by(first|lia|omega),by(first|lia|omega)⟩
 ·cases h
theorem Qp {a:Nat}{n:Int}(h:Bw W num a=.ok n):a<W.length:=by
 unfold Bw at h
 split at h
 ·rename_i w e;exact Gi e
 ·cases h
theorem Kr {a:Nat}{q:Int×Nat}(h:DU W a bs=.ok q):a<W.length/\((q.1=0\/q.1=1)/\q.2=a\/2<=q.1/\q.1<=19/\q.2=a+1):=by
 unfold DU at h
 split at h
 ·rename_i w e
  refine⟨Gi e,?_⟩
  split at h
  ·cases h;exact .inl ⟨.inl rfl,rfl⟩
  split at h
  ·cases h;exact .inl ⟨.inr rfl,rfl⟩
  split at h
  ·rename_i m
   cases h
   have:kwW.idxOf w<kwW.length:=List.idxOf_lt_length_iff.mpr m
   have l:kwW.length=18:=rfl
   refine .inr ⟨?_,?_,rfl⟩
   ·show 2<=2+(kwW.idxOf w:Int);(first|lia|omega)
   ·show 2+(kwW.idxOf w:Int)<=19;(first|lia|omega)
  ·cases h
 ·cases h
theorem QR {a:Nat}{k:Int}{r:List Int×Nat}(h:Ex W num a k bs=.ok r)(ha:a<=W.length):r.2<=W.length/\r.1.length<=1/\(k=0\/k=1->r.2=a+1)/\r.2<=a+1/\a<=r.2/\(k=3\/k=4\/k=6->r.1.length=1)/\(k=3\/k=4->1<=r.1.headD 0/\r.1.headD 0<=12):=by
 unfold Ex at h
 split at h
 ·rename_i k0
  split at h
  ·rename_i n e;cases h;have:=QV e;dsimp only[List.length_cons,List.length_nil,List.headD];(first|lia|omega)
  ·cases h
 split at h
 ·rename_i k0
  split at h
  ·rename_i n e;cases h;have:=Rw e;dsimp only[List.length_cons,List.length_nil,List.headD];(first|lia|omega)
  ·cases h
 split at h
 ·rename_i k0
  split at h
  ·rename_i n e;cases h;have:=Kk e;dsimp only[List.length_cons,List.length_nil,List.headD];(first|lia|omega)
  ·cases h
 split at h
 ·rename_i k0
  split at h
  ·rename_i n e;cases h;have:=Kk e;dsimp only[List.length_cons,List.length_nil,List.headD];(first|lia|omega)
  ·cases h
 split at h
 ·rename_i k0
  split at h
  ·rename_i n e;cases h;have:=Qp e;dsimp only[List.length_cons,List.length_nil,List.headD];(first|lia|omega)
  ·cases h
 ·cases h;dsimp only[List.length_cons,List.length_nil,List.headD];(first|lia|omega)
def ZM (W:List Str)(f:Yu):Prop:= ∀a bd q,a<=W.length->f a bd=.ok q->a<q.1/\q.1<=W.length/\q.2.length+2*a<=bd.length+2*q.1
theorem Ke {f:Yu}(g:ZM W f): ∀(n a:Nat) (bd:List Int) (q:Nat×List Int),a<=W.length->uW f n a bd=.ok q->a<=q.1/\q.1<=W.length/\q.2.length+2*a<=bd.length+2*q.1
 |0,a,bd,q,ha,h=>by cases h;exact⟨zS _,ha,zS _⟩
 |n+1,a,bd,q,ha,h=>by
  unfold uW at h
  split at h
  ·rename_i r e
   obtain⟨g1,g2,g3⟩:=g a bd r ha e
   obtain⟨h1,h2,h3⟩:=Ke g n r.1 r.2 q g2 h
   (first|lia|omega)
  ·cases h
theorem LA: ∀d,ZM W (Bs W num cnt bs d)
 |0=>fun a bd q _ h=>by cases h
 |d+1=>fun a bd q ha h=>by
  unfold Bs at h
  split at h
  ·cases h
  rename_i k e1
  split at h
  ·cases h
  rename_i r e2
  obtain⟨l1,l2⟩:=Kr e1
  obtain⟨o1,o2,o3,o4,o5,_⟩:=QR e2 (by(first|lia|omega))
  obtain⟨p1,p2,p3⟩:=Ke (LA d) _ _ _ _ o1 h
  rw[zC,zJ]at p3
  rcases l2 with⟨lk,l2⟩|⟨lk,l3,l2⟩
  ·have:=o3 lk
   (first|lia|omega)
  ·(first|lia|omega)
end
end L2

namespace L2
open PySem
abbrev Ml:=Nat×Str
abbrev Ct:=List (Int×Int)
inductive Nd where
 |mk (kind:Int) (place:Nat) (own:List Int) (parts:List Nd)
def GN (ns:List Int)(p:Nat):Except Ml Int:=match ns[p]? with
 |some n=>.ok n
 |none=>.error (p,"end")
def qI (ns:List Int)(p:Nat)(lo hi:Int):Except Ml Int:=match ns[p]? with
 |some n=>if n<lo\/hi<n then .error (p,"range")else .ok n
 |none=>.error (p,"end")
def AF (ns:List Int):Nat->Int->Nat->Except Ml Ct
 |0,_,_=>.ok []
 |n+1,most,p=>match qI ns p 0 most with
  | .error b=>.error b
  | .ok a=>match qI ns (p+1) a 12 with
   | .error b=>.error b
   | .ok c=>match AF ns n 4 (p+2)with
    | .error b=>.error b
    | .ok r=>.ok ((a,c)::r)
def Az (ns:List Int):Except Ml Ct:=match qI ns 0 1 16 with
 | .error b=>.error b
 | .ok n=>AF ns n.toNat 0 1
def KR (r:Except Ml Int):Except Ml (List Int):=match r with
 | .ok n=>.ok [n]
 | .error b=>.error b
def Hq (ns:List Int)(heads:Ct)(boxes k:Int)(p:Nat):Except Ml (List Int):=
 if k=0 then KR (GN ns p)else if k=1\/k=2 then KR (qI ns p 0 (boxes-1))else if k=3 then KR (qI ns p 1 12)else if k=4 then KR (qI ns p 2 12)else if k=6 then KR (qI ns p 0 ((heads.length:Int)-1))else .ok []
def partsN:List Int:=[1,2,2,2,2,2,2,2,2,2,3,1,0]
def FG (heads:Ct)(k:Int)(own:List Int):Int:=
 if k=0\/k=1 then 0 else if k=2 then 1 else if k=3 then own.headD 0 else if k=4 then 1+own.headD 0 else if k=5 then 2 else if k=6 then(heads.getD (own.headD 0).toNat (0,0)).1 else partsN.getD (k-7).toNat 0
def Dt (f:Nat->Except Ml (Nd×Nat)):Nat->Nat->Except Ml (List Nd×Nat)
 |0,p=>.ok ([],p)
 |n+1,p=>match f p with
  | .error b=>.error b
  | .ok a=>match Dt f n a.2 with
   | .error b=>.error b
   | .ok r=>.ok (a.1::r.1,r.2)
def CP (ns:List Int)(heads:Ct)(boxes:Int):Nat->Nat->Except Ml (Nd×Nat)
 |0,p=>.error (p,"deep")
 |d+1,p=>match qI ns p 0 19 with
  | .error b=>.error b
  | .ok k=>match Hq ns heads boxes k (p+1)with
   | .error b=>.error b
   | .ok own=>match Dt (CP ns heads boxes d) (FG heads k own).toNat (p+1+own.length)with
    | .error b=>.error b
    | .ok r=>.ok (.mk k p own r.1,r.2)
def Bx (ns:List Int)(heads:Ct):Ct->Nat->Except Ml (List Nd×Nat)
 |[],p=>.ok ([],p)
 |h::r,p=>match CP ns heads h.2 10 p with
  | .error b=>.error b
  | .ok a=>match Bx ns heads r a.2 with
   | .error b=>.error b
   | .ok z=>.ok (a.1::z.1,z.2)
def AY (ns:List Int):Except Ml (Ct×List Nd):=match Az ns with
 | .error b=>.error b
 | .ok hs=>match Bx ns hs hs (1+2*hs.length)with
  | .error b=>.error b
  | .ok r=>if r.2<ns.length then .error (r.2,"over")else .ok (hs,r.1)
def vP (H:Hp):Nat->V->Nd->Prop
 |0,_,_=>False
 |d+1,v,.mk k p own ps=> ∃t o q vs,v=.ref t/\H t=some (.tup [.int k,.int p,.ref o,.ref q])/\H o=some (.tup (own.map V.int))/\H q=some (.tup vs)/\Paired (vP H d) vs ps
def Vz (H:Hp)(v:V)(f:(Int×Int)×Nd):Prop:= ∃t b,v=.ref t/\H t=some (.tup [.int f.1.1,.int f.1.2,b])/\vP H 10 b f.2
def ZN (H:Hp)(l:Addr)(r:Ct×List Nd):Prop:= ∃rs,H l=some (.lst rs)/\r.1.length=r.2.length/\Paired (Vz H) rs (r.1.zip r.2)
def IV (H:Hp)(v:V)(h:Int×Int):Prop:= ∃t,v=.ref t/\H t=some (.tup [.int h.1,.int h.2])
def FC (H:Hp)(hd:Addr)(hs:Ct):Prop:= ∃rs,H hd=some (.lst rs)/\Paired (IV H) rs hs
def Ao (CL dx a:Addr)(p:Nat):HO:=.ins CL dx [("numbers",.ref a),("place",.int p)]
def wV (H H':Hp):Prop:= ∀b xs,H b=some (.tup xs)->H' b=some (.tup xs)
theorem wV.same {H H':Hp}(h:wG H H'):wV H H':=fun _ _ e=>h _ _ e
theorem wV.keep {lk CL dx a:Addr}{p:Nat}{H H':Hp}(e:H lk=some (Ao CL dx a p))(k:kJ lk H H'):wV H H':=fun b xs q=>k b _ (fun z=>by rw[z,e]at q;cases q) q
theorem vP.tups {H H':Hp}(h:wV H H'): ∀{d:Nat} {v:V} {n:Nd},vP H d v n->vP H' d v n
 |0,_,_,z=>z.elim
 |d+1,v,.mk k p own ps,⟨t,o,q,vs,e,h1,h2,h3,r⟩=>⟨t,o,q,vs,e,h _ _ h1,h _ _ h2,h _ _ h3,Paired.imp (fun _ _ z=>vP.tups h z) r⟩
theorem IV.tups {H H':Hp}(h:wV H H'){v:V}{n:Int×Int}:IV H v n->IV H' v n:=fun⟨t,e,q⟩=>⟨t,e,h _ _ q⟩
theorem Vz.tups {H H':Hp}(h:wV H H'){v:V}{n:(Int×Int)×Nd}:Vz H v n->Vz H' v n:=fun⟨t,b,e,q,z⟩=>⟨t,b,e,h _ _ q,z.tups h⟩
theorem FC.keep {lk CL dx a hd:Addr}{p:Nat}{H H':Hp}{hs:Ct}(e:H lk=some (Ao CL dx a p))(k:kJ lk H H')(h:FC H hd hs):FC H' hd hs:=by
 obtain⟨rs,q,r⟩:=h
 exact⟨rs,k hd _ (fun z=>by rw[z,e]at q;cases q) q,Paired.imp (fun _ _ z=>z.tups (.keep e k)) r⟩
def KL {α:Type}(r:Except Ml α)(ok:α->Prop)(bad:Nat->Str->Prop):Prop:=(∀a,r=.ok a->ok a)/\ ∀p w,r=.error (p,w)->bad p w
def Gq (CN lk:Addr)(H:Hp)(E:XK)(p:Nat)(w:Str):Prop:= ∀d H',kJ lk H H'->H' d=some (OY d [("place",.int p),("word",.str w)])->E (.ref CN) (some d) H'
theorem Gq.keep {CN lk:Addr}{H H1:Hp}{E:XK}{p:Nat}{w:Str}(f:Gq CN lk H E p w)(k:kJ lk H H1):Gq CN lk H1 E p w:=fun d H' k' e=>f d H' (k.trans k') e
def Looks (CL:Addr)(H:Hp)(lk dx a:Addr)(p:Nat)(ns:List Int):Prop:=H lk=some (Ao CL dx a p)/\H a=some (.lst (ns.map V.int))
theorem Looks.go {CL lk dx a:Addr}{p p':Nat}{ns:List Int}{H H':Hp}(l:Looks CL H lk dx a p ns)(k:kJ lk H H')(e:H' lk=some (Ao CL dx a p')):Looks CL H' lk dx a p' ns:=
 ⟨e,k a _ (fun z=>by have:=l.1;rw[<-z,l.2]at this;cases this) l.2⟩
inductive DL (C:Addr) (vs:List V) (H:Hp) (Q:VK) (E:XK):Prop
 |mk (x y z:_) (h0:vs=[.ref x,y,z]) (h1:H x=some (IW x C none)) (h2: ∀d H',d≠x->H d=none->(∀b o,b≠x->H b=some o->H' b=some o)->H' x=some (IW x C (some d))->H' d=some (OY d [("place",y),("word",z)])->Q .non H'):DL C vs H Q E
inductive MA (CL:Addr) (vs:List V) (H:Hp) (Q:VK) (E:XK):Prop
 |mk (x dx a:_) (h0:vs=[.ref x,.ref a]) (h1:H x=some (.ins CL dx [])) (h2: ∀H',kJ x H H'->H' x=some (Ao CL dx a 0)->Q .non H'):MA CL vs H Q E
inductive Mq (vs:List V) (H:Hp) (Q:VK) (E:XK):Prop
 |mk (i:Int) (h0:vs=[.int i]) (h1:Q (.bl true) H):Mq vs H Q E
inductive VJ (CL CN:Addr) (vs:List V) (H:Hp) (Q:VK) (E:XK):Prop
 |mk (lk dx a p ns:_) (h0:vs=[.ref lk]) (h1:Looks CL H lk dx a p ns) (h2:KL (GN ns p) (fun n=>Q (.int n) (upd H lk (Ao CL dx a (p+1)))) (Gq CN lk H E)):VJ CL CN vs H Q E
inductive Es (CL CN:Addr) (vs:List V) (H:Hp) (Q:VK) (E:XK):Prop
 |mk (lk dx a p ns lo hi:_) (h0:vs=[.ref lk,.int lo,.int hi]) (h1:Looks CL H lk dx a p ns) (h2:KL (qI ns p lo hi) (fun n=>Q (.int n) (upd H lk (Ao CL dx a (p+1)))) (Gq CN lk H E)):Es CL CN vs H Q E
inductive MB (CL CN:Addr) (vs:List V) (H:Hp) (Q:VK) (E:XK):Prop
 |mk (lk dx a ns:_) (h0:vs=[.ref lk]) (h1:Looks CL H lk dx a 0 ns) (h2:KL (Az ns) (fun hs=> ∀hd H',kJ lk H H'->H' lk=some (Ao CL dx a (1+2*hs.length))->FC H' hd hs->Q (.ref hd) H') (Gq CN lk H E)):MB CL CN vs H Q E
inductive QE (CL CN:Addr) (vs:List V) (H:Hp) (Q:VK) (E:XK):Prop
 |mk (lk dx a p ns hd hs boxes k:_) (h0:vs=[.ref lk,.int k,.ref hd,.int boxes]) (h1:Looks CL H lk dx a p ns) (h2:FC H hd hs) (h3:KL (Hq ns hs boxes k p) (fun own=> ∀t H',kJ lk H H'->H' lk=some (Ao CL dx a (p+own.length))->H' t=some (.tup (own.map V.int))->Q (.ref t) H') (Gq CN lk H E)):QE CL CN vs H Q E
def Vu (heads:Ct)(k:Int)(own:List Int):Prop:=0<=k/\k<=19/\(k=3\/k=4\/k=6-> ∃n,own=[n]/\0<=n/\(k=6->n<heads.length)/\(k≠6->n<=12))
def Rz (hs:Ct):Prop:= ∀h∈hs,0<=h.1/\h.1<=4
inductive QG (vs:List V) (H:Hp) (Q:VK) (E:XK):Prop
 |mk (k t own hd hs:_) (h0:vs=[.int k,.ref t,.ref hd]) (h1:H t=some (.tup (own.map V.int))) (h2:FC H hd hs) (h3:Vu hs k own) (h4:Q (.int (FG hs k own)) H):QG vs H Q E
inductive Iu (CL CN:Addr) (d:Nat) (vs:List V) (H:Hp) (Q:VK) (E:XK):Prop
 |mk (lk dx a p ns hd hs boxes:_) (h0:vs=[.ref lk,.ref hd,.int boxes,.int (11-(d:Int))]) (h1:Looks CL H lk dx a p ns) (h2:FC H hd hs) (h3:Rz hs) (h4:KL (CP ns hs boxes d p) (fun r=> ∀v H',kJ lk H H'->H' lk=some (Ao CL dx a r.2)->vP H' d v r.1->Q v H') (Gq CN lk H E)):Iu CL CN d vs H Q E
inductive Ts (CN:Addr) (vs:List V) (H:Hp) (Q:VK) (E:XK):Prop
 |mk (a ns:_) (h0:vs=[.ref a]) (h1:H a=some (.lst (ns.map V.int))) (h2:KL (AY ns) (fun r=> ∀l H',wG H H'->H l=none->ZN H' l r->Q (.ref l) H') (fun p w=> ∀d H',wG H H'->H' d=some (OY d [("place",.int p),("word",.str w)])->E (.ref CN) (some d) H')):Ts CN vs H Q E
theorem AT {ns:List Int}{p:Nat}{lo hi n:Int}(h:qI ns p lo hi=.ok n):ns[p]? =some n/\lo<=n/\n<=hi:=by
 unfold qI at h
 cases e:ns[p]? with
 |none=>rw[e]at h;cases h
 |some m=>
  rw[e]at h
  simp only at h
  by_cases c:m<lo\/hi<m
  ·rw[zW c]at h;cases h
  ·rw[zL c]at h;cases h
   exact⟨rfl,by(first|lia|omega),by(first|lia|omega)⟩
theorem MQ {r:Except Ml Int}{own:List Int}(h:KR r=.ok own): ∃n,r=.ok n/\own=[n]:=by
 unfold KR at h
 cases r with
 |error b=>cases h
 |ok n=>cases h;exact⟨n,rfl,rfl⟩
theorem XM {ns:List Int}{hs:Ct}{boxes k:Int}{p:Nat}{own:List Int}(h0:0<=k)(h1:k<=19)(h:Hq ns hs boxes k p=.ok own):Vu hs k own:=by
 refine⟨h0,h1,fun hk=>?_⟩
 unfold Hq at h
 rcases hk with rfl|rfl|rfl
 ·rw[zL (by decide),zL (by decide),zW rfl]at h
  obtain⟨n,e,rfl⟩:=MQ h
  obtain⟨_,a,b⟩:=AT e
  exact⟨n,rfl,by(first|lia|omega),fun z=>by(first|lia|omega),fun _=>b⟩
 ·rw[zL (by decide),zL (by decide),zL (by decide),zW rfl]at h
  obtain⟨n,e,rfl⟩:=MQ h
  obtain⟨_,a,b⟩:=AT e
  exact⟨n,rfl,by(first|lia|omega),fun z=>by(first|lia|omega),fun _=>b⟩
 ·rw[zL (by decide),zL (by decide),zL (by decide),zL (by decide),zW rfl]at h
  obtain⟨n,e,rfl⟩:=MQ h
  obtain⟨_,a,b⟩:=AT e
  exact⟨n,rfl,by(first|lia|omega),fun _=>by(first|lia|omega),fun z=>absurd rfl z⟩
theorem RP: ∀k:Nat,0<=partsN.getD k 0/\partsN.getD k 0<=3:=by
 intro k
 by_cases h:k<13
 ·have: ∀k:Fin 13,0<=partsN.getD k.1 0/\partsN.getD k.1 0<=3:=by decide
  exact this ⟨k,h⟩
 ·have:partsN[k]? =none:=jS (by show 13<=k;(first|lia|omega))
  rw[yS,this];decide
theorem Yg {hs:Ct}{k:Int}{own:List Int}(o:Vu hs k own)(hh:Rz hs):0<=FG hs k own/\FG hs k own<=13:=by
 obtain⟨h0,h1,h2⟩:=o
 unfold FG
 by_cases c1:k=0\/k=1
 ·rw[zW c1];decide
 rw[zL c1]
 by_cases c2:k=2
 ·rw[zW c2];decide
 rw[zL c2]
 by_cases c3:k=3
 ·rw[zW c3]
  obtain⟨n,rfl,a,_,b⟩:=h2 (.inl c3)
  have:=b (by(first|lia|omega))
  show 0<=n/\n<=13
  (first|lia|omega)
 rw[zL c3]
 by_cases c4:k=4
 ·rw[zW c4]
  obtain⟨n,rfl,a,_,b⟩:=h2 (.inr (.inl c4))
  have:=b (by(first|lia|omega))
  show 0<=1+n/\1+n<=13
  (first|lia|omega)
 rw[zL c4]
 by_cases c5:k=5
 ·rw[zW c5];decide
 rw[zL c5]
 by_cases c6:k=6
 ·rw[zW c6]
  obtain⟨n,rfl,a,b,_⟩:=h2 (.inr (.inr c6))
  have hn:=b c6
  show 0<=(hs.getD n.toNat (0,0)).1/\(hs.getD n.toNat (0,0)).1<=13
  have hl:n.toNat<hs.length:=by(first|lia|omega)
  rw[yS,zB hl]
  have:=hh _ (Ca hl)
  simp only[Option.getD_some]
  (first|lia|omega)
 rw[zL c6]
 have:=RP (k-7).toNat
 (first|lia|omega)
theorem LQ {ns:List Int}: ∀{n:Nat} {most:Int} {p:Nat} {hs:Ct},most<=4->AF ns n most p=.ok hs->Rz hs/\hs.length=n
 |0,_,_,_,_,h=>by cases h;exact⟨fun _ z=>(nomatch z),rfl⟩
 |n+1,most,p,hs,hm,h=>by
  unfold AF at h
  cases e1:qI ns p 0 most with
  |error b=>rw[e1]at h;cases h
  |ok a=>
   rw[e1]at h;simp only at h
   cases e2:qI ns (p+1) a 12 with
   |error b=>rw[e2]at h;cases h
   |ok c=>
    rw[e2]at h;simp only at h
    cases e3:AF ns n 4 (p+2)with
    |error b=>rw[e3]at h;cases h
    |ok r=>
     rw[e3]at h;cases h
     obtain⟨q,l⟩:=LQ (Int.le_refl _) e3
     obtain⟨_,a0,a1⟩:=AT e1
     exact⟨fun z hz=>by
      rcases List.mem_cons.mp hz with rfl|hz
      ·exact⟨a0,by show a<=4;(first|lia|omega)⟩
      ·exact q z hz,by simp[l]⟩
theorem Na {ns:List Int}{hs:Ct}(h:Az ns=.ok hs):Rz hs/\ns[0]? =some (hs.length:Int)/\1<=hs.length/\hs.length<=16/\AF ns hs.length 0 1=.ok hs:=by
 unfold Az at h
 cases e1:qI ns 0 1 16 with
 |error b=>rw[e1]at h;cases h
 |ok n=>
  rw[e1]at h;simp only at h
  obtain⟨q,l⟩:=LQ (by decide) h
  obtain⟨e,a,b⟩:=AT e1
  rw[l]
  refine⟨q,?_,by(first|lia|omega),by(first|lia|omega),h⟩
  rw[e];congr 1;(first|lia|omega)
def WU {α:Type}(done:List α)(r:Except Ml (List α)):Except Ml (List α):=match r with
 | .ok r=>.ok (done++r)
 | .error b=>.error b
theorem Ss {α:Type}(r:Except Ml (List α)):WU [] r=r:=by cases r<;>rfl
def UK {α:Type}(done:List α)(r:Except Ml (List α×Nat)):Except Ml (List α×Nat):=match r with
 | .ok r=>.ok (done++r.1,r.2)
 | .error b=>.error b
theorem LJ {α:Type}(r:Except Ml (List α×Nat)):UK [] r=r:=by cases r<;>rfl
theorem kJ.fresh {lk hd:Addr}{H H':Hp}{o:HO}(k:kJ lk H H')(h:H hd=none):kJ lk H (L2.upd H' hd o):=fun b u nb e=>by rw[zQ (zK e h)];exact k b u nb e
theorem wV.upd {b:Addr}{ys:List V}{H:Hp}{o:HO}(h:H b=some (.lst ys)):wV H (L2.upd H b o):=fun c xs e=>by rw[zQ (fun z=>by rw[z,h]at e;cases e)];exact e
theorem wV.trans {H H1 H2:Hp}(a:wV H H1)(b:wV H1 H2):wV H H2:=fun c xs e=>b c xs (a c xs e)
theorem wV.new {b:Addr}{H:Hp}{o:HO}(h:H b=none):wV H (L2.upd H b o):=.same (zV h o)
theorem JZ {C lk:Addr}{H H1:Hp}{E E':XK}{p:Nat}{w:Str}(f:Gq C lk H E p w)(k:kJ lk H H1): ∀x,H1 x=none->
  DL C [.ref x,.int (p:Int),.str w] (upd H1 x (IW x C none)) (fun v H2=>v=.non/\ ∃d,H2 x=some (IW x C (some d))/\E (.ref C) (some d) (upd H2 x (Mi x C (some d)))) E':=by
 intro x hx
 refine⟨x,_,_,rfl,zG,fun d H' dx hd kp ex ed=>⟨rfl,d,ex,f d _ (fun b o nb e=>?_) ?_⟩⟩
 ·have e1:=k b o nb e
  have nx:b≠x:=zK e1 hx
  rw[zQ nx]
  exact kp b o nx (by rw[zQ nx];exact e1)
 ·rw[zQ dx];exact ed
end L2

namespace L2
open PySem
def Sub (ns:List Int):Nat->List Int->Prop
 |_,[]=>True
 |p,z::zs=>ns[p]? =some z/\Sub ns (p+1) zs
theorem Sub.append {ns:List Int}: ∀{xs ys:List Int} {p:Nat},Sub ns p (xs++ys)->Sub ns p xs/\Sub ns (p+xs.length) ys
 |[],_,_,h=>⟨trivial,h⟩
 |x::xs,ys,p,h=>by
  have q:=Sub.append h.2
  refine⟨⟨h.1,q.1⟩,?_⟩
  rw[show p+(x::xs).length =p+1+xs.length by simp;(first|lia|omega)]
  exact q.2
theorem Sub.behind: ∀(zs pre:List Int),Sub (pre++zs) pre.length zs
 |[],_=>trivial
 |z::zs,pre=>by
  refine⟨by simp,?_⟩
  have:=Sub.behind zs (pre++[z])
  simpa using this
theorem Sub.self (ns:List Int):Sub ns 0 ns:=Sub.behind ns []
def FB (hs:Ct)(boxes k:Int)(own:List Int):Prop:=
 (k=0/\ ∃n,own=[n])\/((k=1\/k=2)/\ ∃n,own=[n]/\0<=n/\n<=boxes-1)\/(k=3/\ ∃n,own=[n]/\1<=n/\n<=12)\/(k=4/\ ∃n,own=[n]/\2<=n/\n<=12)\/(k=6/\ ∃n,own=[n]/\0<=n/\n<=(hs.length:Int)-1)\/((k=5\/7<=k)/\own=[])
theorem Ah {ns:List Int}{p:Nat}{lo hi n:Int}(h:ns[p]? =some n)(h0:lo<=n)(h1:n<=hi):qI ns p lo hi=.ok n:=by
 unfold qI
 rw[h]
 exact zL (by(first|lia|omega))
theorem Wc {ns:List Int}{hs:Ct}{boxes k:Int}{own:List Int}{p:Nat}(f:FB hs boxes k own)(s:Sub ns p own):Hq ns hs boxes k p=.ok own:=by
 unfold Hq
 rcases f with⟨rfl,n,rfl⟩|⟨hk,n,rfl,a,b⟩|⟨rfl,n,rfl,a,b⟩|⟨rfl,n,rfl,a,b⟩|⟨rfl,n,rfl,a,b⟩|⟨hk,rfl⟩
 ·rw[zW rfl];unfold GN;rw[s.1];rfl
 ·rw[zL (by(first|lia|omega)),zW hk,Ah s.1 a b];rfl
 ·rw[zL (by decide),zL (by decide),zW rfl,Ah s.1 a b];rfl
 ·rw[zL (by decide),zL (by decide),zL (by decide),zW rfl,Ah s.1 a b];rfl
 ·rw[zL (by decide),zL (by decide),zL (by decide),zL (by decide),zW rfl,Ah s.1 a b];rfl
 ·rw[zL (by(first|lia|omega)),zL (by(first|lia|omega)),zL (by(first|lia|omega)),zL (by(first|lia|omega)),zL (by(first|lia|omega))]
structure JJ (hs:Ct):Prop where
 lo:1<=hs.length
 hi:hs.length<=16
 all: ∀(i:Nat) (h:Int×Int),hs[i]? =some h->0<=h.1/\h.1<=4/\h.1<=h.2/\h.2<=12/\(i=0->h.1=0)
def flat:Ct->List Int
 |[]=>[]
 |h::r=>h.1::h.2::flat r
theorem Kz: ∀hs:Ct,(flat hs).length =2*hs.length
 |[]=>rfl
 |h::r=>by simp[flat,Kz r];(first|lia|omega)
theorem Jm {ns:List Int}: ∀{hs:Ct} {most:Int} {p:Nat},(∀(i:Nat) (h:Int×Int),hs[i]? =some h->0<=h.1/\h.1<=4/\h.1<=h.2/\h.2<=12/\(i=0->h.1<=most))->Sub ns p (flat hs)->AF ns hs.length most p=.ok hs
 |[],_,_,_,_=>rfl
 |h::r,most,p,a,s=>by
  obtain⟨a0,a1,a2,a3,a4⟩:=a 0 h rfl
  unfold AF
  show(match qI ns p 0 most with| .error b=>_| .ok a=>_)=_
  rw[Ah s.1 a0 (a4 rfl)];simp only
  rw[Ah s.2.1 a2 a3];simp only
  rw[Jm (most:=4) (fun i x e=>by have:=a (i+1) x (by simpa using e);(first|lia|omega)) s.2.2]
theorem JJ.heads {ns:List Int}{hs:Ct}{p:Nat}(g:JJ hs)(s:Sub ns p (flat hs)):AF ns hs.length 0 p=.ok hs:=Jm (fun i h e=>by have:=g.all i h e;(first|lia|omega)) s
theorem Zu {j:Int}(h0:0<j)(h1:j<2^256):Xm i j:=by
 refine⟨h0,?_⟩
 have:j.natAbs.log2<256:=(Nat.log2_lt (by(first|lia|omega))).mpr (by(first|lia|omega))
 (first|lia|omega)
def CW (n:Nat)(Pv:Nat->St->Hp->Prop)(i m:Nat)(σ:St)(H:Hp):Prop:=i<=n/\m=n-i/\Pv i σ H
theorem CW.next {n:Nat}{Pv:Nat->St->Hp->Prop}{i:Nat}{σ:St}{H:Hp}(hi:i<n)(h:Pv (i+1) σ H): ∃m',m'<n-i/\CW n Pv (i+1) m' σ H:=⟨n-(i+1),by(first|lia|omega),by(first|lia|omega),rfl,h⟩
theorem Gn {K:PySem.W.Frag}{a p:Addr}{xs:List V}{g:TG}{tt:TT}{te:TE}{R:Hp->Prop}{σ0:St}{H0:Hp}(Pv:Nat->St->Hp->Prop)(h0:Pv 0 σ0 H0)(hl: ∀i σ H,i<=xs.length->Pv i σ H->GK K H a xs)
  (hs: ∀i x σ H,i<xs.length->xs[i]? =some x->Pv i σ H->g x σ H fun σ3 H3=>tt σ3 H3 fun b H4=>
   if b=true then te σ3 H4 fun v H5=> ∃ys,H5 p=some (.lst ys)/\ys.length<sizeLine/\ ∃m',m'<xs.length-i/\CW xs.length Pv (i+1) m' σ3 (upd H5 p (.lst (ys++[v])))
   else ∃m',m'<xs.length-i/\CW xs.length Pv (i+1) m' σ3 H4)
  (hd: ∀σ H,Pv xs.length σ H->R H):No (YC K a) p σ0 H0 g tt te R:=by
 refine⟨CW xs.length Pv,⟨_,yZ _,rfl,h0⟩,fun i m σ' H' w=>?_⟩
 obtain⟨hi,rfl,hp⟩:=w
 have q:=hl i σ' H' hi hp
 by_cases hlt:i<xs.length
 ·refine .inr ⟨⟨xs,xs[i],q,by simp[hlt]⟩,fun x H2 y=>?_⟩
  obtain⟨e,y⟩:=y
  subst e
  exact hs i x σ' _ hlt (y xs q) hp
 ·have e:i=xs.length:=by(first|lia|omega)
  subst e
  exact .inl ⟨⟨xs,q,zS _⟩,hd σ' H' hp⟩
end L2

namespace L2
open PySem PySem.Spec PyProof.Rows PySem.W
theorem WS {K:Frag}{N:Addr}{c:Value}{d:Option Addr}{es:Array DictEntry}{n:Nat}{sl:Array (Option Value)}(h:K.lookup N=some ⟨c,d,.dict es n,sl⟩)(q:(es.toList.all fun e=>match e.key with| .str _ _=>true|_=>false)=true):nsOkIn K N=true:=by
 unfold nsOkIn
 rw[h]
 rw[Array.all_toList]at q
 exact q
theorem OD {K:Frag}{CE nsC:Addr}{c:Value}{dd:Option Addr}{cd:ClassData}{sl:Array (Option Value)}(h:K.lookup CE=some ⟨c,dd,.cls cd,sl⟩)(hn:cd.ns=nsC)(ok:nsOkIn K nsC=true)(ni:nsIn K nsC "__init__"=some none)(h':Heap)(X:K.In h'):OwnTail h' DW (.ref CE::DW):=by
 subst hn
 exact .own (X _ _ h) (.of_isNs (isNs_of_in X ok)) (nsMap_none_of_in X ok ni) .base
theorem Vd {K:Frag}{C CE N:Addr}{nm q:Str}{bs:List Value}{sn:List Str}{sub:List Value}{ab:Bool}{col:Option Bool}{dd:Option Addr}{k0 k1 k2 k3 k5:Option Value}{newId:String}(h:K.lookup C=some (excClassObj nm q C N bs (.ref CE::DW) true sn sub ab col dd k0 k1 k2 k3 k5 newId)):
  ∃cd,clsIn K C=some cd/\cd.hasDict=true/\ ∀self,refuseLoop self "__setattr__" cd.mro=pure ():=by
 refine⟨_,by unfold clsIn;rw[h],rfl,fun self=>?_⟩
 show refuseLoop self "__setattr__" (.ref C:: .ref CE::DW)=_
 rw[refuseLoop_ref,refuseLoop_ref]
 exact F.store_ValueError.passes self
theorem UW {P:Program}{w:World}{K:Frag}{mg:Str->Option Value}{base:Heap}{CX:Jr}{k:Nat}{f:Addr}{fd:FuncData}{ps:List Str}:jV P w K mg base CX k f fd ps (fun _ _ _ _=>False):=
 ⟨fun _ _ _ _ z=>z.elim,fun _ _ _ _ _ _ _ _ _ _ _ _ _ z=>z.elim⟩
theorem jC {CX:Jr}{P:Program}{w:World}{K:PySem.W.Frag}{mg:Str->Option Value}{base:Heap}{N:List Str}{qual:Str}{scope:Scope}{f:Addr}{cd:Value}{A:Around}{outer:List Env}{s:Shared}{H:Hp}{E:XK}:
  (KD CX P w K mg base N qual scope f cd A outer s H E).K =K:=rfl
def Dg (K:Frag)(g x q:Str)(st:Stmt)(f:Addr):Prop:=nsIn K mainGlobals g=some (some (.ref f))/\ ∃fd,vW K x q st f fd
def Dm (K:Frag)(c:Addr)(x q:Str)(st:Stmt)(f:Addr):Prop:=findIn K (.ref c) x=some (some (.ref f))/\ ∃fd,vW K x q st f fd
theorem dg_mk {K:Frag}{g x q:Str}{st:Stmt}{f:Addr}{oc:Value}{od an:Option Addr}{osl:Array (Option Value)}{kV doc pm cdv ct:Value}(a:nsIn K mainGlobals g=some (some (.ref f)))(l:K.lookup f=some ⟨oc,od,.func (fnOf x q (AA st) (uC st) (yH st) .none kV doc pm an cdv ct),osl⟩)(c:codeIn K cdv q=true)(k:keepIn K (.ref f)=true):Dg K g x q st f:=
 ⟨a,_,UU l c k⟩
theorem dm_mk {K:Frag}{C:Addr}{x q:Str}{st:Stmt}{f:Addr}{oc:Value}{od an:Option Addr}{osl:Array (Option Value)}{kV doc pm cdv ct:Value}(a:findIn K (.ref C) x=some (some (.ref f)))(l:K.lookup f=some ⟨oc,od,.func (fnOf x q (AA st) (uC st) (yH st) .none kV doc pm an cdv ct),osl⟩)(c:codeIn K cdv q=true)(k:keepIn K (.ref f)=true):Dm K C x q st f:=
 ⟨a,_,UU l c k⟩
theorem wU {us:List Value}{n:Nat}(h:us.length=n+1): ∃u r,us=u::r/\r.length=n:=by
 cases us with
 |nil=>cases h
 |cons u r=>exact⟨u,r,rfl,Nat.succ.inj h⟩
theorem GB {us:List Value}(h:us.length=0):us=[]:=List.length_eq_zero_iff.mp h
theorem vW.b0 {K:Frag}{x q:Str}{st:Stmt}{f:Addr}{fd:FuncData}(F:vW K x q st f fd)(h: ∀(kV doc pm:Value) (an:Option Addr) (cdv ct:Value),bindArgs (fnOf x q (AA st) (uC st) (yH st) .none kV doc pm an cdv ct) ⟨[],[]⟩=pure []):vU K fd [] []:=
 F.binds fun a b c d e g us hl=>by
  cases GB hl
  exact h a b c d e g
theorem vW.b1 {K:Frag}{x q:Str}{st:Stmt}{f:Addr}{fd:FuncData}(F:vW K x q st f fd)(p0:Str)(h: ∀(kV doc pm:Value) (an:Option Addr) (cdv ct:Value) (u0:Value),bindArgs (fnOf x q (AA st) (uC st) (yH st) .none kV doc pm an cdv ct) ⟨[u0],[]⟩=pure [(p0,u0)]):vU K fd [p0] []:=
 F.binds fun a b c d e g us hl=>by
  obtain⟨u0,r0,rfl,h0⟩:=wU hl
  cases GB h0
  exact h a b c d e g u0
theorem vW.b2 {K:Frag}{x q:Str}{st:Stmt}{f:Addr}{fd:FuncData}(F:vW K x q st f fd)(p0 p1:Str)(h: ∀(kV doc pm:Value) (an:Option Addr) (cdv ct:Value) (u0 u1:Value),bindArgs (fnOf x q (AA st) (uC st) (yH st) .none kV doc pm an cdv ct) ⟨[u0,u1],[]⟩=pure [(p0,u0),(p1,u1)]):vU K fd [p0,p1] []:=
 F.binds fun a b c d e g us hl=>by
  obtain⟨u0,r0,rfl,h0⟩:=wU hl
  obtain⟨u1,r1,rfl,h1⟩:=wU h0
  cases GB h1
  exact h a b c d e g u0 u1
theorem vW.b3 {K:Frag}{x q:Str}{st:Stmt}{f:Addr}{fd:FuncData}(F:vW K x q st f fd)(p0 p1 p2:Str)(h: ∀(kV doc pm:Value) (an:Option Addr) (cdv ct:Value) (u0 u1 u2:Value),bindArgs (fnOf x q (AA st) (uC st) (yH st) .none kV doc pm an cdv ct) ⟨[u0,u1,u2],[]⟩=pure [(p0,u0),(p1,u1),(p2,u2)]):vU K fd [p0,p1,p2] []:=
 F.binds fun a b c d e g us hl=>by
  obtain⟨u0,r0,rfl,h0⟩:=wU hl
  obtain⟨u1,r1,rfl,h1⟩:=wU h0
  obtain⟨u2,r2,rfl,h2⟩:=wU h1
  cases GB h2
  exact h a b c d e g u0 u1 u2
theorem vW.b4 {K:Frag}{x q:Str}{st:Stmt}{f:Addr}{fd:FuncData}(F:vW K x q st f fd)(p0 p1 p2 p3:Str)(h: ∀(kV doc pm:Value) (an:Option Addr) (cdv ct:Value) (u0 u1 u2 u3:Value),bindArgs (fnOf x q (AA st) (uC st) (yH st) .none kV doc pm an cdv ct) ⟨[u0,u1,u2,u3],[]⟩=pure [(p0,u0),(p1,u1),(p2,u2),(p3,u3)]):vU K fd [p0,p1,p2,p3] []:=
 F.binds fun a b c d e g us hl=>by
  obtain⟨u0,r0,rfl,h0⟩:=wU hl
  obtain⟨u1,r1,rfl,h1⟩:=wU h0
  obtain⟨u2,r2,rfl,h2⟩:=wU h1
  obtain⟨u3,r3,rfl,h3⟩:=wU h2
  cases GB h3
  exact h a b c d e g u0 u1 u2 u3
theorem vW.b5 {K:Frag}{x q:Str}{st:Stmt}{f:Addr}{fd:FuncData}(F:vW K x q st f fd)(p0 p1 p2 p3 p4:Str)(h: ∀(kV doc pm:Value) (an:Option Addr) (cdv ct:Value) (u0 u1 u2 u3 u4:Value),bindArgs (fnOf x q (AA st) (uC st) (yH st) .none kV doc pm an cdv ct) ⟨[u0,u1,u2,u3,u4],[]⟩=pure [(p0,u0),(p1,u1),(p2,u2),(p3,u3),(p4,u4)]):vU K fd [p0,p1,p2,p3,p4] []:=
 F.binds fun a b c d e g us hl=>by
  obtain⟨u0,r0,rfl,h0⟩:=wU hl
  obtain⟨u1,r1,rfl,h1⟩:=wU h0
  obtain⟨u2,r2,rfl,h2⟩:=wU h1
  obtain⟨u3,r3,rfl,h3⟩:=wU h2
  obtain⟨u4,r4,rfl,h4⟩:=wU h3
  cases GB h4
  exact h a b c d e g u0 u1 u2 u3 u4
theorem vW.law {K:Frag}{x q:Str}{st:Stmt}{f:Addr}{fd:FuncData}(F:vW K x q st f fd)(p:Str)(h: ∀(kV doc pm:Value) (an:Option Addr) (cdv ct v:Value),bindArgs (fnOf x q (AA st) (uC st) (yH st) .none kV doc pm an cdv ct) ⟨[v],[]⟩=pure [(p,v)])(s:Shared)(v:Value):BindsTo s fd ⟨[v],[]⟩ [(p,v)]:=by
 obtain⟨oc,od,kV,doc,pm,an,cdv,ct,osl,rfl,lk,hcd⟩:=F.ex
 exact .of_eq (h kV doc pm an cdv ct v)
theorem Cl {P:Program}{w:World}{K:Frag}{h:Heap}{mg:Str->Option Value}{base:Heap}{CX:Jr}(X:K.In h)(G:h.Ns mainGlobals mg){x q g:Str}{st:Stmt}{f:Addr}{fd:FuncData}{k:Nat}{ps:List Str}{sp:Sp}(a:nsIn K mainGlobals g=some (some (.ref f)))(F:vW K x q st f fd)(b:vU K fd ps [])(o:jV P w K mg base CX k f fd ps sp):vV P w K mg base CX k g ps sp:=
 ⟨⟨_,_,o,mg_of X G a,F.kp,b⟩⟩
end L2

namespace L2
open PySem PySem.Spec PyProof.Rows
section
variable {X:Cx}
end
end L2

namespace L2
open PySem PySem.W PySem.Spec PySem.Calls PyProof.Rows
section
variable {prog:Program}{w:World}{A:Around}{E:Value->Shared->Prop}{K:Frag}{C:Addr}{s:Shared}{x:Addr}{ox:Obj}{od:Option Obj}
end
end L2

namespace L2
open PySem PySem.Spec PyProof.Rows
namespace Rv
theorem owner:Manifest.owners.lookup (String.ofList ['d','e','s','r','e','v','e','r'].reverse)=some Manifest.sig_reversed:=by kernel_rfl
theorem slot_next:Slot "reversed" "__next__" "reversed.__next__":=
 .of (owner:="reversed") (n:="__next__") (by rw[AQ,vA];kernel_rfl) (by decide+kernel) (by decide+kernel) (by decide+kernel)
  (by first|exact .inl (by decide+kernel)|exact .inr (by decide+kernel)) (by rw[BC];kernel_rfl)
theorem entry_next:entryFor table "reversed.__next__"=some Builtin.«reversed.__next__»:=entryFor_of_tree (by kernel_rfl)
theorem args_next (a:Value):argsOk "reversed.__next__" ⟨[a],[]⟩:=by
 unfold argsOk;rw[signature?_of (id:="reversed.__next__") (n:=['_','_','t','x','e','n','_','_']) (o:=['d','e','s','r','e','v','e','r']) (by kernel_rfl) owner];kernel_rfl
theorem slot_iter:Slot "reversed" "__iter__" "reversed.__iter__":=
 .of (owner:="reversed") (n:="__iter__") (by rw[AQ,vA];kernel_rfl) (by decide+kernel) (by decide+kernel) (by decide+kernel)
  (by first|exact .inl (by decide+kernel)|exact .inr (by decide+kernel)) (by rw[BC];kernel_rfl)
theorem args_iter (a:Value):argsOk "reversed.__iter__" ⟨[a],[]⟩:=by
 unfold argsOk;rw[signature?_of (id:="reversed.__iter__") (n:=['_','_','r','e','t','i','_','_']) (o:=['d','e','s','r','e','v','e','r']) (by kernel_rfl) owner];kernel_rfl
theorem entry_iter:entryFor table "reversed.__iter__"=some Builtin.«dict_keyiterator.__iter__»:=
 entryFor_alias (id':="dict_keyiterator.__iter__") (by kernel_rfl) (by first|rfl|decide+kernel|(unfold String.splitOn;simp+decide [String.splitOnAux])) (by decide+kernel) (by kernel_rfl)
theorem RG:Slot "reversed" "__init__" "object.__init__":=
 .of (owner:="object") (n:="__init__") (by rw[AQ,vA];kernel_rfl) (by decide+kernel) (by decide+kernel) (by decide+kernel)
  (by first|exact .inl (by decide+kernel)|exact .inr (by decide+kernel)) (by rw[BC];kernel_rfl)
theorem called:TypeCalled "reversed" "reversed.__new__" "object.__init__":=
 ⟨by decide+kernel,by decide+kernel,⟨_,_,F.mro_reversed⟩,F.made_reversed,by decide+kernel,by rw[BC];kernel_rfl,RG⟩
theorem tuple_no_rev:typeLookup (.type "tuple") "__reversed__"=pure none:=by rw[AQ,vA];kernel_rfl
theorem tuple_no_dict:isSubtype (.type "tuple") (.type "dict")=pure false:=by rw[BC];kernel_rfl
end Rv
end L2

namespace L2
open PySem PySem.Spec PyProof.Rows
section
variable {prog:Program}{w:World}{A:Around}{E:Value->Shared->Prop}{s:Shared}
def NL (l:Addr)(i:Int):Obj:={cls:=.type "reversed",data:=.fields #[.ref l,rawInt i]}
def Dy (h:Heap)(a l:Addr)(i:Int):Prop:= ∃o,h.get? a=some o/\o.cls=.type "reversed"/\o.data=.fields #[.ref l,rawInt i]
theorem Dy.typeIs {a l:Addr}{i:Int}(x:Dy s.heap a l i):s.TypeIs (.ref a) "reversed":=let⟨o,ho,hc,_⟩:=x;⟨o,ho,hc⟩
theorem Dy.at {h h':Heap}{a l:Addr}{i:Int}(x:Dy h a l i)(e: ∀o,h.get? a=some o->h'.get? a=some o):Dy h' a l i:=let⟨o,ho,r⟩:=x;⟨o,e _ ho,r⟩
theorem SM {l:Addr}{items:Array Value}{Q₁:Value->Shared->Prop}(hl:s.heap.IsTuple l items)(hfit:(items.size:Int)<2^63)
  (h: ∀tk,Q₁ (.ref s.heap.objs.size) {s with heap:=s.heap.push (NL l ((items.size:Int)-1)),toks:=tk}):
  codeAny (model prog w) A (.call (.builtin "reversed.__new__") ⟨[.type "reversed",.ref l],[]⟩) (wants Q₁ E) s:=by
 have hT:s.TypeIs (.ref l) "tuple":=by obtain⟨o,ho,hc,_⟩:=hl;exact⟨o,ho,hc⟩
 refine codeAny_of_tree ?_
 show wpAny _ A.in1 (do checkBuiltinCall "reversed.__new__" ⟨[.type "reversed",.ref l],[]⟩;again (.builtin "reversed.__new__" ⟨[.type "reversed",.ref l],[]⟩)) _ _ s
 refine zE (vX (F.newCall_reversed_1 _) (zR ⟨plainId_quiet F.plain_reversed_new _,codeAny_builtin F.entry_reversed_new ?_⟩))
 rw[Cs F.plain_reversed_new _]
 unfold Builtin.«reversed.__new__»
 refine zE (vX (newClass_reversed _) ?_)
 try dsimp only
 refine zE (vX (a:=()) (by first|rfl|kernel_rfl) ?_)
 refine zE (vX (a:=()) (by first|rfl|kernel_rfl) ?_)
 try dsimp only
 refine zE (CF hT Rv.tuple_no_rev ?_)
 try dsimp only
 refine zE ?_
 show wpAny _ _ (isInstance (.ref l) (.type "dict")>>=_) _ _ s
 refine zE (BZ hT Rv.tuple_no_dict ?_)
 try dsimp only
 show wpAny _ _ (specialOf (.ref l) "__getitem__">>=_) _ _ s
 refine zE (CF hT F.slot_tuple_getitem.lookup ?_)
 try dsimp only
 show wpAny _ _ (if(["tuple.__getitem__","str.__getitem__","bytes.__getitem__","bytearray.__getitem__","memoryview.__getitem__","numpy.ndarray.__getitem__","sqlite3.Row.__getitem__"].contains "tuple.__getitem__")=true then _ else _) _ _ s
 rw[zW (by decide)]
 refine zR ?_
 try dsimp only
 rw[zL (show ¬((!true)=true)from yI)]
 refine zE (len_tuple hl hfit ?_)
 refine zE (vX (a:=some (items.size:Int)) rfl ?_)
 try dsimp only
 refine zE ?_
 show wpAny _ _ (newObj (.type "reversed") (.fields #[.ref l,rawInt ((items.size:Int)-1)])) _ _ _
 refine jU ?_ (by size_fits)
 exact zR (h _)
theorem SQ {l:Addr}{items:Array Value}{Q:Value->Shared->Prop}(hl:s.heap.IsTuple l items)(hfit:(items.size:Int)<2^63)
  (h: ∀tk,Q (.ref s.heap.objs.size) {s with heap:=s.heap.push (NL l ((items.size:Int)-1)),toks:=tk}):wpAny (model prog w) A (call (.type "reversed") [.ref l]) Q E s:=by
 refine callType_codes (Q₁:=fun obj s₁=>obj=.ref s.heap.objs.size/\ ∃tk,s₁={s with heap:=s.heap.push (NL l ((items.size:Int)-1)),toks:=tk}) Rv.called (F.typeCall_reversed_1 _) F.entry_object_init (SM hl hfit fun tk=>⟨rfl,tk,rfl⟩) ?_
 rintro obj s₁ ⟨rfl,tk,rfl⟩
 have hT:Shared.TypeIs {s with heap:=s.heap.push (NL l ((items.size:Int)-1)),toks:=tk} (.ref s.heap.objs.size) "reversed":=⟨_,yG _ rfl,rfl⟩
 exact⟨hT,F.args_object_init_2 _ _,object_init_meets Rv.called.init.lookup Rv.called.made (by decide) prog w A.in1 _ _ ⟨hT,rfl,h tk⟩⟩
theorem Kh {it l:Addr}{i:Nat}{items:Array Value}{x:Value}{Q:Option Value->Shared->Prop}(hit:Dy s.heap it l (i:Int))(hl:s.heap.IsTuple l items)(hx:items[i]? =some x)(hfit:(items.size:Int)<2^63)
  (hQ: ∀h' tk,Dy h' it l ((i:Int)-1)->Heap.SameBut it s.heap h'->Q (some x) {s with heap:=h',toks:=tk}):wpAny (model prog w) A (pyNext (.ref it)) Q E s:=by
 obtain⟨o,ho,hc,hd⟩:=id hit
 have hT:s.TypeIs (.ref l) "tuple":=by obtain⟨o,ho,hc,_⟩:=hl;exact⟨o,ho,hc⟩
 have hi:i<items.size:=(Array.getElem?_eq_some_iff.mp hx).1
 unfold pyNext
 refine zE (uT (jD (name:=Str.ofString "__next__") hit.typeIs Rv.slot_next
  (kA Rv.slot_next hit.typeIs Rv.entry_next ?_ (Rv.args_next _))))
 unfold Builtin.«reversed.__next__»
 refine zE (vX (a:=(Value.ref it,[])) rfl ?_)
 try dsimp only
 refine zE (xB ho hd (x:=.ref l) rfl ?_)
 refine zE (xB ho hd (x:=rawInt (i:Int)) rfl ?_)
 show wpAny _ _ (if(i:Int)<0 then _ else _) _ _ s
 rw[zL (by(first|lia|omega))]
 show wpAny _ _ (specialOf (.ref l) "__getitem__">>=_) _ _ s
 refine zE (CF hT F.slot_tuple_getitem.lookup ?_)
 try dsimp only
 rw[zL (show ¬((some (Value.builtin "tuple.__getitem__")).isNone =true)from yI)]
 refine zE (wpAny_mkInt ?_)
 refine zE (uT (getItem_tuple (j:=i) hl (by(first|lia|omega)) (by(first|lia|omega)) ?_ hx ?_))
 ·unfold seqIndex?
  have e: ¬((i:Int)<0):=by(first|lia|omega)
  simp only[zL e]
  simp[hi]
 try dsimp only
 refine zE (xB ho hd (x:=rawInt (i:Int)) rfl ?_)
 show wpAny _ _ (setField (.ref it) 1 (rawInt ((i:Int)-1))>>=_) _ _ _
 refine zE (wW ho hd (by simp) (zR ⟨x,rfl,zR (hQ _ _ ?_ (AI ..))⟩))
 exact⟨_,kD _ ho (vB (qE hd _)),(Ea ..).trans hc,by
  rw[qE hd];simp⟩
theorem KU {it l:Addr}{Q:Option Value->Shared->Prop}(hh:A.handled=none)(hit:Dy s.heap it l (-1))
  (hQ: ∀h',Heap.ExtBut it s.heap h'->Q none {s with heap:=h'}):wpAny (model prog w) A (pyNext (.ref it)) Q E s:=by
 obtain⟨o,ho,hc,hd⟩:=id hit
 unfold pyNext
 refine zE (uT (jD (name:=Str.ofString "__next__") hit.typeIs Rv.slot_next
  (kA Rv.slot_next hit.typeIs Rv.entry_next ?_ (Rv.args_next _))))
 unfold Builtin.«reversed.__next__»
 refine zE (vX (a:=(Value.ref it,[])) rfl ?_)
 try dsimp only
 refine zE (xB ho hd (x:=.ref l) rfl ?_)
 refine zE (xB ho hd (x:=rawInt (-1)) rfl ?_)
 show wpAny _ _ (if(-1:Int)<0 then _ else _) _ _ s
 rw[zW (by decide)]
 refine zE (Ap ?_)
 refine zE ?_
 show wpAny _ _ (setField (.ref it) 1 (rawInt (-1))>>=_) _ _ s
 refine zE (wW ho hd (by simp) ?_)
 have hd3:=qE hd (·.setIfInBounds 1 (rawInt (-1)))
 have gx3:=kD (Obj.mapFields (·.setIfInBounds 1 (rawInt (-1)))) ho (vB hd3)
 refine wW gx3 hd3 (by simp) ?_
 refine zE ?_
 show wpAny _ _ (newExc (.type "StopIteration") []>>=_) _ _ _
 refine zE ?_
 simp only[newExc,newTuple]
 refine zE (jU ?_ (by size_fits))
 refine zE (m:=firstArgMember _ _) (vX (a:=Value.none) (by first|rfl|(simp only[firstArgMember];rfl)) ?_)
 refine jU ?_ (by size_fits)
 simp only[raiseNew]
 refine zE (wpAny_handled ?_)
 first|rw[show A.in1.handled=none from hh]|rw[hh]
 refine zE (zR (wpAny_throw ?_))
 refine zE (BZ (T:="StopIteration") (b:=true) ⟨_,yG _ rfl,rfl⟩ isSubtype_stop ?_)
 refine zR (hQ _ (fun b ob hb e=>zI _ (zI _ ?_)))
 rw[xQ _ _ (Ne.symm hb),xQ _ _ (Ne.symm hb)]
 exact e
theorem LK {it l:Addr}{i:Int}{Q:Value->Shared->Prop}(hit:Dy s.heap it l i)(h:Q (.ref it) s):wpAny (model prog w) A (pyIter (.ref it)) Q E s:=by
 refine wpAny_pyIter_slot hit.typeIs Rv.slot_iter (kA Rv.slot_iter hit.typeIs Rv.entry_iter ?_ (Rv.args_iter _))
 show wpAny _ _ (ret (.ref it)) _ _ s
 exact zR ⟨_,rfl,"reversed",_,hit.typeIs,Rv.slot_next.lookup,h⟩
end
def ZH (K:PySem.W.Frag)(a:Addr)(n:Nat):It:=
 ⟨fun i H=> ∃xs x,EH K H a xs/\xs.length=n/\xs.reverse[i]? =some x,fun i H x H'=>H'=H/\ ∀xs,EH K H a xs->xs.reverse[i]? =some x,fun i H=>(∃xs,EH K H a xs/\xs.length=n)/\n<=i⟩
theorem Ti {P:Program}{w:World}{K:PySem.W.Frag}{tg:Expr}(a it:Addr)(n:Nat):Nl P w K tg (ZH K a n) [it] it (fun i h=>i<=n/\Dy h it a ((n:Int)-1-(i:Int))) where
 mem:=by simp
 obj:=fun i h st b hb=>by
  have e:b=it:=by simpa using hb
  subst e
  obtain⟨_,o,e,c,d⟩:=st
  exact⟨o,e,fun v z=>by rw[d]at z;cases z⟩
 keep:=fun i h h' st k=>⟨st.1,st.2.at fun o e=>k it (by simp) o e⟩
 item:=by
  intro X hP hw hK hc i pins s σ H E I hf st hg
  subst hP hw hK
  obtain⟨xs,x,hq,hn,hx⟩:=hg
  obtain⟨its,rv,p,hz⟩:=I.tuple hq
  have hi:i<xs.length:=by
   have:=(List.getElem?_eq_some_iff.mp hx).1
   simpa using this
  have hx':xs[n-1-i]? =some x:=by
   rw[List.getElem?_reverse hi,hn]at hx
   exact hx
  obtain⟨u,hu,ru⟩:=rv.get hx'
  obtain⟨f0,f1,f2,f3,f4,f5⟩:=hf it (by simp)
  have e1:(n:Int)-1-(i:Int)=((n-1-i:Nat):Int):=by(first|lia|omega)
  have hl:=rv.length
  have h63:=En
  refine Kh (i:=n-1-i) (by rw[<-e1];exact st.2) (show s.heap.IsTuple a its.toArray from p) (x:=u) (by simpa using hu) (by simp only[yD];(first|lia|omega)) fun h' tk st' sb=>?_
  have I1:xM X pins σ H {s with heap:=h',toks:=tk}:=I.turned (t':=tk) (fun b o hb e=>(sb.2 b hb).trans e) f0 f1 f3 f4 f5
  obtain⟨o,e,c,d⟩:=id st'
  have e2:((n-1-i:Nat):Int)-1=(n:Int)-1-((i+1:Nat):Int):=by(first|lia|omega)
  rw[e2]at st'
  exact⟨u,rfl,Kw (s:={s with heap:=h',toks:=tk}) e c d (by decide) ⟨x,H,I1,ru,⟨rfl,fun ys hy=>by rw[I.tuple_inj hy hq];exact hx⟩,⟨by(first|lia|omega),st'⟩,fun b hb=>(hf b hb).1⟩⟩
 done:=by
  intro X hP hw hK hc i pins s σ H E I hf st hg
  subst hP hw hK
  obtain⟨f0,f1,f2,f3,f4,f5⟩:=hf it (by simp)
  have hi:i=n:=by have:=st.1;have:=hg.2;(first|lia|omega)
  have e1:(n:Int)-1-(i:Int)= -1:=by(first|lia|omega)
  have st2:=st.2
  rw[e1]at st2
  exact KU (I.ok.hd hc) st2 fun h' eb=>⟨rfl,I.turned (t':=s.toks) (fun b o hb e=>eb b o hb e) f0 f1 f3 f4 f5⟩
 self:=fun _ _ _ _ _ st h=>LK st.2 h
inductive WZ (K:PySem.W.Frag) (vs:List V) (H1:Hp) (R:It->Hp->Prop):Prop
 |mk (a xs:_) (h0:vs=[.ref a]) (h1:EH K H1 a xs) (h2:R (ZH K a xs.length) H1):WZ K vs H1 R
def zBj (K:PySem.W.Frag)(ta:TA):TI:=fun σ H R=>ta σ H fun vs H1=>WZ K vs H1 R
theorem XG {X:Cx}{tg a:Expr}{ta:TA}{p pos:Pos}(hg:Gl X "reversed")(hm:X.mg "reversed"=none)(ha:PA X [a] ta)(hs:starEach [a] X.env=[(false,eval a X.env)]:=by rfl):PI X tg (.Call (.Name "reversed" p) [a] [] pos) (zBj X.K ta):=by
 refine⟨?_⟩
 intro pins s σ H R I h
 refine Call_ (Eo I hg hm OO (jJ (qR (ha pos pins s σ H _ I h) fun us s1 ⟨vs,H1,I1,r1,q1⟩=>?_) hs rfl))
 obtain⟨b,xs,e,hq,q⟩:=q1
 subst e
 cases r1 with
 |cons r rr=>
  cases rr
  cases r
  obtain⟨its,rv,pl,hz⟩:=I1.tuple hq
  have hl:=rv.length
  have h63:=En
  refine SQ (show s1.heap.IsTuple b its.toArray from pl) (by simp only[yD];(first|lia|omega)) fun tk=>?_
  have I2:xM X pins σ H1 {s1 with heap:=s1.heap.push (NL b (((its.toArray).size:Int)-1)),toks:=tk}:=I1.kept fun b o e=>zI _ e
  have st:Dy (s1.heap.push (NL b (((its.toArray).size:Int)-1))) s1.heap.objs.size b ((xs.length:Int)-1-((0:Nat):Int)):=⟨_,yG _ rfl,rfl,by rw[yD,hl];simp[NL]⟩
  refine LK (s:={s1 with heap:=s1.heap.push (NL b (((its.toArray).size:Int)-1)),toks:=tk}) st ?_
  refine⟨s1.heap.objs.size,[s1.heap.objs.size],_,_,H1,rfl,I2,Ti b _ xs.length,⟨yZ _,st⟩,fun c hc=>?_,q⟩
  have e:c=s1.heap.objs.size:=by simpa using hc
  subst e
  exact I1.fpOk (zS _) (I1.hok.fresh (zS _))
theorem Wt {K:PySem.W.Frag}{a:Addr}{xs:List V}{g:TG}{tb:TS}{D:FJ}{σ:St}{H:Hp}(Pv:Nat->St->Hp->Prop)(h0:Pv 0 σ H)(hl: ∀i σ H,i<=xs.length->Pv i σ H->EH K H a xs)
  (hs: ∀i x σ H,xs.reverse[i]? =some x->Pv i σ H->g x σ H fun σ2 H2=>tb {D with nx:=Pv (i+1),ct:=Pv (i+1),bk:=D.nx} σ2 H2) (hd: ∀σ H,Pv xs.length σ H->D.nx σ H):
  ∃W:Nat->Nat->St->Hp->Prop,(∃m,W 0 m σ H)/\ ∀i m σ H,W i m σ H->
   ((ZH K a xs.length).stop i H/\D.nx σ H)\/((ZH K a xs.length).go i H/\ ∃N:St->Hp->Prop,(∀σ' H',N σ' H'-> ∃m',m'<m/\W (i+1) m' σ' H')/\ ∀x H',(ZH K a xs.length).yld i H x H'->g x σ H' fun σ2 H2=>tb {D with nx:=N,ct:=N,bk:=D.nx} σ2 H2):=by
 refine⟨fun i m σ H=>m=xs.length-i/\i<=xs.length/\Pv i σ H,⟨xs.length,by simp,yZ _,h0⟩,?_⟩
 rintro i m σ H ⟨rfl,hi,p⟩
 have q:=hl i σ H hi p
 by_cases hlt:i<xs.length
 ·refine .inr ⟨⟨xs,xs.reverse[i]'(by simpa using hlt),q,rfl,by simp[hlt]⟩,Pv (i+1),fun σ' H' p'=>⟨xs.length-(i+1),by(first|lia|omega),rfl,hlt,p'⟩,fun x H' y=>?_⟩
  obtain⟨e,y⟩:=y
  subst e
  exact hs i x σ _ (y xs q) p
 ·have e:i=xs.length:=by(first|lia|omega)
  subst e
  exact .inl ⟨⟨⟨xs,q,rfl⟩,zS _⟩,hd σ H p⟩
end L2

namespace L2
open PySem
mutual
def pre:Nd->List Nd
 | .mk k p own ps=>.mk k p own ps::uV ps
def uV:List Nd->List Nd
 |[]=>[]
 |a::r=>pre a++uV r
end
theorem Ci: ∀(xs ys:List Nd),uV (xs++ys)=uV xs++uV ys
 |[],ys=>by simp[uV]
 |a::r,ys=>by simp[uV,Ci r ys]
theorem VU: ∀n:Nd,1<=(pre n).length
 | .mk k p own ps=>by simp[pre]
theorem Ka: ∀xs:List Nd,xs.length<=(uV xs).length
 |[]=>by simp[uV]
 |a::r=>by
  have:=VU a
  have:=Ka r
  simp[uV];(first|lia|omega)
theorem Fo: ∀xs:List Nd,(uV xs.reverse).length =(uV xs).length
 |[]=>rfl
 |a::r=>by simp[uV,Ci,Fo r];(first|lia|omega)
theorem vP.more {H:Hp}: ∀{d:Nat} {v:V} {n:Nd},vP H d v n->vP H (d+1) v n
 |0,_,_,z=>z.elim
 |d+1,v,.mk k p own ps,⟨t,o,q,vs,e,h1,h2,h3,r⟩=>⟨t,o,q,vs,e,h1,h2,h3,Paired.imp (fun _ _ z=>vP.more z) r⟩
inductive Ir (vs:List V) (H:Hp) (Q:VK) (E:XK):Prop
 |mk (v nd:_) (h0:vs=[v]) (h1:vP H 10 v nd) (h2:(pre nd).length<=1000000) (h3: ∀l us H',wG H H'->H l=none->H' l=some (.lst us)->Paired (vP H' 10) us (pre nd)->Q (.ref l) H'):Ir vs H Q E
theorem Paired.append {α β:Type}{F:α->β->Prop}: ∀{xs zs:List α} {ys ws:List β},Paired F xs ys->Paired F zs ws->Paired F (xs++zs) (ys++ws)
 |_,_,_,_,.nil,q=>q
 |_,_,_,_,.cons r t,q=>.cons r (Paired.append t q)
theorem Paired.rev {α β:Type}{F:α->β->Prop}: ∀{xs:List α} {ys:List β},Paired F xs ys->Paired F xs.reverse ys.reverse
 |_,_,.nil=>.nil
 |_,_,.cons r t=>by
  rw[Ae,Ae]
  exact Paired.append (Paired.rev t) (.cons r .nil)
theorem Paired.unsnoc {α β:Type}{F:α->β->Prop}: ∀{xs:List α} {x:α} {ys:List β},Paired F (xs++[x]) ys-> ∃ys' y,ys=ys'++[y]/\Paired F xs ys'/\F x y
 |[],x,_,.cons r .nil=>⟨[],_,rfl,.nil,r⟩
 |a::xs,x,_,.cons r t=>by
  obtain⟨ys',y,rfl,p,f⟩:=Paired.unsnoc t
  exact⟨_::ys',y,rfl,.cons r p,f⟩
theorem wG.fresh {H H':Hp}{p:Addr}{o:HO}(s:wG H H')(h:H p=none):wG H (upd H' p o):=fun b u e=>by rw[zQ (zK e h)];exact s b u e
section
open PySem.Spec PyProof.Rows
variable {X:Cx}{e:Expr}{st:Option Expr}{te:TE}{ts:TO}{p2 pos:Pos}
end
theorem QO {X:Cx}{pos:Pos}{es:List Expr}{k:Nat}{t:Yo}{n:Nat}(K:PySem.W.Frag)(hK:X.K=K)(hc:X.calm=true)(h:Ys X es t)(hn:(assignEach es X.env).length =n:=by rfl)(hst:(assignEach es X.env).findIdx? (·.1)=none:=by rfl):PG X (.Tuple es k pos) (Yd K n t):=by
 subst hK
 exact BS hc h hn hst
end L2

namespace L2
open PySem
end L2

namespace L2
open PySem PySem.Spec PyProof.Rows
theorem Gb (a b:Int):Builtin.Range.rangeSize a b (-1)=(((a-b).toNat:Nat):Int):=by
 unfold Builtin.Range.rangeSize
 rw[zL (by decide)]
 by_cases c:a > b
 ·rw[zW c]
  have:(-(-1:Int))=1:=by decide
  rw[this,Int.ediv_one]
  (first|lia|omega)
 ·rw[zL c];(first|lia|omega)
theorem Pq {a b:Int}(ha: -(2^62)<=a)(ha':a<2^62)(hb: -(2^62)<=b)(hb':b<2^62):Builtin.Range.small a b (-1)=true:=by
 unfold Builtin.Range.small
 rw[Gb]
 simp only[Builtin.Range.rangeFitsLong,wT,Bool.or_eq_true,DX,beq_iff_eq,show ¬((-1:Int) > 0)by decide,EQ]
 (first|lia|omega)
def ZJ (lo:Int)(n:Nat):It:=⟨fun i _=>i<n,fun i H x H'=>H'=H/\x=.int (lo-i),fun i _=>n<=i⟩
theorem RE {P:Program}{w:World}{K:PySem.W.Frag}{tg:Expr}(it:Addr)(lo:Int)(n:Nat):Nl P w K tg (ZJ lo n) [it] it (fun i h=>IsRangeIter h it (lo+(i:Nat)*(-1)) ((n:Int)-(i:Nat)) (-1)) where
 mem:=by simp
 obj:=fun i h st b hb=>by
  have e:b=it:=by simpa using hb
  subst e
  exact⟨_,st,fun v z=>by
   have z':Data.fields _=Data.cell v:=z
   cases z'⟩
 keep:=fun i h h' st k=>k it (by simp) _ st
 item:=by
  intro X hP hw hK hc i pins s σ H E I hf st hg
  subst hP hw hK
  obtain⟨f0,f1,f2,f3,f4,f5⟩:=hf it (by simp)
  have W:=Walks.range (prog:=X.prog) (w:=X.w) (I.ok.hd hc) it lo (-1) n
  refine W.item i s _ _ hg st fun v h' tk hv st' kk=>?_
  obtain⟨t,rfl⟩:=hv
  have I1:xM X pins σ H {s with heap:=h',toks:=tk}:=I.turned (fun b o hb e=>kk b o (by simpa using hb) e) f0 f1 f3 f4 f5
  refine⟨_,rfl,Kw (s:={s with heap:=h',toks:=tk}) (n:="range_iterator") st' rfl rfl (by decide) ⟨.int (lo-i),H,I1,⟨t,?_⟩,⟨rfl,rfl⟩,st',fun b hb=>(hf b hb).1⟩⟩
  rw[show lo+(i:Int)*(-1)=lo-(i:Int)by(first|lia|omega)]
 done:=by
  intro X hP hw hK hc i pins s σ H E I hf st hg
  subst hP hw hK
  obtain⟨f0,f1,f2,f3,f4,f5⟩:=hf it (by simp)
  exact wpAny_pyNext_range_end (I.ok.hd hc) st (by have:n<=i:=hg;(first|lia|omega)) fun h' eb=>⟨rfl,I.turned (t':=s.toks) (fun b o hb e=>eb b o hb e) f0 f1 f3 f4 f5⟩
 self:=fun _ _ _ _ _ st h=>wpAny_pyIter_rangeiter st h
inductive UQ (vs:List V) (H1:Hp) (R:It->Hp->Prop):Prop
 |mk (i j:Int) (h0:vs=[.int i,.int j,.int (-1)]) (h1:(-(2^62)<=i/\i<2^62/\ -(2^62)<=j/\j<2^62)) (h2:R (ZJ i (i-j).toNat) H1):UQ vs H1 R
def Zq (ta:TA):TI:=fun σ H R=>ta σ H fun vs H1=>UQ vs H1 R
theorem VX {X:Cx}{tg a b c:Expr}{ta:TA}{p pos:Pos}(hg:Gl X "range")(hm:X.mg "range"=none)(ha:PA X [a,b,c] ta)(hs:starEach [a,b,c] X.env=(false,eval a X.env)::starEach [b,c] X.env:=by rfl)(hpl:(backTo pos (starEach [b,c] X.env)).any (·.1)=false:=by rfl):
  PI X tg (.Call (.Name "range" p) [a,b,c] [] pos) (Zq ta):=by
 refine⟨?_⟩
 intro pins s σ H R I h
 refine Call_ (Eo I hg hm boot_range (jJ (qR (ha pos pins s σ H _ I h) fun us s1 ⟨vs,H1,I1,r1,q1⟩=>?_) hs hpl))
 obtain⟨i,j,e,⟨q1,q2,q3,q4⟩,q⟩:=q1
 subst e
 cases r1 with
 |cons r rr=>
  cases rr with
  |cons r' rr=>
   cases rr with
   |cons r'' rr=>
    cases rr
    obtain⟨t,rfl⟩:=r
    obtain⟨t',rfl⟩:=r'
    obtain⟨t'',rfl⟩:=r''
    refine call_range_3 (by decide) ?_ (.inl (PyProof.noPylong_small (by decide)))
    refine wpAny_pyIter_range (IsRange.new ..) (Pq q1 q2 q3 q4) ?_
    have I2:xM X pins σ H1 {s1 with heap:=s1.heap.push {cls:=.type "range",data:=.fields #[.int i t,.int j t',.int (-1) t'']},toks:=s1.toks}:=I1.kept fun b o e=>zI _ e
    refine⟨_,[_],_,_,H1,rfl,I2.kept (t':=s1.toks) fun b o e=>zI _ e,RE _ i (i-j).toNat,?_,fun b hb=>?_,q⟩
    ·have e1:i+((0:Nat):Int)*(-1)=i:=by simp
     have e2:(((i-j).toNat:Nat):Int)-((0:Nat):Int)=Builtin.Range.rangeSize i j (-1):=by rw[Gb];simp
     show IsRangeIter _ _ (i+((0:Nat):Int)*(-1)) ((((i-j).toNat:Nat):Int)-((0:Nat):Int)) (-1)
     rw[e1,e2]
     exact yG _ rfl
    ·have e:=List.mem_singleton.mp hb
     subst e
     exact I2.fpOk (zS _) (I2.hok.fresh (zS _))
end L2

namespace L2
open PySem PySem.Spec PyProof.Rows
end L2

namespace L2
open PySem PySem.Spec PyProof.Rows
theorem RI: ∀(bs:List Bool),(List.range bs.length).all (fun i=>bs.getD i true)=bs.all id:=by
 intro bs
 rw[AS,wC,wC]
 constructor
 ·intro h b hb
  obtain⟨i,hi⟩:=List.mem_iff_getElem?.mp hb
  have hl:=(List.getElem?_eq_some_iff.mp hi).1
  have:=h i (List.mem_range.mpr hl)
  rw[yS,hi]at this
  exact this
 ·intro h i hi
  have hl:=List.mem_range.mp hi
  have e:=zB hl
  rw[yS,e]
  exact h _ (Ca hl)
section
variable {X:Cx}
theorem Vp (hc:X.calm=true):EJ X (.builtin "all") (fun xs H Q=> ∃(p:Addr) (bs:List Bool),xs=[.ref p]/\GK X.K H p (bs.map V.bl)/\Q (.bl (bs.all id)) H):=by
 intro pins s σ H xs us Q I r h
 obtain⟨p,bs,rfl,hq,q⟩:=h
 obtain⟨u,rfl,ru⟩:=GM r
 cases ru
 obtain⟨its,rv,pl,hz⟩:=I.list hq
 have hlen:=rv.length
 rw[zD]at hlen
 refine call_all_walk (Ad pl.isList ?_)
 have hp:p<s.heap.objs.size:=by
  obtain⟨o,ho,_⟩:=pl.isList
  exact yC ho
 refine⟨s.heap.objs.size,[s.heap.objs.size,p],[s.heap.objs.size],its.toArray.size,_,_,fun i=>bs.getD i true,rfl,Walks.list (A:=X.A.in1) (I.ok.hd hc) _ p (xK hp) its.toArray,⟨⟨_,yG _ rfl,rfl,rfl⟩,pl.isList.at fun o e=>zI _ e⟩,?_,fun h' tk hk=>?_⟩
 ·intro i v s1 Q1 E1 hv h1
  have hv':its[i]? =some v:=by simpa using hv
  have hi:i<bs.length:=by
   have:=(List.getElem?_eq_some_iff.mp hv').1
   (first|lia|omega)
  have eb:(bs.map V.bl)[i]? =some (.bl bs[i]):=by rw[zN,zB hi]<;>rfl
  have rel:=Paired.get rv i _ _ eb hv'
  obtain rfl:v=Value.bool bs[i]:=rel
  have:bs.getD i true=bs[i]:=by rw[yS,zB hi]<;>rfl
  have h2:Q1 (bs.getD i true) s1:=h1
  rw[this]at h2
  exact zR h2
 ·have e:(List.range its.toArray.size).all (fun i=>bs.getD i true)=bs.all id:=by
   rw[yD,<-hlen];exact RI bs
  rw[e]
  refine⟨.bl (bs.all id),H,I.kept (t':=tk) fun b o eb=>hk b o ?_ (zI _ eb),rfl,q⟩
  intro z
  have:=yC eb
  rw[List.mem_singleton.mp z]at this
  exact jO _ this
end
end L2

namespace L2
open PySem PySem.Spec PyProof.Rows
section
variable {X:Cx}{pins:List (Addr×Obj)}{σ:St}{H:Hp}{s:Shared}{h':Heap}
end
section
variable {X:Cx}{E:XK}{C:Addr}{x:Str}{np cpos pos:Pos}
end
section
variable {X:Cx}
end
section
open PySem.W
end
inductive vY (C:Addr) (vs:List V) (H:Hp) (Q:VK) (E:XK):Prop
 |mk (x y:_) (h0:vs=[.ref x,y]) (h1:H x=some (IW x C none)) (h2: ∀d H',d≠x->H d=none->(∀b o,b≠x->H b=some o->H' b=some o)->H' x=some (IW x C (some d))->H' d=some (OY d [("at",y)])->Q .non H'):vY C vs H Q E
def CC (C:Addr)(H:Hp)(E:XK)(n:Int):Prop:= ∀d H',wG H H'->H' d=some (OY d [("at",.int n)])->E (.ref C) (some d) H'
theorem uY {C:Addr}{H:Hp}{E E':XK}{n:Int}(f:CC C H E n): ∀x,H x=none->
  vY C [.ref x,.int n] (upd H x (IW x C none)) (fun v H2=>v=.non/\ ∃d,H2 x=some (IW x C (some d))/\E (.ref C) (some d) (upd H2 x (Mi x C (some d)))) E':=by
 intro x hx
 refine⟨x,_,rfl,zG,fun d H' dx hd kp ex ed=>⟨rfl,d,ex,f d _ (fun b o e=>?_) ?_⟩⟩
 ·have nx:b≠x:=zK e hx
  rw[zQ nx]
  exact kp b o nx (by rw[zQ nx];exact e)
 ·rw[zQ dx];exact ed
end L2

namespace L2
open PySem PySem.Spec PySem.Builtin.Str PyProof.Rows
def Cn (c:Nat):Prop:=c=32\/c=10
instance (c:Nat):Decidable (Cn c):=inferInstanceAs (Decidable (_\/_))
def wl (acc:List Nat):List Nat->List (List Nat)
 |[]=>if acc=[]then[]else[acc]
 |c::r=>if Cn c then(if acc=[]then wl [] r else acc::wl [] r)else wl (acc++[c]) r
def HE (c:Nat):Nat:=if c=10 then 32 else c
theorem Mp: ∀(l acc:List Nat),wl acc (l.map HE)=wl acc l
 |[],acc=>rfl
 |c::r,acc=>by
  rw[yK]
  unfold wl
  by_cases z:c=10
  ·subst z
   rw[zW (show Cn (HE 10)from .inl rfl),zW (show Cn 10 from .inr rfl),Mp r]
  ·have:HE c=c:=zL z
   rw[this,Mp r,Mp r]
theorem Jz: ∀(q acc r:List Nat),(∀c∈q,¬Cn c)->wl acc (q++r)=wl (acc++q) r
 |[],acc,r,_=>by rw[jM,yX]
 |c::q,acc,r,h=>by
  rw[qH]
  conv=>lhs;unfold wl
  rw[zL (h c (zP ..)),Jz q _ r (fun d hd=>h d (zT _ hd)),yP]
  rfl
theorem Nz: ∀(qs:List (List Nat)) (acc:List Nat),(∀q∈qs,∀c∈q,¬Cn c)->qs≠[]->wl acc (vS 32 qs)=((match qs with|[]=>[]|q::r=>(acc++q)::r).filter fun l=>!decide (l=[]))
 |[],_,_,h=>absurd rfl h
 |[q],acc,h,_=>by
  show wl acc q=_
  have:=Jz q acc [] (h q (zP ..))
  rw[yX]at this
  rw[this]
  unfold wl
  by_cases z:acc++q=[]
  ·rw[zW z];simp[z]
  ·rw[zL z];simp[z]
 |q::q2::r,acc,h,_=>by
  show wl acc (q++32::vS 32 (q2::r))=_
  rw[Jz q acc _ (h q (zP ..))]
  unfold wl
  rw[zW (show Cn 32 from .inl rfl),Nz (q2::r) [] (fun q hq=>h q (zT _ hq)) (fun z=>nomatch z)]
  by_cases z:acc++q=[]
  ·rw[zW z];simp[z]
  ·rw[zL z];simp[z]
theorem Fw: ∀l:List Nat,10∉l->l.map HE=l
 |[],_=>rfl
 |c::l,h=>by
  rw[yK,Fw l (fun z=>h (zT _ z))]
  have:c≠10:=fun z=>h (z▸zP ..)
  rw[show HE c=c from zL this]
theorem LO: ∀ps:List (List Nat),(∀p∈ps,10∉p)->vS 32 ps=(vS 10 ps).map HE
 |[],_=>rfl
 |[p],h=>(Fw p (h p (zP ..))).symm
 |p::p2::r,h=>by
  show p++32::vS 32 (p2::r)=(p++10::vS 10 (p2::r)).map HE
  rw[yA,yK,LO (p2::r) (fun q hq=>h q (zT _ hq)),Fw p (h p (zP ..))]
  rfl
theorem Dp (c:Nat): ∀qs:List (List Nat),qs.length<=(vS c qs).length +1
 |[]=>yZ _
 |[q]=>by show 1<=q.length+1;(first|lia|omega)
 |q::q2::r=>by
  have:=Dp c (q2::r)
  have h2:(q++c::vS c (q2::r)).length =q.length+((vS c (q2::r)).length +1):=by rw[zC,zJ]
  show(q2::r).length +1<=(q++c::vS c (q2::r)).length +1
  (first|lia|omega)
theorem PR:(Str.ofString "\n")=⟨#[10]⟩:=by decide
theorem HC:(Str.ofString " ")=⟨#[32]⟩:=by decide
theorem QH (t:Str):(Txt.replace t "\n" " ").cps.toList =t.cps.toList.map HE:=by
 rw[PR,HC,StrLaws.replace_one,AJ,LO]
 ·rw[<-AJ,DA]
 ·intro p hp
  obtain⟨q,hq,rfl⟩:=List.mem_map.mp hp
  exact StrLaws.split_free _ 10 q hq
theorem VQ (t:Str):(Txt.replace t "\n" " ").length =t.length:=by
 have:(Txt.replace t "\n" " ").cps.toList.length =(Txt.replace t "\n" " ").length:=yQ
 rw[<-this,QH,zD]
 exact yQ
theorem RF (y:Str)(c:Nat):(Txt.split y ⟨#[c]⟩).length<=y.length+1:=by
 have e:=AJ c (Txt.split y ⟨#[c]⟩)
 rw[DA]at e
 have:=Dp c ((Txt.split y ⟨#[c]⟩).map fun t=>t.cps.toList)
 rw[<-e,zD]at this
 have hl:y.cps.toList.length=y.length:=yQ
 (first|lia|omega)
def PQ (x:Str):Bool:=!decide (x="")
def wordsT (t:Str):List Str:=(Txt.split (Txt.replace t "\n" " ") " ").filter PQ
theorem Te (t:Str):(wordsT t).map (fun x=>x.cps.toList)=wl [] t.cps.toList:=by
 have e:=AJ 32 (Txt.split (Txt.replace t "\n" " ") " ")
 rw[HC,DA,<-HC,QH]at e
 rw[<-Mp,e]
 have hp:=PyProof.Rows.split_pos (Txt.replace t "\n" " ") ⟨#[32]⟩
 rw[<-HC]at hp
 have hf:=StrLaws.split_free (Txt.replace t "\n" " ") 32
 rw[<-HC]at hf
 have h10: ∀c∈vS 32 ((Txt.split (Txt.replace t "\n" " ") " ").map fun t=>t.cps.toList),c≠10:=by
  rw[<-e]
  intro c hc z
  obtain⟨d,hd,ed⟩:=List.mem_map.mp hc
  unfold HE at ed
  split at ed<;>(first|lia|omega)
 unfold wordsT
 generalize Txt.split (Txt.replace t "\n" " ") " "=qs at *
 have mem: ∀(ps:List (List Nat)) (q:List Nat) (c:Nat),q∈ps->c∈q->c∈vS 32 ps:=by
  intro ps
  induction ps with
  |nil=>intro q c h;cases h
  |cons p r ih=>
   intro q c hq hc
   obtain⟨x,ex,cx⟩:=Qh 32 p r
   rw[ex]
   rcases List.mem_cons.mp hq with z|z
   ·rw[z]at hc;exact kN _ hc
   ·refine yW _ ?_
    rcases cx with⟨e1,_⟩|⟨_,e2⟩
    ·rw[e1]at z;cases z
    ·rw[e2];exact zT _ (ih q c z hc)
 rw[Nz]
 ·cases qs with
  |nil=>rfl
  |cons q r=>
   rw[yK]
   dsimp only
   rw[jM]
   have key: ∀l:List Str,(l.filter PQ).map (fun x=>x.cps.toList)=(l.map fun t=>t.cps.toList).filter fun l=>!decide (l=[]):=by
    intro l
    induction l with
    |nil=>rfl
    |cons a l ih=>
     have ea:PQ a=!decide (a.cps.toList=[]):=by
      unfold PQ
      congr 1
      by_cases z:a=""
      ·subst z;rfl
      ·have: ¬a.cps.toList=[]:=fun y=>z (by
        obtain⟨⟨l⟩⟩:=a
        have y':l=[]:=y
        subst y'
        rfl)
       rw[yJ z,yJ this]
     rw[yK,EX,EX,<-ea]
     split
     ·rw[yK,ih]
     ·exact ih
   have:=key (q::r)
   rw[yK]at this
   exact this
 ·intro q hq c hc b
  obtain⟨x,hx,rfl⟩:=List.mem_map.mp hq
  rcases b with b|b
  ·exact hf x hx (b▸hc)
  ·exact h10 c (mem _ _ _ hq hc) b
 ·intro z
  rw[List.map_eq_nil_iff.mp z]at hp
  exact absurd hp (by decide)
def VR:V->List V->Hp->VK->Prop:=fun x vs H Q=> ∃(t y:Str) (i:Nat) (rest:List Nat),x=.str t/\vs=[.str y]/\occurrences t y 0 t.length 1=i::rest/\Q (.int (i:Int)) H
theorem Si {X:Cx}:SY X "str.index" VR:=by
 intro pins s σ H x vs v us Q I rx rv h
 obtain⟨t,y,i,rest,rfl,rfl,ho,q⟩:=h
 obtain⟨tk,rfl⟩:=rx
 obtain⟨u,rfl,ru⟩:=rv.one
 obtain⟨tk2,rfl⟩:=ru
 exact call_gives F.slot_str_index (Aq _ _ _) F.entry_str_index (F.args_str_index_2 _ _) (gives_str_index t y tk tk2 i rest ho) ⟨.int _,H,I.tok _,⟨_,rfl⟩,q⟩
end L2

namespace L2
open PySem
def Ht (cs:List Nat):Str:=⟨cs.toArray⟩
def HW (c:Nat):Str:=⟨#[c]⟩
def kwA:List Str:=kwH++kwW
theorem UE (cs:List Nat):(Ht cs).cps.toList =cs:=rfl
theorem UD {a b:List Nat}(h:Ht a=Ht b):a=b:=by
 have:=xT (fun t:Str=>t.cps.toList) h
 exact this
theorem LI: ∀cs:List Nat,Str.join "" (cs.map HW)=Ht cs
 |[]=>rfl
 |[c]=>rfl
 |c::d::r=>by
  have ih:=LI (d::r)
  show(HW c++""++Str.join "" ((d::r).map HW))=_
  rw[ih]
  refine xT Str.mk ?_
  show(#[c]++(Str.ofString "").cps++(d::r).toArray)=(c::d::r).toArray
  simp[show(Str.ofString "").cps =#[]from by decide]
theorem NE (cs:List Nat):Txt.join "" (cs.map HW)=Ht cs:=(qV _ _).trans (LI cs)
theorem DT:lettersS.cps.toList=(List.range 26).map (97+·):=by decide+kernel
theorem Sd {cs:List Nat}(hc: ∀c∈cs,97<=c/\c<=122)(h1:1<=cs.length)(h8:cs.length<=8)(hk:Ht cs∉kwA):jF (Ht cs)=true:=by
 have hl:(Ht cs).length =cs.length:=yD ..
 have ia:BL (Ht cs) lettersS=true:=by
  unfold BL
  rw[wC]
  intro c h
  refine yE ?_
  rw[DT,List.mem_map]
  have:=hc c h
  exact⟨c-97,List.mem_range.mpr (by(first|lia|omega)),by(first|lia|omega)⟩
 have kh:Ht cs∉kwH:=fun z=>hk (kN _ z)
 have kw:Ht cs∉kwW:=fun z=>hk (yW _ z)
 unfold jF
 rw[yE (by(first|lia|omega)),yE (by(first|lia|omega)),ia,yJ kh,yJ kw]
 rfl
theorem Wo:(kwA.map fun w=>w.cps.toList.dropLast).Nodup:=by decide+kernel
theorem KB {α β:Type}[DecidableEq β](f:α->β)(b:β): ∀l:List α,(l.map f).Nodup->(l.filter fun x=>decide (f x=b)).length<=1
 |[],_=>yZ _
 |x::r,h=>by
  rw[yK,uM]at h
  rw[EX]
  split
  ·rename_i c
   have c':=yB c
   have:r.filter (fun x=>decide (f x=b))=[]:=by
    rw[List.filter_eq_nil_iff]
    intro y hy z
    exact h.1 (List.mem_map.mpr ⟨y,hy,(yB z).trans c'.symm⟩)
   rw[this]
   exact zS _
  ·exact KB f b r h.2
theorem Oi {α:Type}[DecidableEq α]: ∀{l m:List α},l.Nodup->(∀x∈l,x∈m)->l.length<=m.length
 |[],m,_,_=>yZ _
 |x::l,m,h,s=>by
  rw[uM]at h
  have hx:=s x (zP ..)
  have:=Oi (l:=l) (m:=m.erase x) h.2 fun y hy=>by
   have ny:y≠x:=fun z=>h.1 (z▸hy)
   exact(List.mem_erase_of_ne ny).mpr (s y (zT _ hy))
  rw[List.length_erase_of_mem hx]at this
  have:0<m.length:=List.length_pos_of_mem hx
  rw[zJ]
  (first|lia|omega)
theorem SA (pre:List Nat)(j0:Nat)(ts:List Str)(h:ts.length<=24): ∃k,k<26/\Ht (pre++[97+(j0+k) % 26])∉ts++kwA:=by
 refine DJ fun no=>?_
 have all: ∀j,j<26->Ht (pre++[97+j])∈ts++kwA:=fun j hj=>by
  refine DJ fun z=>no ⟨(j+26-j0 % 26) % 26,DB _ (by decide),?_⟩
  have:(j0+(j+26-j0 % 26) % 26) % 26=j:=by(first|lia|omega)
  rw[this]
  exact z
 have sub: ∀x∈(List.range 26).map (fun j=>Ht (pre++[97+j])),x∈ts++kwA.filter (fun w=>decide (w.cps.toList.dropLast=pre)):=fun x hx=>by
  obtain⟨j,hj,rfl⟩:=List.mem_map.mp hx
  rcases List.mem_append.mp (all j (List.mem_range.mp hj))with z|z
  ·exact kN _ z
  ·refine yW _ (List.mem_filter.mpr ⟨z,yE ?_⟩)
   rw[UE,List.dropLast_concat]
 have nd:((List.range 26).map (fun j=>Ht (pre++[97+j]))).Nodup:=by
  refine List.Pairwise.map _ ?_ List.nodup_range
  intro a b hab e
  have:=UD e
  have:=List.append_cancel_left this
  injection this with e1 _
  (first|lia|omega)
 have l1:=Oi nd sub
 rw[zD,List.length_range,zC]at l1
 have l2:=KB (fun w:Str=>w.cps.toList.dropLast) pre kwA Wo
 (first|lia|omega)
theorem Qi: ∀j:Fin 26,Builtin.Str.occurrences lettersS (HW (97+j.1)) 0 lettersS.length 1=[j.1]:=by decide+kernel
theorem Jb:Txt.split "fun with is set all pick loop call fail add sub mul quo rest less same push at put size new" " "=kwA:=by decide+kernel
end L2

namespace L2
open PySem
def HD (W:List Str)(a:Nat)(ws:List Str):Prop:= ∃post,W.drop a=ws++post
theorem HD.cons {W:List Str}{a:Nat}{x:Str}{r:List Str}(h:HD W a (x::r)):W[a]? =some x/\HD W (a+1) r:=by
 obtain⟨post,e⟩:=h
 have e1:(W.drop a)[0]? =some x:=by rw[e];rfl
 rw[List.getElem?_drop]at e1
 refine⟨by simpa using e1,post,?_⟩
 have:=xT (List.drop 1) e
 rw[List.drop_drop]at this
 simpa using this
theorem HD.app {W:List Str}{a:Nat}{u v:List Str}(h:HD W a (u++v)):HD W a u/\HD W (a+u.length) v:=by
 obtain⟨post,e⟩:=h
 refine⟨⟨v++post,by rw[e,yP]⟩,post,?_⟩
 have:=xT (List.drop u.length) e
 rw[List.drop_drop,yP,List.drop_left]at this
 exact this
abbrev FI:=Str×List Str×Nat
structure OX (bs:List Str):Prop where
 nd:bs.Nodup
 ok: ∀b∈bs,jF b=true
 few:bs.length<=12
structure Vx (h:FI):Prop where
 nm:jF h.1=true
 bx:OX h.2.1
 p4:h.2.2<=4
 pb:h.2.2<=h.2.1.length
structure YD (hs:List FI)(num:List (Str×Int))(cnt:List Int):Prop where
 num: ∀(i:Nat) (h:FI),hs[i]? =some h->wE num h.1=some (i:Int)
 cnt: ∀(i:Nat) (h:FI),hs[i]? =some h->cnt[i]? =some (h.2.2:Int)
 ok: ∀h∈hs,Vx h
def Go (hs:List FI)(bs:List Str)(d:Nat)(ws:List Str)(zs:List Int):Prop:= ∀W num cnt a bd,HD W a ws->YD hs num cnt->Bs W num cnt bs d a bd=.ok (a+ws.length,bd++zs)
theorem Ey {w:Str}(h:jF w=true):BL w lettersS=true/\1<=w.length/\w.length<=8/\w∉kwH/\w∉kwW:=by
 unfold jF at h
 rw[jW,jW,jW,jW]at h
 obtain⟨⟨⟨⟨h1,h2⟩,h3⟩,h4⟩,h5⟩:=h
 refine⟨h3,yB h1,yB h2,fun z=>?_,fun z=>?_⟩
 ·rw[yE z]at h4;cases h4
 ·rw[yE z]at h5;cases h5
theorem Jh {w:Str}(h:jF w=true): ∀c∈w.cps.toList,97<=c/\c<=122:=fun c hc=>by
 have h1:=(Ey h).1
 unfold BL at h1
 rw[wC]at h1
 have:=yB (h1 c hc)
 rw[DT,List.mem_map]at this
 obtain⟨j,hj,e⟩:=this
 have:=List.mem_range.mp hj
 (first|lia|omega)
theorem GV {w:Str}(h: ∀c∈w.cps.toList,97<=c/\c<=122)(h0:1<=w.length):Ab w 60=false:=by
 refine Bool.eq_false_iff.mpr fun z=>?_
 obtain⟨h1,h2,h3⟩:=IE z
 have hw:w.cps.toList.length=w.length:=yQ
 have hp:vR w=w:=BV (fun e=>by
  have:=h 45 (zM e)
  (first|lia|omega))
 rw[hp]at h3
 cases e:w.cps.toList with
 |nil=>rw[e]at hw;have:([]:List Nat).length =0:=rfl;(first|lia|omega)
 |cons c r=>
  have a:=h c (by rw[e];exact zP ..)
  have b:=h3 c (by rw[e];exact zP ..)
  (first|lia|omega)
theorem HX {w:Str}(h:jF w=true):Ab w 60=false:=GV (Jh h) (Ey h).2.1
theorem Hu: ∀w∈kwA,(∀c∈w.cps.toList,97<=c/\c<=122)/\1<=w.length:=by decide+kernel
theorem UG {w:Str}(h:w∈kwA):Ab w 60=false:=GV (Hu w h).1 (Hu w h).2
section
variable {hs:List FI}{bs:List Str}{W:List Str}{num:List (Str×Int)}{cnt:List Int}{a d:Nat}{bd:List Int}
theorem Ho {f:Yu}:uW f 0 a bd=.ok (a,bd):=rfl
theorem Ll {n:Int}(hn:n.natAbs<10^60):Go hs bs (d+1) [uL n] [0,n]:=fun W num cnt a bd hw ag=>by
 obtain⟨e,_⟩:=hw.cons
 have ok:Ab (uL n) 60=true:=Gx (k:=59) hn (by decide)
 have ek:DU W a bs=.ok (0,a):=by unfold DU;rw[e];dsimp only;rw[zW ok]
 have eo:Ex W num a 0 bs=.ok ([n],a+1):=by
  unfold Ex ID
  rw[zW rfl,e]
  dsimp only
  rw[zW ok,NB (qB hn (by decide+kernel))]
 unfold Bs
 rw[ek]
 dsimp only
 rw[eo]
 dsimp only
 rw[show(Ib cnt 0 [n]).toNat =0 from rfl,Ho]
 rfl
theorem MX {b:Str}: ∀{bs:List Str} {i:Nat},bs.Nodup->bs[i]? =some b->bs.idxOf b=i
 |[],i,_,h=>by simp at h
 |x::r,0,_,h=>by
  have:x=b:=by simpa using h
  rw[this,List.idxOf_cons_self]
 |x::r,i+1,nd,h=>by
  rw[uM]at nd
  have h':r[i]? =some b:=by simpa using h
  have:x≠b:=fun z=>nd.1 (z▸zM h')
  rw[List.idxOf_cons,MX nd.2 h']
  have:(x==b)=false:=by simpa using this
  rw[this]
  rfl
theorem Lm (hb:OX bs){i:Nat}{b:Str}(hi:bs[i]? =some b):Go hs bs (d+1) [b] [1,(i:Int)]:=fun W num cnt a bd hw ag=>by
 obtain⟨e,_⟩:=hw.cons
 have m:=zM hi
 have ek:DU W a bs=.ok (1,a):=by
  unfold DU;rw[e];dsimp only;rw[zL (by rw[HX (hb.ok b m)];decide),zW m]
 have eo:Ex W num a 1 bs=.ok ([(i:Int)],a+1):=by
  unfold Ex KH
  rw[zL (by decide),zW (.inl rfl),e]
  dsimp only
  rw[zW m,MX (i:=i) hb.nd hi]
 unfold Bs
 rw[ek]
 dsimp only
 rw[eo]
 dsimp only
 rw[show(Ib cnt 1 [(i:Int)]).toNat =0 from rfl,Ho]
 rfl
inductive FA (hs:List FI) (bs:List Str) (d:Nat):Nat->List Str->List Int->Prop
 |nil:FA hs bs d 0 [] []
 |snoc {n:Nat} {ws ws':List Str} {zs zs':List Int}:FA hs bs d n ws zs->Go hs bs d ws' zs'->FA hs bs d (n+1) (ws++ws') (zs++zs')
theorem Lr {f:Yu}: ∀(n m a:Nat) (bd:List Int),uW f (n+m) a bd=(match uW f n a bd with| .ok q=>uW f m q.1 q.2| .error e=>.error e)
 |0,m,a,bd=>by rw[Nat.zero_add];rfl
 |n+1,m,a,bd=>by
  rw[show n+1+m=(n+m)+1 by(first|lia|omega)]
  rw[uW,uW]
  cases f a bd with
  |error e=>rfl
  |ok q=>exact Lr n m q.1 q.2
theorem FA.read {n:Nat}{ws:List Str}{zs:List Int}(h:FA hs bs d n ws zs): ∀W num cnt a bd,HD W a ws->YD hs num cnt->uW (Bs W num cnt bs d) n a bd=.ok (a+ws.length,bd++zs):=by
 induction h with
 |nil=>intro W num cnt a bd _ _;rw[yX];rfl
 |@snoc n ws ws' zs zs' h r ih=>
  intro W num cnt a bd hw ag
  obtain⟨h1,h2⟩:=hw.app
  rw[Lr,ih W num cnt a bd h1 ag]
  dsimp only
  rw[uW,r W num cnt (a+ws.length) (bd++zs) h2 ag]
  dsimp only
  rw[Ho,zC,AM,yP]
def Il (hs:List FI)(bs:List Str)(k:Int)(ow:List Str)(on:List Int)(n:Nat):Prop:= ∀W num cnt a,HD W a ow->YD hs num cnt->Ex W num a k bs=.ok (on,a+ow.length)/\Ib cnt k on=(n:Int)
theorem JY (hb:OX bs){j:Nat}{w:Str}(hj:kwW[j]? =some w){ow:List Str}{on:List Int}{n:Nat}(ho:Il hs bs (2+(j:Int)) ow on n){ws:List Str}{zs:List Int}(hp:FA hs bs d n ws zs):
  Go hs bs (d+1) (w::(ow++ws)) ((2+(j:Int))::(on++zs)):=fun W num cnt a bd hw ag=>by
 obtain⟨e,h1⟩:=hw.cons
 obtain⟨h2,h3⟩:=h1.app
 have m:=zM hj
 have nb:w∉bs:=fun z=>(Ey (hb.ok w z)).2.2.2.2 m
 have ei:kwW.idxOf w=j:=MX (i:=j) (by decide+kernel) hj
 have ek:DU W a bs=.ok (2+(j:Int),a+1):=by
  unfold DU;rw[e];dsimp only
  rw[zL (by rw[UG (yW _ m)];decide),zL nb,zW m,ei]
 obtain⟨eo,ed⟩:=ho W num cnt (a+1) h2 ag
 unfold Bs
 rw[ek]
 dsimp only
 rw[eo]
 dsimp only
 rw[ed,jR,hp.read W num cnt _ _ h3 ag,zJ,zC]
 refine xT Except.ok (Prod.ext ?_ ?_)
 ·show a+1+ow.length+ws.length=a+(ow.length+ws.length+1)
  (first|lia|omega)
 ·show bd++(2+(j:Int))::on++zs=bd++(2+(j:Int))::(on++zs)
  simp
theorem Jj {k:Int}{n:Nat}(h5:k≠0/\k≠1/\k≠2/\k≠3/\k≠4/\k≠6)(hn:(if k=5 then 2 else(partsW[(k-7).toNat]?).getD 0)=(n:Int)):Il hs bs k [] [] n:=fun W num cnt a _ _=>by
 obtain⟨h0,h1,h2,h3,h4,h6⟩:=h5
 refine⟨?_,?_⟩
 ·unfold Ex
  rw[zL h0,zL (by(first|lia|omega)),zL h3,zL h4,zL h6]
  rfl
 ·unfold Ib
  rw[zL (by(first|lia|omega)),zL h2,zL h3,zL h4]
  rw[<-hn]
  by_cases c:k=5
  ·rw[zW c,zW c]
  ·rw[zL c,zL c,zL h6]
theorem Kt (hb:OX bs){i:Nat}{b:Str}(hi:bs[i]? =some b):Il hs bs 2 [b] [(i:Int)] 1:=fun W num cnt a hw ag=>by
 obtain⟨e,_⟩:=hw.cons
 refine⟨?_,rfl⟩
 unfold Ex KH
 rw[zL (by decide),zW (.inr rfl),e]
 dsimp only
 rw[zW (zM hi),MX (i:=i) hb.nd hi]
 rfl
theorem Gf {k:Int}{c:Int}(hk:k=3\/k=4)(h1:k-2<=c)(h2:c<=12):Il hs bs k [uL c] [c] (c+k-3).toNat:=fun W num cnt a hw ag=>by
 obtain⟨e,_⟩:=hw.cons
 have hn:c.natAbs<10^60:=qB (show c.natAbs<100 by(first|lia|omega)) (by decide+kernel)
 have ok:Ab (uL c) 60=true:=Gx (k:=59) hn (by decide)
 have en:ID W a=.ok c:=by
  unfold ID
  rw[e]
  dsimp only
  rw[zW ok,NB (qB hn (by decide+kernel))]
 rcases hk with rfl|rfl
 ·refine⟨?_,?_⟩
  ·unfold Ex FF
   rw[zL (by decide),zL (by decide),zW rfl,en]
   dsimp only
   rw[zL (by(first|lia|omega))]
   rfl
  ·show c=_
   (first|lia|omega)
 ·refine⟨?_,?_⟩
  ·unfold Ex FF
   rw[zL (by decide),zL (by decide),zL (by decide),zW rfl,en]
   dsimp only
   rw[zL (by(first|lia|omega))]
   rfl
  ·show 1+c=_
   (first|lia|omega)
theorem Jk {i:Nat}{h:FI}(hi:hs[i]? =some h):Il hs bs 6 [h.1] [(i:Int)] h.2.2:=fun W num cnt a hw ag=>by
 obtain⟨e,_⟩:=hw.cons
 have ok:=ag.ok h (zM hi)
 refine⟨?_,?_⟩
 ·unfold Ex Bw
  rw[zL (by decide),zL (by decide),zL (by decide),zL (by decide),zW rfl,e]
  dsimp only
  rw[zW ok.nm,ag.num i h hi]
  rfl
 ·show(cnt[((i:Int)).toNat]?).getD 0=_
  rw[jR,ag.cnt i h hi]
  rfl
end
structure FH (w:Str):Prop where
 nf:w≠"fun"
 nw:w≠"with"
 ne:w.cps.toList≠[]
 nb: ∀c∈w.cps.toList,¬Cn c
 sh:w.length<=61
theorem Kq {w:Str}(h: ∀c∈w.cps.toList,97<=c/\c<=122)(h0:1<=w.length):w.cps.toList≠[]/\ ∀c∈w.cps.toList,¬Cn c:=by
 have hw:w.cps.toList.length=w.length:=yQ
 refine⟨fun z=>?_,fun c hc b=>?_⟩
 ·rw[z]at hw;have:([]:List Nat).length =0:=rfl;(first|lia|omega)
 ·have:=h c hc
  rcases b with b|b<;>(first|lia|omega)
theorem Ay {w:Str}(h:jF w=true):FH w:=by
 obtain⟨h1,h2,h3,h4,h5⟩:=Ey h
 obtain⟨a,b⟩:=Kq (Jh h) h2
 refine⟨fun z=>h4 (z▸zP ..),fun z=>h4 (z▸zT _ (zP ..)),a,b,by(first|lia|omega)⟩
theorem Zm: ∀w∈kwW,w≠"fun"/\w≠"with"/\w.length<=61:=by decide+kernel
theorem QX {w:Str}(h:w∈kwW):FH w:=by
 obtain⟨a,b⟩:=Hu w (yW _ h)
 obtain⟨c,d⟩:=Kq a b
 obtain⟨e1,e2,e3⟩:=Zm w h
 exact⟨e1,e2,c,d,e3⟩
theorem PN {n:Int}(hn:n.natAbs<10^60):FH (uL n):=by
 have sg:=fun c (h:c∈(uL n).cps.toList)=>Sf h
 have dl:=Ic (k:=59) hn
 have hw:(uL n).cps.toList.length =(uL n).length:=yQ
 have l:1<=(uL n).cps.toList.length/\(uL n).cps.toList.length<=61:=by
  obtain⟨c,r,ed,_⟩:=GG n.natAbs
  rcases Ez n with⟨_,e⟩|⟨_,e⟩
  ·rw[e,ed,zJ]
   rw[ed,zJ]at dl
   (first|lia|omega)
  ·rw[e,zJ]
   (first|lia|omega)
 have nl: ∀{w:Str} {c:Nat},c∈w.cps.toList->97<=c->uL n≠w:=fun hc h z=>by
  have:=sg _ (z▸hc)
  (first|lia|omega)
 refine⟨nl (w:="fun") (c:=102) (by decide) (by decide),nl (w:="with") (c:=119) (by decide) (by decide),fun z=>by rw[z]at l;have:([]:List Nat).length =0:=rfl;(first|lia|omega),fun c hc b=>?_,by(first|lia|omega)⟩
 have:=sg c hc
 rcases b with b|b<;>(first|lia|omega)
end L2

namespace L2
open PySem
abbrev Pg:=FI×List Str×List Int
def xA (x:Pg):List Str:=("fun":Str)::x.1.1::(x.1.2.1.take x.1.2.2++("with":Str)::(x.1.2.1.drop x.1.2.2++("is":Str)::x.2.1))
def kU (pr:List Pg):List Str:=(pr.map xA).flatten
def qZ (pr:List Pg):List (Str×List Str):=pr.map fun x=>(x.1.1,x.1.2.1)
def BU (pr:List Pg):List Int:=(pr.map fun x=>[(x.1.2.2:Int),(x.1.2.1.length:Int)]).flatten
def wH (pr:List Pg):List Int:=(pr.map fun x=>x.2.2).flatten
structure Lb (hs:List FI)(x:Pg):Prop where
 hd:Vx x.1
 rd:Go hs x.1.2.1 10 x.2.1 x.2.2
 wd: ∀w∈x.2.1,FH w
structure Yx (x:Pg):Prop where
 hd:Vx x.1
 wd: ∀w∈x.2.1,FH w
theorem Lb.w {hs:List FI}{x:Pg}(h:Lb hs x):Yx x:=⟨h.hd,h.wd⟩
structure GX (pr:List Pg):Prop where
 all: ∀x∈pr,Lb (pr.map (·.1)) x
 nd:(pr.map fun x=>x.1.1).Nodup
 ne:pr≠[]
 few:pr.length<=16
 first: ∀x,pr[0]? =some x->x.1.2.2=0
def Zi (r:List Str)(f:Int)(acc:List (Str×Int)):List (Str×Int):=match r with|[]=>acc|n::_=>if(wE acc n).isSome then acc else acc++[(n,f)]
theorem Lz (w:Str)(r:List Str)(f:Int)(acc:List (Str×Int)):Hs (w::r) f acc=if w="fun" then Hs r (f+1) (Zi r f acc)else Hs r f acc:=by
 cases r<;>rfl
def Xk (u:List Str):Prop:= ∀w∈u,w≠"fun"
theorem Ly: ∀(u R:List Str) (f:Int) (acc:List (Str×Int)),Xk u->Hs (u++R) f acc=Hs R f acc
 |[],R,f,acc,_=>rfl
 |w::u,R,f,acc,h=>by
  rw[qH,Lz,zL (h w (zP ..))]
  exact Ly u R f acc (fun x hx=>h x (zT _ hx))
theorem Sm {x:Pg}(ok:Yx x):Xk (x.1.1::(x.1.2.1.take x.1.2.2++("with":Str)::(x.1.2.1.drop x.1.2.2++("is":Str)::x.2.1))):=fun w hw=>by
 have bx: ∀b∈x.1.2.1,b≠"fun":=fun b hb=>(Ay (ok.hd.bx.ok b hb)).nf
 rcases List.mem_cons.mp hw with z|hw
 ·rw[z];exact(Ay ok.hd.nm).nf
 rcases List.mem_append.mp hw with z|hw
 ·exact bx w (wF z)
 rcases List.mem_cons.mp hw with z|hw
 ·rw[z];decide
 rcases List.mem_append.mp hw with z|hw
 ·exact bx w (vJ z)
 rcases List.mem_cons.mp hw with z|hw
 ·rw[z];decide
 ·exact(ok.wd w hw).nf
def Og:List Pg->Int->List (Str×Int)
 |[],_=>[]
 |x::r,f=>(x.1.1,f)::Og r (f+1)
theorem Ko {acc m:List (Str×Int)}{x:Str}(h:wE acc x=none):wE (acc++m) x=wE m x:=by
 induction acc with
 |nil=>rfl
 |cons p r ih=>
  unfold wE at h
  split at h
  ·cases h
  ·rename_i c
   rw[qH,wE,zL c]
   exact ih h
theorem IF: ∀(pr:List Pg) (f:Int) (acc:List (Str×Int)),(∀x∈pr,Yx x)->(pr.map fun x=>x.1.1).Nodup->(∀x∈pr,wE acc x.1.1=none)->Hs (kU pr) f acc=acc++Og pr f
 |[],f,acc,_,_,_=>by rw[show kU []=[]from rfl,show Og [] f=[]from rfl,yX];rfl
 |x::r,f,acc,ok,nd,fr=>by
  have okx:=ok x (zP ..)
  rw[yK,uM]at nd
  show Hs (xA x++kU r) f acc=_
  unfold xA
  rw[qH,Lz,zW rfl]
  rw[qH]
  unfold Zi
  dsimp only
  rw[fr x (zP ..)]
  show Hs (x.1.1::((x.1.2.1.take x.1.2.2++("with":Str)::(x.1.2.1.drop x.1.2.2++("is":Str)::x.2.1))++kU r)) (f+1) (acc++[(x.1.1,f)])=_
  rw[<-qH,Ly _ _ _ _ (Sm okx),IF r (f+1) _ (fun y hy=>ok y (zT _ hy)) nd.2 ?_,yP]
  ·rfl
  ·intro y hy
   rw[Ko (fr y (zT _ hy)),wE,zL]
   ·rfl
   ·intro z
    have z':x.1.1=y.1.1:=z
    exact nd.1 (z'▸List.mem_map.mpr ⟨y,hy,rfl⟩)
theorem QW: ∀(pr:List Pg) (f:Int) (i:Nat) (x:Pg),(pr.map fun x=>x.1.1).Nodup->pr[i]? =some x->wE (Og pr f) x.1.1=some (f+(i:Int))
 |[],f,i,x,_,h=>by simp at h
 |y::r,f,0,x,nd,h=>by
  have:y=x:=by simpa using h
  rw[this,Og,wE,zW rfl]
  show some f=some (f+((0:Nat):Int))
  rw[show f+((0:Nat):Int)=f by(first|lia|omega)]
 |y::r,f,i+1,x,nd,h=>by
  rw[yK,uM]at nd
  have h':r[i]? =some x:=by simpa using h
  rw[Og,wE,zL,QW r (f+1) i x nd.2 h']
  ·rw[show f+1+(i:Int)=f+((i+1:Nat):Int)by(first|lia|omega)]
  ·intro z
   have z':y.1.1=x.1.1:=z
   exact nd.1 (z'▸List.mem_map.mpr ⟨x,zM h',rfl⟩)
theorem IP (w:Str)(r:List Str)(n:Nat):CB (w::r) n=((if w="with" then(n:Int)else(CB r (n+1)).1),if w="fun" then((if w="with" then(n:Int)else(CB r (n+1)).1)-n-2)::(CB r (n+1)).2 else(CB r (n+1)).2):=rfl
def Yt (u:List Str):Prop:= ∀w∈u,w≠"fun"/\w≠"with"
theorem IN: ∀(u R:List Str) (n:Nat),Yt u->CB (u++R) n=CB R (n+u.length)
 |[],R,n,_=>rfl
 |w::u,R,n,h=>by
  obtain⟨h1,h2⟩:=h w (zP ..)
  rw[qH,IP,zL h2,zL h1,IN u R (n+1) (fun x hx=>h x (zT _ hx)),zJ,show n+1+u.length=n+(u.length+1)by(first|lia|omega)]
theorem SN {x:Pg}(ok:Yx x)(R:List Str)(n:Nat):(CB (xA x++R) n).2=(x.1.2.2:Int)::(CB R (n+(xA x).length)).2:=by
 have nb: ∀b∈x.1.2.1,b≠"fun"/\b≠"with":=fun b hb=>⟨(Ay (ok.hd.bx.ok b hb)).nf,(Ay (ok.hd.bx.ok b hb)).nw⟩
 have nn:Yt (x.1.1::x.1.2.1.take x.1.2.2):=fun w hw=>by
  rcases List.mem_cons.mp hw with z|z
  ·rw[z];exact⟨(Ay ok.hd.nm).nf,(Ay ok.hd.nm).nw⟩
  ·exact nb w (wF z)
 have nt:Yt (x.1.2.1.drop x.1.2.2++("is":Str)::x.2.1):=fun w hw=>by
  rcases List.mem_append.mp hw with z|hw
  ·exact nb w (vJ z)
  rcases List.mem_cons.mp hw with z|hw
  ·rw[z];exact⟨by decide,by decide⟩
  ·exact⟨(ok.wd w hw).nf,(ok.wd w hw).nw⟩
 have el:xA x++R=("fun":Str)::((x.1.1::x.1.2.1.take x.1.2.2)++("with":Str)::((x.1.2.1.drop x.1.2.2++("is":Str)::x.2.1)++R)):=by
  unfold xA
  simp
 have lt:(x.1.1::x.1.2.1.take x.1.2.2).length =x.1.2.2+1:=by
  rw[zJ,yM,CI ok.hd.pb]
 have ll:(xA x).length =1+(x.1.2.2+1)+1+(x.1.2.1.drop x.1.2.2++("is":Str)::x.2.1).length:=by
  have:=xT List.length (show xA x=("fun":Str)::((x.1.1::x.1.2.1.take x.1.2.2)++("with":Str)::(x.1.2.1.drop x.1.2.2++("is":Str)::x.2.1))by unfold xA;simp)
  rw[this,zJ,zC,lt,zJ]
  (first|lia|omega)
 rw[el,IP,zW rfl,zL (show ¬(("fun":Str)="with")by decide),IN _ _ _ nn,IP,zW rfl,zL (show ¬(("with":Str)="fun")by decide),IN _ _ _ nt,lt,ll]
 rw[show((n+1+(x.1.2.2+1):Nat):Int)-(n:Int)-2=(x.1.2.2:Int)by(first|lia|omega)]
 ·rw[show n+1+(x.1.2.2+1)+1+(x.1.2.1.drop x.1.2.2++("is":Str)::x.2.1).length =n+(1+(x.1.2.2+1)+1+(x.1.2.1.drop x.1.2.2++("is":Str)::x.2.1).length)by(first|lia|omega)]
theorem IM: ∀(pr:List Pg) (n:Nat),(∀x∈pr,Yx x)->(CB (kU pr) n).2=pr.map fun x=>(x.1.2.2:Int)
 |[],n,_=>rfl
 |x::r,n,ok=>by
  show(CB (xA x++kU r) n).2=_
  rw[SN (ok x (zP ..)),IM r _ (fun y hy=>ok y (zT _ hy)),yK]
theorem NU {pr:List Pg}(p:GX pr):YD (pr.map (·.1)) (Ft (kU pr)) (EF (kU pr)):=by
 refine⟨fun i h hi=>?_,fun i h hi=>?_,fun h hh=>?_⟩
 ·rw[zN]at hi
  cases e:pr[i]? with
  |none=>rw[e]at hi;cases hi
  |some x=>
   rw[e]at hi
   cases hi
   unfold Ft
   rw[IF pr 0 [] (fun x hx=>(p.all x hx).w) p.nd (fun _ _=>rfl),jM,QW pr 0 i x p.nd e,Int.zero_add]
 ·rw[zN]at hi
  cases e:pr[i]? with
  |none=>rw[e]at hi;cases hi
  |some x=>
   rw[e]at hi
   cases hi
   unfold EF
   rw[IM pr 0 (fun x hx=>(p.all x hx).w),zN,e]
   rfl
 ·obtain⟨x,hx,rfl⟩:=List.mem_map.mp hh
  exact(p.all x hx).hd
theorem HA {W:List Str}{most:Nat}{last:Str}: ∀(us:List Str) (n a:Nat) (bs:List Str),HD W a (us++[last])->(∀u∈us,jF u=true/\u≠last)->(bs++us).Nodup->(bs++us).length<=most->us.length<n->
  vO W most last n a bs=.ok (a+us.length+1,bs++us)
 |_,0,_,_,_,_,_,_,h=>absurd h (Nat.not_lt_zero _)
 |[],n+1,a,bs,hw,_,_,_,_=>by
  obtain⟨e,_⟩:=hw.cons
  rw[vO,e]
  dsimp only
  rw[zW rfl,yX]
  rfl
 |u::us,n+1,a,bs,hw,ok,nd,hl,hn=>by
  obtain⟨e,h1⟩:=hw.cons
  obtain⟨o1,o2⟩:=ok u (zP ..)
  rw[zC,zJ]at hl
  rw[zJ]at hn
  have nu:u∉bs:=fun z=>by
   rw[Af]at nd
   exact nd.2.2 u z u (zP ..) rfl
  rw[vO,e]
  dsimp only
  rw[zL o2,zL (by(first|lia|omega)),zW ⟨o1,nu⟩,HA us n (a+1) (bs++[u]) h1 (fun v hv=>ok v (zT _ hv)) (by rw[yP];exact nd) (by rw[zC,zC];show bs.length+1+us.length<=most;(first|lia|omega)) (by(first|lia|omega)),yP,zJ]
  refine xT Except.ok (Prod.ext ?_ rfl)
  show a+1+us.length+1=a+(us.length+1)+1
  (first|lia|omega)
theorem US {W:List Str}{a:Nat}{ws:List Str}(h:HD W a ws)(h0:ws≠[]):a+ws.length<=W.length:=by
 obtain⟨post,e⟩:=h
 have:=xT List.length e
 rw[jK,zC]at this
 have:0<ws.length:=List.length_pos_iff.mpr h0
 (first|lia|omega)
theorem Ox {W:List Str}{num:List (Str×Int)}{cnt:List Int}{hs:List FI}(ag:YD hs num cnt){x:Pg}(ok:Lb hs x){s:RS}(hw:HD W s.at_ (xA x))(nm:x.1.1∉s.names.map (·.1))(few:s.names.length<16)(p0:s.names=[]->x.1.2.2=0):
  KY W num cnt s=.ok ⟨s.at_+(xA x).length,s.names++[(x.1.1,x.1.2.1)],s.heads++[(x.1.2.2:Int),(x.1.2.1.length:Int)],s.bodies++x.2.2⟩:=by
 have lw:=US hw (by unfold xA;exact fun z=>nomatch z)
 have e0:xA x=("fun":Str)::x.1.1::((x.1.2.1.take x.1.2.2++[("with":Str)])++((x.1.2.1.drop x.1.2.2++[("is":Str)])++x.2.1)):=by unfold xA;simp
 have ll:(xA x).length =x.1.2.1.length+4+x.2.1.length:=by
  unfold xA
  simp only[zJ,zC,yM,jK]
  have:=ok.hd.pb
  (first|lia|omega)
 rw[e0]at hw
 obtain⟨e1,h1⟩:=hw.cons
 obtain⟨e2,h2⟩:=h1.cons
 obtain⟨h3,h4⟩:=h2.app
 obtain⟨h5,h6⟩:=h4.app
 have pb:=ok.hd.pb
 have p4:=ok.hd.p4
 have b12:=ok.hd.bx.few
 have lt:(x.1.2.1.take x.1.2.2).length =x.1.2.2:=by rw[yM,CI pb]
 have ld:(x.1.2.1.drop x.1.2.2).length =x.1.2.1.length-x.1.2.2:=jK ..
 have kw: ∀b∈x.1.2.1,jF b=true/\b≠"with"/\b≠"is":=fun b hb=>by
  have o:=ok.hd.bx.ok b hb
  have:=(Ey o).2.2.2.1
  exact⟨o,fun z=>this (z▸by decide),fun z=>this (z▸by decide)⟩
 have en:GJ W (s.at_+1) (s.names.map (·.1))=.ok x.1.1:=by
  unfold GJ
  rw[e2]
  dsimp only
  rw[zW ⟨ok.hd.nm,nm⟩]
 have eb1:=HA (W:=W) (most:=if s.names=[]then 0 else 4) (last:="with") (x.1.2.1.take x.1.2.2) (W.length+1) (s.at_+1+1) [] h3 (fun u hu=>⟨(kw u (wF hu)).1,(kw u (wF hu)).2.1⟩)
  (by rw[jM];exact ok.hd.bx.nd.sublist (List.take_sublist _ _)) (by rw[jM,lt];split;(· rename_i z;rw[p0 z];exact zS _);(· exact p4)) (by(first|lia|omega))
 rw[jM,lt]at eb1
 have ta:x.1.2.1.take x.1.2.2++x.1.2.1.drop x.1.2.2=x.1.2.1:=List.take_append_drop _ _
 rw[zC,lt]at h5 h6
 have eb2:=HA (W:=W) (most:=12) (last:="is") (x.1.2.1.drop x.1.2.2) (W.length+1) (s.at_+1+1+(x.1.2.2+[("with":Str)].length)) (x.1.2.1.take x.1.2.2) h5 (fun u hu=>⟨(kw u (vJ hu)).1,(kw u (vJ hu)).2.2⟩)
  (by rw[ta];exact ok.hd.bx.nd) (by rw[ta];exact b12) (by(first|lia|omega))
 rw[ta,ld]at eb2
 rw[zC,ld]at h6
 have eb2':vO W 12 "is" (W.length+1) (s.at_+1+1+x.1.2.2+1) (x.1.2.1.take x.1.2.2)=.ok (s.at_+1+1+(x.1.2.2+[("with":Str)].length)+(x.1.2.1.length-x.1.2.2)+1,x.1.2.1):=eb2
 have er:=ok.rd W num cnt _ s.bodies h6 ag
 have er':Bs W num cnt x.1.2.1 10 (s.at_+1+1+(x.1.2.2+[("with":Str)].length)+(x.1.2.1.length-x.1.2.2)+1) s.bodies=.ok (s.at_+(xA x).length,s.bodies++x.2.2):=by
  refine er.trans (xT Except.ok (Prod.ext ?_ rfl))
  show s.at_+1+1+(x.1.2.2+1)+(x.1.2.1.length-x.1.2.2+1)+x.2.1.length=s.at_+(xA x).length
  (first|lia|omega)
 have eb1':vO W (if s.names=[]then 0 else 4) "with" (W.length+1) (s.at_+2) []=.ok (s.at_+1+1+x.1.2.2+1,x.1.2.1.take x.1.2.2):=eb1
 unfold KY
 rw[e1]
 dsimp only
 rw[zL (fun z=>z.elim (fun z=>z rfl) (fun z=>by(first|lia|omega))),en]
 dsimp only
 rw[eb1']
 dsimp only
 rw[eb2']
 dsimp only
 rw[er']
 dsimp only
 rw[lt]
theorem LR {W:List Str}{num:List (Str×Int)}{cnt:List Int}{hs:List FI}(ag:YD hs num cnt): ∀(pr:List Pg) (n:Nat) (s:RS),(∀x∈pr,Lb hs x)->HD W s.at_ (kU pr)->s.at_+(kU pr).length =W.length->pr.length<=n->s.names.length+pr.length<=16->
  (s.names.map (·.1)++pr.map fun x=>x.1.1).Nodup->s.names≠[]->GW W num cnt n s=.ok ⟨W.length,s.names++qZ pr,s.heads++BU pr,s.bodies++wH pr⟩
 |[],n,s,_,_,hl,_,_,_,_=>by
  have hl':s.at_=W.length:=hl
  have:GW W num cnt n s=.ok s:=by
   cases n with
   |zero=>rfl
   |succ n=>rw[GW,zL (by(first|lia|omega))]
  rw[this,<-hl']
  show Except.ok s=.ok ⟨s.at_,s.names++[],s.heads++[],s.bodies++[]⟩
  rw[yX,yX,yX]
 |x::r,0,s,_,_,_,h,_,_,_=>by simp at h
 |x::r,n+1,s,ok,hw,hl,hn,few,nd,ne=>by
  obtain⟨h1,h2⟩:=(show HD W s.at_ (xA x++kU r)from hw).app
  have le:=US h1 (by unfold xA;exact fun z=>nomatch z)
  have l0:0<(xA x).length:=by unfold xA;exact Nat.succ_pos _
  rw[zJ]at few hn
  have nm:x.1.1∉s.names.map (·.1):=fun z=>by
   rw[Af]at nd
   exact nd.2.2 _ z _ (zP ..) rfl
  rw[GW,zW (by(first|lia|omega)),Ox ag (ok x (zP ..)) h1 nm (by(first|lia|omega)) (fun z=>absurd z ne)]
  dsimp only
  have hl':s.at_+(xA x++kU r).length =W.length:=hl
  rw[zC]at hl'
  rw[LR ag r n _ (fun y hy=>ok y (zT _ hy)) h2 (by show s.at_+(xA x).length +_=_;(first|lia|omega)) (by(first|lia|omega)) (by show(s.names++_).length +_<=_;rw[zC];show s.names.length+1+r.length<=16;(first|lia|omega)) ?_ ?_]
  ·show Except.ok (RS.mk _ _ _ _)=_
   unfold qZ BU wH
   simp[yP]
  ·show((s.names++[(x.1.1,x.1.2.1)]).map (·.1)++_).Nodup
   rw[yA,yP]
   exact nd
  ·show s.names++_≠[]
   exact fun z=>by simp at z
theorem RJ {pr:List Pg}(p:GX pr):QI (kU pr)=.ok ⟨(kU pr).length,qZ pr,BU pr,wH pr⟩:=by
 have ag:=NU p
 cases e:pr with
 |nil=>exact absurd e p.ne
 |cons x r=>
  have ok:=p.all
  have nd:=p.nd
  have few:=p.few
  have fs:=p.first
  rw[e]at ag ok nd few fs
  have hw:HD (kU (x::r)) 0 (xA x++kU r):=⟨[],by rw[yX];rfl⟩
  obtain⟨h1,h2⟩:=hw.app
  rw[zJ]at few
  have e1:=Ox (s:=⟨0,[],[],[]⟩) ag (ok x (zP ..)) h1 (fun z=>nomatch z) (by show 0<16;decide) (fun _=>fs x rfl)
  unfold QI
  rw[e1]
  dsimp only
  have lr:r.length<=(kU r).length:=by
   have: ∀l:List Pg,l.length<=(kU l).length:=fun l=>by
    induction l with
    |nil=>exact zS _
    |cons y l ih=>
     show l.length+1<=(xA y++kU l).length
     rw[zC]
     have:0<(xA y).length:=by unfold xA;exact Nat.succ_pos _
     (first|lia|omega)
   exact this r
  rw[LR ag r _ _ (fun y hy=>ok y (zT _ hy)) h2 ?_ ?_ ?_ ?_ (fun z=>by simp at z)]
  ·show Except.ok (RS.mk _ _ _ _)=_
   unfold qZ BU wH
   simp
  ·show 0+(xA x).length +(kU r).length =(xA x++kU r).length
   rw[zC];(first|lia|omega)
  ·show r.length<=(xA x++kU r).length
   rw[zC];(first|lia|omega)
  ·show 1+r.length<=16
   (first|lia|omega)
  ·exact nd
end L2

namespace L2
open PySem
def WA (t:Str):Prop:= ∀c∈t.cps.toList,Cn c
instance (t:Str):Decidable (WA t):=inferInstanceAs (Decidable (∀c∈_,_))
structure Xd (w:Str):Prop where
 ne:w.cps.toList≠[]
 nb: ∀c∈w.cps.toList,¬Cn c
 sh:w.length<=61
theorem FH.t {w:Str}(h:FH w):Xd w:=⟨h.ne,h.nb,h.sh⟩
theorem Ny {t:Str}(h:t.length<=1000000):(∀w∈wordsT t,Xd w)->(wordsT t).length<=1000000->(Txt.replace t "\n" " ").length<=1000000/\(Txt.split (Txt.replace t "\n" " ") " ").length<=2000000:=fun _ _=>by
 have e1:=VQ t
 have e2:=RF (Txt.replace t "\n" " ") 32
 rw[<-HC]at e2
 (first|lia|omega)
theorem EC {hs:List FI}{x:Pg}(h:Lb hs x): ∀w∈xA x,Xd w:=fun w hw=>by
 have bx: ∀b∈x.1.2.1,Xd b:=fun b hb=>(Ay (h.hd.bx.ok b hb)).t
 rcases List.mem_cons.mp hw with z|hw
 ·rw[z];exact⟨by decide,by decide,by decide⟩
 rcases List.mem_cons.mp hw with z|hw
 ·rw[z];exact(Ay h.hd.nm).t
 rcases List.mem_append.mp hw with z|hw
 ·exact bx w (wF z)
 rcases List.mem_cons.mp hw with z|hw
 ·rw[z];exact⟨by decide,by decide,by decide⟩
 rcases List.mem_append.mp hw with z|hw
 ·exact bx w (vJ z)
 rcases List.mem_cons.mp hw with z|hw
 ·rw[z];exact⟨by decide,by decide,by decide⟩
 ·exact(h.wd w hw).t
end L2

namespace L2
open PySem
theorem Pc (c:Nat)(hc:Cn c): ∀(p acc r:List Nat),wl acc (p++c::r)=wl acc p++wl [] r
 |[],acc,r=>by
  rw[jM]
  conv=>lhs;unfold wl
  rw[zW hc]
  unfold wl
  by_cases z:acc=[]
  ·rw[zW z,zW z];rfl
  ·rw[zL z,zL z];rfl
 |d::p,acc,r=>by
  rw[qH]
  have e: ∀l,wl acc (d::l)=if Cn d then(if acc=[]then wl [] l else acc::wl [] l)else wl (acc++[d]) l:=fun l=>by rw[wl]
  rw[e,e,Pc c hc p,Pc c hc p]
  by_cases b:Cn d
  ·rw[zW b,zW b]
   by_cases z:acc=[]
   ·rw[zW z,zW z]
   ·rw[zL z,zL z];rfl
  ·rw[zL b,zL b]
theorem GZ (c:Nat)(hc:Cn c): ∀ps:List (List Nat),wl [] (vS c ps)=(ps.map (wl [])).flatten
 |[]=>rfl
 |[p]=>by
  show wl [] p=[wl [] p].flatten
  simp
 |p::p2::r=>by
  show wl [] (p++c::vS c (p2::r))=_
  rw[Pc c hc,GZ c hc (p2::r)]
  rfl
theorem Xo {w:List Nat}(h0:w≠[])(hb: ∀c∈w,¬Cn c):wl [] w=[w]:=by
 have:=Jz w [] [] hb
 rw[yX,jM]at this
 rw[this]
 unfold wl
 rw[zL h0]
theorem Tf {ws:List Str}(h: ∀w∈ws,Xd w)(c:Nat)(hc:Cn c):wl [] (vS c (ws.map fun x=>x.cps.toList))=ws.map fun x=>x.cps.toList:=by
 rw[GZ c hc,kS]
 have: ∀l:List Str,(∀w∈l,Xd w)->(l.map (wl []∘fun x=>x.cps.toList)).flatten =l.map fun x=>x.cps.toList:=fun l=>by
  induction l with
  |nil=>exact fun _=>rfl
  |cons x l ih=>
   intro hl
   have hx:=hl x (zP ..)
   rw[yK,Eb,ih (fun w hw=>hl w (zT _ hw)),yK]
   show wl [] x.cps.toList++_=_
   rw[Xo hx.ne hx.nb]
   rfl
 exact this ws h
theorem Qe {lss:List (List Str)}(h: ∀ls∈lss,∀w∈ls,Xd w):wordsT (Txt.join "\n" (lss.map (Txt.join " ")))=lss.flatten:=by
 refine Wz ?_
 have e:(Txt.join "\n" (lss.map (Txt.join " "))).cps.toList =vS 10 ((lss.map (Txt.join " ")).map fun x=>x.cps.toList):=by
  rw[PR]
  have:=AJ 10 (lss.map (Txt.join " "))
  rw[<-this]
  exact xT (fun t:Str=>t.cps.toList) (qV _ _)
 rw[Te,e,GZ 10 (.inr rfl),kS,kS]
 induction lss with
 |nil=>rfl
 |cons ls lss ih=>
  rw[yK,Eb,Eb,yA]
  congr 1
  ·show wl [] (Txt.join " " ls).cps.toList =_
   have e:(Txt.join " " ls).cps.toList =vS 32 (ls.map fun x=>x.cps.toList):=by
    rw[HC]
    have:=AJ 32 ls
    rw[<-this]
    exact xT (fun t:Str=>t.cps.toList) (qV _ _)
   rw[e,Tf (h ls (zP ..)) 32 (.inl rfl)]
  ·refine ih (fun l hl=>h l (zT _ hl)) ?_
   have e:(Txt.join "\n" (lss.map (Txt.join " "))).cps.toList =vS 10 ((lss.map (Txt.join " ")).map fun x=>x.cps.toList):=by
    rw[PR]
    have:=AJ 10 (lss.map (Txt.join " "))
    rw[<-this]
    exact xT (fun t:Str=>t.cps.toList) (qV _ _)
   exact e
section
variable {pre:List Pg}{D:List Str}
end
section
variable {W R:List Str}{a:Nat}{num:List (Str×Int)}{cnt:List Int}{bs:List Str}
end
end L2

namespace L2
open PySem PySem.Spec PyProof.Rows
section
variable {pg:Program}{wd:World}{B:Around}{xs:Value->Shared->Prop}
end
section
variable {X:Cx}{pos:Pos}
end
end L2

namespace L2
open PySem PySem.Spec PyProof.Rows
section
variable {prog:Program}{w:World}{A:Around}{R:Result->Shared->Prop}
end
section
variable {X:Cx}
theorem Lk: ∀{as:List Addr} {us:List Value},jP (as.map V.ref) us->us=as.map Value.ref
 |[],_,.nil=>rfl
 |n::ns,_,.cons h t=>by
  rw[Lk t,yK]
  congr 1
end
end L2

namespace L2
open PySem PySem.Spec PyProof.Rows
section
variable {X:Cx}{e o:Expr}{es:List Expr}{to:TE}{t:TA}{name:Str}{apos cpos:Pos}{T id:String}{r:V->List V->Hp->VK->Prop}
theorem UA (K:PySem.W.Frag)(hK:X.K=K):SY X "str.join" (Tx K):=hK▸Gz
theorem XL (K:PySem.W.Frag)(hK:X.K=K)(pa:PlainAttrs T)(slot:Slot T name id)(hty:typeOf (.builtin id)=pure (.type "method_descriptor"))(hm:SY X id r)(ho:PE X o to)(ha:PA X (e::es) t)
  (hbase:attributeBase o name X.env (eval o X.env)=eval o X.env:=by rfl)
  (hfew:((backTo cpos (starEach (e::es) X.env)).all (fun x=>!x.1)&&(backToKw cpos (keywordEach [] X.env)).all (fun x=>x.1.isSome)
   &&decide ((e::es).length +([]:List Keyword).length +(if([]:List Keyword).isEmpty then 0 else 1)<30))=true:=by rfl)
  (hline:(apos.endLine==cpos.line)=true:=by rfl) (hs:starEach (e::es) X.env=(false,eval e X.env)::starEach es X.env:=by rfl) (hplain:(backTo cpos (starEach es X.env)).any (·.1)=false:=by rfl):
  PE X (.Call (.Attribute o name apos) (e::es) [] cpos) (tBM K T r to t):=hK▸kK pa slot hty hm ho ha hbase hfew hline hs hplain
end
end L2

namespace L2
open PySem PySem.Spec PyProof.Rows

section
variable {κ:Type}[DecidableEq κ]
def Cv (kvs:List (κ×V))(k:κ):Option V:=(kvs.find? fun kv=>decide (kv.1=k)).map (·.2)
def Ju (kvs:List (κ×V))(k:κ)(v:V):List (κ×V):=
 if(kvs.any fun kv=>decide (kv.1=k))=true then kvs.map (fun kv=>if kv.1=k then(kv.1,v)else kv)else kvs++[(k,v)]
theorem FL {p:κ×V}{r:List (κ×V)}{k:κ}(e:p.1=k):Cv (p::r) k=some p.2:=by simp[Cv,uO,e]
theorem FN {p:κ×V}{r:List (κ×V)}{k:κ}(e: ¬p.1=k):Cv (p::r) k=Cv r k:=by simp[Cv,uO,e]
theorem NC (k:κ): ∀kvs:List (κ×V),(kvs.any fun kv=>decide (kv.1=k))=(Cv kvs k).isSome
 |[]=>rfl
 |p::r=>by
  rw[uU]
  by_cases e:p.1=k
  ·simp only[FL e,yE e,Bool.true_or,Option.isSome_some]
  ·rw[FN e,yJ e,Bool.false_or];exact NC k r
theorem Ou (kvs:List (κ×V))(k:κ)(v:V):(Ju kvs k v).length<=kvs.length+1:=by
 unfold Ju
 split
 ·rw[zD];(first|lia|omega)
 ·rw[zC,zJ,wK];(first|lia|omega)
theorem TC {kvs:List (κ×V)}{k:κ}(v:V)(h:Cv kvs k=none):Ju kvs k v=kvs++[(k,v)]:=by
 unfold Ju
 rw[NC,h]
 exact zL (by decide)

theorem Dx.isSome_eq {o:Option V}{u:Option Value}(r:Dx o u):o.isSome=u.isSome:=by
 cases o with
 |none=>cases u with
  |none=>rfl
  |some _=>exact(show False from r).elim
 |some _=>cases u with
  |none=>exact(show False from r).elim
  |some _=>rfl
theorem Dx.getD {o:Option V}{u:Option Value}{d:V}{d':Value}(r:Dx o u)(rd:kB d d'):kB (o.getD d) (u.getD d'):=by
 cases o with
 |none=>cases u with
  |none=>exact rd
  |some _=>exact(show False from r).elim
 |some _=>cases u with
  |none=>exact(show False from r).elim
  |some _=>exact r

theorem KV.val {kvs:List (κ×V)}{vs:List (κ×Value)}(r:KV kvs vs)(k:κ):Dx (Cv kvs k) (valueAt vs k):=by
 unfold KV at r
 induction r with
 |nil=>exact True.intro
 |@cons p q ps qs h t ih=>
  obtain⟨h1,h2⟩:=h
  by_cases e:p.1=k
  ·have e':q.1=k:=h1.symm.trans e
   have b:valueAt (q::qs) k=some q.2:=by simp[valueAt,uO,e']
   rw[FL e,b];exact h2
  ·have e': ¬q.1=k:=fun z=>e (h1.trans z)
   have b:valueAt (q::qs) k=valueAt qs k:=by simp[valueAt,uO,e']
   rw[FN e,b];exact ih
theorem KV.any {kvs:List (κ×V)}{vs:List (κ×Value)}(r:KV kvs vs)(k:κ):(kvs.any fun kv=>decide (kv.1=k))=vs.any fun kv=>decide (kv.1=k):=by
 unfold KV at r
 induction r with
 |nil=>rfl
 |cons h t ih=>rw[uU,uU,ih,h.1]
theorem KV.repl {kvs:List (κ×V)}{vs:List (κ×Value)}(r:KV kvs vs)(k:κ){y:V}{u:Value}(ry:kB y u):
  KV (kvs.map fun kv=>if kv.1=k then(kv.1,y)else kv) (vs.map fun kv=>if kv.1=k then(kv.1,u)else kv):=by
 unfold KV at r ⊢
 induction r with
 |nil=>exact .nil
 |@cons p q ps qs h t ih=>
  rw[yK,yK]
  refine .cons ?_ ih
  obtain⟨h1,h2⟩:=h
  by_cases e:p.1=k
  ·rw[zW e,zW (h1.symm.trans e)];exact⟨h1,ry⟩
  ·rw[zL e,zL (fun z=>e (h1.trans z))];exact⟨h1,h2⟩
theorem KV.put {kvs:List (κ×V)}{vs:List (κ×Value)}(r:KV kvs vs)(k:κ){y:V}{u:Value}(ry:kB y u):KV (Ju kvs k y) (stored vs k u):=by
 unfold Ju stored
 rw[r.any k]
 by_cases e:(vs.any fun kv=>decide (kv.1=k))=true
 ·rw[zW e,zW e];exact r.repl k ry
 ·rw[zL e,zL e];exact qG r ⟨rfl,ry⟩
theorem KV.length {kvs:List (κ×V)}{vs:List (κ×Value)}(r:KV kvs vs):kvs.length=vs.length:=Cg r
end


theorem Ks {P:Program}{w:World}{k:Bj}{u:Value}(r:kB (kV k) u):(qT P w).is k u=true:=by
 cases k with
 |inl i=>obtain⟨t,e⟩:=(show ∃t,u=Value.int i t from r);subst e;exact Os P w i t
 |inr x=>obtain⟨t,e⟩:=(show ∃t,u=Value.str x t from r);subst e;exact Oq P w x t
theorem LL {P:Program}{w:World}: ∀{ks:List Bj} {us:List Value},jP (ks.map kV) us->ItemsAre (qT P w) ks us
 |[],_,r=>by rw[List.map_nil]at r;cases r;exact .nil
 |k::ks,_,r=>by
  rw[yK]at r
  cases r with
  |cons h t=>exact .cons (Ks h) (LL t)

abbrev KT (H:Hp):List (List Bj×V)->List (List Bj×Addr×Value)->Prop:=Paired fun p q=>p.1=q.1/\H q.2.1=some (.tup (p.1.map kV))/\kB p.2 q.2.2
theorem KT.val {H:Hp}{kvs:List (List Bj×V)}{xs:List (List Bj×Addr×Value)}(r:KT H kvs xs)(k:List Bj):Dx (Cv kvs k) ((atKey xs k).map (·.2)):=by
 induction r with
 |nil=>exact True.intro
 |@cons p q ps qs h t ih=>
  obtain⟨h1,_,h2⟩:=h
  by_cases e:p.1=k
  ·have e':q.1=k:=h1.symm.trans e
   have b:atKey (q::qs) k=some q.2:=by simp[atKey,uO,e']
   rw[FL e,b];exact h2
  ·have e': ¬q.1=k:=fun z=>e (h1.trans z)
   have b:atKey (q::qs) k=atKey qs k:=by simp[atKey,uO,e']
   rw[FN e,b];exact ih
section
variable {P:Program}{w:World}{H:Hp}{h:Heap}{a:Addr}
theorem WP {u:HO}(ok:GL P w H h)(e:Rd H a u):wI P w H h a u:=e.ok ok
theorem LW {kvs:List (Bj×V)}(ok:GL P w H h)(e:Rd H a (.dK kvs)):kvs.length<=sizeLine/\(a==sysModules)=false/\ ∃vs,KV kvs vs/\h.DictOf (qT P w) a vs:=
 show wI P w H h a (.dK kvs)from WP ok e
theorem Zt {kvs:List (Bj×V)}(ok:GL P w H h)(e:H a=some (.dK kvs)):kvs.length<=sizeLine/\(a==sysModules)=false/\ ∃vs,KV kvs vs/\h.DictOf (qT P w) a vs:=LW ok (.inl e)
theorem MV {ks:List Bj}(ok:GL P w H h)(e:H a=some (.tup (ks.map kV))):(tupleKind (qT P w)).is h ks a:=by
 obtain⟨_,its,r,o,h1,h2,n,h3⟩:=(show wI P w H h a (.tup (ks.map kV))from ok a _ e)
 exact⟨o,its.toArray,n,h1,h2,h3,by simpa using LL r⟩
theorem OI {kvs:List (List Bj×V)}(ok:GL P w H h)(e:Rd H a (.dT kvs)):kvs.length<=sizeLine/\(a==sysModules)=false/\
  ∃xs,KT H kvs xs/\h.DictOfH (tupleKind (qT P w)) a xs:=by
 obtain⟨z,y,xs,r,o,es,ep,h1,h2,h3,h4,h5⟩:=(show wI P w H h a (.dT kvs)from WP ok e)
 refine⟨z,y,xs,r,o,es,ep,h1,h2,h3,h4,fun x hx=>?_,h5⟩
 have all: ∀{l:List (List Bj×V)} {m:List (List Bj×Addr×Value)},KT H l m-> ∀x∈m,(tupleKind (qT P w)).is h x.1 x.2.1:=by
  intro l m q
  induction q with
  |nil=>intro x hx;exact nomatch hx
  |@cons p q ps qs hq t ih=>
   intro x hx
   rcases List.mem_cons.mp hx with e|hx
   ·subst e
    exact MV ok (by rw[<-hq.1];exact hq.2.1)
   ·exact ih x hx
 exact all r x hx
end

def IY (H:Hp)(a:Addr)(y:V)(r:Option V):Prop:=
 (∃kvs k,Rd H a (.dK kvs)/\y=kV k/\r=Cv kvs k)\/ ∃kvs k b,Rd H a (.dT kvs)/\y=.ref b/\H b=some (.tup (k.map kV))/\r=Cv kvs k
theorem IY.k {H:Hp}{a:Addr}{kvs:List (Bj×V)}{k:Bj}(e:H a=some (.dK kvs)):IY H a (kV k) (Cv kvs k):=.inl ⟨kvs,k,.inl e,rfl,rfl⟩
section
variable {X:Cx}{pins:List (Addr×Obj)}{σ:St}{H:Hp}{s:Shared}{a:Addr}{y v:V}{u r:Value}{o:Option V}{A:Around}{E:Value->Shared->Prop}

theorem xM.big (I:xM X pins σ H s):sysModules<s.heap.objs.size:=by
 have h:mainGlobals<s.heap.objs.size:=(I.mod.glob.keeps I.bk).lt
 exact qB (by decide) h

theorem SL {Q:Value->Shared->Prop}(hu:A.units+1<cLine)(I:xM X pins σ H s)(g:IY H a y (some v))(ry:kB y u)(h: ∀w' s',xM X pins σ H s'->kB v w'->Q w' s'):
  wpAny (model X.prog X.w) A (getItem (.ref a) u) Q E s:=by
 rcases g with⟨kvs,k,e,ey,l⟩|⟨kvs,k,b,e,ey,eb,l⟩
 ·subst ey
  obtain⟨z,hd,vs,rel,dd⟩:=LW I.hok e
  obtain⟨w',hw,rw'⟩:=Dx.some_of (v:=v) (o:=valueAt vs k) (by rw[l];exact rel.val k)
  exact wpAny_getItem_of (Ks ry) dd.mapOf hw (h w' _ (I.tok _) rw')
 ·subst ey
  cases(show u=Value.ref b from ry)
  obtain⟨z,hd,xs,rel,dd⟩:=OI I.hok e
  obtain⟨w',hw,rw'⟩:=Dx.some_of (v:=v) (o:=(atKey xs k).map (·.2)) (by rw[l];exact rel.val k)
  obtain⟨p,hp,hp2⟩:=Option.map_eq_some_iff.mp hw
  refine wpAny_getItem_heap (Dz hu) (MV I.hok eb) dd hp ?_
  rw[hp2]
  exact h w' _ (I.tok _) rw'
theorem Wx {Q:Value->Shared->Prop}(hu:A.units+1<cLine)(I:xM X pins σ H s)(g:IY H a y o)(ry:kB y u)(h: ∀s',xM X pins σ H s'->Q (.bool (!o.isSome)) s'):
  wpAny (model X.prog X.w) A (compareOp .NotIn u (.ref a)) Q E s:=by
 rcases g with⟨kvs,k,e,ey,l⟩|⟨kvs,k,b,e,ey,eb,l⟩
 ·subst ey
  obtain⟨z,hd,vs,rel,dd⟩:=LW I.hok e
  refine wpAny_notIn_of (Ks ry) hd dd.mapOf ?_
  rw[<-(rel.val k).isSome_eq,<-l]
  exact h _ (I.tok _)
 ·subst ey
  cases(show u=Value.ref b from ry)
  obtain⟨z,hd,xs,rel,dd⟩:=OI I.hok e
  refine wpAny_notIn_heap (Dz hu) (MV I.hok eb) hd dd ?_
  have q:=(rel.val k).isSome_eq
  rw[Option.isSome_map]at q
  rw[<-q,<-l]
  exact h _ (I.tok _)
theorem Ww {h':Heap}{t':Nat}{ob:HO}(I:xM X pins σ H s)(mu:ZD (H a))(hs:Heap.SameBut a s.heap h')(he: ∃q,h'.get? a=some q)(new:wI X.prog X.w (upd H a ob) h' a ob):
  xM X pins σ (upd H a ob) {s with heap:=h',toks:=t'}:=
 I.write (x:=a) (e:=a) mu (.inl rfl) (fun b q hb z=>(hs.2 b hb).trans z) he new
theorem Vg {P:Program}{w:World}{H':Hp}{h':Heap}{kvs:List (Bj×V)}{vs:List (Bj×Value)}(z:kvs.length<=sizeLine)(hd:(a==sysModules)=false)(rel:KV kvs vs)(dd:h'.DictOf (qT P w) a vs):
  wI P w H' h' a (.dK kvs):=⟨z,hd,vs,rel,dd⟩
end

section
variable {X:Cx}{pins:List (Addr×Obj)}{σ:St}{H:Hp}{s:Shared}{a:Addr}{kvs:List (Bj×V)}{k:Bj}{u:Value}{A:Around}{E:Value->Shared->Prop}
end


def ZC (i:Expr):Prop:= ∀ov iv,subscripted i false ov iv=operate [ov,iv] (getItem ov iv)
theorem VH {prog:Program}{w:World}{A:Around}{E:Value->Shared->Prop}{s:Shared}{env:Env}{value slice:Expr}{pos:Pos}{T id:String}{Q:Value->Shared->Prop}
  (hl:typeLookup (.type T) "__getitem__"=pure (some (.builtin id))) (hs:ZC slice)
  (h:wpAny (model prog w) A (eval value env) (fun o s₁=>wpAny (model prog w) A (eval slice env) (fun i s₂=>s₂.TypeIs o T/\wpAny (model prog w) A (getItem o i) Q E s₂) E s₁) E s):
  wpAny (model prog w) A (eval (.Subscript value slice pos) env) Q E s:=by
 refine Subscript_ (vQ h (fun o s₁ h₁=>vQ h₁ (fun i s₂ h₂=>?_) fun _ _ x=>x) fun _ _ x=>x)
 obtain⟨hT,h₂⟩:=h₂
 unfold subscriptTail
 refine zE ?_
 rw[getitemInPython_of_ne hT.not_modules]
 refine zE (CF hT hl ?_)
 have fin:wpAny (model prog w) A (subscripted slice false o i) (fun r s₃=>wpAny (model prog w) A (letTemporaryGo value o r>>=fun _=>pure r) Q E s₃) E s₂:=by
  rw[hs o i]
  exact wpAny_operating (vQ h₂ (fun r s₃ h₃=>zE (wpAny_letTemporaryGo (zR h₃))) fun _ _ x=>x)
 first
  |exact zR (zE fin)
  |exact zE (zR (zE fin))
  |exact zE fin

theorem OK {X:Cx}{pins:List (Addr×Obj)}{σ:St}{H:Hp}{s:Shared}{a:Addr}{y:V}{o:Option V}(I:xM X pins σ H s)(g:IY H a y o):s.TypeIs (.ref a) "dict":=by
 rcases g with⟨kvs,k,e,_,_⟩|⟨kvs,k,b,e,_,_,_⟩
 ·obtain⟨_,_,vs,_,dd⟩:=LW I.hok e
  exact dd.typeIs
 ·obtain⟨_,_,xs,_,dd⟩:=OI I.hok e
  exact dd.typeIs
def YN (td ty:TE):TE:=fun σ H Q=>td σ H fun x H1=>ty σ H1 fun y H2=> ∃a v,x=.ref a/\IY H2 a y (some v)/\Q v H2
def VG (ty td:TE):TE:=fun σ H Q=>ty σ H fun y H1=>td σ H1 fun x H2=> ∃a o,x=.ref a/\IY H2 a y o/\Q (.bl (!o.isSome)) H2
section
variable {X:Cx}{o i e value:Expr}{pos pos' tpos:Pos}{td ty tv:TE}
theorem QQ (hu:X.A.units+1<cLine)(ho:PE X o td)(hi:PE X i ty)(hs:ZC i):PE X (.Subscript o i pos) (YN td ty):=by
 refine⟨?_⟩
 intro pins s σ H Q I h
 refine VH PySem.F.slot_dict_getitem.lookup hs (qR (ho pins s σ H _ I h) fun u s1 ⟨x,H1,I1,rx,q1⟩=>qR (hi pins s1 σ H1 _ I1 q1) fun iv s2 hzz=>?_)
 obtain⟨y,H2,I2,ry,a,v,ex,g,q2⟩:=hzz
 subst ex
 obtain rfl:u=Value.ref a:=rx
 exact⟨OK I2 g,SL hu I2 g ry fun w' s3 I3 rw'=>⟨v,H2,I3,rw',q2⟩⟩
theorem RO (hu:X.A.units+1<cLine)(hi:PE X i ty)(ho:PE X o td):PC X .NotIn i o (VG ty td):=by
 refine⟨?_⟩
 intro pins s σ H Q I h
 refine qR (hi pins s σ H _ I h) fun iv s1 ⟨y,H1,I1,ry,q1⟩=>qR (ho pins s1 σ H1 _ I1 q1) fun u s2 hzz=>?_
 obtain⟨x,H2,I2,rx,a,ov,ex,g,q2⟩:=hzz
 subst ex
 obtain rfl:u=Value.ref a:=rx
 exact Wx hu I2 g ry fun s3 I3=>⟨.bl (!ov.isSome),H2,I3,rfl,q2⟩
end


theorem Vh {P:Program}{w:World}{H:Hp}(h:Heap)(hb:sysModules<h.objs.size):wI P w H (h.push {cls:=.type "dict",data:=.dict #[]}) h.objs.size (.dK []):=
 ⟨yZ _,beq_eq_false_iff_ne.mpr (Ne.symm (xK hb)),[],.nil,Heap.DictOf.new h⟩
def Xt:TE:=fun _ H Q=> ∀p,H p=none->Q (.ref p) (upd H p (.dK []))
section
variable {X:Cx}{pos:Pos}
theorem TY:PE X (.Dict [] [] pos) Xt:=⟨fun pins s σ H Q I h=>
 wpAny_Dict_empty ⟨.ref s.heap.objs.size,_,I.laid (a:=s.heap.objs.size) (o:=.dK []) (t':=s.toks) (fun _ _ q=>zI _ q) (zS _) (Vh s.heap I.big),rfl,h _ (I.hok.fresh (zS _))⟩⟩
end

structure M2 (X:Cx)(o:Expr)(m:Str)(apos:Pos)(e f:Expr)(cpos:Pos):Prop where
 base:attributeBase o m X.env (eval o X.env)=eval o X.env
 few:((backTo cpos (starEach [e,f] X.env)).all (fun x=>!x.1)&&(backToKw cpos (keywordEach [] X.env)).all (fun x=>x.1.isSome)
  &&decide (([e,f]:List Expr).length +([]:List Keyword).length +(if([]:List Keyword).isEmpty then 0 else 1)<30))=true
 line:(apos.endLine==cpos.line)=true
 trees:backTo cpos (starEach [e,f] X.env)=[(false,eval e X.env),(false,eval f X.env)]

def IsD (H:Hp)(a:Addr):Prop:=(∃kvs,Rd H a (.dK kvs))\/ ∃kvs,Rd H a (.dT kvs)
theorem UM {X:Cx}{pins:List (Addr×Obj)}{σ:St}{H:Hp}{s:Shared}{a:Addr}(I:xM X pins σ H s)(d:IsD H a):
  s.TypeIs (.ref a) "dict"/\(∀b,Value.ref a=.ref b-> ∃ob,s.heap.get? b=some ob/\ob.dict=none)/\(a==sysModules)=false:=by
 rcases d with⟨kvs,e⟩|⟨kvs,e⟩
 ·obtain⟨_,hd,vs,_,dd⟩:=LW I.hok e
  refine⟨dd.typeIs,fun b q=>?_,hd⟩
  cases q
  obtain⟨ob,_,_,h1,h2,_⟩:=dd
  exact⟨ob,h1,h2.2.1⟩
 ·obtain⟨_,hd,xs,_,dd⟩:=OI I.hok e
  refine⟨dd.typeIs,fun b q=>?_,hd⟩
  cases q
  obtain⟨ob,_,_,h1,h2,_⟩:=dd
  exact⟨ob,h1,h2.2.1⟩

section
variable {X:Cx}{pins:List (Addr×Obj)}{σ:St}{H:Hp}{s:Shared}{a:Addr}{y d:V}{u r:Value}{o:Option V}{A:Around}{E:Value->Shared->Prop}
theorem Yh {Q:Value->Shared->Prop}(hu:A.units+1<cLine)(I:xM X pins σ H s)(g:IY H a y o)(ry:kB y u)(rd:kB d r)(h: ∀w' s',xM X pins σ H s'->kB (o.getD d) w'->Q w' s'):
  wpAny (model X.prog X.w) A (call (.builtin "dict.get") [.ref a,u,r]) Q E s:=by
 rcases g with⟨kvs,k,e,ey,l⟩|⟨kvs,k,b,e,ey,eb,l⟩
 ·subst ey
  obtain⟨z,hd,vs,rel,dd⟩:=LW I.hok e
  refine call_meetsIn BM dd.typeIs PySem.F.entry_dict_get (EU _ _ _) (meets_dict_get_default (qT X.prog X.w) a (Ks ry) hd r) ⟨_,dd.mapOf,h _ _ (I.tok _) ?_⟩
  rw[l]
  exact(rel.val k).getD rd
 ·subst ey
  cases(show u=Value.ref b from ry)
  obtain⟨z,hd,xs,rel,dd⟩:=OI I.hok e
  refine call_meetsIn BM dd.typeIs PySem.F.entry_dict_get (EU _ _ _) (meetsH_dict_get_default (tupleKind (qT X.prog X.w)) a b hd r) ⟨Dz hu,k,xs,MV I.hok eb,dd,h _ _ (I.tok _) ?_⟩
  rw[l]
  exact(rel.val k).getD rd
end

def Xu (td ty tx:TE):TE:=fun σ H Q=>td σ H fun x H1=> ∃a,x=.ref a/\IsD H1 a/\ty σ H1 fun y H2=>tx σ H2 fun z H3=> ∃o,IY H3 a y o/\Q (o.getD z) H3
section
variable {X:Cx}{o e f:Expr}{apos cpos:Pos}{td ty tx:TE}
theorem TZ (hu:X.A.units+1<cLine)(ho:PE X o td)(he:PE X e ty)(hf:PE X f tx)(m:M2 X o "get" apos e f cpos):PE X (.Call (.Attribute o "get" apos) [e,f] [] cpos) (Xu td ty tx):=by
 refine⟨?_⟩
 intro pins s σ H Q I h
 refine wpAny_Call_method m.base m.few m.line ET BM PySem.F.type_dict_get (qR (ho pins s σ H _ I h) fun u s1 hzz=>?_)
 obtain⟨x,H1,I1,rx,a,ex,d,q1⟩:=hzz
 subst ex
 obtain rfl:u=Value.ref a:=rx
 obtain⟨t1,t2,_⟩:=UM I1 d
 refine⟨t1,t2,?_⟩
 rw[m.trees]
 refine qP rfl (vK (qF (qR (he pins s1 σ H1 _ I1 q1) fun iv s2 ⟨y,H2,I2,ry,q2⟩=>
  qF (qR (hf pins s2 σ H2 _ I2 q2) fun fv s3 ⟨z,H3,I3,rz,ov,g,q3⟩=>Ag ?_))))
 exact Yh hu I3 g ry rz fun w' s4 I4 rw'=>⟨_,H3,I4,rw',q3⟩
end

section
variable {X:Cx}{pins:List (Addr×Obj)}{σ:St}{H:Hp}{s:Shared}{a:Addr}{kvs:List (Bj×V)}{A:Around}{E:Value->Shared->Prop}
end


section
variable {X:Cx}{pins:List (Addr×Obj)}{σ:St}{H:Hp}{s:Shared}{a:Addr}{y:V}{u:Value}{A:Around}{E:Value->Shared->Prop}
end
end L2
namespace L2
open PySem PySem.Spec PyProof.Rows
section
variable {X:Cx}
end
end L2

namespace L2
open PySem PySem.Spec PyProof.Rows
section
variable {X:Cx}
end
theorem Kv (k:Int): ∀ns:List Int,WV (.int k) (ns.map V.int)=decide (k∈ns)
 |[]=>rfl
 |n::r=>by
  have ih:=Kv k r
  unfold WV at ih ⊢
  rw[yK,uU,ih]
  by_cases h:n=k
  ·subst h;simp[Nc]
  ·have h2: ¬k=n:=fun z=>h z.symm
   simp[Nc,h,h2]
theorem vt {a b:Int}(c:decide (V.int a=V.int b)=true):a=b:=by
 have:=yB c
 injection this
theorem vf {a b:Int}(c: ¬decide (V.int a=V.int b)=true):a≠b:=fun e=>c (yE (by rw[e]))
theorem df {c:Prop}[Decidable c](h: ¬decide c=true): ¬c:=kL (Bool.eq_false_iff.mpr h)
theorem Rx {ns:List Int}{k:Int}(h0:0<=k)(h:k<(ns.length:Int)): ∃v:Int,v∈ns/\Fz (ns.map V.int) k=some (.int v):=by
 have hk:k.toNat<ns.length:=by(first|lia|omega)
 have q:Fz (ns.map V.int) ((k.toNat:Nat):Int)=some (.int ns[k.toNat]):=By (by rw[zN,zB hk]<;>rfl)
 rw[show((k.toNat:Nat):Int)=k by(first|lia|omega)]at q
 exact⟨_,Ca hk,q⟩
end L2

namespace L2
open PySem PySem.Spec PyProof.Rows
end L2

namespace L2
open PySem PySem.Spec PyProof.Rows
structure Nx (prog:Program)(w:World)(it a:Addr)(xs:Array Value)(St:Nat->Heap->Prop):Prop where
 item: ∀{A:Around} {E:Value->Shared->Prop} {k:Nat} {s:Shared} {x:Value} {Q:Value->Shared->Prop},St k s.heap->xs[k]? =some x->(∀h',St (k+1) h'->Heap.SameBut it s.heap h'->Q x {s with heap:=h'})->wpAny (model prog w) A (Builtin.SmallTypes.nextOf (.ref it)) Q E s
 stop: ∀{A:Around} {E:Value->Shared->Prop} {k:Nat} {s:Shared} {Q:Value->Shared->Prop},A.handled=none->St k s.heap->xs[k]? =none->(∀h' e,Heap.ExtBut it s.heap h'->(∃o,h'.get? e=some o/\o.cls=.type "StopIteration")->E (.ref e) {s with heap:=h'})->wpAny (model prog w) A (Builtin.SmallTypes.nextOf (.ref it)) Q E s
 keep: ∀{k:Nat} {h h':Heap},St k h->(∀o,h.get? it=some o->h'.get? it=some o)->(∀o,h.get? a=some o->h'.get? a=some o)->St k h'
 here: ∀{k:Nat} {h:Heap},St k h->(∃o,h.get? it=some o/\ ∀v,o.data≠ .cell v)/\ ∃o,h.get? a=some o
section
variable {prog:Program}{w:World}{it a:Addr}{xs:Array Value}
theorem Nx.list (ne:a≠it):Nx prog w it a xs (fun k h=>h.IsListIter it a k/\h.IsList a xs) where
 item:=fun st hx q=>wpAny_nextOf_list_item st.1 st.2 hx fun h' i sb=>q h' ⟨i,st.2.extBut sb.extBut ne⟩ sb
 stop:=fun hh st hx q=>wpAny_nextOf_list_end hh st.1 st.2 hx q
 keep:=fun st k1 k2=>by
  obtain⟨⟨o,e,r⟩,o2,e2,r2⟩:=st
  exact⟨⟨o,k1 o e,r⟩,o2,k2 o2 e2,r2⟩
 here:=fun st=>by
  obtain⟨⟨o,e,r1,r2⟩,o2,e2,_⟩:=st
  exact⟨⟨o,e,fun v z=>by rw[r2]at z;cases z⟩,o2,e2⟩
theorem PU {A:Around}{E:Value->Shared->Prop}{k:Nat}{s:Shared}{x:Value}{Q:Value->Shared->Prop}(hit:s.heap.IsTupleIter it a k)(ht:s.heap.IsTuple a xs)(hx:xs[k]? =some x)(q: ∀h',h'.IsTupleIter it a (k+1)->Heap.SameBut it s.heap h'->Q x {s with heap:=h'}):
  wpAny (model prog w) A (Builtin.SmallTypes.nextOf (.ref it)) Q E s:=by
 obtain⟨o,ho,hc,hd⟩:=id hit
 obtain⟨ol,hol,_,nl,hdl⟩:=ht
 unfold Builtin.SmallTypes.nextOf
 refine zE (jD (name:=Str.ofString "__next__") hit.typeIs wZ (kA wZ hit.typeIs Dl ?_ (CO _)))
 show wpAny _ _ (field (.ref it) 0>>=_) _ _ s
 refine zE (xB ho hd (x:=.ref a) rfl ?_)
 show wpAny _ _ (if(Value.ref a==Value.none)=true then _ else _) _ _ s
 rw[zL (show ¬((Value.ref a==Value.none)=true)from yI)]
 show wpAny _ _ (field (.ref it) 1>>=_) _ _ s
 refine zE (xB ho hd (x:=.int k 0) rfl ?_)
 show wpAny _ _ (seqItems? (.ref a)>>=_) _ _ s
 refine zE (kY hol hdl ?_)
 simp only[jR,hx]
 refine zE (wW ho hd (by simp) (zR ⟨x,rfl,zR (q _ ?_ (AI ..))⟩))
 exact⟨_,kD _ ho (vB (qE hd _)),(Ea ..).trans hc,by rw[qE hd];simp[rawInt]⟩
theorem Pk {A:Around}{E:Value->Shared->Prop}{k:Nat}{s:Shared}{Q:Value->Shared->Prop}(hh:A.handled=none)(hit:s.heap.IsTupleIter it a k)(ht:s.heap.IsTuple a xs)(hx:xs[k]? =none)
  (q: ∀h' e,Heap.ExtBut it s.heap h'->(∃o,h'.get? e=some o/\o.cls=.type "StopIteration")->E (.ref e) {s with heap:=h'}):wpAny (model prog w) A (Builtin.SmallTypes.nextOf (.ref it)) Q E s:=by
 obtain⟨o,ho,hc,hd⟩:=id hit
 obtain⟨ol,hol,_,nl,hdl⟩:=ht
 unfold Builtin.SmallTypes.nextOf
 refine zE (jD (name:=Str.ofString "__next__") hit.typeIs wZ (kA wZ hit.typeIs Dl ?_ (CO _)))
 show wpAny _ _ (field (.ref it) 0>>=_) _ _ s
 refine zE (xB ho hd (x:=.ref a) rfl ?_)
 show wpAny _ _ (if(Value.ref a==Value.none)=true then _ else _) _ _ s
 rw[zL (show ¬((Value.ref a==Value.none)=true)from yI)]
 show wpAny _ _ (field (.ref it) 1>>=_) _ _ s
 refine zE (xB ho hd (x:=.int k 0) rfl ?_)
 show wpAny _ _ (seqItems? (.ref a)>>=_) _ _ s
 refine zE (kY hol hdl ?_)
 simp only[jR,hx]
 refine zE (Ap (zE (wW ho hd (by simp) ?_)))
 show wpAny _ _ (newExc (.type "StopIteration") []>>=_) _ _ _
 refine zE ?_
 simp only[newExc,newTuple]
 refine zE (jU ?_ (by size_fits))
 refine zE (m:=firstArgMember _ _) (vX (a:=Value.none) (by first|rfl|(simp only[firstArgMember];rfl)) ?_)
 refine jU ?_ (by size_fits)
 simp only[raiseNew]
 refine zE (wpAny_handled ?_)
 rw[show A.in1.handled=none from hh]
 refine zE (zR (wpAny_throw ?_))
 exact q _ _ (((AI ..).extBut.push _).push _) ⟨_,yG _ rfl,rfl⟩
theorem Nx.tuple (ne:a≠it):Nx prog w it a xs (fun k h=>h.IsTupleIter it a k/\h.IsTuple a xs) where
 item:=fun st hx q=>PU st.1 st.2 hx fun h' i sb=>q h' ⟨i,st.2.extBut sb.extBut ne⟩ sb
 stop:=fun hh st hx q=>Pk hh st.1 st.2 hx q
 keep:=fun st k1 k2=>by
  obtain⟨⟨o,e,r⟩,o2,e2,r2⟩:=st
  exact⟨⟨o,k1 o e,r⟩,o2,k2 o2 e2,r2⟩
 here:=fun st=>by
  obtain⟨⟨o,e,r1,r2⟩,o2,e2,_⟩:=st
  exact⟨⟨o,e,fun v z=>by rw[r2]at z;cases z⟩,o2,e2⟩
end
structure ZA (z TI TO i1 i2 a1 a2:Addr):Prop where
 TIz:TI≠z
 TOz:TO≠z
 i1z:i1≠z
 i2z:i2≠z
 TITO:TI≠TO
 TIi1:TI≠i1
 TIi2:TI≠i2
 TOi1:TO≠i1
 TOi2:TO≠i2
 i12:i1≠i2
 a1z:a1≠z
 a1TO:a1≠TO
 a1i1:a1≠i1
 a1i2:a1≠i2
 a2z:a2≠z
 a2TO:a2≠TO
 a2i1:a2≠i1
 a2i2:a2≠i2
section
variable {prog:Program}{w:World}{A:Around}{E:Value->Shared->Prop}{s:Shared}{z TI TO i1 i2 a1 a2:Addr}{xs ys:Array Value}{S1 S2:Nat->Heap->Prop}{k:Nat}{u v:Value}
def K4 (z TO i1 i2:Addr)(h h':Heap):Prop:= ∀c o,c≠z->c≠TO->c≠i1->c≠i2->h.get? c=some o->h'.get? c=some o
theorem Tc (D:ZA z TI TO i1 i2 a1 a2)(N1:Nx prog w i1 a1 xs S1)(N2:Nx prog w i2 a2 ys S2){x y:Value}{Q:Value->Shared->Prop}(hz:IsZip s.heap z TI TO .none)(hTI:IsPair s.heap TI (.ref i1) (.ref i2))(hTO:IsPair s.heap TO u v)
  (s1:S1 k s.heap) (s2:S2 k s.heap) (hx:xs[k]? =some x) (hy:ys[k]? =some y)
  (q: ∀h',IsZip h' z TI TO (rawInt s.heap.objs.size)->IsPair h' TO x y->S1 (k+1) h'->S2 (k+1) h'->IsPair h' s.heap.objs.size x y->K4 z TO i1 i2 s.heap h'->Q (.ref s.heap.objs.size) {s with heap:=h'}):
  wpAny (model prog w) A (Builtin.«zip.__next__» ⟨[.ref z],[]⟩) (fun fin s'=> ∃v,fin=.done (.ret v)/\Q v s') E s:=by
 show wpAny _ _ (field (.ref z) 2>>=_) _ _ _
 refine zE (xB hz rfl (x:=.bool false) rfl ?_)
 show wpAny _ _ (field (.ref z) 3>>=_) _ _ _
 refine zE (xB hz rfl (x:=.ref TI) rfl (zE (kY hTI rfl ?_)))
 show wpAny _ _ (Builtin.SmallTypes.ownedTupleIsFree (.ref z)>>=_) _ _ _
 unfold Builtin.SmallTypes.ownedTupleIsFree
 refine zE (zE (xB hz rfl (x:=.none) rfl (zR ?_)))
 simp only[if_true]
 refine zE (Ap (zE (xB hz rfl (x:=.ref TO) rfl (zE (wA hz (by simp) fun h1 z1 b1=>zE ?_)))))
 have z1:IsZip h1 z TI TO .ellipsis:=z1
 simp only[List.zipIdx_cons,List.zipIdx_nil,vH,DD]
 refine zE (zE (Ep ?_))
 show wpAny _ _ (Builtin.SmallTypes.nextOf (.ref i1)>>=_) _ _ _
 have p1:S1 k h1:=N1.keep s1 (fun o e=>b1.extBut _ _ D.i1z e) (fun o e=>b1.extBut _ _ D.a1z e)
 refine zE (N1.item p1 hx fun h2 p2 b2=>zR ?_)
 have t2:IsPair h2 TO u v:=b2.extBut _ _ D.TOi1 (b1.extBut _ _ D.TOz hTO)
 refine zE (kY t2 rfl (zE (Cq t2 fun h3 t3 b3=>zE (wpAny_letGo (zR ?_)))))
 have t3:IsPair h3 TO x v:=t3
 refine zE (zE (Ep ?_))
 show wpAny _ _ (Builtin.SmallTypes.nextOf (.ref i2)>>=_) _ _ _
 have r3:S2 k h3:=N2.keep s2 (fun o e=>b3.extBut _ _ (Ne.symm D.TOi2) (b2.extBut _ _ (Ne.symm D.i12) (b1.extBut _ _ D.i2z e))) (fun o e=>b3.extBut _ _ D.a2TO (b2.extBut _ _ D.a2i1 (b1.extBut _ _ D.a2z e)))
 refine zE (N2.item r3 hy fun h4 r4 b4=>zR ?_)
 have t4:IsPair h4 TO x v:=b4.extBut _ _ D.TOi2 t3
 refine zE (kY t4 rfl (zE (Cq t4 fun h5 t5 b5=>zE (wpAny_letGo (zR (zR ?_))))))
 have t5:IsPair h5 TO x y:=t5
 refine zE (kY t5 rfl (zE (wpAny_newTuple ?_)))
 have sz:h5.objs.size=s.heap.objs.size:=by rw[b5.1,b4.1,b3.1,b2.1,b1.1]
 have z5:IsZip h5 z TI TO .ellipsis:=b5.extBut _ _ (Ne.symm D.TOz) (b4.extBut _ _ (Ne.symm D.i2z) (b3.extBut _ _ (Ne.symm D.TOz) (b2.extBut _ _ (Ne.symm D.i1z) z1)))
 have k5:K4 z TO i1 i2 s.heap h5:=fun c o c1 c2 c3 c4 e=>b5.extBut _ _ c2 (b4.extBut _ _ c4 (b3.extBut _ _ c2 (b2.extBut _ _ c3 (b1.extBut _ _ c1 e))))
 have p5:S1 (k+1) h5:=N1.keep p2 (fun o e=>b5.extBut _ _ (Ne.symm D.TOi1) (b4.extBut _ _ D.i12 (b3.extBut _ _ (Ne.symm D.TOi1) e))) (fun o e=>b5.extBut _ _ D.a1TO (b4.extBut _ _ D.a1i2 (b3.extBut _ _ D.a1TO e)))
 have r5:S2 (k+1) h5:=N2.keep r4 (fun o e=>b5.extBut _ _ (Ne.symm D.TOi2) e) (fun o e=>b5.extBut _ _ D.a2TO e)
 have zl:z<h5.objs.size:=yC z5
 show wpAny _ _ (Builtin.SmallTypes.ownedTupleHandOut (.ref z) (.ref h5.objs.size)>>=_) _ _ _
 unfold Builtin.SmallTypes.ownedTupleHandOut
 have z6:IsZip (h5.push {cls:=.type "tuple",data:=.seq #[x,y]}) z TI TO .ellipsis:=zI _ z5
 refine zE (zE (wA z6 (by simp) fun h7 z7 b7=>?_))
 have z7:IsZip h7 z TI TO (rawInt h5.objs.size):=z7
 refine wA z7 (by simp) fun h8 z8 b8=>?_
 have z8:IsZip h8 z TI TO (rawInt h5.objs.size):=z8
 have up: ∀c o,c≠z->h5.get? c=some o->h8.get? c=some o:=fun c o c1 e=>b8.extBut _ _ c1 (b7.extBut _ _ c1 (zI _ e))
 have t8:IsPair h8 h5.objs.size x y:=b8.extBut _ _ (kH zl) (b7.extBut _ _ (kH zl) (yG _ rfl))
 rw[sz]at z8 t8
 refine zR ⟨_,rfl,?_⟩
 show Q (.ref h5.objs.size) _
 rw[sz]
 exact q h8 z8 (up _ _ D.TOz t5) (N1.keep p5 (fun o e=>up _ o D.i1z e) (fun o e=>up _ o D.a1z e)) (N2.keep r5 (fun o e=>up _ o D.i2z e) (fun o e=>up _ o D.a2z e)) t8 fun c o c1 c2 c3 c4 e=>up c o c1 (k5 c o c1 c2 c3 c4 e)
theorem SZ (hh:A.handled=none)(D:ZA z TI TO i1 i2 a1 a2)(N1:Nx prog w i1 a1 xs S1)(N2:Nx prog w i2 a2 ys S2){Q:Fin->Shared->Prop}(hz:IsZip s.heap z TI TO .none)(hTI:IsPair s.heap TI (.ref i1) (.ref i2))(hTO:IsPair s.heap TO u v)
  (s1:S1 k s.heap) (s2:S2 k s.heap) (he:xs[k]? =none\/ys[k]? =none)
  (q: ∀h' e,K4 z TO i1 i2 s.heap h'->(∃o,h'.get? e=some o/\o.cls=.type "StopIteration")->E (.ref e) {s with heap:=h'}):wpAny (model prog w) A (Builtin.«zip.__next__» ⟨[.ref z],[]⟩) Q E s:=by
 show wpAny _ _ (field (.ref z) 2>>=_) _ _ _
 refine zE (xB hz rfl (x:=.bool false) rfl ?_)
 show wpAny _ _ (field (.ref z) 3>>=_) _ _ _
 refine zE (xB hz rfl (x:=.ref TI) rfl (zE (kY hTI rfl ?_)))
 show wpAny _ _ (Builtin.SmallTypes.ownedTupleIsFree (.ref z)>>=_) _ _ _
 unfold Builtin.SmallTypes.ownedTupleIsFree
 refine zE (zE (xB hz rfl (x:=.none) rfl (zR ?_)))
 simp only[if_true]
 refine zE (Ap (zE (xB hz rfl (x:=.ref TO) rfl (zE (wA hz (by simp) fun h1 z1 b1=>zE ?_)))))
 have z1:IsZip h1 z TI TO .ellipsis:=z1
 simp only[List.zipIdx_cons,List.zipIdx_nil,vH,DD]
 refine zE (zE (Ep ?_))
 show wpAny _ _ (Builtin.SmallTypes.nextOf (.ref i1)>>=_) _ _ _
 have p1:S1 k h1:=N1.keep s1 (fun o e=>b1.extBut _ _ D.i1z e) (fun o e=>b1.extBut _ _ D.a1z e)
 cases hx:xs[k]? with
 |none=>
  refine zE (N1.stop hh p1 hx fun h2 e b2 hzz=>?_)
  obtain⟨oe,hoe,hce⟩:=hzz
  have z2:IsZip h2 z TI TO .ellipsis:=b2 _ _ (Ne.symm D.i1z) z1
  have ez:e≠z:=fun x=>by subst x;rw[z2]at hoe;cases hoe;simp at hce
  exact wA z2 (by simp) fun h3 _ b3=>q h3 e (fun c o c1 _ c3 _ x=>b3.extBut _ _ c1 (b2 _ _ c3 (b1.extBut _ _ c1 x))) ⟨oe,b3.extBut _ _ ez hoe,hce⟩
 |some x=>
  have hy:ys[k]? =none:=he.resolve_left (by rw[hx];exact fun z=>nomatch z)
  refine zE (N1.item p1 hx fun h2 p2 b2=>zR ?_)
  have t2:IsPair h2 TO u v:=b2.extBut _ _ D.TOi1 (b1.extBut _ _ D.TOz hTO)
  refine zE (kY t2 rfl (zE (Cq t2 fun h3 t3 b3=>zE (wpAny_letGo (zR ?_)))))
  refine zE (zE (Ep ?_))
  show wpAny _ _ (Builtin.SmallTypes.nextOf (.ref i2)>>=_) _ _ _
  have r3:S2 k h3:=N2.keep s2 (fun o e=>b3.extBut _ _ (Ne.symm D.TOi2) (b2.extBut _ _ (Ne.symm D.i12) (b1.extBut _ _ D.i2z e))) (fun o e=>b3.extBut _ _ D.a2TO (b2.extBut _ _ D.a2i1 (b1.extBut _ _ D.a2z e)))
  refine zE (N2.stop hh r3 hy fun h4 e b4 hzz=>?_)
  obtain⟨oe,hoe,hce⟩:=hzz
  have z4:IsZip h4 z TI TO .ellipsis:=b4 _ _ (Ne.symm D.i2z) (b3.extBut _ _ (Ne.symm D.TOz) (b2.extBut _ _ (Ne.symm D.i1z) z1))
  have ez:e≠z:=fun x=>by subst x;rw[z4]at hoe;cases hoe;simp at hce
  exact wA z4 (by simp) fun h5 _ b5=>q h5 e (fun c o c1 c2 c3 c4 x=>b5.extBut _ _ c1 (b4 _ _ c4 (b3.extBut _ _ c2 (b2.extBut _ _ c3 (b1.extBut _ _ c1 x))))) ⟨oe,b5.extBut _ _ ez hoe,hce⟩
theorem On (D:ZA z TI TO i1 i2 a1 a2)(N1:Nx prog w i1 a1 xs S1)(N2:Nx prog w i2 a2 ys S2){x y:Value}{Q:Option Value->Shared->Prop}(hz:IsZip s.heap z TI TO .none)(hTI:IsPair s.heap TI (.ref i1) (.ref i2))(hTO:IsPair s.heap TO u v)
  (s1:S1 k s.heap) (s2:S2 k s.heap) (hx:xs[k]? =some x) (hy:ys[k]? =some y)
  (q: ∀h',IsZip h' z TI TO (rawInt s.heap.objs.size)->IsPair h' TO x y->S1 (k+1) h'->S2 (k+1) h'->IsPair h' s.heap.objs.size x y->K4 z TO i1 i2 s.heap h'->Q (some (.ref s.heap.objs.size)) {s with heap:=h'}):
  wpAny (model prog w) A (pyNext (.ref z)) Q E s:=by
 have hT:s.TypeIs (.ref z) "zip":=⟨_,hz,rfl⟩
 unfold pyNext
 exact zE (uT (jD (name:=Str.ofString "__next__") hT wL (kA wL hT Cb
  (Tc D N1 N2 hz hTI hTO s1 s2 hx hy fun h' e1 e2 e3 e4 e5 e6=>zR (q h' e1 e2 e3 e4 e5 e6)) (BJ _))))
theorem Rk (hh:A.handled=none)(D:ZA z TI TO i1 i2 a1 a2)(N1:Nx prog w i1 a1 xs S1)(N2:Nx prog w i2 a2 ys S2){Q:Option Value->Shared->Prop}(hz:IsZip s.heap z TI TO .none)(hTI:IsPair s.heap TI (.ref i1) (.ref i2))(hTO:IsPair s.heap TO u v)
  (s1:S1 k s.heap) (s2:S2 k s.heap) (he:xs[k]? =none\/ys[k]? =none) (q: ∀h',K4 z TO i1 i2 s.heap h'->Q none {s with heap:=h'}):wpAny (model prog w) A (pyNext (.ref z)) Q E s:=by
 have hT:s.TypeIs (.ref z) "zip":=⟨_,hz,rfl⟩
 unfold pyNext
 refine zE (uT (jD (name:=Str.ofString "__next__") hT wL (kA wL hT Cb
  (SZ (A:=A.in1) hh D N1 N2 hz hTI hTO s1 s2 he fun h' e hk ⟨o,ho,hc⟩=>?_) (BJ _))))
 refine zE (BZ (T:="StopIteration") (b:=true) ⟨o,ho,hc⟩ isSubtype_stop ?_)
 exact zR (q _ hk)
end
def OR (b:Bool)(K:PySem.W.Frag)(H:Hp)(a:Addr)(xs:List V):Prop:=if b=true then EH K H a xs else GK K H a xs
def Di (b:Bool)(h:Heap)(a:Addr)(xs:Array Value):Prop:=if b=true then h.IsTuple a xs else h.IsList a xs
def SI (b:Bool)(h:Heap)(it a:Addr)(k:Nat):Prop:=if b=true then h.IsTupleIter it a k else h.IsListIter it a k
def Ov (b:Bool)(a:Addr):Obj:={cls:=.type (if b=true then "tuple_iterator" else "list_iterator"),data:=.fields #[.ref a,.int 0 0]}
section
variable {prog:Program}{w:World}{A:Around}{E:Value->Shared->Prop}{s:Shared}{b:Bool}{it a:Addr}{xs:Array Value}{k:Nat}{h h':Heap}
theorem Ra {Q:Value->Shared->Prop}(hl:Di b s.heap a xs)(hQ:Q (.ref s.heap.objs.size) {s with heap:=s.heap.push (Ov b a)}):wpAny (model prog w) A (pyIter (.ref a)) Q E s:=by
 cases b with
 |true=>exact wpAny_pyIter_tuple (show s.heap.IsTuple a xs from hl) hQ
 |false=>exact Ad (show s.heap.IsList a xs from hl) hQ
theorem Nx.sq (ne:a≠it):Nx prog w it a xs (fun k h=>SI b h it a k/\Di b h a xs):=by
 cases b with
 |true=>exact Nx.tuple ne
 |false=>exact Nx.list ne
theorem SI.keep (st:SI b h it a k)(k1: ∀o,h.get? it=some o->h'.get? it=some o):SI b h' it a k:=by
 cases b with
 |true=>obtain⟨o,e,r⟩:=(show h.IsTupleIter it a k from st);exact⟨o,k1 o e,r⟩
 |false=>obtain⟨o,e,r⟩:=(show h.IsListIter it a k from st);exact⟨o,k1 o e,r⟩
theorem SI.obj (st:SI b h it a k): ∃o,h.get? it=some o/\ ∀v,o.data≠ .cell v:=by
 cases b with
 |true=>obtain⟨o,e,_,r⟩:=(show h.IsTupleIter it a k from st);exact⟨o,e,fun v z=>by rw[r]at z;cases z⟩
 |false=>obtain⟨o,e,_,r⟩:=(show h.IsListIter it a k from st);exact⟨o,e,fun v z=>by rw[r]at z;cases z⟩
theorem SI.new {h:Heap}(g:h.get? it=some (Ov b a)):SI b h it a 0:=by
 cases b with
 |true=>exact⟨_,g,rfl,rfl⟩
 |false=>exact⟨_,g,rfl,rfl⟩
theorem Di.push {o:Obj}(x:Di b h a xs):Di b (h.push o) a xs:=by
 cases b with
 |true=>obtain⟨q,e,r⟩:=(show h.IsTuple a xs from x);exact⟨q,zI _ e,r⟩
 |false=>obtain⟨q,e,r⟩:=(show h.IsList a xs from x);exact⟨q,zI _ e,r⟩
theorem Di.lt (x:Di b h a xs):a<h.objs.size:=by
 cases b with
 |true=>obtain⟨q,e,r⟩:=(show h.IsTuple a xs from x);exact yC e
 |false=>obtain⟨q,e,r⟩:=(show h.IsList a xs from x);exact yC e
end
section
variable {X:Cx}{pins:List (Addr×Obj)}{σ:St}{H:Hp}{s:Shared}{b:Bool}{a:Addr}{xs ys:List V}
theorem xM.sq (I:xM X pins σ H s)(h:OR b X.K H a xs): ∃its:List Value,jP xs its/\Di b s.heap a its.toArray/\xs.length<=sizeLine:=by
 cases b with
 |true=>
  obtain⟨its,r,p,z⟩:=I.tuple (show EH X.K H a xs from h)
  exact⟨its,r,p,z⟩
 |false=>
  obtain⟨its,r,p,z⟩:=I.list (show GK X.K H a xs from h)
  exact⟨its,r,p.isList,z⟩
theorem xM.sq_inj (I:xM X pins σ H s)(h:OR b X.K H a xs)(h':OR b X.K H a ys):xs=ys:=by
 cases b with
 |true=>exact I.tuple_inj h h'
 |false=>exact I.list_inj h h'
theorem xM.turnedL {h':Heap}{t':Nat}{L:List Addr}(I:xM X pins σ H s)(k: ∀b o,b∉L->s.heap.get? b=some o->h'.get? b=some o)(f: ∀b∈L,Lc X pins H b):xM X pins σ H {s with heap:=h',toks:=t'}:=by
 have ne: ∀b u,H b=some u->b∉L:=fun b u q z=>by
  have:=(f b z).1
  rw[this]at q;cases q
 have nl:X.env.locals∉L:=fun z=>(f _ z).2.1 rfl
 refine I.step (g':=s.gens) (d':=s.drawn) (ch:=L) (fun b hb=>⟨(f b hb).2.2.2.1,(f b hb).2.1,(f b hb).2.2.2.2.1,(f b hb).2.2.2.2.2⟩) (fun b o _ _ hc q _=>k b o hc q) (fun b o _ _ hc q _=>⟨o.slots,k b o hc q⟩) (fun _ _ _ _ n=>n)
  (fun b o hc q=>⟨o,k b o hc q⟩) (fun _ _ q=>q) (fun _ _ _ q=>q) (fun b ps q=>⟨#[],by rw[q];simp⟩) (fun m hm=>?_) (fun b u q=>?_) I.bare
 ·obtain⟨o,es,ep,ho,r⟩:=hm
  exact⟨o,es,ep,k _ o nl ho,r⟩
 ·refine(I.hok b u q).stay (fun c v hc x=>k c v ?_ x) (fun _ x=>x) fun _ _ x=>x
  rcases hc with z|z
  ·rw[z];exact ne b u q
  ·exact ne c _ z
end
def YB (K : PySem.W.Frag) (b1 b2 : Bool) (a1 a2 : Addr) : It :=
  ⟨fun i H => ∃ xs ys x y, OR b1 K H a1 xs /\ OR b2 K H a2 ys /\ xs[i]? = some x /\ ys[i]? = some y, fun i H v H' => ∃ t x y, v = .ref t /\ H t = none /\ H' = upd H t (.tup [x, y]) /\ ∀ xs ys, OR b1 K H a1 xs -> OR b2 K H a2 ys -> xs[i]? = some x /\ ys[i]? = some y,
   fun i H => ∃ xs ys, OR b1 K H a1 xs /\ OR b2 K H a2 ys /\ (xs.length <= i \/ ys.length <= i)⟩
def ZSt (b1 b2:Bool)(z TI TO i1 i2 a1 a2:Addr)(i:Nat)(h:Heap):Prop:=IsZip h z TI TO .none/\IsPair h TI (.ref i1) (.ref i2)/\(∃u v,IsPair h TO u v)/\SI b1 h i1 a1 i/\SI b2 h i2 a2 i
theorem Tg {P:Program}{w:World}{K:PySem.W.Frag}{elts:List Expr}{x1:Nat}{pos:Pos}{b1 b2:Bool}{z TI TO i1 i2 a1 a2:Addr}(D:ZA z TI TO i1 i2 a1 a2):
  Nl P w K (.Tuple elts x1 pos) (YB K b1 b2 a1 a2) [z,TI,TO,i1,i2] z (ZSt b1 b2 z TI TO i1 i2 a1 a2) where
 mem:=by simp
 obj:=fun i h st b hb=>by
  obtain⟨hz,hTI,⟨u,v,hTO⟩,s1,s2⟩:=st
  rcases List.mem_cons.mp hb with e|hb
  ·rw[e];exact⟨_,hz,fun v z=>by cases z⟩
  rcases List.mem_cons.mp hb with e|hb
  ·rw[e];exact⟨_,hTI,fun v z=>by cases z⟩
  rcases List.mem_cons.mp hb with e|hb
  ·rw[e];exact⟨_,hTO,fun v z=>by cases z⟩
  rcases List.mem_cons.mp hb with e|hb
  ·rw[e];exact s1.obj
  ·rw[List.mem_singleton.mp hb];exact s2.obj
 keep:=fun i h h' st k=>by
  obtain⟨hz,hTI,⟨u,v,hTO⟩,s1,s2⟩:=st
  exact⟨k z (by simp) _ hz,k TI (by simp) _ hTI,⟨u,v,k TO (by simp) _ hTO⟩,s1.keep fun o e=>k i1 (by simp) o e,s2.keep fun o e=>k i2 (by simp) o e⟩
 item:=by
  intro X hP hw hK hc i pins s σ H E I hf st hg
  subst hP hw hK
  obtain⟨xs,ys,x,y,q1,q2,hx,hy⟩:=hg
  obtain⟨hz,hTI,⟨u,v,hTO⟩,s1,s2⟩:=st
  obtain⟨its1,r1,p1,z1⟩:=I.sq q1
  obtain⟨its2,r2,p2,z2⟩:=I.sq q2
  obtain⟨u1,hu1,ru1⟩:=r1.get hx
  obtain⟨u2,hu2,ru2⟩:=r2.get hy
  refine On D (Nx.sq (b:=b1) (xs:=its1.toArray) D.a1i1) (Nx.sq (b:=b2) (xs:=its2.toArray) D.a2i2) hz hTI hTO ⟨s1,p1⟩ ⟨s2,p2⟩ (x:=u1) (y:=u2) (by simpa using hu1) (by simpa using hu2) fun h' z' t' n1 n2 tp k4=>?_
  refine⟨.ref s.heap.objs.size,rfl,wpAny_letOwnedTupleGo_zip z' fun h'' z'' sb=>?_⟩
  have fresh:=I.hok.fresh (zS s.heap.objs.size)
  have I1:=I.laid (a:=s.heap.objs.size) (o:=.tup [x,y]) (h':=s.heap.push {cls:=.type "tuple",data:=.seq #[u1,u2]}) (t':=s.toks) (fun b o q=>zI _ q) (zS _)
   ⟨sm2,[u1,u2],.cons ru1 (.cons ru2 .nil),IsTup.new _ _⟩
  have lt: ∀b∈[z,TI,TO,i1,i2],b<s.heap.objs.size:=fun b hb=>by
   rcases List.mem_cons.mp hb with e|hb
   ·rw[e];exact yC hz
   rcases List.mem_cons.mp hb with e|hb
   ·rw[e];exact yC hTI
   rcases List.mem_cons.mp hb with e|hb
   ·rw[e];exact yC hTO
   rcases List.mem_cons.mp hb with e|hb
   ·rw[e];obtain⟨o,e,_⟩:=s1.obj;exact yC e
   ·rw[List.mem_singleton.mp hb];obtain⟨o,e,_⟩:=s2.obj;exact yC e
  have f': ∀b∈[z,TI,TO,i1,i2],Lc X pins (upd H s.heap.objs.size (.tup [x,y])) b:=fun b hb=>⟨by rw[zQ (xK (lt b hb))];exact(hf b hb).1,(hf b hb).2⟩
  have I2:=I1.turnedL (h':=h'') (t':=s.toks) (L:=[z,TI,TO,i1,i2]) (fun b o hb q=>?_) f'
  ·refine⟨.ref s.heap.objs.size,_,I2,rfl,⟨s.heap.objs.size,x,y,rfl,fresh,rfl,fun xs' ys' e1 e2=>?_⟩,⟨z'',sb.extBut _ _ D.TIz (k4 _ _ D.TIz D.TITO D.TIi1 D.TIi2 hTI),⟨_,_,sb.extBut _ _ D.TOz t'⟩,n1.1.keep fun o e=>sb.extBut _ _ D.i1z e,n2.1.keep fun o e=>sb.extBut _ _ D.i2z e⟩,fun b hb=>(f' b hb).1⟩
   rw[I.sq_inj e1 q1,I.sq_inj e2 q2]
   exact⟨hx,hy⟩
  ·have nz:b≠z:=fun e=>hb (by simp[e])
   refine sb.extBut _ _ nz ?_
   by_cases e:b=s.heap.objs.size
   ·subst e
    rw[tp,<-q]
    exact(yG _ rfl).symm
   ·rcases Heap.get?_push_cases q with⟨c,_⟩|c
    ·exact absurd c e
    ·exact k4 b o nz (fun e=>hb (by simp[e])) (fun e=>hb (by simp[e])) (fun e=>hb (by simp[e])) c
 done:=by
  intro X hP hw hK hc i pins s σ H E I hf st hg
  subst hP hw hK
  obtain⟨xs,ys,q1,q2,he⟩:=hg
  obtain⟨hz,hTI,⟨u,v,hTO⟩,s1,s2⟩:=st
  obtain⟨its1,r1,p1,z1⟩:=I.sq q1
  obtain⟨its2,r2,p2,z2⟩:=I.sq q2
  have l1:=r1.length
  have l2:=r2.length
  refine Rk (I.ok.hd hc) D (Nx.sq (b:=b1) (xs:=its1.toArray) D.a1i1) (Nx.sq (b:=b2) (xs:=its2.toArray) D.a2i2) hz hTI hTO ⟨s1,p1⟩ ⟨s2,p2⟩ (he.imp (fun h=>by simp;(first|lia|omega)) (fun h=>by simp;(first|lia|omega))) fun h' k4=>⟨rfl,I.turnedL (t':=s.toks) (L:=[z,TI,TO,i1,i2]) (fun b o hb q=>?_) hf⟩
  exact k4 b o (fun e=>hb (by simp[e])) (fun e=>hb (by simp[e])) (fun e=>hb (by simp[e])) (fun e=>hb (by simp[e])) q
 self:=fun _ _ _ _ _ st h=>EL st.1 h
theorem YE {n a1 a2:Nat}(m1:a1<n)(m2:a2<n):ZA (n+4) (n+2) (n+3) n (n+1) a1 a2:=by
 constructor<;>(show _≠(_:Nat);(first|lia|omega))
abbrev ZV (h:Heap)(b1:Bool)(a1:Addr):Heap:=h.push (Ov b1 a1)
abbrev ZU (h:Heap)(b1 b2:Bool)(a1 a2:Addr):Heap:=(ZV h b1 a1).push (Ov b2 a2)
abbrev ZT (h:Heap)(b1 b2:Bool)(a1 a2:Addr):Heap:=(ZU h b1 b2 a1 a2).push {cls:=.type "tuple",data:=.seq #[.ref h.objs.size,.ref (ZV h b1 a1).objs.size]}
abbrev ZS (h:Heap)(b1 b2:Bool)(a1 a2:Addr):Heap:=(ZT h b1 b2 a1 a2).push {cls:=.type "tuple",data:=.seq #[.none,.none]}
abbrev Xn (h:Heap)(b1 b2:Bool)(a1 a2:Addr):Heap:=(ZS h b1 b2 a1 a2).push {cls:=.type "zip",data:=.fields #[.none,.bool false,.bool false,.ref (ZU h b1 b2 a1 a2).objs.size,.ref (ZT h b1 b2 a1 a2).objs.size]}
theorem PY (b1 b2:Bool)(a1 a2:Addr)(xs ys:Array Value):Meets (Builtin.«zip.__new__» ⟨[.type "zip",.ref a1,.ref a2],[]⟩) (fun _ R s=>Di b1 s.heap a1 xs/\Di b2 s.heap a2 ys/\
  R (.ok (.ret (.ref (ZS s.heap b1 b2 a1 a2).objs.size))) {s with heap:=Xn s.heap b1 b2 a1 a2}):=
 .of_wp fun prog w A R s h=>by
  obtain⟨hp,g,d,tk,os⟩:=s;obtain⟨l1,l2,h⟩:=h
  have hsub:=sub_zip
  have L1:Di b1 (Shared.heap ⟨hp,g,d,tk,os⟩) a1 xs:=l1
  have L2:Di b2 (Shared.heap ⟨hp.push (Ov b1 a1),g,d,tk,os⟩) a2 ys:=Di.push l2
  wp_walk using Ra L1,Ra L2
  exact⟨_,rfl,h⟩
section
variable {prog:Program}{w:World}{A:Around}{E:Value->Shared->Prop}{s:Shared}{b1 b2:Bool}{a1 a2:Addr}{xs ys:Array Value}
theorem Mb {Q:Value->Shared->Prop}(l1:Di b1 s.heap a1 xs)(l2:Di b2 s.heap a2 ys)
  (q: ∀h' z TI TO i1 i2,ZA z TI TO i1 i2 a1 a2->ZSt b1 b2 z TI TO i1 i2 a1 a2 0 h'->(∀c∈[z,TI,TO,i1,i2],s.heap.objs.size<=c)->(∀c o,s.heap.get? c=some o->h'.get? c=some o)->Q (.ref z) {s with heap:=h'}):
  wpAny (model prog w) A (call (.type "zip") [.ref a1,.ref a2]) Q E s:=by
 refine callType_new F.called_zip (by decide) (F.typeCall_zip_2 _ _) (F.newCall_zip_2 _ _) (fun obj=>F.args_object_init_3 obj _ _) F.entry_zip_new (PY b1 b2 a1 a2 xs ys) ⟨l1,l2,?_⟩
 have z1:(ZV s.heap b1 a1).objs.size =s.heap.objs.size+1:=Au ..
 have z2:(ZU s.heap b1 b2 a1 a2).objs.size =s.heap.objs.size+2:=by rw[Au,z1]
 have z3:(ZT s.heap b1 b2 a1 a2).objs.size =s.heap.objs.size+3:=by rw[Au,z2]
 have z4:(ZS s.heap b1 b2 a1 a2).objs.size =s.heap.objs.size+4:=by rw[Au,z3]
 have g5:(Xn s.heap b1 b2 a1 a2).get? (ZS s.heap b1 b2 a1 a2).objs.size =some _:=yG _ rfl
 have g4:(Xn s.heap b1 b2 a1 a2).get? (ZT s.heap b1 b2 a1 a2).objs.size =some _:=zI _ (yG _ rfl)
 have g3:(Xn s.heap b1 b2 a1 a2).get? (ZU s.heap b1 b2 a1 a2).objs.size =some _:=zI _ (zI _ (yG _ rfl))
 have g2:(Xn s.heap b1 b2 a1 a2).get? (ZV s.heap b1 a1).objs.size =some _:=zI _ (zI _ (zI _ (yG _ (by cases b2<;>rfl))))
 have g1:(Xn s.heap b1 b2 a1 a2).get? s.heap.objs.size=some _:=zI _ (zI _ (zI _ (zI _ (yG _ (by cases b1<;>rfl)))))
 have m1:=l1.lt
 have m2:=l2.lt
 have up: ∀c o,s.heap.get? c=some o->(Xn s.heap b1 b2 a1 a2).get? c=some o:=fun c o x=>zI _ (zI _ (zI _ (zI _ (zI _ x))))
 rw[z2,z3,z4]at g5
 rw[z1,z2]at g3
 rw[z3]at g4
 rw[z1]at g2
 show _/\_
 rw[z4]
 refine⟨⟨_,g5,rfl⟩,q _ (s.heap.objs.size+4) (s.heap.objs.size+2) (s.heap.objs.size+3) s.heap.objs.size (s.heap.objs.size+1) ?_ ⟨g5,g3,⟨_,_,g4⟩,SI.new g1,SI.new g2⟩ (fun c hc=>?_) up⟩
 ·exact YE m1 m2
 ·simp at hc
  rcases hc with e|e|e|e|e<;>(rw[e];(first|lia|omega))
end
theorem Vq:bootBuiltins "zip"=some (.type "zip"):=by decide+kernel
inductive WW (K:PySem.W.Frag) (b1 b2:Bool) (vs:List V) (H1:Hp) (R:It->Hp->Prop):Prop
 |mk (a1 a2 xs ys:_) (h0:vs=[.ref a1,.ref a2]) (h1:OR b1 K H1 a1 xs) (h2:OR b2 K H1 a2 ys) (h3:R (YB K b1 b2 a1 a2) H1):WW K b1 b2 vs H1 R
def zBg (K:PySem.W.Frag)(b1 b2:Bool)(ta:TA):TI:=fun σ H R=>ta σ H fun vs H1=>WW K b1 b2 vs H1 R
section
variable {X:Cx}
theorem TJ (b1 b2:Bool){elts:List Expr}{x1:Nat}{tpos:Pos}{l m:Expr}{ta:TA}{p pos:Pos}(hg:Gl X "zip")(hm:X.mg "zip"=none)(ha:PA X [l,m] ta)(hs:starEach [l,m] X.env=(false,eval l X.env)::starEach [m] X.env:=by rfl)(hpl:(backTo pos (starEach [m] X.env)).any (·.1)=false:=by rfl):
  PI X (.Tuple elts x1 tpos) (.Call (.Name "zip" p) [l,m] [] pos) (zBg X.K b1 b2 ta):=by
 refine⟨?_⟩
 intro pins s σ H R I h
 refine Call_ (Eo I hg hm Vq (jJ (qR (ha pos pins s σ H _ I h) fun us s1 ⟨vs,H1,I1,r1,q1⟩=>?_) hs hpl))
 obtain⟨a1,a2,xs,ys,e,k1,k2,q⟩:=q1
 subst e
 obtain⟨u1,u2,rfl,ru1,ru2⟩:=NA r1
 cases ru1
 cases ru2
 obtain⟨i1,r1,p1,z1⟩:=I1.sq k1
 obtain⟨i2,r2,p2,z2⟩:=I1.sq k2
 refine Mb p1 p2 fun h' z TI TO j1 j2 D st lt hk=>?_
 refine EL (s:={s1 with heap:=h'}) st.1 ?_
 exact⟨z,[z,TI,TO,j1,j2],_,_,H1,rfl,I1.kept (t':=s1.toks) hk,Tg D,st,fun b hb=>I1.fpOk (lt b hb) (I1.hok.fresh (lt b hb)),q⟩
theorem Wr {K:PySem.W.Frag}{b1 b2:Bool}{a1 a2:Addr}{xs ys:List V}{g:TG}{tb:TS}{D:FJ}{σ:St}{H:Hp}(Pv:Nat->St->Hp->Prop)(h0:Pv 0 σ H)(hle:xs.length=ys.length)(hl: ∀i σ H,i<=xs.length->Pv i σ H->OR b1 K H a1 xs/\OR b2 K H a2 ys)
  (hs: ∀i x y σ H t,xs[i]? =some x->ys[i]? =some y->Pv i σ H->H t=none->g (.ref t) σ (upd H t (.tup [x,y])) fun σ2 H2=>tb {D with nx:=Pv (i+1),ct:=Pv (i+1),bk:=D.nx} σ2 H2) (hd: ∀σ H,Pv xs.length σ H->D.nx σ H):
  ∃W:Nat->Nat->St->Hp->Prop,(∃m,W 0 m σ H)/\ ∀i m σ H,W i m σ H->
   ((YB K b1 b2 a1 a2).stop i H/\D.nx σ H)\/((YB K b1 b2 a1 a2).go i H/\ ∃N:St->Hp->Prop,(∀σ' H',N σ' H'-> ∃m',m'<m/\W (i+1) m' σ' H')/\ ∀x H',(YB K b1 b2 a1 a2).yld i H x H'->g x σ H' fun σ2 H2=>tb {D with nx:=N,ct:=N,bk:=D.nx} σ2 H2):=by
 refine⟨fun i m σ H=>m=xs.length-i/\i<=xs.length/\Pv i σ H,⟨xs.length,by simp,yZ _,h0⟩,?_⟩
 rintro i m σ H ⟨rfl,hi,p⟩
 obtain⟨q1,q2⟩:=hl i σ H hi p
 by_cases hlt:i<xs.length
 ·refine .inr ⟨⟨xs,ys,xs[i],ys[i],q1,q2,zB hlt,zB (by(first|lia|omega))⟩,Pv (i+1),fun σ' H' p'=>⟨xs.length-(i+1),by(first|lia|omega),rfl,hlt,p'⟩,fun v H' yd=>?_⟩
  obtain⟨t,x,y,rfl,ht,rfl,hx⟩:=yd
  obtain⟨e1,e2⟩:=hx xs ys q1 q2
  exact hs i x y σ H t e1 e2 p ht
 ·have e:i=xs.length:=by(first|lia|omega)
  subst e
  exact .inl ⟨⟨xs,ys,q1,q2,.inl (zS _)⟩,hd σ H p⟩
theorem Vm {K:PySem.W.Frag}{b1 b2:Bool}{a1 a2 p:Addr}{xs ys:List V}{g:TG}{tt:TT}{te:TE}{R:Hp->Prop}{σ0:St}{H0:Hp}(Pv:Nat->St->Hp->Prop)(h0:Pv 0 σ0 H0)(hle:xs.length=ys.length)(hl: ∀i σ H,i<=xs.length->Pv i σ H->OR b1 K H a1 xs/\OR b2 K H a2 ys)
  (hs: ∀i x y σ H t,i<xs.length->xs[i]? =some x->ys[i]? =some y->Pv i σ H->H t=none->g (.ref t) σ (upd H t (.tup [x,y])) fun σ3 H3=>tt σ3 H3 fun b H4=>
   if b=true then te σ3 H4 fun v H5=> ∃us,H5 p=some (.lst us)/\us.length<sizeLine/\ ∃m',m'<xs.length-i/\CW xs.length Pv (i+1) m' σ3 (upd H5 p (.lst (us++[v])))
   else ∃m',m'<xs.length-i/\CW xs.length Pv (i+1) m' σ3 H4)
  (hd: ∀σ H,Pv xs.length σ H->R H):No (YB K b1 b2 a1 a2) p σ0 H0 g tt te R:=by
 refine⟨CW xs.length Pv,⟨_,yZ _,rfl,h0⟩,fun i m σ' H' w=>?_⟩
 obtain⟨hi,rfl,hp⟩:=w
 obtain⟨q1,q2⟩:=hl i σ' H' hi hp
 by_cases hlt:i<xs.length
 ·refine .inr ⟨⟨xs,ys,xs[i],ys[i],q1,q2,zB hlt,zB (by(first|lia|omega))⟩,fun v H2 yd=>?_⟩
  obtain⟨t,x,y,rfl,ht,rfl,hx⟩:=yd
  obtain⟨e1,e2⟩:=hx xs ys q1 q2
  exact hs i x y σ' H' t hlt e1 e2 hp ht
 ·have e:i=xs.length:=by(first|lia|omega)
  subst e
  exact .inl ⟨⟨xs,ys,q1,q2,.inl (zS _)⟩,hd σ' H' hp⟩
end
end L2

namespace L2
open PySem PySem.Spec PyProof.Rows
theorem Ki:typeLookup (.type "list") "keys"=pure none:=am_miss_of_fast (by decide+kernel)
theorem KW:typeLookup (.type "zip") "keys"=pure none:=am_miss_of_fast (by decide+kernel)
theorem Im:typeLookup (.type "zip") "__getattr__"=pure none:=by rw[AQ,vA];kernel_rfl
theorem Fx:entryFor table "zip.__getattribute__"=some Builtin.«object.__getattribute__»:=
 entryFor_alias (id':="object.__getattribute__") (by kernel_rfl) (by decide+kernel) (by decide+kernel) (by kernel_rfl)
section
variable {prog:Program}{w:World}{A:Around}{E:Value->Shared->Prop}{s:Shared}{a:Addr}
theorem Sn {xs:Array Value}{k:Nat}{sl:Array (Option Value)}{Q:Option Value->Shared->Prop}(hA:A.handled=none)(hx:s.heap.get? a=some {cls:=.type "list",dict:=none,data:=.seq xs k,slots:=sl})
  (h: ∀h' tk e,Heap.NewExcOf s.heap h' e "AttributeError"->Q none {s with heap:=h',toks:=tk}):wpAny (model prog w) A (getAttr? (.ref a) "keys") Q E s:=by
 obtain⟨hp,g,d,tk,os⟩:=s
 have hT: ∀tk',(⟨hp,g,d,tk',os⟩:Shared).TypeIs (.ref a) "list":=fun _=>⟨_,hx,rfl⟩
 have f1:=sub_AttributeError
 have f3:=F.slot_list_getattribute.lookup
 have f4:=F.slot_list_getattribute.bind (.ref a)
 have f5:=am_list_getattr_none
 unfold getAttr? getAttrBy? getAttrBy
 repeat (any_goals (first|assumption|exact hT _|((with_reducible show wpAny _ _ (call (Value.builtin "list.__getattribute__") _ _) _ _ _);refine wB F.slot_list_getattribute (hT _) am_entry_list_getattribute (F.args_list_getattribute_2 _ _) (meets_getattribute_miss_list a xs k sl "keys" _ Ki (by decide+kernel) (by decide+kernel)) ⟨hx,hA,fun h' tk' e hx'=>?_⟩)|wp_step))
 obtain⟨t',u',he⟩:=hx'.there
 show wpAny _ _ (getattributeRaised _ _ _ _ _ _ _) _ _ _
 unfold getattributeRaised
 repeat (any_goals (first|assumption|wp_step))
 exact h _ _ _ hx'.of
theorem Kj (a:Addr)(fs:Array Value)(u:Tok):Meets (Builtin.«object.__getattribute__» ⟨[.ref a,.str "keys" u],[]⟩) (fun A R s=>s.heap.get? a=some {cls:=.type "zip",dict:=none,data:=.fields fs,slots:=#[]}/\raisesAttr (.ref a) "keys" A R s):=
 Meets.of_wp fun prog w A R s hs=>by
  obtain⟨hp,g,d,tk,os⟩:=s
  obtain⟨hx,hs⟩:=hs
  have hm:=KW
  have hT:(⟨hp,g,d,tk,os⟩:Shared).TypeIs (.ref a) "zip":=⟨_,hx,rfl⟩
  unfold Builtin.«object.__getattribute__»
  repeat (any_goals (first|assumption|wp_step))
  exact wpAny_raiseAttrError hs.1 hs.2 (attrMsg_fits (by decide+kernel) (by decide+kernel))
theorem UJ {fs:Array Value}{Q:Option Value->Shared->Prop}(hA:A.handled=none)(hx:s.heap.get? a=some {cls:=.type "zip",dict:=none,data:=.fields fs,slots:=#[]})
  (h: ∀h' tk e,Heap.NewExcOf s.heap h' e "AttributeError"->Q none {s with heap:=h',toks:=tk}):wpAny (model prog w) A (getAttr? (.ref a) "keys") Q E s:=by
 obtain⟨hp,g,d,tk,os⟩:=s
 have hT: ∀tk',(⟨hp,g,d,tk',os⟩:Shared).TypeIs (.ref a) "zip":=fun _=>⟨_,hx,rfl⟩
 have f1:=sub_AttributeError
 have f3:=F.slot_zip_getattribute.lookup
 have f4:=F.slot_zip_getattribute.bind (.ref a)
 have f5:=Im
 unfold getAttr? getAttrBy? getAttrBy
 repeat (any_goals (first|assumption|exact hT _|((with_reducible show wpAny _ _ (call (Value.builtin "zip.__getattribute__") _ _) _ _ _);refine wB F.slot_zip_getattribute (hT _) Fx (F.args_zip_getattribute_2 _ _) (Kj a fs _) ⟨hx,hA,fun h' tk' e hx'=>?_⟩)|wp_step))
 obtain⟨t',u',he⟩:=hx'.there
 show wpAny _ _ (getattributeRaised _ _ _ _ _ _ _) _ _ _
 unfold getattributeRaised
 repeat (any_goals (first|assumption|wp_step))
 exact h _ _ _ hx'.of
end
end L2

namespace L2
open PySem PySem.Spec PyProof.Rows
theorem Pj {K:Type}[DecidableEq K](vs:List (K×Value))(k:K)(v:Value):(stored vs k v).length<=vs.length+1:=by
 unfold stored
 split
 ·rw[zD];exact Nat.le_succ _
 ·rw[zC];exact zS _
structure Xi (prog:Program)(w:World)(d it:Addr)(fp:List Addr)(ps:List (Value×Value))(St:Nat->Heap->Prop):Prop where
 item: ∀{A:Around} {E:Value->Shared->Prop} {i:Nat} {s:Shared} {k v:Value} {Q:Option Value->Shared->Prop},St i s.heap->ps[i]? =some (k,v)->(∀h' t,St (i+1) h'->h'.IsTuple t #[k,v]->(∀c o,c∉fp->s.heap.get? c=some o->h'.get? c=some o)->Q (some (.ref t)) {s with heap:=h'})->
  wpAny (model prog w) A (pyNext (.ref it)) Q E s
 stop: ∀{A:Around} {E:Value->Shared->Prop} {s:Shared} {Q:Option Value->Shared->Prop},A.handled=none->St ps.length s.heap->(∀h',(∀c o,c∉fp->s.heap.get? c=some o->h'.get? c=some o)->Q none {s with heap:=h'})->wpAny (model prog w) A (pyNext (.ref it)) Q E s
 keep: ∀{i:Nat} {h h':Heap},St i h->(∀c o,c≠d->h.get? c=some o->h'.get? c=some o)->(∃o,h'.get? d=some o)->St i h'
 out:d∉fp
theorem Bv:entryFor table "dict.update.loop"=some Builtin.«dict.update.loop»:=entryFor_of_tree (by kernel_rfl)
theorem wO:plainId "dict.update.loop"=true:=by decide+kernel
section
variable {prog:Program}{w:World}{K:Type}[DecidableEq K]{knd:KeyKind prog w K}{A:Around}{d it:Addr}{fp:List Addr}{St:Nat->Heap->Prop}
theorem SK {ps:List (Value×Value)}(N:Xi prog w d it fp ps St)(hh:A.in1.handled=none){ks:List K}(hl:ks.length=ps.length)(hk: ∀(i:Nat) (k:K) (p:Value×Value),ks[i]? =some k->ps[i]? =some p->knd.is k p.1=true){R:Result->Shared->Prop}:
  ∀(m i:Nat) (s:Shared) (vs:List (K×Value)),ps.length-i=m->i<=ps.length->St i s.heap->s.heap.DictOf knd d vs->vs.length+m<=sizeLine->
  (∀(h':Heap) (t':Nat),h'.DictOf knd d (((ks.zip (ps.map (·.2))).drop i).foldl (fun acc x=>stored acc x.1 x.2) vs)->(∀c o,c≠d->c∉fp->s.heap.get? c=some o->h'.get? c=some o)->R (.ok (.ret .none)) {s with heap:=h',toks:=t'})->
  codeAny (model prog w) A (.builtin "dict.update.loop" ⟨[.ref d,.ref it,rawInt i,.none],[]⟩) R s:=by
 intro m
 induction m with
 |zero=>
  intro i s vs hm hi st hd hz hR
  have e:i=ps.length:=by(first|lia|omega)
  subst e
  refine codeAny_builtin Bv ?_
  rw[Cs wO _]
  show wpAny _ A.in1 (pyNext (.ref it)>>=_) _ _ s
  refine zE (N.stop hh st fun h' hk'=>?_)
  show wpAny _ A.in1 (Builtin.Dict.addKeywords d []>>=_) _ _ _
  refine zE (zR (zR ?_))
  refine hR h' s.toks ?_ fun c o _ c2 e=>hk' c o c2 e
  rw[List.drop_of_length_le (by rw[uN,zD];(first|lia|omega))]
  obtain⟨o,es,ep,ho,r⟩:=hd
  exact⟨o,es,ep,hk' d o N.out ho,r⟩
 |succ m ih=>
  intro i s vs hm hi st hd hz hR
  have hi2:i<ps.length:=by(first|lia|omega)
  rcases hp:ps[i]with⟨k,v⟩
  have ep:ps[i]? =some (k,v):=by rw[zB hi2,hp]
  have ek:ks[i]? =some ks[i]:=zB (by(first|lia|omega))
  have hkk:=hk i _ _ ek ep
  have ed:(ks.zip (ps.map (·.2))).drop i=(ks[i],v)::(ks.zip (ps.map (·.2))).drop (i+1):=by
   have lz:i<(ks.zip (ps.map (·.2))).length:=by rw[uN,zD];(first|lia|omega)
   rw[xW lz]
   congr 1
   rw[List.getElem_zip,List.getElem_map,hp]
  rw[ed,CK]at hR
  refine codeAny_builtin Bv ?_
  rw[Cs wO _]
  show wpAny _ A.in1 (pyNext (.ref it)>>=_) _ _ s
  refine zE (N.item st ep fun h1 t st1 ht hk1=>?_)
  have hd1:h1.DictOf knd d vs:=by
   obtain⟨o,es,ep,ho,r⟩:=hd
   exact⟨o,es,ep,hk1 d o N.out ho,r⟩
  obtain⟨ot,hot,hct,nt,hdt⟩:=ht
  have hT:({s with heap:=h1}:Shared).TypeIs (.ref t) "tuple":=⟨_,hot,hct⟩
  show wpAny _ A.in1 (holding [.ref t] _>>=_) _ _ _
  refine zE (qK (zE (wpAny_tryCatch ?_)))
  unfold Builtin.Dict.pairItems
  refine zE (Dk hT ?_)
  rw[zW (by decide)]
  refine zE (kY hot hdt (zR ?_))
  show wpAny _ _ (holding [k,v] (dictSet d k v)) _ _ _
  refine qK (wpAny_dictSet_pairs (hsz:=by(first|lia|omega)) hkk hd1 fun h2 hd2 sb=>?_)
  refine zR ⟨plainId_quiet wO _,?_⟩
  have ln:(stored vs ks[i] v).length<=vs.length+1:=Pj _ _ _
  refine ih (i+1) _ _ (by(first|lia|omega)) hi2 (N.keep st1 (fun c o c1 e=>(sb.2 c c1).trans e) (by obtain⟨o,es,ep,ho,r⟩:=hd2;exact⟨o,ho⟩)) hd2 (by(first|lia|omega)) fun h' t' hd' hk'=>?_
  exact hR h' t' hd' fun c o c1 c2 e=>hk' c o c1 c2 ((sb.2 c c1).trans (hk1 c o c2 e))
end
theorem KV.fold: ∀{ks:List Bj} {vs:List V} {us:List Value} {kvs:List (Bj×V)} {ws:List (Bj×Value)},jP vs us->KV kvs ws->KV ((ks.zip vs).foldl (fun acc x=>Ju acc x.1 x.2) kvs) ((ks.zip us).foldl (fun acc x=>stored acc x.1 x.2) ws)
 |[],_,_,_,_,_,h=>h
 |k::ks,_,_,_,_,.nil,h=>h
 |k::ks,_,_,_,_,.cons r t,h=>by
  rw[Bc,Bc,CK,CK]
  exact KV.fold t (KV.put h k r)
theorem Oz: ∀(xs:List (Bj×V)) (acc:List (Bj×V)),(xs.foldl (fun acc x=>Ju acc x.1 x.2) acc).length<=acc.length+xs.length
 |[],acc=>zS _
 |x::r,acc=>by
  rw[CK,zJ]
  have h1:=Oz r (Ju acc x.1 x.2)
  have h2:=Ou acc x.1 x.2
  (first|lia|omega)
section
variable {prog:Program}{w:World}
theorem Xi.list {d it src:Addr}{as:List Addr}{ps:List (Value×Value)}(hl:as.length=ps.length)(nd:d≠it)(ns:src≠it)(nsd:src≠d)(na: ∀a∈as,a≠it/\a≠d):
  Xi prog w d it [it] ps (fun i h=>h.IsListIter it src i/\h.IsList src (as.map Value.ref).toArray/\ ∀(j:Nat) (a:Addr) (p:Value×Value),as[j]? =some a->ps[j]? =some p->h.IsTuple a #[p.1,p.2]) where
 item:=fun{A E i s k v Q} st hp q=>by
  obtain⟨h1,h2,h3⟩:=st
  have hi:=(List.getElem?_eq_some_iff.mp hp).1
  have ea:as[i]? =some as[i]:=zB (by(first|lia|omega))
  refine wpAny_pyNext_list_item h1 h2 (x:=.ref as[i]) (by simp[show i<as.length by(first|lia|omega)]) fun h' i' sb=>?_
  have up: ∀{c:Addr} {o:Obj},c≠it->s.heap.get? c=some o->h'.get? c=some o:=fun n e=>sb.extBut _ _ n e
  have tu: ∀(j:Nat) (a:Addr) (p:Value×Value),as[j]? =some a->ps[j]? =some p->h'.IsTuple a #[p.1,p.2]:=fun j a p e1 e2=>by
   obtain⟨o,e,r⟩:=h3 j a p e1 e2
   exact⟨o,up (na a (zM e1)).1 e,r⟩
  exact q h' as[i] ⟨i',h2.extBut sb.extBut ns,tu⟩ (tu i _ _ ea hp) fun c o n e=>up (fun z=>n (by simp[z])) e
 stop:=fun{A E s Q} hh st q=>by
  obtain⟨h1,h2,h3⟩:=st
  exact wpAny_pyNext_list_end hh h1 h2 (by simp[hl]) fun h' eb=>q h' fun c o n e=>eb c o (fun z=>n (by simp[z])) e
 keep:=fun{i h h'} st k _=>by
  obtain⟨⟨o,e,r⟩,⟨o2,e2,r2⟩,h3⟩:=st
  refine⟨⟨o,k _ _ (Ne.symm nd) e,r⟩,⟨o2,k _ _ nsd e2,r2⟩,fun j a p e1 e2=>?_⟩
  obtain⟨o,e,r⟩:=h3 j a p e1 e2
  exact⟨o,k _ _ (na a (zM e1)).2 e,r⟩
 out:=by simp[nd]
end
theorem Nw {M:Model}{A:Around}{E:Value->Shared->Prop}{s:Shared}{a:Addr}{Q:Option Obj->Shared->Prop}(q:Q (s.heap.get? a) s):wpAny M A (loadIfAlive a) Q E s:=fun Γ p _=>by
 unfold loadIfAlive
 rw[Sem.wp_loadIfAlive]
 exact q
abbrev IU (h:Heap)(z TI TO T:Addr)(b:Bool):Prop:=h.get? z=some {cls:=.type "zip",dict:=none,data:=.fields #[rawInt T,.bool b,.bool false,.ref TI,.ref TO],slots:=#[]}
section
variable {prog:Program}{w:World}{A:Around}{E:Value->Shared->Prop}{s:Shared}{z TI TO T i1 i2 a1 a2:Addr}{xs ys:Array Value}{S1 S2:Nat->Heap->Prop}{k:Nat}{b:Bool}{oT:Obj}
theorem Ja {Q:Bool->Shared->Prop}(hz:IU s.heap z TI TO T b)(hT:s.heap.get? T=some oT)(q: ∀h',IU h' z TI TO T true->Heap.SameBut z s.heap h'->Q false {s with heap:=h'}):
  wpAny (model prog w) A (Builtin.SmallTypes.ownedTupleIsFree (.ref z)) Q E s:=by
 unfold Builtin.SmallTypes.ownedTupleIsFree
 refine zE (xB hz rfl (x:=rawInt T) rfl ?_)
 show wpAny _ _ (loadIfAlive ((T:Int).toNat)>>=_) _ _ _
 refine zE (Nw ?_)
 rw[jR,hT]
 show wpAny _ _ (field (.ref z) 1>>=_) _ _ _
 refine zE (xB hz rfl (x:=.bool b) rfl ?_)
 cases b with
 |true=>exact zR (q s.heap hz (Heap.SameBut.refl ..))
 |false=>
  refine zE (wA hz (by simp) fun h' z' sb=>?_)
  exact zR (q h' z' sb)
theorem Ta (D:ZA z TI TO i1 i2 a1 a2)(N1:Nx prog w i1 a1 xs S1)(N2:Nx prog w i2 a2 ys S2){x y:Value}{Q:Value->Shared->Prop}(hz:IU s.heap z TI TO T b)(hTI:IsPair s.heap TI (.ref i1) (.ref i2))(hT:s.heap.get? T=some oT)
  (s1:S1 k s.heap) (s2:S2 k s.heap) (hx:xs[k]? =some x) (hy:ys[k]? =some y)
  (q: ∀h',IU h' z TI TO T true->S1 (k+1) h'->S2 (k+1) h'->IsPair h' s.heap.objs.size x y->(∀c o,c≠z->c≠i1->c≠i2->s.heap.get? c=some o->h'.get? c=some o)->Q (.ref s.heap.objs.size) {s with heap:=h'}):
  wpAny (model prog w) A (Builtin.«zip.__next__» ⟨[.ref z],[]⟩) (fun fin s'=> ∃v,fin=.done (.ret v)/\Q v s') E s:=by
 show wpAny _ _ (field (.ref z) 2>>=_) _ _ _
 refine zE (xB hz rfl (x:=.bool false) rfl ?_)
 show wpAny _ _ (field (.ref z) 3>>=_) _ _ _
 refine zE (xB hz rfl (x:=.ref TI) rfl (zE (kY hTI rfl ?_)))
 show wpAny _ _ (Builtin.SmallTypes.ownedTupleIsFree (.ref z)>>=_) _ _ _
 refine zE (Ja hz hT fun h1 z1 b1=>?_)
 simp only[uH,EQ]
 have p1:S1 k h1:=N1.keep s1 (fun o e=>b1.extBut _ _ D.i1z e) (fun o e=>b1.extBut _ _ D.a1z e)
 rw[<-Array.forIn_toList]
 simp only[vH,DD]
 refine zE (zE (zE (qK ?_)))
 show wpAny _ _ (Builtin.SmallTypes.nextOf (.ref i1)>>=_) _ _ _
 refine zE (N1.item p1 hx fun h2 p2 b2=>zR (zR ?_))
 have r2:S2 k h2:=N2.keep s2 (fun o e=>b2.extBut _ _ (Ne.symm D.i12) (b1.extBut _ _ D.i2z e)) (fun o e=>b2.extBut _ _ D.a2i1 (b1.extBut _ _ D.a2z e))
 refine zE (zE (qK ?_))
 show wpAny _ _ (Builtin.SmallTypes.nextOf (.ref i2)>>=_) _ _ _
 refine zE (N2.item r2 hy fun h3 r3 b3=>zR (zR (zR ?_)))
 show wpAny _ _ (newTuple [x,y]>>=_) _ _ _
 refine zE (wpAny_newTuple (zR ⟨_,rfl,?_⟩))
 have sz:h3.objs.size=s.heap.objs.size:=by rw[b3.1,b2.1,b1.1]
 show Q (.ref h3.objs.size) _
 rw[sz]
 have up: ∀{c:Addr} {o:Obj},h3.get? c=some o->(h3.push {cls:=.type "tuple",data:=.seq #[x,y]}).get? c=some o:=fun e=>zI _ e
 refine q _ (up (b3.extBut _ _ (Ne.symm D.i2z) (b2.extBut _ _ (Ne.symm D.i1z) z1))) (N1.keep p2 (fun o e=>up (b3.extBut _ _ D.i12 e)) (fun o e=>up (b3.extBut _ _ D.a1i2 e))) (N2.keep r3 (fun o e=>up e) (fun o e=>up e)) ?_ fun c o c1 c3 c4 e=>up (b3.extBut _ _ c4 (b2.extBut _ _ c3 (b1.extBut _ _ c1 e)))
 rw[<-sz]
 exact yG _ rfl
theorem Mm (hh:A.handled=none)(D:ZA z TI TO i1 i2 a1 a2)(N1:Nx prog w i1 a1 xs S1)(N2:Nx prog w i2 a2 ys S2){Q:Fin->Shared->Prop}(hz:IU s.heap z TI TO T b)(hTI:IsPair s.heap TI (.ref i1) (.ref i2))(hT:s.heap.get? T=some oT)
  (s1:S1 k s.heap) (hx:xs[k]? =none)
  (q: ∀h' e,K4 z TO i1 i2 s.heap h'->(∃o,h'.get? e=some o/\o.cls=.type "StopIteration")->E (.ref e) {s with heap:=h'}):wpAny (model prog w) A (Builtin.«zip.__next__» ⟨[.ref z],[]⟩) Q E s:=by
 show wpAny _ _ (field (.ref z) 2>>=_) _ _ _
 refine zE (xB hz rfl (x:=.bool false) rfl ?_)
 show wpAny _ _ (field (.ref z) 3>>=_) _ _ _
 refine zE (xB hz rfl (x:=.ref TI) rfl (zE (kY hTI rfl ?_)))
 show wpAny _ _ (Builtin.SmallTypes.ownedTupleIsFree (.ref z)>>=_) _ _ _
 refine zE (Ja hz hT fun h1 z1 b1=>?_)
 simp only[uH,EQ]
 have p1:S1 k h1:=N1.keep s1 (fun o e=>b1.extBut _ _ D.i1z e) (fun o e=>b1.extBut _ _ D.a1z e)
 rw[<-Array.forIn_toList]
 simp only[vH,DD]
 refine zE (zE (zE (qK ?_)))
 show wpAny _ _ (Builtin.SmallTypes.nextOf (.ref i1)>>=_) _ _ _
 exact zE (N1.stop hh p1 hx fun h2 e b2 he=>q h2 e (fun c o c1 c2 c3 c4 x=>b2 c o c3 (b1.extBut _ _ c1 x)) he)
def ZP (b1 b2:Bool)(d z TI TO i1 i2 a1 a2:Addr)(xs ys:Array Value)(i:Nat)(h:Heap):Prop:=(∃o,h.get? d=some o)/\IsPair h TI (.ref i1) (.ref i2)/\(∃u v,IsPair h TO u v)/\(SI b1 h i1 a1 i/\Di b1 h a1 xs)/\(SI b2 h i2 a2 i/\Di b2 h a2 ys)/\
 (i=0/\IsZip h z TI TO .none\/ ∃T b oT,IU h z TI TO T b/\h.get? T=some oT/\T≠d/\T≠z/\T≠TO/\T≠i1/\T≠i2)
theorem Di.keep {b:Bool}{h h':Heap}{a:Addr}{xs:Array Value}(x:Di b h a xs)(k: ∀o,h.get? a=some o->h'.get? a=some o):Di b h' a xs:=by
 cases b with
 |true=>obtain⟨q,e,r⟩:=(show h.IsTuple a xs from x);exact⟨q,k _ e,r⟩
 |false=>obtain⟨q,e,r⟩:=(show h.IsList a xs from x);exact⟨q,k _ e,r⟩
theorem Xi.zip {b1 b2:Bool}{d:Addr}{ps:List (Value×Value)}(D:ZA z TI TO i1 i2 a1 a2)(dz:d≠z)(dTI:d≠TI)(dTO:d≠TO)(d1:d≠i1)(d2:d≠i2)(da1:a1≠d)(da2:a2≠d)(e1:xs=(ps.map (·.1)).toArray)(e2:ys=(ps.map (·.2)).toArray)(h0:0<ps.length\/True):
  Xi prog w d z [z,TI,TO,i1,i2] ps (ZP b1 b2 d z TI TO i1 i2 a1 a2 xs ys) where
 item:=fun{A E i s k v Q} st hp q=>by
  obtain⟨⟨od,hd⟩,hTI,⟨u,u',hTO⟩,s1,s2,hz⟩:=st
  have hx:xs[i]? =some k:=by rw[e1];simp[hp]
  have hy:ys[i]? =some v:=by rw[e2];simp[hp]
  have dl:=yC hd
  have hTy: ∀{o:Obj},s.heap.get? z=some o->o.cls=.type "zip"->s.TypeIs (.ref z) "zip":=fun e c=>⟨_,e,c⟩
  have out: ∀{c:Addr},c∉[z,TI,TO,i1,i2]->c≠z/\c≠TO/\c≠i1/\c≠i2:=fun{c} n=>⟨fun e=>n (by simp[e]),fun e=>n (by simp[e]),fun e=>n (by simp[e]),fun e=>n (by simp[e])⟩
  have lz:z<s.heap.objs.size:=by rcases hz with⟨_,hz⟩|⟨T,b,oT,hz,_⟩<;>exact yC hz
  have lTO:=yC hTO
  obtain⟨o1,g1,_⟩:=s1.1.obj
  obtain⟨o2,g2,_⟩:=s2.1.obj
  have l1:=yC g1
  have l2:=yC g2
  rcases hz with⟨_,hz⟩|⟨T,b,oT,hz,hT,n1,n2,n3,n4,n5⟩
  ·refine On D (Nx.sq (b:=b1) (xs:=xs) D.a1i1) (Nx.sq (b:=b2) (xs:=ys) D.a2i2) hz hTI hTO s1 s2 hx hy fun h' z' t' m1 m2 tp k4=>?_
   refine q h' s.heap.objs.size ⟨⟨od,k4 _ _ dz dTO d1 d2 hd⟩,k4 _ _ D.TIz D.TITO D.TIi1 D.TIi2 hTI,⟨_,_,t'⟩,m1,m2,.inr ⟨s.heap.objs.size,false,_,z',tp,kH dl,kH lz,kH lTO,kH l1,kH l2⟩⟩ ⟨_,tp,rfl,_,rfl⟩ fun c o n e=>?_
   obtain⟨c1,c2,c3,c4⟩:=out n
   exact k4 c o c1 c2 c3 c4 e
  ·have hTz:s.TypeIs (.ref z) "zip":=⟨_,hz,rfl⟩
   unfold pyNext
   refine zE (uT (jD (name:=Str.ofString "__next__") hTz wL (kA wL hTz Cb
    (Ta D (Nx.sq (b:=b1) (xs:=xs) D.a1i1) (Nx.sq (b:=b2) (xs:=ys) D.a2i2) hz hTI hT s1 s2 hx hy fun h' z' m1 m2 tp k4=>zR ?_) (BJ _))))
   refine q h' s.heap.objs.size ⟨⟨od,k4 _ _ dz d1 d2 hd⟩,k4 _ _ D.TIz D.TIi1 D.TIi2 hTI,⟨_,_,k4 _ _ D.TOz D.TOi1 D.TOi2 hTO⟩,m1,m2,.inr ⟨T,true,_,z',k4 _ _ n2 n4 n5 hT,n1,n2,n3,n4,n5⟩⟩ ⟨_,tp,rfl,_,rfl⟩ fun c o n e=>?_
   obtain⟨c1,c2,c3,c4⟩:=out n
   exact k4 c o c1 c3 c4 e
 stop:=fun{A E s Q} hh st q=>by
  obtain⟨⟨od,hd⟩,hTI,⟨u,u',hTO⟩,s1,s2,hz⟩:=st
  have hx:xs[ps.length]? =none:=by rw[e1];simp
  have fin: ∀{h':Heap},K4 z TO i1 i2 s.heap h'->Q none {s with heap:=h'}:=fun{h'} k4=>q h' fun c o n e=>k4 c o (fun z=>n (by simp[z])) (fun z=>n (by simp[z])) (fun z=>n (by simp[z])) (fun z=>n (by simp[z])) e
  rcases hz with⟨_,hz⟩|⟨T,b,oT,hz,hT,n1,n2,n3,n4,n5⟩
  ·exact Rk hh D (Nx.sq (b:=b1) (xs:=xs) D.a1i1) (Nx.sq (b:=b2) (xs:=ys) D.a2i2) hz hTI hTO s1 s2 (.inl hx) fun h' k4=>fin k4
  ·have hTz:s.TypeIs (.ref z) "zip":=⟨_,hz,rfl⟩
   unfold pyNext
   refine zE (uT (jD (name:=Str.ofString "__next__") hTz wL (kA wL hTz Cb
    (Mm (A:=A.in1) hh D (Nx.sq (b:=b1) (xs:=xs) D.a1i1) (Nx.sq (b:=b2) (xs:=ys) D.a2i2) hz hTI hT s1 hx fun h' e hk ⟨o,ho,hc⟩=>?_) (BJ _))))
   refine zE (BZ (T:="StopIteration") (b:=true) ⟨o,ho,hc⟩ isSubtype_stop ?_)
   exact zR (fin hk)
 keep:=fun{i h h'} st k kd=>by
  obtain⟨_,hTI,⟨u,u',hTO⟩,s1,s2,hz⟩:=st
  refine⟨kd,k _ _ (Ne.symm dTI) hTI,⟨u,u',k _ _ (Ne.symm dTO) hTO⟩,⟨s1.1.keep fun o e=>k _ _ (Ne.symm d1) e,s1.2.keep fun o e=>k _ _ da1 e⟩,⟨s2.1.keep fun o e=>k _ _ (Ne.symm d2) e,s2.2.keep fun o e=>k _ _ da2 e⟩,?_⟩
  rcases hz with⟨e,hz⟩|⟨T,b,oT,hz,hT,n1,n2⟩
  ·exact .inl ⟨e,k _ _ (Ne.symm dz) hz⟩
  ·exact .inr ⟨T,b,oT,k _ _ (Ne.symm dz) hz,k _ _ n1 hT,n1,n2⟩
 out:=by simp[dz,dTI,dTO,d1,d2]
end
section
variable {prog:Program}{w:World}{A:Around}{E:Value->Shared->Prop}{s:Shared}{src:Addr}{ps:List (Value×Value)}
structure Src (prog:Program)(w:World)(s:Shared)(src:Addr)(fp0:List Addr)(ps:List (Value×Value)):Prop where
 ty: ∃T,s.TypeIs (.ref src) T/\(Value.type T != .type "dict")=true
 keys: ∀{B:Around} {E:Value->Shared->Prop} {s':Shared} {Q:Option Value->Shared->Prop},B.handled=none->(∀c o,s.heap.get? c=some o->s'.heap.get? c=some o)->(∀h' tk,(∀c o,s'.heap.get? c=some o->h'.get? c=some o)->Q none {s' with heap:=h',toks:=tk})->
  wpAny (model prog w) B (getAttr? (.ref src) "keys") Q E s'
 iter: ∀{B:Around} {E:Value->Shared->Prop} {s':Shared} {Q:Value->Shared->Prop},(∀c o,s.heap.get? c=some o->s'.heap.get? c=some o)->(∃o,s'.heap.get? s.heap.objs.size=some o)->(∀h' it fp St,Xi prog w s.heap.objs.size it fp ps St->St 0 h'->(∀c∈fp,c∈fp0\/s.heap.objs.size<c)->(∀c o,s'.heap.get? c=some o->h'.get? c=some o)->Q (.ref it) {s' with heap:=h'})->
  wpAny (model prog w) B (pyIter (.ref src)) Q E s'
theorem Ie {fp0:List Addr}(S:Src prog w s src fp0 ps){ks:List Bj}(hA:A.handled=none)(hl:ks.length=ps.length)(hk: ∀(i:Nat) (k:Bj) (p:Value×Value),ks[i]? =some k->ps[i]? =some p->(qT prog w).is k p.1=true)(hz:ps.length<=sizeLine)
  {Q:Value->Shared->Prop} (q: ∀h' t',h'.DictOf (qT prog w) s.heap.objs.size ((ks.zip (ps.map (·.2))).foldl (fun acc x=>stored acc x.1 x.2) [])->(∀c o,c∉fp0->s.heap.get? c=some o->h'.get? c=some o)->Q (.ref s.heap.objs.size) {s with heap:=h',toks:=t'}):
  wpAny (model prog w) A (call (.type "dict") [.ref src]) Q E s:=by
 refine callType_codes (Q₁:=fun obj s₁=>obj=.ref s.heap.objs.size/\s₁={s with heap:=s.heap.push {cls:=.type "dict",data:=.dict #[]}}) F.kt_called_dict (F.kt_typeCall_dict_1 _) F.entry_dict_init (kt_code_dict_new _ ⟨rfl,rfl⟩) ?_
 rintro obj s₁ ⟨rfl,rfl⟩
 have hnew:(s.heap.push {cls:=.type "dict",data:=.dict #[]}).DictOf (qT prog w) s.heap.objs.size []:=Heap.DictOf.new s.heap
 refine⟨hnew.typeIs,F.args_dict_init_2 _ _,?_⟩
 unfold Builtin.«dict.__init__»
 refine zE ?_
 unfold Builtin.Dict.selfAndRest
 refine zE (wpAny_notOrdered_dict hnew.typeIs ?_)
 show wpAny _ _ (pure (s.heap.objs.size,[Value.ref src])) _ _ _
 refine zR ?_
 show wpAny _ _ (Builtin.Dict.updateFrom "dict.__init__" s.heap.objs.size (.ref src) [] .none) _ _ _
 unfold Builtin.Dict.updateFrom
 obtain⟨T,hT,hnT⟩:=S.ty
 obtain⟨oT,hoT,hcT⟩:=hT
 have k1: ∀c o,s.heap.get? c=some o->(s.heap.push {cls:=.type "dict",data:=.dict #[]}).get? c=some o:=fun c o e=>zI _ e
 refine zE (Dk (s:={s with heap:=s.heap.push {cls:=.type "dict",data:=.dict #[]}}) ⟨oT,k1 _ _ hoT,hcT⟩ ?_)
 rw[zW hnT]
 refine zE (S.keys (B:=A.in1.in1) (s':={s with heap:=s.heap.push {cls:=.type "dict",data:=.dict #[]}}) hA k1 fun h1 tk1 k2=>?_)
 rw[zW (show(none:Option Value).isNone =true from rfl)]
 refine zE (Ap ?_)
 have g1:h1.get? s.heap.objs.size=some {cls:=.type "dict",data:=.dict #[]}:=k2 _ _ (yG _ rfl)
 refine zE (S.iter (s':={s with heap:=h1,toks:=tk1}) (fun c o e=>k2 c o (k1 c o e)) ⟨_,g1⟩ fun h2 it fp St N st fp1 k3=>?_)
 refine zR ⟨plainId_quiet wO _,?_⟩
 have hd:h2.DictOf (qT prog w) s.heap.objs.size []:=by
  obtain⟨o,es,ep,ho,r⟩:=hnew
  exact⟨o,es,ep,k3 _ _ (k2 _ _ ho),r⟩
 refine SK (A:=A.in1) N hA hl hk ps.length 0 _ [] (Nat.sub_zero _) (yZ _) st hd (by show 0+_<=_;(first|lia|omega)) fun h' t' hd' hk'=>⟨rfl,?_⟩
 rw[BH]at hd'
 refine q h' t' hd' fun c o n e=>hk' c o (xK (yC e)) (fun z=>?_) (k3 _ _ (k2 _ _ (k1 _ _ e)))
 rcases fp1 c z with y|y
 ·exact n y
 ·exact absurd (yC e) (Nat.not_lt_of_gt y)
end
section
variable {prog:Program}{w:World}{s:Shared}
theorem Tp {src:Addr}{as:List Addr}{n:Nat}{sl:Array (Option Value)}{ps:List (Value×Value)}(hs:s.heap.get? src=some {cls:=.type "list",dict:=none,data:=.seq (as.map Value.ref).toArray n,slots:=sl})(hl:as.length=ps.length)(ht: ∀(j:Nat) (a:Addr) (p:Value×Value),as[j]? =some a->ps[j]? =some p->s.heap.IsTuple a #[p.1,p.2]):Src prog w s src [] ps where
 ty:=⟨"list",⟨_,hs,rfl⟩,by decide⟩
 keys:=fun hA k q=>Sn hA (k _ _ hs) fun h' tk e x=>q h' tk x.keeps
 iter:=fun{B E s' Q} k ⟨ob,gb⟩ q=>by
  have lt:=yC gb
  have hl':s'.heap.IsList src (as.map Value.ref).toArray:=⟨_,k _ _ hs,rfl,_,rfl⟩
  refine Ad hl' ?_
  have ls:=yC hs
  have la: ∀a∈as,a<s.heap.objs.size:=fun a ha=>by
   obtain⟨j,hj⟩:=kO ha
   have hjl:=(List.getElem?_eq_some_iff.mp hj).1
   obtain⟨o,e,_⟩:=ht j a _ hj (zB (by(first|lia|omega)))
   exact yC e
  refine q _ s'.heap.objs.size [s'.heap.objs.size] _ (Xi.list (src:=src) (as:=as) hl (xK lt) (xK (qB ls lt)) (xK ls) fun a ha=>⟨xK (qB (la a ha) lt),xK (la a ha)⟩) ⟨⟨_,yG _ rfl,rfl,rfl⟩,hl'.push _,fun j a p e1 e2=>?_⟩ (fun c hc=>.inr (by rw[List.mem_singleton.mp hc];exact lt)) fun c o e=>zI _ e
  obtain⟨o,e,r⟩:=ht j a p e1 e2
  exact⟨o,zI _ (k _ _ e),r⟩
theorem VI {b1 b2:Bool}{z TI TO i1 i2 a1 a2:Addr}{ps:List (Value×Value)}(D:ZA z TI TO i1 i2 a1 a2)(st:ZSt b1 b2 z TI TO i1 i2 a1 a2 0 s.heap)(h1:Di b1 s.heap a1 (ps.map (·.1)).toArray)(h2:Di b2 s.heap a2 (ps.map (·.2)).toArray):Src prog w s z [z,TI,TO,i1,i2] ps where
 ty:=⟨"zip",⟨_,st.1,rfl⟩,by decide⟩
 keys:=fun hA k q=>UJ hA (k _ _ st.1) fun h' tk e x=>q h' tk x.keeps
 iter:=fun{B E s' Q} k hd q=>by
  obtain⟨hz,hTI,⟨u,v,hTO⟩,s1,s2⟩:=st
  refine EL (k _ _ hz) ?_
  obtain⟨o1,g1,_⟩:=s1.obj
  obtain⟨o2,g2,_⟩:=s2.obj
  have nz: ∀{c:Addr} {o:Obj},s.heap.get? c=some o->s.heap.objs.size≠c:=fun e=>kH (yC e)
  refine q s'.heap z [z,TI,TO,i1,i2] _ (Xi.zip (b1:=b1) (b2:=b2) (ps:=ps) D (nz hz) (nz hTI) (nz hTO) (nz g1) (nz g2) (xK h1.lt) (xK h2.lt) rfl rfl (.inr trivial)) ⟨hd,k _ _ hTI,⟨u,v,k _ _ hTO⟩,⟨s1.keep fun o e=>k _ _ e,h1.keep fun o e=>k _ _ e⟩,⟨s2.keep fun o e=>k _ _ e,h2.keep fun o e=>k _ _ e⟩,.inl ⟨rfl,k _ _ hz⟩⟩ (fun c hc=>.inl hc) fun c o e=>e
end
def Gc (kvs:List (Bj×V)):List (Bj×V):=kvs.foldl (fun acc x=>Ju acc x.1 x.2) []
theorem RD (kvs:List (Bj×V)):(kvs.map (·.1)).zip (kvs.map (·.2))=kvs:=by
 induction kvs with
 |nil=>rfl
 |cons x r ih=>rw[yK,yK,Bc,ih]
section
variable {X:Cx}
theorem LX {pins:List (Addr×Obj)}{σ:St}{H:Hp}{s0:Shared}{kvs:List (Bj×V)}{us:List Value}{Q:VK}{h':Heap}{t':Nat}{d:Addr}(I:xM X pins σ H s0)(ru:jP (kvs.map (·.2)) us)(hz:kvs.length<=sizeLine)(hd:s0.heap.objs.size<=d)
  (dd:h'.DictOf (qT X.prog X.w) d (((kvs.map (·.1)).zip us).foldl (fun acc x=>stored acc x.1 x.2) [])) (k: ∀c o,s0.heap.get? c=some o->h'.get? c=some o) (q: ∀p,H p=none->Q (.ref p) (upd H p (.dK (Gc kvs)))):EP X pins σ Q (.ref d) {s0 with heap:=h',toks:=t'}:=by
 have rel:KV (Gc kvs) (((kvs.map (·.1)).zip us).foldl (fun acc x=>stored acc x.1 x.2) []):=by
  have:=KV.fold (ks:=kvs.map (·.1)) (kvs:=[]) (ws:=[]) ru .nil
  rw[RD]at this
  exact this
 have hl:(Gc kvs).length<=sizeLine:=by
  have:=Oz kvs []
  show(kvs.foldl _ []).length<=_
  have e:([]:List (Bj×V)).length =0:=rfl
  (first|lia|omega)
 have ns:(d==sysModules)=false:=by
  have h1:sysModules<d:=yR I.big hd
  have h2:d≠sysModules:=kH h1
  simpa using h2
 exact⟨.ref d,_,I.laid (o:=.dK (Gc kvs)) k hd (Vg hl ns rel dd),rfl,q d (I.hok.fresh hd)⟩
theorem Qq (hc:X.calm=true):EJ X (.type "dict") (fun xs H Q=> ∃(l:Addr) (as:List Addr) (kvs:List (Bj×V)),xs=[.ref l]/\H l=some (.lst (as.map V.ref))/\Paired (fun a kv=>H a=some (.tup [kV kv.1,kv.2])) as kvs/\ ∀p,H p=none->Q (.ref p) (upd H p (.dK (Gc kvs)))):=by
 intro pins s σ H xs us Q I r h
 obtain⟨l,as,kvs,rfl,hl,ha,q⟩:=h
 obtain⟨u,rfl,ru⟩:=GM r
 cases ru
 obtain⟨zl,its,n,rv,hli,he⟩:=I.lstM hl
 have e0:=Lk rv
 subst e0
 have key: ∀{as:List Addr} {kvs:List (Bj×V)},Paired (fun a kv=>H a=some (.tup [kV kv.1,kv.2])) as kvs-> ∃ps:List (Value×Value),as.length=ps.length/\kvs.length=ps.length/\jP (kvs.map (·.2)) (ps.map (·.2))/\(∀(j:Nat) (a:Addr) (p:Value×Value),as[j]? =some a->ps[j]? =some p->s.heap.IsTuple a #[p.1,p.2])/\
   ∀(i:Nat) (k:Bj) (p:Value×Value),(kvs.map (·.1))[i]? =some k->ps[i]? =some p->(qT X.prog X.w).is k p.1=true:=fun{as kvs} h=>by
  induction h with
  |nil=>exact⟨[],rfl,rfl,.nil,fun j a p h=>by simp at h,fun i k p h=>by simp at h⟩
  |@cons a kv as kvs h t ih=>
   obtain⟨ps,e1,e2,rs,g1,g2⟩:=ih
   obtain⟨zz,its,rt,pt⟩:=(show wI X.prog X.w H s.heap a (.tup [kV kv.1,kv.2])from I.hok a _ h)
   obtain⟨u1,u2,rfl,r1,r2⟩:=NA rt
   refine⟨(u1,u2)::ps,by rw[zJ,zJ,e1],by rw[zJ,zJ,e2],.cons r2 rs,fun j b p h1 h2=>?_,fun i k p h1 h2=>?_⟩
   ·cases j with
    |zero=>
     have e1:a=b:=by simpa using h1
     have e2:(u1,u2)=p:=by simpa using h2
     subst e1 e2
     exact pt
    |succ j=>exact g1 j b p (by simpa using h1) (by simpa using h2)
   ·cases i with
    |zero=>
     have e1:kv.1=k:=by simpa using h1
     have e2:(u1,u2)=p:=by simpa using h2
     subst e1 e2
     exact Ks r1
    |succ i=>exact g2 i k p (by simpa using h1) (by simpa using h2)
 obtain⟨ps,e1,e2,rs,g1,g2⟩:=key ha
 have hlk:=Paired.len ha
 rw[zD]at zl
 refine Ie (ks:=kvs.map (·.1)) (Tp he e1 g1) (I.ok.hd hc) (by rw[zD,e2]) g2 (by(first|lia|omega)) fun h' t' dd k=>?_
 exact LX I rs (by(first|lia|omega)) (zS _) dd (fun c o e=>k c o (fun z=>nomatch z) e) q
theorem Rt:bootBuiltins "dict"=some (.type "dict"):=by decide+kernel
def Tn (K:PySem.W.Frag)(b1 b2:Bool)(ta:TA):TE:=fun σ H Q=>ta σ H fun vs H1=> ∃a1 a2 kvs,vs=[.ref a1,.ref a2]/\OR b1 K H1 a1 ((kvs.map (·.1)).map kV)/\OR b2 K H1 a2 (kvs.map (·.2))/\ ∀p,H1 p=none->Q (.ref p) (upd H1 p (.dK (Gc kvs)))
theorem Pz (b1 b2:Bool){l m:Expr}{ta:TA}{p1 p2 pos1 pos2:Pos}(hc:X.calm=true)(hg:Gl X "dict")(hm:X.mg "dict"=none)(hg2:Gl X "zip")(hm2:X.mg "zip"=none)(ha:PA X [l,m] ta)(hs:starEach [l,m] X.env=(false,eval l X.env)::starEach [m] X.env:=by rfl)(hpl:(backTo pos2 (starEach [m] X.env)).any (·.1)=false:=by rfl):
  PE X (.Call (.Name "dict" p1) [.Call (.Name "zip" p2) [l,m] [] pos2] [] pos1) (Tn X.K b1 b2 ta):=by
 refine⟨?_⟩
 intro pins s σ H Q I h
 refine Call_ (Eo I hg hm Rt (jJ ?_ (by rfl) (by rfl)))
 refine qF (Call_ (Eo I hg2 hm2 Vq (jJ (qR (ha pos2 pins s σ H _ I h) fun us s1 ⟨vs,H1,I1,r1,q1⟩=>?_) hs hpl)))
 obtain⟨a1,a2,kvs,e,k1,k2,q⟩:=q1
 subst e
 obtain⟨u1,u2,rfl,ru1,ru2⟩:=NA r1
 cases ru1
 cases ru2
 obtain⟨i1,r1,p1,z1⟩:=I1.sq k1
 obtain⟨i2,r2,p2,z2⟩:=I1.sq k2
 refine Mb p1 p2 fun h' z TI TO j1 j2 D st lt hk=>?_
 refine Ag ?_
 have l1:=Cg r1
 have l2:=Cg r2
 rw[zD,zD]at l1
 rw[zD]at l2 z2
 have e1:(i1.zip i2).map (·.1)=i1:=List.map_fst_zip (by(first|lia|omega))
 have e2:(i1.zip i2).map (·.2)=i2:=List.map_snd_zip (by(first|lia|omega))
 have zl:(i1.zip i2).length =kvs.length:=by rw[uN];(first|lia|omega)
 have g1:Di b1 h' a1 ((i1.zip i2).map (·.1)).toArray:=by rw[e1];exact p1.keep fun o e=>hk _ _ e
 have g2:Di b2 h' a2 ((i1.zip i2).map (·.2)).toArray:=by rw[e2];exact p2.keep fun o e=>hk _ _ e
 refine Ie (s:={s1 with heap:=h'}) (ks:=kvs.map (·.1)) (ps:=i1.zip i2) (VI (s:={s1 with heap:=h'}) D st g1 g2) (I.ok.hd hc) (by rw[zD,zl]) (fun i k p x1 x2=>?_) (by(first|lia|omega)) fun h2 t' dd k=>?_
 ·have y2:i1[i]? =some p.1:=by
   rw[<-e1,zN,x2];rfl
  have y1:((kvs.map (·.1)).map kV)[i]? =some (kV k):=by rw[zN,x1];rfl
  obtain⟨u,h1,h2⟩:=jP.get r1 y1
  rw[y2]at h1
  cases h1
  exact Ks h2
 ·rw[e2]at dd
  show EP X pins σ Q (.ref h'.objs.size) {s1 with heap:=h2,toks:=t'}
  refine LX I1 r2 (by(first|lia|omega)) ?_ dd (fun c o e=>k c o (fun z=>?_) (hk c o e)) q
  ·exact yO (lt z (by simp)) (uF (yC st.1))
  ·exact absurd (yC e) (Nat.not_lt_of_ge (lt c z))
end
end L2

namespace L2
open PySem PySem.Spec PyProof.Rows
section
variable {X:Cx}
end
end L2

namespace L2
open PySem PySem.Spec PyProof.Rows PySem.W
section
variable {X:Cx}{pos:Pos}{e:Expr}
end
end L2

namespace L2
open PySem
theorem Yk:bootBuiltins "all"=some (.builtin "all"):=by decide+kernel
end L2

namespace L2
open PySem PySem.Spec PyProof.Rows
inductive Tr where
 |mk (kind:Int) (own:List Int) (parts:List Tr)
mutual
def XE:Tr->List Tr
 | .mk k own ps=>.mk k own ps::NV ps
def NV:List Tr->List Tr
 |[]=>[]
 |a::r=>XE a++NV r
end
mutual
def Br:Tr->List Int
 | .mk k own ps=>k::(own++Aj ps)
def Aj:List Tr->List Int
 |[]=>[]
 |a::r=>Br a++Aj r
end
mutual
theorem HQ: ∀t:Tr,(XE t).length<=(Br t).length
 | .mk k own ps=>by
  have:=Ln ps
  simp[XE,Br];(first|lia|omega)
theorem Ln: ∀ts:List Tr,(NV ts).length<=(Aj ts).length
 |[]=>by simp[NV,Aj]
 |a::r=>by
  have:=HQ a
  have:=Ln r
  simp[NV,Aj];(first|lia|omega)
end
mutual
def bare:Nd->Tr
 | .mk k _ own ps=>.mk k own (AK ps)
def AK:List Nd->List Tr
 |[]=>[]
 |a::r=>bare a::AK r
end
abbrev Fn:=(Int×Int)×Tr
def MZ (fs:List Fn):List Int:=fs.flatMap fun f=>[f.1.1,f.1.2]
def Dh (fs:List Fn):List Int:=fs.flatMap fun f=>Br f.2
def wr (fs:List Fn):List Int:=(fs.length:Int)::(MZ fs++Dh fs)
section

theorem Jv (l:Addr)(items:Array Value)(n:Nat)(b:Addr)(items2:Array Value)(n2:Nat)(dd:Option Addr)(sl:Array (Option Value))(hs0: ¬(!items.isEmpty&&Builtin.List.listTooLong (items.size+items2.size))=true)(hs1:items.size<=sizeLine)(hs2:items.size+items2.size<=sizeLine+1):
  Meets (Builtin.«list.extend» ⟨[.ref l,.ref b],[]⟩) (fun _ R s=>s.heap.get? l=some {cls:=.type "list",dict:=none,data:=.seq items n,slots:=#[]}/\s.heap.get? b=some ⟨.type "tuple",dd,.seq items2 n2,sl⟩/\R (.ok (.ret Value.none)) {s with heap:=s.heap.update l (Obj.mapSeq fun x=>x++items2),toks:=s.toks}):=
 .of_wp fun _ _ _ _ σs hyp=>by
  obtain⟨σh,σg,σd,σt,σo⟩:=σs
  obtain⟨atL,atB,fin⟩:=hyp
  have r1:=AutoSeq1.idx_int
  have r2:=AutoSeq1.sub_tuple_tuple
  have r3:=AutoSeq1.sub_list_list
  have r4:=AutoSeq1.sub_tuple_list
  have r5:=AutoSeq1.sub_list_tuple
  have fits:(items++items2).size<=sizeLine+1:=by simpa using hs2
  wp_walk using(wpAny_updateSeq atL rfl (hz:=hs1) (_hz':=fits)),AN atL,AN atB
  exact⟨_,rfl,fin⟩
end
section
variable {X:Cx}
inductive NR (x:V) (vs:List V) (H:Hp) (Q:VK):Prop
 |mk (l b xs zs:_) (h0:x=.ref l) (h1:vs=[.ref b]) (h2:H l=some (.lst xs)) (h3:H b=some (.tup zs)) (h4:xs.length+zs.length<=sizeLine) (h5:Q .non (upd H l (.lst (xs++zs)))):NR x vs H Q
theorem PX:YA X "list.extend" NR:=by
 intro pins s σ H x vs v us Q I rx rv h
 obtain⟨l,b,xs,zs,rfl,rfl,hH,hB,hz,q⟩:=h
 cases rx
 obtain⟨u,rfl,ru⟩:=rv.one
 cases ru
 obtain⟨z,its,n,r,hl,e⟩:=I.lstM hH
 obtain⟨_,its2,r2,p⟩:=(show wI X.prog X.w H s.heap b (.tup zs)from I.hok b _ hB)
 obtain⟨⟨oc,od,oda,osl⟩,h1,h2,n2,h3⟩:=p
 dsimp only at h2 h3
 subst h2 h3
 have hl2:=r2.length
 have hsz:its.toArray.size+its2.toArray.size<=sizeLine:=by rw[yD,yD];(first|lia|omega)
 have hlong: ¬(!its.toArray.isEmpty&&Builtin.List.listTooLong (its.toArray.size+its2.toArray.size))=true:=by
  rw[Oh hsz,DH]
  exact yI
 refine wB F.slot_list_extend ⟨_,e,rfl⟩ F.entry_list_extend (F.args_list_extend_2 _ _)
  (Jv l its.toArray n b its2.toArray n2 od osl hlong (by rw[yD];(first|lia|omega)) (by(first|lia|omega))) ⟨e,h1,?_⟩
 refine⟨.non,_,I.lset (its':=its++its2) hH e (by simp) (r.append r2) ?_,rfl,q⟩
 rw[zC]
 (first|lia|omega)
end
def Re (r:Ct×List Nd):List Fn:=r.1.zip (AK r.2)
end L2

namespace L2
open PySem PySem.Spec PyProof.Rows
section
variable {X:Cx}{tg:Expr}
end
end L2

namespace L2
open PySem PySem.Spec PyProof.Rows
def jG (as:List Addr)(H H':Hp):Prop:= ∀b o,b∉as->H b=some o->H' b=some o
theorem jG.same {as:List Addr}{H H':Hp}(h:wG H H'):jG as H H':=fun b o _ e=>h b o e
theorem jG.refl (as:List Addr)(H:Hp):jG as H H:=fun _ _ _ e=>e
theorem jG.trans {as:List Addr}{H H1 H2:Hp}(a:jG as H H1)(b:jG as H1 H2):jG as H H2:=fun c o n e=>b c o n (a c o n e)
theorem jG.upd {as:List Addr}{H:Hp}{a:Addr}{o:HO}(h:a∈as):jG as H (upd H a o):=fun c u n e=>by
 have z:c≠a:=fun z=>n (by rw[z];exact h)
 rw[zQ z];exact e
theorem An {α:Type}{xs:List α}{k:Int}{v:α}(h0:0<=k)(h:xs[k.toNat]? =some v):Fz xs k=some v:=by
 have:=By h
 rwa [show((k.toNat:Nat):Int)=k by(first|lia|omega)]at this
end L2

namespace L2
open PySem
end L2
namespace L2
open PySem
theorem mem3 {k a b c:Int}:k∈[a,b,c] ↔ k=a\/k=b\/k=c:=by simp
end L2
namespace L2
open PySem
end L2
namespace L2
open PySem
section
variable {X:Cx}
end
end L2

namespace L2
open PySem
end L2

namespace L2
open PySem
end L2

namespace L2
open PySem
abbrev Yq:=List (Int×Int)
def jmp (rs:Yq)(i:Nat):Prop:= ∃n,rs[i]? =some (4,n)
instance (rs:Yq)(i:Nat):Decidable (jmp rs i):=
 match h:rs[i]? with
 |none=>isFalse fun⟨n,e⟩=>by rw[h]at e;cases e
 |some (op,n)=>if e:op=4 then isTrue ⟨n,by rw[h,e]⟩else isFalse fun⟨m,z⟩=>by rw[h]at z;cases z;exact e rfl
def stp (rs:Yq)(i:Nat):Nat:=match rs[i]? with
 |some (op,n)=>if op=4 then n.toNat else i
 |none=>i
def its (rs:Yq):Nat->Nat->Nat
 |0,i=>i
 |k+1,i=>stp rs (its rs k i)
end L2
namespace L2
open PySem
end L2

namespace L2
open PySem
inductive Out where
 |go (pc:Nat) (held:List Int) (br:Int)
 |bad (w:Str) (n:Int)
 |done (v:Int)
def pop (held:List Int)(f:List Int->Int->Out):Out:=match held.getLast? with
 |none=>.bad "stray" 0
 |some v=>f held.dropLast v
structure Ads where
 (m dm hd sp rw r0 r1 bd d dd bx hl:Addr)
section
variable {CM CD:Addr}{H0 H:Hp}{A:Ads}{rs:Yq}{pc:Nat}{held:List Int}{br:Int}
end
section
variable {rs:Yq}{f pc a:Nat}{held h:List Int}{br b v n:Int}{w:Str}{r:Int×Int}
end
section
variable {rs:Yq}{f pc a:Nat}{held h:List Int}{br b v n:Int}{w:Str}{r:Int×Int}
end
end L2

namespace L2
open PySem
inductive Ro where
 |m|bd|hd|sp|rw
 |row (i:Nat)
 |d (i:Nat)
 |bx (i:Nat)
 |hl (i:Nat)
structure Fr where
 pc:Nat
 bx:List Int
 hl:List Int
structure MS where
 rows:List (List Int)
 frs:List Fr
 br:Int
 va:Int
structure Pl where
 ad:Ro->Addr
 dd:Nat->Addr
 dm:Addr
 uh:List V
 us:List V
def MS.f (s:MS)(i:Nat):Fr:=s.frs.getD i ⟨0,[],[]⟩
def MG (CM:Addr)(A:Pl)(br va:Int):HO:=.ins CM A.dm [("heads",.ref (A.ad .hd)),("steps",.ref (A.ad .sp)),("rows",.ref (A.ad .rw)),("breaths",.int br),("being_done",.ref (A.ad .bd)),("value",.int va)]
def DG (CD:Addr)(A:Pl)(i:Nat)(pc:Int):HO:=.ins CD (A.dd i) [("at",.int pc),("boxes",.ref (A.ad (.bx i))),("held",.ref (A.ad (.hl i)))]
def bdL (A:Pl)(n:Nat):List V:=(List.range n).map fun i=>V.ref (A.ad (.d i))
def rwL (A:Pl)(n:Nat):List Addr:=(List.range n).map fun i=>A.ad (.row i)
def cont (CM CD:Addr)(A:Pl)(s:MS):Ro->HO
 | .m=>MG CM A s.br s.va
 | .bd=>.lst (bdL A s.frs.length)
 | .hd=>.lst A.uh
 | .sp=>.lst A.us
 | .rw=>.lst ((rwL A s.rows.length).map V.ref)
 | .row i=>.lst ((s.rows.getD i []).map V.int)
 | .d i=>DG CD A i (s.f i).pc
 | .bx i=>.lst ((s.f i).bx.map V.int)
 | .hl i=>.lst ((s.f i).hl.map V.int)
section
variable {CM CD:Addr}{H0 H:Hp}{A:Pl}{hs rs:List (List Int)}{s:MS}
end
section
variable {CM CD:Addr}{H0 H H1:Hp}{A:Pl}{hs rs:List (List Int)}{s:MS}
end
section
variable {CM CD:Addr}{H0 H H1:Hp}{A:Pl}{hs rs:List (List Int)}{s:MS}{x dx bx hl:Addr}{pc:Nat}{zs:List Int}
end
section
variable {CM CD:Addr}{H0 H H1:Hp}{A:Pl}{hs rs:List (List Int)}{s:MS}
end
section
variable {hs rs:List (List Int)}{s s':MS}{fuel:Nat}{op n k:Int}{w:Str}{rows:List (List Int)}
end
def Vb (v:Int):Prop:=v.natAbs<2^2000
section
variable {CM CD:Addr}{H0 H:Hp}{A:Pl}{hs rs:List (List Int)}{s:MS}
end
end L2

namespace L2
open PySem
section
variable {j:Nat}{s s':MS}{n:Int}{hs:List (List Int)}
end
end L2

namespace L2
open PySem
end L2

namespace L2
open PySem
abbrev Hn:=Int×List Int
abbrev Xe:=List (Nat×Int)
def zBk:Nd->Hn
 | .mk k _ own _=>(k,own)
def zBd:Nd->Nat
 | .mk _ p _ _=>p
def Zs (xs:List Hn):List Int:=xs.flatMap fun x=>x.1::x.2
def hns (n:Nd):List Hn:=(pre n).map zBk
inductive VD (hs:Ct):Xe->List Hn->Xe->Prop where
 |nil {S:Xe}:VD hs S [] S
 |cons {d:Nat} {b k:Int} {own:List Int} {r:Xe} {xs:List Hn} {S:Xe} (k0:0<=k) (k1:k<=19) (f:FB hs b k own) (h:VD hs (List.replicate (FG hs k own).toNat (d,b)++r) xs S):VD hs ((d+1,b)::r) ((k,own)::xs) S
theorem VD.append {hs:Ct}{S S1 S2:Xe}{xs ys:List Hn}(h:VD hs S xs S1)(g:VD hs S1 ys S2):VD hs S (xs++ys) S2:=by
 induction h with
 |nil=>exact g
 |cons k0 k1 f _ ih=>exact .cons k0 k1 f (ih g)
mutual
def Zv:Nd->Nat
 | .mk _ _ _ ps=>1+Zw ps
def Zw:List Nd->Nat
 |[]=>0
 |a::r=>max (Zv a) (Zw r)
end
mutual
def ZO (hs:Ct)(b:Int):Nd->Prop
 | .mk k _ own ps=>0<=k/\k<=19/\FB hs b k own/\ps.length=(FG hs k own).toNat/\ZQ hs b ps
def ZQ (hs:Ct)(b:Int):List Nd->Prop
 |[]=>True
 |a::r=>ZO hs b a/\ZQ hs b r
end
structure Ctx (hs:Ct)(S0 R:Xe)(all:List Hn)(p0 i:Nat)(m:Nd)(e:Nat)(b:Int):Prop where
 ex: ∃X Y r,all=X++(hns m++Y)/\X.length=i/\VD hs S0 X ((e,b)::r)/\VD hs r Y R/\zBd m=p0+(Zs X).length
 fit:ZO hs b m
 dep:Zv m<=e
theorem Ctx.before {hs:Ct}{S0 R1 R:Xe}{Z all:List Hn}{p0 i:Nat}{m:Nd}{e:Nat}{b:Int}(c:Ctx hs S0 R1 all p0 i m e b)(h:VD hs R1 Z R):Ctx hs S0 R (all++Z) p0 i m e b:=by
 obtain⟨⟨X,Y,r,e1,e2,e3,e4,e5⟩,f,d⟩:=c
 exact⟨⟨X,Y++Z,r,by rw[e1,yP,yP],e2,e3,e4.append h,e5⟩,f,d⟩
end L2

namespace L2
open PySem
structure ES where
 rows:List (List Int)
 br:Int
 bx:List Int
 ct:Nat
inductive ER where
 |val (v:Int) (s:ES)
 |bad (w:Str) (n:Int) (rows:List (List Int)) (ct:Nat×Int)
mutual
def Ba (hs:Ct)(b:Int):Nat->Tr->Prop
 |0,_=>False
 |n+1,.mk k own ps=>0<=k/\k<=19/\FB hs b k own/\ps.length=(FG hs k own).toNat/\(∀v∈own,Vb v)/\Cp hs b n ps
def Cp (hs:Ct)(b:Int):Nat->List Tr->Prop
 |_,[]=>True
 |n,a::r=>Ba hs b n a/\Cp hs b n r
end
section
variable {g M N U U' c0 c1 bl:Nat}{br0 br1:Int}{r:ER}{f:Int->ES->ER}{s:ES}{hs:Ct}{b:Int}{k:Int}{own vs:List Int}
end
end L2

namespace L2
open PySem
section
variable {ns:List Int}{hs:Ct}{b:Int}
theorem Ls {n:Nat}(ih: ∀(t:Tr) (p:Nat),Ba hs b n t->Sub ns p (Br t)-> ∃nd,CP ns hs b n p=.ok (nd,p+(Br t).length)/\bare nd=t):
  ∀(ps:List Tr) (p:Nat),Cp hs b n ps->Sub ns p (Aj ps)-> ∃nds,Dt (CP ns hs b n) ps.length p=.ok (nds,p+(Aj ps).length)/\AK nds=ps
 |[],p,_,_=>⟨[],rfl,rfl⟩
 |t::ps,p,f,s=>by
  unfold Cp at f
  have e:Aj (t::ps)=Br t++Aj ps:=rfl
  rw[e]at s ⊢
  obtain⟨s1,s2⟩:=Sub.append s
  obtain⟨nd,e1,b1⟩:=ih t p f.1 s1
  obtain⟨nds,e2,b2⟩:=Ls ih ps _ f.2 s2
  refine⟨nd::nds,?_,?_⟩
  ·rw[zJ]
   unfold Dt
   rw[e1]
   dsimp only
   rw[e2]
   dsimp only
   rw[zC,AM]
  ·show bare nd::AK nds=_
   rw[b1,b2]
theorem Ol: ∀(n:Nat) (t:Tr) (p:Nat),Ba hs b n t->Sub ns p (Br t)-> ∃nd,CP ns hs b n p=.ok (nd,p+(Br t).length)/\bare nd=t
 |0,t,p,f,_=>by unfold Ba at f;exact f.elim
 |n+1,.mk k own ps,p,f,s=>by
  unfold Ba at f
  obtain⟨k0,k1,of,lp,_,fp⟩:=f
  have e:Br (.mk k own ps)=(k::own)++Aj ps:=rfl
  rw[e]at s ⊢
  obtain⟨s1,s2⟩:=Sub.append (xs:=k::own) s
  obtain⟨nds,e2,b2⟩:=Ls (Ol n) ps _ fp s2
  refine⟨.mk k p own nds,?_,?_⟩
  ·unfold CP
   rw[Ah s1.1 k0 k1];dsimp only
   rw[Wc of s1.2];dsimp only
   rw[show p+1+own.length=p+(k::own).length by rw[zJ];(first|lia|omega),<-lp,e2]
   dsimp only
   rw[zC,AM]
  ·show Tr.mk k own (AK nds)=_
   rw[b2]
theorem KJ: ∀(fs:List Fn) (p:Nat),(∀f∈fs,Ba hs f.1.2 10 f.2)->Sub ns p (Dh fs)-> ∃nds,Bx ns hs (fs.map Prod.fst) p=.ok (nds,p+(Dh fs).length)/\AK nds=fs.map Prod.snd
 |[],p,_,_=>⟨[],rfl,rfl⟩
 |f::fs,p,h,s=>by
  have e:Dh (f::fs)=Br f.2++Dh fs:=Ed ..
  rw[e]at s ⊢
  obtain⟨s1,s2⟩:=Sub.append s
  obtain⟨nd,e1,b1⟩:=Ol 10 f.2 p (h f (zP ..)) s1
  obtain⟨nds,e2,b2⟩:=KJ fs _ (fun g hg=>h g (zT _ hg)) s2
  refine⟨nd::nds,?_,?_⟩
  ·rw[yK]
   unfold Bx
   rw[e1]
   dsimp only
   rw[e2]
   dsimp only
   rw[zC,AM]
  ·show bare nd::AK nds=_
   rw[b1,b2]<;>rfl
theorem Gh: ∀fs:List Fn,MZ fs=flat (fs.map Prod.fst)
 |[]=>rfl
 |f::fs=>by
  show f.1.1::f.1.2::MZ fs=f.1.1::f.1.2::flat (fs.map Prod.fst)
  rw[Gh fs]
theorem Qy: ∀fs:List Fn,(fs.map Prod.fst).zip (fs.map Prod.snd)=fs
 |[]=>rfl
 |f::fs=>by
  show(f.1,f.2)::(fs.map Prod.fst).zip (fs.map Prod.snd)=_
  rw[Qy fs]
theorem Ye {fs:List Fn}(g:JJ (fs.map Prod.fst))(h: ∀f∈fs,Ba (fs.map Prod.fst) f.1.2 10 f.2): ∃nds,AY (wr fs)=.ok (fs.map Prod.fst,nds)/\Re (fs.map Prod.fst,nds)=fs:=by
 have lm:(fs.map Prod.fst).length =fs.length:=zD ..
 have ew:wr fs=((fs.length:Int)::flat (fs.map Prod.fst))++Dh fs:=by
  unfold wr
  rw[Gh]<;>rfl
 have s:=Sub.self (wr fs)
 rw[ew]at s ⊢
 obtain⟨s1,s2⟩:=Sub.append (xs:=(fs.length:Int)::flat (fs.map Prod.fst)) s
 have l:0+((fs.length:Int)::flat (fs.map Prod.fst)).length =1+2*(fs.map Prod.fst).length:=by rw[zJ,Kz];(first|lia|omega)
 rw[l]at s2
 obtain⟨nds,e,bb⟩:=KJ (hs:=fs.map Prod.fst) fs _ h s2
 refine⟨nds,?_,?_⟩
 ·have g1:=g.lo
  have g2:=g.hi
  have eh:Az (((fs.length:Int)::flat (fs.map Prod.fst))++Dh fs)=.ok (fs.map Prod.fst):=by
   unfold Az
   rw[Ah s1.1 (by(first|lia|omega)) (by(first|lia|omega))]
   dsimp only
   rw[jR]
   have:=g.heads s1.2
   rw[lm]at this
   exact this
  unfold AY
  rw[eh];dsimp only
  rw[e]
  refine zL ?_
  dsimp only
  rw[zC,zJ,Kz]
  (first|lia|omega)
 ·show(fs.map Prod.fst).zip (AK nds)=fs
  rw[bb]
  exact Qy fs
end
end L2

namespace L2
open PySem PySem.NumText PySem.W
theorem Gk (xs:List Nat)(c:Nat):digitsVal (xs++[c])=digitsVal xs*10+(c-48):=by
 unfold digitsVal
 rw[List.foldl_append]
 rfl
theorem IJ: ∀(n:Nat) (xs:List Nat),xs.length<=n->xs≠[]->(∀c∈xs,48<=c/\c<=57)->(xs.length=1\/xs[0]?≠some 48)->Gj (digitsVal xs)=xs
 |0,xs,hl,h0,_,_=>absurd (List.length_eq_zero_iff.mp (Nat.le_zero.mp hl)) h0
 |n+1,xs,hl,h0,hc,hh=>by
  rcases BN xs with rfl|⟨ys,c,rfl⟩
  ·exact absurd rfl h0
  rw[BO]at *
  have cc:=hc c (by simp)
  rw[Gk]
  by_cases e:ys=[]
  ·subst e
   have:digitsVal []=0:=rfl
   rw[this,GF (by(first|lia|omega))]
   show[48+(0*10+(c-48))]=[c]
   rw[show 48+(0*10+(c-48))=c by(first|lia|omega)]
  ·have hl':ys.length<=n:=by rw[zC]at hl;have:[c].length =1:=rfl;(first|lia|omega)
   have hy:ys[0]?≠some 48:=by
    rcases hh with z|z
    ·rw[zC]at z
     have:[c].length =1:=rfl
     exact absurd (List.length_eq_zero_iff.mp (by(first|lia|omega))) e
    ·rw[vF (List.length_pos_iff.mpr e)]at z
     exact z
   have ih:=IJ n ys hl' e (fun x hx=>hc x (by simp[hx])) (.inr hy)
   have p:digitsVal ys≠0:=fun z=>by
    rw[z]at ih
    rw[<-ih]at hy
    exact hy (by decide)
   rw[JI (by(first|lia|omega)),show(digitsVal ys*10+(c-48)) / 10=digitsVal ys by(first|lia|omega),ih,show 48+(digitsVal ys*10+(c-48)) % 10=c by(first|lia|omega)]
theorem IK: ∀(n:Nat) (xs:List Nat),xs.length<=n->(∀c∈xs,48<=c/\c<=57)->digitsVal xs<10^n
 |0,xs,hl,_=>by rw[List.length_eq_zero_iff.mp (Nat.le_zero.mp hl)];decide
 |n+1,xs,hl,hc=>by
  rcases BN xs with rfl|⟨ys,c,rfl⟩
  ·exact Nat.pos_of_ne_zero (by simp)
  rw[BO]at *
  have cc:=hc c (by simp)
  have hl':ys.length<=n:=by rw[zC]at hl;have:[c].length =1:=rfl;(first|lia|omega)
  have ih:=IK n ys hl' (fun x hx=>hc x (by simp[hx]))
  rw[Gk,Nat.pow_succ]
  (first|lia|omega)
theorem QD {x y:Str}(h:x.cps.toList=y.cps.toList):x=y:=by
 cases x;cases y
 exact xT Str.mk (Array.ext' h)
theorem PP {x:Str}(h:Ab x 60=true):x=uL (Js x)/\(Js x).natAbs <10^60:=by
 obtain⟨h1,h2,h3⟩:=IE h
 have h4:x="0"\/ ¬(vR x).cps.toList[0]? =some 48:=by
  unfold Ab at h
  rw[jW,Bool.or_eq_true_iff]at h
  rcases h.2 with z|z
  ·exact .inl (yB z)
  ·refine .inr fun y=>?_
   rw[yE y]at z
   cases z
 have hl:(vR x).cps.toList.length =(vR x).length:=yQ
 have ne:(vR x).cps.toList≠[]:=fun z=>by rw[z]at hl;have:([]:List Nat).length =0:=rfl;(first|lia|omega)
 by_cases c:x.cps.toList[0]? =some 45
 ·obtain⟨r,er⟩: ∃r,x.cps.toList=45::r:=by
   cases e:x.cps.toList with
   |nil=>rw[e]at c;cases c
   |cons a r=>rw[e]at c;cases c;exact⟨r,rfl⟩
  have ef:(vR x).cps.toList =r:=by rw[(Dw er).1]
  rw[ef]at h3 ne hl h4
  have hx:x.cps.toList.length=x.length:=yQ
  rw[er,zJ]at hx
  have ev:Js x= -(digitsVal r:Int):=by
   unfold Js
   rw[intText_neg er h3 ne (by(first|lia|omega))]
   rfl
  have h5: ¬r[0]? =some 48:=by
   rcases h4 with z|z
   ·rw[z]at er
    exact absurd (xT (·[0]?) er) (by simp;decide)
   ·exact z
  have lt:=IK 60 r (by(first|lia|omega)) h3
  have bk:=IJ r.length r (zS _) ne h3 (.inr h5)
  have nz:digitsVal r≠0:=fun z=>by
   rw[z]at bk
   rw[<-bk]at h5
   exact h5 (by decide)
  rw[ev]
  refine⟨QD ?_,by rw[Int.natAbs_neg,Bd];exact lt⟩
  rcases Ez (-(digitsVal r:Int))with⟨z,_⟩|⟨_,z⟩
  ·(first|lia|omega)
  ·rw[z,er,Int.natAbs_neg,Bd,bk]
 ·have ef:=BV c
  rw[ef]at h2 h3 ne hl h4
  have ev:Js x=(digitsVal x.cps.toList:Int):=by
   unfold Js
   rw[intText_digits h3 ne (by(first|lia|omega))]
   rfl
  have lt:=IK 60 x.cps.toList (by(first|lia|omega)) h3
  rw[ev]
  refine⟨QD ?_,by rw[Bd];exact lt⟩
  have bk:Gj (digitsVal x.cps.toList)=x.cps.toList:=by
   refine IJ _ _ (zS _) ne h3 ?_
   rcases h4 with z|z
   ·left;rw[z];decide
   ·exact .inr z
  rcases Ez (digitsVal x.cps.toList:Int)with⟨_,z⟩|⟨z,_⟩
  ·rw[z,Bd,bk]
  ·(first|lia|omega)
def CA (nm bs:List Str)(k n:Int):Str:=if k=1\/k=2 then bs.getD n.toNat "" else if k=6 then nm.getD n.toNat "" else uL n
def FK (nm bs:List Str)(k:Int)(own:List Int):List Str:=(if k=0\/k=1 then[]else[kwW.getD (k-2).toNat ""])++own.map (CA nm bs k)
mutual
def vD (nm bs:List Str):Tr->List Str
 | .mk k own ps=>FK nm bs k own++uI nm bs ps
def uI (nm bs:List Str):List Tr->List Str
 |[]=>[]
 |a::r=>vD nm bs a++uI nm bs r
end
mutual
def OS:Tr->Prop
 | .mk _ own ps=>(∀v∈own,v.natAbs<10^60)/\IT ps
def IT:List Tr->Prop
 |[]=>True
 |a::r=>OS a/\IT r
end
structure WJ (nm:List Str)(hs:Ct)(num:List (Str×Int))(cnt:List Int):Prop where
 num: ∀(x:Str) (f:Int),wE num x=some f->0<=f/\f.toNat<hs.length/\nm[f.toNat]? =some x
 cnt: ∀i:Nat,i<hs.length->cnt[i]? =some (hs.getD i (0,0)).1
theorem zAj {n:Int}(h:n.natAbs<10^60):Vb n:=qB h (by decide+kernel)
theorem getD_some {bs:List Str}{i:Nat}{w:Str}(h:bs[i]? =some w):bs.getD i ""=w:=by
 rw[yS,h];rfl
theorem GD {W:List Str}{a:Nat}{w:Str}(h:W[a]? =some w):HD W a [w]:=by
 have hl:=Gi h
 refine⟨W.drop (a+1),?_⟩
 rw[xW hl]
 have:W[a]=w:=by
  have:=zB hl
  rw[h]at this
  exact(xU this).symm
 rw[this];rfl
theorem JF {W:List Str}{a:Nat}:HD W a []:=⟨_,rfl⟩
theorem HD.join {W:List Str}{a:Nat}{u v:List Str}(h:HD W a u)(g:HD W (a+u.length) v):HD W a (u++v):=by
 obtain⟨x,e⟩:=h
 obtain⟨y,e2⟩:=g
 rw[<-List.drop_drop,e,List.drop_left]at e2
 exact⟨y,by rw[e,e2,yP]⟩
section
variable {W bs nm:List Str}{hs:Ct}{num:List (Str×Int)}{cnt:List Int}
theorem IC {a:Nat}{n:Int}(h:ID W a=.ok n):W[a]? =some (uL n)/\n.natAbs<10^60:=by
 unfold ID at h
 split at h
 ·rename_i w e
  split at h
  ·rename_i c
   cases h
   obtain⟨h1,h2⟩:=PP c
   rw[<-h1]
   exact⟨e,h2⟩
  ·cases h
 ·cases h
theorem SS {a n:Nat}(h:KH W a bs=.ok n): ∃w,W[a]? =some w/\bs[n]? =some w:=by
 unfold KH at h
 split at h
 ·rename_i w e
  split at h
  ·rename_i m
   cases h
   refine⟨w,e,?_⟩
   rw[zB (List.idxOf_lt_length_iff.mpr m),DC]
  ·cases h
 ·cases h
theorem Kl {a:Nat}{l n:Int}(h:FF W a l=.ok n):W[a]? =some (uL n)/\n.natAbs<10^60/\l<=n/\n<=12:=by
 have:=Kk h
 unfold FF at h
 split at h
 ·rename_i m e
  split at h
  ·cases h
  ·cases h
   exact⟨(IC e).1,(IC e).2,this.2.1,this.2.2⟩
 ·cases h
theorem Ni (ag:WJ nm hs num cnt){a:Nat}{n:Int}(h:Bw W num a=.ok n): ∃w,W[a]? =some w/\0<=n/\n.toNat<hs.length/\nm[n.toNat]? =some w:=by
 unfold Bw at h
 split at h
 ·rename_i w e
  split at h
  ·split at h
   ·rename_i e2
    cases h
    exact⟨w,e,ag.num w n e2⟩
   ·cases h
  ·cases h
 ·cases h
theorem RT (ag:WJ nm hs num cnt)(hb:bs.length<=12)(hh:hs.length<=16){a:Nat}{k:Int}{q:List Int×Nat}(k0:0<=k)(k1:k<=19)(h:Ex W num a k bs=.ok q):FB hs (bs.length:Int) k q.1/\HD W a (q.1.map (CA nm bs k))/\q.2=a+q.1.length/\(∀v∈q.1,v.natAbs<10^60)/\Ib cnt k q.1=FG hs k q.1:=by
 unfold Ex at h
 split at h
 ·rename_i c
  subst c
  split at h
  ·rename_i n e
   cases h
   obtain⟨e1,e2⟩:=IC e
   exact⟨.inl ⟨rfl,n,rfl⟩,GD e1,rfl,fun v hv=>by rw[List.mem_singleton.mp hv];exact e2,rfl⟩
  ·cases h
 split at h
 ·rename_i c0 c
  split at h
  ·rename_i n e
   cases h
   obtain⟨w,e1,e2⟩:=SS e
   have hl:=(Rw e).2
   refine⟨.inr (.inl ⟨c,(n:Int),rfl,by(first|lia|omega),by(first|lia|omega)⟩),?_,rfl,fun v hv=>by rw[List.mem_singleton.mp hv];exact jY (show _<=100000 by(first|lia|omega)) (by decide+kernel),?_⟩
   ·show HD W a [CA nm bs k (n:Int)]
    unfold CA
    rw[zW c,jR,getD_some e2]
    exact GD e1
   ·unfold Ib FG
    rcases c with rfl|rfl<;>rfl
  ·cases h
 split at h
 ·rename_i c0 c1 c
  subst c
  split at h
  ·rename_i n e
   cases h
   obtain⟨e1,e2,e3,e4⟩:=Kl e
   exact⟨.inr (.inr (.inl ⟨rfl,n,rfl,e3,e4⟩)),GD e1,rfl,fun v hv=>by rw[List.mem_singleton.mp hv];exact e2,rfl⟩
  ·cases h
 split at h
 ·rename_i c0 c1 c2 c
  subst c
  split at h
  ·rename_i n e
   cases h
   obtain⟨e1,e2,e3,e4⟩:=Kl e
   exact⟨.inr (.inr (.inr (.inl ⟨rfl,n,rfl,e3,e4⟩))),GD e1,rfl,fun v hv=>by rw[List.mem_singleton.mp hv];exact e2,rfl⟩
  ·cases h
 split at h
 ·rename_i c0 c1 c2 c3 c
  subst c
  split at h
  ·rename_i n e
   cases h
   obtain⟨w,e1,e2,e3,e4⟩:=Ni ag e
   refine⟨.inr (.inr (.inr (.inr (.inl ⟨rfl,n,rfl,e2,by(first|lia|omega)⟩)))),?_,rfl,fun v hv=>by rw[List.mem_singleton.mp hv];exact jY (show _<=100000 by(first|lia|omega)) (by decide+kernel),?_⟩
   ·show HD W a [CA nm bs 6 n]
    unfold CA
    rw[zL (by decide),zW rfl,getD_some e4]
    exact GD e1
   ·show(cnt[n.toNat]?).getD 0=(hs.getD n.toNat (0,0)).1
    rw[ag.cnt _ e3]
    rfl
  ·cases h
 ·rename_i c0 c1 c2 c3 c4
  cases h
  refine⟨.inr (.inr (.inr (.inr (.inr ⟨by(first|lia|omega),rfl⟩)))),JF,rfl,(fun v hv=>(nomatch hv)),?_⟩
  unfold Ib FG
  rw[zL (by(first|lia|omega)),zL (by(first|lia|omega)),zL c2,zL c3,zL (show ¬(k=0\/k=1)by(first|lia|omega)),zL (show ¬k=2 by(first|lia|omega)),zL c2,zL c3,zL c4,zL c4]
  rw[yS]
  rfl
theorem Qd {a:Nat}{q:Int×Nat}(h:DU W a bs=.ok q):0<=q.1/\q.1<=19/\HD W a (if q.1=0\/q.1=1 then[]else[kwW.getD (q.1-2).toNat ""])/\q.2=a+(if q.1=0\/q.1=1 then[]else[kwW.getD (q.1-2).toNat ""]:List Str).length:=by
 have hl:=(Kr h).2
 unfold DU at h
 split at h
 ·rename_i w e
  split at h
  ·cases h;exact⟨Int.le_refl _,(show(0:Int)<=19 by decide),JF,rfl⟩
  split at h
  ·cases h;exact⟨(show(0:Int)<=1 by decide),(show(1:Int)<=19 by decide),JF,rfl⟩
  split at h
  ·rename_i m
   cases h
   have hm:kwW.idxOf w<kwW.length:=List.idxOf_lt_length_iff.mpr m
   have l:kwW.length=18:=rfl
   have e2:kwW[kwW.idxOf w]? =some w:=by rw[zB hm,DC]
   refine⟨by show 0<=2+(kwW.idxOf w:Int);(first|lia|omega),by show 2+(kwW.idxOf w:Int)<=19;(first|lia|omega),?_,?_⟩
   ·rw[zL (by show ¬(2+(kwW.idxOf w:Int)=0\/2+(kwW.idxOf w:Int)=1);(first|lia|omega))]
    show HD W a [kwW.getD (2+(kwW.idxOf w:Int)-2).toNat ""]
    rw[show(2+(kwW.idxOf w:Int)-2).toNat =kwW.idxOf w by(first|lia|omega),getD_some e2]
    exact GD e
   ·rw[zL (by show ¬(2+(kwW.idxOf w:Int)=0\/2+(kwW.idxOf w:Int)=1);(first|lia|omega))]
    rfl
  ·cases h
 ·cases h
theorem LB (ag:WJ nm hs num cnt)(hb:bs.length<=12)(hh:hs.length<=16): ∀(d a:Nat) (bd:List Int) (q:Nat×List Int),Bs W num cnt bs d a bd=.ok q-> ∃t,Ba hs (bs.length:Int) d t/\OS t/\q.2=bd++Br t/\HD W a (vD nm bs t)/\q.1=a+(vD nm bs t).length
 |0,a,bd,q,h=>by cases h
 |d+1,a,bd,q,h=>by
  unfold Bs at h
  split at h
  ·cases h
  rename_i r er
  split at h
  ·cases h
  rename_i s es
  obtain⟨k0,k1,hk,ek⟩:=Qd er
  obtain⟨o1,o2,o3,o4,o5⟩:=RT ag hb hh k0 k1 es
  have key: ∀(n a:Nat) (bd:List Int) (q:Nat×List Int),uW (Bs W num cnt bs d) n a bd=.ok q-> ∃ts:List Tr,ts.length=n/\Cp hs (bs.length:Int) d ts/\IT ts/\q.2=bd++Aj ts/\HD W a (uI nm bs ts)/\q.1=a+(uI nm bs ts).length:=by
   intro n
   induction n with
   |zero=>
    intro a bd q h
    cases h
    exact⟨[],rfl,by unfold Cp;trivial,by unfold IT;trivial,by simp[Aj],JF,rfl⟩
   |succ n ih=>
    intro a bd q h
    rw[uW]at h
    split at h
    ·rename_i u eu
     obtain⟨t,f1,fs,f2,f3,f4⟩:=LB ag hb hh d a bd u eu
     obtain⟨ts,g0,g1,gs,g2,g3,g4⟩:=ih u.1 u.2 q h
     refine⟨t::ts,by rw[zJ,g0],?_,?_,?_,?_,?_⟩
     ·unfold Cp;exact⟨f1,g1⟩
     ·unfold IT;exact⟨fs,gs⟩
     ·rw[g2,f2];simp[Aj]
     ·show HD W a (vD nm bs t++uI nm bs ts)
      rw[f4]at g3
      exact f3.join g3
     ·show q.1=a+(vD nm bs t++uI nm bs ts).length
      rw[zC,g4,f4,AM]
    ·cases h
  obtain⟨ts,g0,g1,gs,g2,g3,g4⟩:=key _ _ _ _ h
  rw[o5]at g0
  refine⟨.mk r.1 s.1 ts,?_,?_,?_,?_,?_⟩
  ·unfold Ba
   exact⟨k0,k1,o1,g0,fun v hv=>zAj (o4 v hv),g1⟩
  ·unfold OS
   exact⟨o4,gs⟩
  ·rw[g2];simp[Br]
  ·unfold vD FK
   rw[ek]at o2
   rw[o3,ek]at g3
   refine(hk.join o2).join ?_
   rw[zC,zD,<-AM]
   exact g3
  ·unfold vD FK
   rw[g4,o3,ek,zC,zC,zD]
   (first|lia|omega)
end
end L2

namespace L2
open PySem
abbrev Jy:=Str×List Str
def Bp (nm:List Str)(n:Jy)(f:Fn):Pg:=((n.1,n.2,f.1.1.toNat),vD nm n.2 f.2,Br f.2)
def Bh (ns:List Jy)(fs:List Fn):List Pg:=List.zipWith (Bp (ns.map (·.1))) ns fs
structure ST (ns:List Jy)(fs:List Fn):Prop where
 len:ns.length=fs.length
 nm: ∀n∈ns,jF n.1=true/\OX n.2
 nd:(ns.map (·.1)).Nodup
 bx: ∀(i:Nat) (n:Jy) (f:Fn),ns[i]? =some n->fs[i]? =some f->f.1.2=(n.2.length:Int)
 good:JJ (fs.map Prod.fst)
 fit: ∀f∈fs,Ba (fs.map Prod.fst) f.1.2 10 f.2
 sm: ∀f∈fs,OS f.2
section
variable {hs3:List FI}{bs nm:List Str}{hs:Ct}
theorem Dd {nm:List Str}{i:Nat}(h:i<nm.length):nm[i]? =some (nm.getD i ""):=by
 rw[yS,zB h];rfl
theorem UH {k:Int}(h2:2<=k)(h19:k<=19):kwW[(k-2).toNat]? =some (kwW.getD (k-2).toNat ""):=Dd (by show(k-2).toNat <18;(first|lia|omega))
theorem Jg {d:Nat}(ih: ∀t,Ba hs (bs.length:Int) d t->OS t->Go hs3 bs d (vD nm bs t) (Br t)): ∀(ts:List Tr) (n:Nat) (ws:List Str) (zs:List Int),FA hs3 bs d n ws zs->Cp hs (bs.length:Int) d ts->IT ts->FA hs3 bs d (n+ts.length) (ws++uI nm bs ts) (zs++Aj ts)
 |[],n,ws,zs,h,_,_=>by simpa[uI,Aj]using h
 |t::ts,n,ws,zs,h,f,s=>by
  unfold Cp at f
  unfold IT at s
  have:=Jg ih ts (n+1) _ _ (h.snoc (ih t f.1 s.1)) f.2 s.2
  have e1:ws++uI nm bs (t::ts)=ws++vD nm bs t++uI nm bs ts:=by rw[yP];rfl
  have e2:zs++Aj (t::ts)=zs++Br t++Aj ts:=by rw[yP];rfl
  rw[e1,e2,zJ,show n+(ts.length+1)=n+1+ts.length by(first|lia|omega)]
  exact this
theorem LU (hn:nm=hs3.map (·.1))(hh:hs=hs3.map fun h=>((h.2.2:Int),(h.2.1.length:Int)))(hb:OX bs): ∀(d:Nat) (t:Tr),Ba hs (bs.length:Int) d t->OS t->Go hs3 bs d (vD nm bs t) (Br t)
 |0,t,f,_=>by unfold Ba at f;exact f.elim
 |d+1,.mk k own ps,f,s=>by
  unfold Ba at f
  unfold OS at s
  obtain⟨k0,k1,of,lp,_,fp⟩:=f
  obtain⟨s1,s2⟩:=s
  have pr:=Jg (LU hn hh hb d) ps 0 [] [] .nil fp s2
  rw[Nat.zero_add,jM,jM]at pr
  have fin:2<=k->Il hs3 bs k (own.map (CA nm bs k)) own ps.length->Go hs3 bs (d+1) (vD nm bs (.mk k own ps)) (Br (.mk k own ps)):=fun h2 ho=>by
   have ek:2+(((k-2).toNat:Nat):Int)=k:=by(first|lia|omega)
   have:=JY (hs:=hs3) (d:=d) hb (UH h2 k1) (ow:=own.map (CA nm bs k)) (on:=own) (n:=ps.length) (by rw[ek];exact ho) pr
   rw[ek]at this
   have e:vD nm bs (.mk k own ps)=kwW.getD (k-2).toNat ""::(own.map (CA nm bs k)++uI nm bs ps):=by
    unfold vD FK
    rw[zL (by(first|lia|omega))]
    simp
   rw[e]
   exact this
  rcases of with⟨rfl,n,rfl⟩|⟨hk,n,rfl,a,b⟩|⟨rfl,n,rfl,a,b⟩|⟨rfl,n,rfl,a,b⟩|⟨rfl,n,rfl,a,b⟩|⟨hk,rfl⟩
  ·have e0:ps=[]:=List.length_eq_zero_iff.mp lp
   subst e0
   exact Ll (s1 n (by simp))
  ·have hi:n.toNat<bs.length:=by(first|lia|omega)
   have eb:=Dd hi
   rcases hk with rfl|rfl
   ·have e0:ps=[]:=List.length_eq_zero_iff.mp lp
    subst e0
    have:=Lm (hs:=hs3) (d:=d) hb eb
    rw[show((n.toNat:Nat):Int)=n by(first|lia|omega)]at this
    exact this
   ·have:=Kt (hs:=hs3) hb eb
    rw[show((n.toNat:Nat):Int)=n by(first|lia|omega)]at this
    refine fin (by decide) ?_
    rw[lp]
    exact this
  ·refine fin (by decide) ?_
   rw[lp]
   have:=Gf (hs:=hs3) (bs:=bs) (k:=3) (c:=n) (.inl rfl) (by(first|lia|omega)) (by(first|lia|omega))
   rw[show(n+3-3).toNat =(FG hs 3 [n]).toNat by show(n+3-3).toNat =n.toNat;(first|lia|omega)]at this
   exact this
  ·refine fin (by decide) ?_
   rw[lp]
   have:=Gf (hs:=hs3) (bs:=bs) (k:=4) (c:=n) (.inr rfl) (by(first|lia|omega)) (by(first|lia|omega))
   rw[show(n+4-3).toNat =(FG hs 4 [n]).toNat by show(n+4-3).toNat =(1+n).toNat;(first|lia|omega)]at this
   exact this
  ·have lh:hs.length=hs3.length:=by rw[hh,zD]
   have hi:n.toNat<hs3.length:=by(first|lia|omega)
   have e3:hs3[n.toNat]? =some hs3[n.toNat]:=zB hi
   have en:CA nm bs 6 n=hs3[n.toNat].1:=by
    unfold CA
    rw[zL (by decide),zW rfl,hn]
    refine getD_some ?_
    rw[zN,e3];rfl
   refine fin (by decide) ?_
   rw[lp]
   have:=Jk (bs:=bs) e3
   rw[show((n.toNat:Nat):Int)=n by(first|lia|omega)]at this
   have ed:(FG hs 6 [n]).toNat =hs3[n.toNat].2.2:=by
    show((hs.getD n.toNat (0,0)).1).toNat =_
    rw[yS,hh,zN,e3]
    exact jR _
   rw[ed]
   show Il hs3 bs 6 [CA nm bs 6 n] [n] _
   rw[en]
   exact this
  ·refine fin (by(first|lia|omega)) ?_
   refine Jj (by(first|lia|omega)) ?_
   rw[lp]
   unfold FG
   rw[zL (show ¬(k=0\/k=1)by(first|lia|omega)),zL (show ¬k=2 by(first|lia|omega)),zL (show ¬k=3 by(first|lia|omega)),zL (show ¬k=4 by(first|lia|omega))]
   by_cases c:k=5
   ·rw[zW c,zW c];rfl
   ·rw[zL c,zL c,zL (show ¬k=6 by(first|lia|omega))]
    have tab: ∀j:Fin 13,(partsW[j.1]?).getD 0=(((partsN.getD j.1 0).toNat:Nat):Int):=by decide
    exact tab ⟨(k-7).toNat,by(first|lia|omega)⟩

theorem WT {k:Int}(h2:2<=k)(h19:k<=19):kwW.getD (k-2).toNat ""∈kwW:=zM (UH h2 h19)
theorem RQ (hm:nm.length=hs.length){k:Int}{own:List Int}(of:FB hs (bs.length:Int) k own)(sm: ∀v∈own,v.natAbs<10^60): ∀v∈own,(∃b∈bs,CA nm bs k v=b)\/(∃b∈nm,CA nm bs k v=b)\/(CA nm bs k v=uL v/\v.natAbs<10^60):=fun v hv=>by
 rcases of with⟨rfl,n,rfl⟩|⟨hk,n,rfl,a,b⟩|⟨rfl,n,rfl,a,b⟩|⟨rfl,n,rfl,a,b⟩|⟨rfl,n,rfl,a,b⟩|⟨hk,rfl⟩
 ·exact .inr (.inr ⟨rfl,sm v hv⟩)
 ·have ev:=List.mem_singleton.mp hv
  subst ev
  refine .inl ⟨_,zM (Dd (nm:=bs) (i:=v.toNat) (by(first|lia|omega))),?_⟩
  unfold CA
  rw[zW hk]
 ·exact .inr (.inr ⟨rfl,sm v hv⟩)
 ·exact .inr (.inr ⟨rfl,sm v hv⟩)
 ·have ev:=List.mem_singleton.mp hv
  subst ev
  exact .inr (.inl ⟨_,zM (Dd (nm:=nm) (i:=v.toNat) (by(first|lia|omega))),rfl⟩)
 ·cases hv
theorem VE (hm:nm.length=hs.length)(hb: ∀b∈bs,jF b=true)(hn: ∀b∈nm,jF b=true){k:Int}{own:List Int}(k0:0<=k)(k1:k<=19)(of:FB hs (bs.length:Int) k own)(sm: ∀v∈own,v.natAbs<10^60): ∀w∈FK nm bs k own,FH w:=fun w hw=>by
 unfold FK at hw
 rcases List.mem_append.mp hw with z|z
 ·split at z
  ·cases z
  ·rename_i c
   rw[List.mem_singleton.mp z]
   exact QX (WT (by(first|lia|omega)) k1)
 ·obtain⟨v,hv,rfl⟩:=List.mem_map.mp z
  rcases RQ hm of sm v hv with⟨b,m,e⟩|⟨b,m,e⟩|⟨e,h⟩
  ·rw[e];exact Ay (hb b m)
  ·rw[e];exact Ay (hn b m)
  ·rw[e];exact PN h
theorem Nt {d:Nat}(ih: ∀t,Ba hs (bs.length:Int) d t->OS t-> ∀w∈vD nm bs t,FH w): ∀ts:List Tr,Cp hs (bs.length:Int) d ts->IT ts-> ∀w∈uI nm bs ts,FH w
 |[],_,_,w,hw=>nomatch hw
 |t::ts,f,s,w,hw=>by
  unfold Cp at f
  unfold IT at s
  rcases List.mem_append.mp (show w∈vD nm bs t++uI nm bs ts from hw)with z|z
  ·exact ih t f.1 s.1 w z
  ·exact Nt ih ts f.2 s.2 w z
theorem UX (hm:nm.length=hs.length)(hb: ∀b∈bs,jF b=true)(hn: ∀b∈nm,jF b=true): ∀(d:Nat) (t:Tr),Ba hs (bs.length:Int) d t->OS t-> ∀w∈vD nm bs t,FH w
 |0,t,f,_=>by unfold Ba at f;exact f.elim
 |d+1,.mk k own ps,f,s=>by
  unfold Ba at f
  unfold OS at s
  obtain⟨k0,k1,of,lp,_,fp⟩:=f
  intro w hw
  unfold vD at hw
  rcases List.mem_append.mp hw with z|z
  ·exact VE hm hb hn k0 k1 of s.1 w z
  ·exact Nt (UX hm hb hn d) ps fp s.2 w z
end
theorem Cu {α β γ δ:Type}{f:α->β->γ}{g:γ->δ}{h:α->δ}(e: ∀a b,g (f a b)=h a): ∀(as:List α) (bs:List β),as.length=bs.length->(List.zipWith f as bs).map g=as.map h
 |[],[],_=>rfl
 |a::as,b::bs,l=>by
  rw[List.zipWith_cons_cons,yK,yK,e,Cu e as bs (by simpa using l)]
theorem Mn {α β γ:Type}{f:α->β->γ}{as:List α}{bs:List β}{i:Nat}{x:γ}(h:(List.zipWith f as bs)[i]? =some x): ∃a b,as[i]? =some a/\bs[i]? =some b/\x=f a b:=by
 rw[kC]at h
 split at h
 ·rename_i a b e1 e2
  exact⟨a,b,e1,e2,(xU h).symm⟩
 ·cases h
section
variable {ns:List Jy}{fs:List Fn}
theorem Cc (l:ns.length=fs.length):(Bh ns fs).length =fs.length:=by
 unfold Bh
 rw[List.length_zipWith];(first|lia|omega)
theorem RN (l:ns.length=fs.length):qZ (Bh ns fs)=ns:=by
 unfold qZ Bh
 rw[Cu (h:=fun n=>n) (fun a b=>rfl) ns fs l,List.map_id']
theorem TM (l:ns.length=fs.length):((Bh ns fs).map fun x=>x.1.1)=ns.map (·.1):=Cu (h:=fun n:Jy=>n.1) (g:=fun x:Pg=>x.1.1) (fun a b=>rfl) ns fs l
theorem ST.hds (h:ST ns fs):((Bh ns fs).map (·.1)).map (fun h=>((h.2.2:Int),(h.2.1.length:Int)))=fs.map Prod.fst:=by
 refine Ee fun i=>?_
 rw[zN,zN]
 have hl:=Cc h.len
 by_cases c:i<fs.length
 ·have e1:fs[i]? =some fs[i]:=zB c
  have e2:ns[i]? =some (ns[i]'(by rw[h.len];exact c)):=zB _
  have e3:(Bh ns fs)[i]? =some (Bp (ns.map (·.1)) (ns[i]'(by rw[h.len];exact c)) fs[i]):=by
   unfold Bh
   rw[kC,e1,e2]
  rw[e3,zN,e1]
  have b:=h.bx i _ _ e2 e1
  have g:=h.good.all i fs[i].1 (by rw[zN,e1];rfl)
  refine xT some (Prod.ext ?_ ?_)
  ·show((fs[i].1.1.toNat:Nat):Int)=fs[i].1.1
   (first|lia|omega)
  ·exact b.symm
 ·rw[jS (by(first|lia|omega)),jS (by rw[zD];(first|lia|omega))]
  rfl
theorem ST.prog (h:ST ns fs):GX (Bh ns fs) where
 all:=fun x hx=>by
  obtain⟨i,e⟩:=kO hx
  obtain⟨n,f,e1,e2,rfl⟩:=Mn e
  obtain⟨o1,o2⟩:=h.nm n (zM e1)
  have b:=h.bx i n f e1 e2
  have g:=h.good.all i f.1 (by rw[zN,e2];rfl)
  have ft:=h.fit f (zM e2)
  have st:=h.sm f (zM e2)
  rw[b]at ft
  have en:ns.map (·.1)=((Bh ns fs).map (·.1)).map (·.1):=by rw[kS];exact(TM h.len).symm
  refine⟨⟨o1,o2,by show f.1.1.toNat<=4;(first|lia|omega),by show f.1.1.toNat<=n.2.length;(first|lia|omega)⟩,?_,?_⟩
  ·exact LU en h.hds.symm o2 10 f.2 ft st
  ·refine UX ?_ o2.ok ?_ 10 f.2 ft st
   ·rw[zD,zD,h.len]
   ·intro b hb
    obtain⟨m,hm,rfl⟩:=List.mem_map.mp hb
    exact(h.nm m hm).1
 nd:=by rw[TM h.len];exact h.nd
 ne:=fun z=>by
  have:=Cc h.len
  rw[z]at this
  have g:=h.good.lo
  rw[zD]at g
  have:([]:List Pg).length =0:=rfl
  (first|lia|omega)
 few:=by
  rw[Cc h.len]
  have g:=h.good.hi
  rwa [zD]at g
 first:=fun x hx=>by
  obtain⟨n,f,e1,e2,rfl⟩:=Mn hx
  have g:=h.good.all 0 f.1 (by rw[zN,e2];rfl)
  have:=g.2.2.2.2 rfl
  show f.1.1.toNat=0
  (first|lia|omega)
end
theorem Lu {α β:Type}{R:α->β->Prop}: ∀(l:List α),(∀x∈l,∃y,R x y)-> ∃m,Paired R l m
 |[],_=>⟨[],.nil⟩
 |x::l,h=>by
  obtain⟨y,hy⟩:=h x (zP ..)
  obtain⟨m,hm⟩:=Lu l (fun z hz=>h z (zT _ hz))
  exact⟨y::m,.cons hy hm⟩
theorem Lx: ∀(pr:List Pg) (f g:Int) (x:Str),wE (Og pr f) x=some g-> ∃(i:Nat) (y:Pg),pr[i]? =some y/\g=f+(i:Int)/\y.1.1=x
 |[],f,g,x,h=>by cases h
 |y::r,f,g,x,h=>by
  rw[Og,wE]at h
  split at h
  ·rename_i c
   cases h
   exact⟨0,y,rfl,by(first|lia|omega),c⟩
  ·obtain⟨i,z,e1,e2,e3⟩:=Lx r (f+1) g x h
   exact⟨i+1,z,by simpa using e1,by(first|lia|omega),e3⟩
def IG (pr:List Pg):Ct:=pr.map fun x=>((x.1.2.2:Int),(x.1.2.1.length:Int))
structure Vt (pr:List Pg):Prop where
 w: ∀x∈pr,Yx x
 nd:(pr.map fun x=>x.1.1).Nodup
theorem GX.w {pr:List Pg}(p:GX pr):Vt pr:=⟨fun x hx=>(p.all x hx).w,p.nd⟩
theorem RK {pr:List Pg}(p:Vt pr):WJ (pr.map fun x=>x.1.1) (IG pr) (Ft (kU pr)) (EF (kU pr)):=by
 refine⟨fun x f h=>?_,fun i hi=>?_⟩
 ·unfold Ft at h
  rw[IF pr 0 [] p.w p.nd (fun _ _=>rfl),jM]at h
  obtain⟨i,y,e1,e2,e3⟩:=Lx pr 0 f x h
  have hl:=(List.getElem?_eq_some_iff.mp e1).1
  rw[show f.toNat=i by(first|lia|omega)]
  refine⟨by(first|lia|omega),?_,?_⟩
  ·show i<(pr.map _).length
   rw[zD];exact hl
  ·rw[zN,e1,<-e3];rfl
 ·unfold EF
  have hl:i<pr.length:=by rw[IG,zD]at hi;exact hi
  rw[IM pr 0 p.w,zN,zB hl,IG,yS,zN,zB hl]
  rfl
structure PgF (nm:List Str)(hs:Ct)(x:Pg)(f:Fn):Prop where
 hd:f.1=((x.1.2.2:Int),(x.1.2.1.length:Int))
 ft:Ba hs f.1.2 10 f.2
 sm:OS f.2
 nu:Br f.2=x.2.2
 wd:vD nm x.1.2.1 f.2=x.2.1
structure Xg (pr:List Pg):Prop where
 w:Vt pr
 ne:pr≠[]
 few:pr.length<=16
 first: ∀x,pr[0]? =some x->x.1.2.2=0
theorem GX.f {pr:List Pg}(p:GX pr):Xg pr:=⟨p.w,p.ne,p.few,p.first⟩
theorem YF {pr:List Pg}{fs:List Fn}(p:Xg pr)(pf:Paired (PgF (pr.map fun x=>x.1.1) (IG pr)) pr fs):ST (qZ pr) fs/\Bh (qZ pr) fs=pr:=by
 have lh:(IG pr).length =pr.length:=zD ..
 have lf:=Paired.len pf
 have ln:(qZ pr).length =pr.length:=zD ..
 have eh:fs.map Prod.fst=IG pr:=by
  refine Ee fun i=>?_
  rw[IG,zN,zN]
  by_cases c:i<pr.length
  ·have e1:pr[i]? =some pr[i]:=zB c
   have e2:fs[i]? =some (fs[i]'(by(first|lia|omega))):=zB _
   rw[e1,e2]
   exact xT some (Paired.get pf _ _ _ e1 e2).hd
  ·rw[jS (by(first|lia|omega)),jS (by(first|lia|omega))]
   rfl
 have en:(qZ pr).map (·.1)=pr.map fun x=>x.1.1:=by
  unfold qZ
  rw[kS]
  rfl
 have at_: ∀(i:Nat) (f:Fn),fs[i]? =some f-> ∃x,pr[i]? =some x/\PgF (pr.map fun x=>x.1.1) (IG pr) x f:=fun i f e=>by
  have hl:=(List.getElem?_eq_some_iff.mp e).1
  have e1:pr[i]? =some (pr[i]'(by(first|lia|omega))):=zB _
  exact⟨_,e1,Paired.get pf _ _ _ e1 e⟩
 refine⟨⟨by(first|lia|omega),fun n hn=>?_,?_,fun i n f e1 e2=>?_,⟨?_,?_,fun i h e=>?_⟩,fun f hf=>?_,fun f hf=>?_⟩,?_⟩
 ·obtain⟨x,hx,rfl⟩:=List.mem_map.mp hn
  exact⟨(p.w.w x hx).hd.nm,(p.w.w x hx).hd.bx⟩
 ·rw[en];exact p.w.nd
 ·obtain⟨x,ex,h⟩:=at_ i f e2
  unfold qZ at e1
  rw[zN,ex]at e1
  cases e1
  rw[h.hd]
 ·rw[eh,lh]
  exact List.length_pos_iff.mpr p.ne
 ·rw[eh,lh];exact p.few
 ·rw[eh,IG,zN]at e
  cases ex:pr[i]? with
  |none=>rw[ex]at e;cases e
  |some x=>
   rw[ex]at e
   cases e
   have ok:=(p.w.w x (zM ex)).hd
   have p4:=ok.p4
   have pb:=ok.pb
   have b12:=ok.bx.few
   show 0<=(x.1.2.2:Int)/\(x.1.2.2:Int)<=4/\(x.1.2.2:Int)<=(x.1.2.1.length:Int)/\(x.1.2.1.length:Int)<=12/\(i=0->(x.1.2.2:Int)=0)
   refine⟨by(first|lia|omega),by(first|lia|omega),by(first|lia|omega),by(first|lia|omega),fun z=>?_⟩
   subst z
   have:=p.first x ex
   (first|lia|omega)
 ·obtain⟨i,e⟩:=kO hf
  obtain⟨x,ex,h⟩:=at_ i f e
  rw[eh]
  exact h.ft
 ·obtain⟨i,e⟩:=kO hf
  obtain⟨x,ex,h⟩:=at_ i f e
  exact h.sm
 ·refine Ee fun i=>?_
  unfold Bh
  rw[kC,en]
  by_cases c:i<pr.length
  ·have e1:pr[i]? =some pr[i]:=zB c
   have e2:fs[i]? =some (fs[i]'(by(first|lia|omega))):=zB _
   have h:=Paired.get pf _ _ _ e1 e2
   unfold qZ
   rw[zN,e1,e2]
   refine xT some ?_
   unfold Bp
   dsimp only
   rw[h.wd,h.nu,h.hd,jR]
  ·rw[jS (show(qZ pr).length<=i by(first|lia|omega)),jS (show pr.length<=i by(first|lia|omega))]
theorem VT {pr:List Pg}(p:GX pr): ∃fs,ST (qZ pr) fs/\Bh (qZ pr) fs=pr:=by
 have agB:=RK p.w
 have ag:=NU p
 have lh:(IG pr).length =pr.length:=zD ..
 obtain⟨fs,pf⟩:=Lu (R:=PgF (pr.map fun x=>x.1.1) (IG pr)) pr fun x hx=>by
  have ok:=p.all x hx
  have rd:=ok.rd x.2.1 _ _ 0 [] ⟨[],by simp⟩ ag
  obtain⟨t,h1,h2,h3,h4,h5⟩:=LB agB ok.hd.bx.few (by rw[lh];exact p.few) 10 0 [] _ rd
  refine⟨((_,_),t),rfl,h1,h2,?_,?_⟩
  ·have:[]++x.2.2=[]++Br t:=h3
   simpa using this.symm
  ·obtain⟨post,e⟩:=h4
   have h5':0+x.2.1.length=0+(vD (pr.map fun x=>x.1.1) x.1.2.1 t).length:=h5
   have e':x.2.1=vD (pr.map fun x=>x.1.1) x.1.2.1 t++post:=e
   have:post=[]:=by
    have:=xT List.length e'
    rw[zC]at this
    exact List.length_eq_zero_iff.mp (by(first|lia|omega))
   rw[this,yX]at e'
   exact e'.symm
 obtain⟨h1,h2⟩:=YF p.f pf
 exact⟨fs,h1,h2⟩
theorem Jl: ∀pr:List Pg,BU pr=flat (IG pr)
 |[]=>rfl
 |x::r=>by
  show[(x.1.2.2:Int),(x.1.2.1.length:Int)]++BU r=(x.1.2.2:Int)::(x.1.2.1.length:Int)::flat (IG r)
  rw[Jl r];rfl
theorem Jp (nm:List Str): ∀(ns:List Jy) (fs:List Fn),ns.length=fs.length->wH (List.zipWith (Bp nm) ns fs)=Dh fs
 |[],[],_=>rfl
 |n::ns,f::fs,l=>by
  show Br f.2++wH (List.zipWith (Bp nm) ns fs)=_
  rw[Jp nm ns fs (by simpa using l)]
  rfl
theorem Td {ns:List Jy}{fs:List Fn}(h:ST ns fs):wr fs=((Bh ns fs).length:Int)::(BU (Bh ns fs)++wH (Bh ns fs)):=by
 have e1:BU (Bh ns fs)=MZ fs:=by
  have:=h.hds
  rw[kS]at this
  rw[Jl,Gh,<-this]
  rfl
 have e2:wH (Bh ns fs)=Dh fs:=Jp _ ns fs h.len
 unfold wr
 rw[e1,e2,Cc h.len]
def SJ (cal bx:Str->Option Str):Str->List Str->List (Option Str)
 |_,[]=>[]
 |p,w::r=>(if p="call" then cal w else bx w)::SJ cal bx w r
section
variable {cal bx:Str->Option Str}{nm nm' bs bs':List Str}{hs:Ct}
structure VA (cal bx:Str->Option Str)(nm nm' bs bs':List Str):Prop where
 hcal: ∀i,i<nm.length->cal (nm.getD i "")=some (nm'.getD i "")
 hbx: ∀i,i<bs.length->bx (bs.getD i "")=some (bs'.getD i "")
 hid: ∀w:Str,jF w=false->bx w=some w
theorem Rs:jF "call"=false:=by decide+kernel
theorem Gy {w:Str}(h:jF w=true):w≠"call":=fun z=>by rw[z,Rs]at h;cases h
theorem Uv {n:Int}(h:n.natAbs<10^60):jF (uL n)=false:=by
 cases e:jF (uL n)with
 |false=>rfl
 |true=>
  have:=HX e
  rw[Gx (k:=59) h (by decide)]at this
  cases this
theorem Uw {n:Int}(h:n.natAbs<10^60):uL n≠"call":=fun z=>by
 have:Ab (uL n) 60=true:=Gx (k:=59) h (by decide)
 rw[z]at this
 exact absurd this (by decide+kernel)
theorem QY {w:Str}(h:w∈kwA):jF w=false:=by
 have: ∀w∈kwA,jF w=false:=by decide+kernel
 exact this w h
def Bk (cal bx:Str->Option Str)(u v:List Str):Prop:= ∀p:Str,p≠"call"-> ∃p':Str,p'≠"call"/\ ∀r,SJ cal bx p (u++r)=v.map some++SJ cal bx p' r
theorem Bk.nil:Bk cal bx [] []:=fun p hp=>⟨p,hp,fun _=>rfl⟩
theorem Bk.app {u u' v v':List Str}(h:Bk cal bx u v)(g:Bk cal bx u' v'):Bk cal bx (u++u') (v++v'):=fun p hp=>by
 obtain⟨p1,n1,e1⟩:=h p hp
 obtain⟨p2,n2,e2⟩:=g p1 n1
 exact⟨p2,n2,fun r=>by rw[yP,e1,e2,yA,yP]⟩
theorem Bk.one {w x:Str}(e:bx w=some x)(n:w≠"call"):Bk cal bx [w] [x]:=fun p hp=>⟨w,n,fun r=>by
 show(if p="call" then cal w else bx w)::SJ cal bx w r=_
 rw[zL hp,e];rfl⟩
theorem Bk.two {w x:Str}(e:cal w=some x)(n:w≠"call")(k:bx "call"=some "call"):Bk cal bx ["call",w] ["call",x]:=fun p hp=>⟨w,n,fun r=>by
 show(if p="call" then cal "call" else bx "call")::(if("call":Str)="call" then cal w else bx w)::SJ cal bx w r=_
 rw[zL hp,zW rfl,e,k];rfl⟩
theorem SH (E:VA cal bx nm nm' bs bs')(hm:nm.length=hs.length)(hb: ∀b∈bs,jF b=true)(hn: ∀b∈nm,jF b=true){k:Int}{own:List Int}(k0:0<=k)(k1:k<=19)(of:FB hs (bs.length:Int) k own)(sm: ∀v∈own,v.natAbs<10^60):Bk cal bx (FK nm bs k own) (FK nm' bs' k own):=by
 have kw:2<=k->k≠6->Bk cal bx [kwW.getD (k-2).toNat ""] [kwW.getD (k-2).toNat ""]:=fun h2 h6=>by
  have m:=WT h2 k1
  refine Bk.one (E.hid _ (QY (yW _ m))) ?_
  have tab: ∀j:Fin 18,j.1≠4->kwW.getD j.1 ""≠"call":=by decide+kernel
  exact tab ⟨(k-2).toNat,by(first|lia|omega)⟩ (by show(k-2).toNat≠4;(first|lia|omega))
 have nu: ∀n:Int,n.natAbs<10^60->Bk cal bx [uL n] [uL n]:=fun n h=>Bk.one (E.hid _ (Uv h)) (Uw h)
 unfold FK
 rcases of with⟨rfl,n,rfl⟩|⟨hk,n,rfl,a,b⟩|⟨rfl,n,rfl,a,b⟩|⟨rfl,n,rfl,a,b⟩|⟨rfl,n,rfl,a,b⟩|⟨hk,rfl⟩
 ·exact nu n (sm n (by simp))
 ·have one:Bk cal bx ([n].map (CA nm bs k)) ([n].map (CA nm' bs' k)):=by
   show Bk cal bx [CA nm bs k n] [CA nm' bs' k n]
   unfold CA
   rw[zW hk,zW hk]
   have hi:n.toNat<bs.length:=by(first|lia|omega)
   exact Bk.one (E.hbx _ hi) (Gy (hb _ (zM (Dd hi))))
  rcases hk with rfl|rfl
  ·exact one
  ·exact(kw (by decide) (by decide)).app one
 ·exact(kw (by decide) (by decide)).app (nu n (sm n (by simp)))
 ·exact(kw (by decide) (by decide)).app (nu n (sm n (by simp)))
 ·have hi:n.toNat<nm.length:=by(first|lia|omega)
  exact Bk.two (E.hcal _ hi) (Gy (hn _ (zM (Dd hi)))) (E.hid _ Rs)
 ·rw[zL (by(first|lia|omega))]
  show Bk cal bx ([_]++[]) ([_]++[])
  exact(kw (by(first|lia|omega)) (by(first|lia|omega))).app Bk.nil
theorem KC {d:Nat}(ih: ∀t,Ba hs (bs.length:Int) d t->OS t->Bk cal bx (vD nm bs t) (vD nm' bs' t)): ∀ts:List Tr,Cp hs (bs.length:Int) d ts->IT ts->Bk cal bx (uI nm bs ts) (uI nm' bs' ts)
 |[],_,_=>Bk.nil
 |t::ts,f,s=>by
  unfold Cp at f
  unfold IT at s
  exact(ih t f.1 s.1).app (KC ih ts f.2 s.2)
theorem LV (E:VA cal bx nm nm' bs bs')(hm:nm.length=hs.length)(hb: ∀b∈bs,jF b=true)(hn: ∀b∈nm,jF b=true): ∀(d:Nat) (t:Tr),Ba hs (bs.length:Int) d t->OS t->Bk cal bx (vD nm bs t) (vD nm' bs' t)
 |0,t,f,_=>by unfold Ba at f;exact f.elim
 |d+1,.mk k own ps,f,s=>by
  unfold Ba at f
  unfold OS at s
  obtain⟨k0,k1,of,lp,_,fp⟩:=f
  unfold vD
  exact(SH E hm hb hn k0 k1 of s.1).app (KC (LV E hm hb hn d) ps fp s.2)
theorem Hw (E:VA cal bx nm nm' bs bs')(hb: ∀b∈bs,jF b=true)(hl:bs'.length=bs.length): ∀(n i:Nat),i+n<=bs.length->Bk cal bx ((bs.drop i).take n) ((bs'.drop i).take n)
 |0,i,_=>by rw[wY,wY];exact Bk.nil
 |n+1,i,h=>by
  have e1:(bs.drop i).take (n+1)=[bs.getD i ""]++(bs.drop (i+1)).take n:=by
   rw[xW (by(first|lia|omega)),List.take_succ_cons,yS,zB (by(first|lia|omega))];rfl
  have e2:(bs'.drop i).take (n+1)=[bs'.getD i ""]++(bs'.drop (i+1)).take n:=by
   rw[xW (by(first|lia|omega)),List.take_succ_cons,yS,zB (by(first|lia|omega))];rfl
  rw[e1,e2]
  have hi:i<bs.length:=by(first|lia|omega)
  exact(Bk.one (E.hbx i hi) (Gy (hb _ (zM (Dd hi))))).app (Hw E hb hl n (i+1) (by(first|lia|omega)))
theorem Wu (E:VA cal bx nm nm' bs bs')(hm:nm.length=hs.length)(hb: ∀b∈bs,jF b=true)(hn: ∀b∈nm,jF b=true)(hl:bs'.length=bs.length){f:Fn}(hf:Ba hs f.1.2 10 f.2)(hx:f.1.2=(bs.length:Int))(sm:OS f.2)(hp:f.1.1.toNat<=bs.length){x x':Str}(hx:jF x=true):
  SJ cal bx x ((xA (Bp nm (x,bs) f)).drop 2)=((xA (Bp nm' (x',bs') f)).drop 2).map some:=by
 rename_i hx2
 have kw: ∀w:Str,w∈kwH->Bk cal bx [w] [w]:=fun w h=>Bk.one (E.hid _ (QY (kN _ h))) (fun z=>absurd (z▸h) (by decide+kernel))
 have b1:=Hw (nm:=nm) E hb hl f.1.1.toNat 0 (by(first|lia|omega))
 have b2:=Hw (nm:=nm) E hb hl (bs.length-f.1.1.toNat) f.1.1.toNat (by(first|lia|omega))
 rw[BH,BH]at b1
 rw[xP (by rw[jK];(first|lia|omega)),xP (by rw[jK];(first|lia|omega))]at b2
 rw[hx2]at hf
 have t:=LV E hm hb hn 10 f.2 hf sm
 obtain⟨p',_,e⟩:=(((b1.app (kw "with" (by decide))).app (b2.app (kw "is" (by decide)))).app t) x (Gy hx)
 have:=e []
 rw[yX,show SJ cal bx p' []=[]from rfl,yX]at this
 show SJ cal bx x (bs.take f.1.1.toNat++("with":Str)::(bs.drop f.1.1.toNat++("is":Str)::vD nm bs f.2))=(bs'.take f.1.1.toNat++("with":Str)::(bs'.drop f.1.1.toNat++("is":Str)::vD nm' bs' f.2)).map some
 simpa using this
end
def Bt:List Str->List Str->Str->Option Str
 |k::ks,v::vs,x=>if k=x then some v else Bt ks vs x
 |_,_,_=>none
theorem Kn: ∀{ks vs:List Str} {i:Nat},ks.Nodup->ks.length=vs.length->i<ks.length->Bt ks vs (ks.getD i "")=some (vs.getD i "")
 |[],_,i,_,_,h=>absurd h (Nat.not_lt_zero _)
 |k::ks,[],i,_,l,_=>by cases l
 |k::ks,v::vs,0,_,_,_=>by
  show(if k=k then some v else _)=some v
  rw[zW rfl]
 |k::ks,v::vs,i+1,nd,l,h=>by
  rw[uM]at nd
  have h':i<ks.length:=by simpa using h
  have m:ks.getD i ""∈ks:=zM (Dd h')
  show(if k=ks.getD i "" then some v else Bt ks vs (ks.getD i ""))=some (vs.getD i "")
  rw[zL (fun z=>nd.1 (by rw[z];exact m))]
  exact Kn nd.2 (by simpa using l) h'
theorem Km: ∀{ks vs:List Str} {x:Str},x∉ks->Bt ks vs x=none
 |[],_,x,_=>by unfold Bt;rfl
 |k::ks,[],x,_=>by unfold Bt;rfl
 |k::ks,v::vs,x,h=>by
  rw[List.mem_cons,not_or]at h
  unfold Bt
  rw[zL (Ne.symm h.1)]
  exact Km h.2
theorem Wv {nm nm' bs bs':List Str}(n1:nm.Nodup)(l1:nm.length=nm'.length)(n2:bs.Nodup)(l2:bs.length=bs'.length)(hb: ∀b∈bs,jF b=true):VA (Bt nm nm') (fun x=>some ((Bt bs bs' x).getD x)) nm nm' bs bs' where
 hcal:=fun i h=>Kn n1 l1 h
 hbx:=fun i h=>by rw[Kn n2 l2 h];rfl
 hid:=fun w h=>by
  rw[Km (fun z=>by rw[hb w z]at h;cases h)]
  rfl
theorem Ri {cal bx:Str->Option Str}: ∀(r:List Str) (p:Str),(SJ cal bx p r).length =r.length
 |[],p=>rfl
 |w::r,p=>by
  show(_::SJ cal bx w r).length =_
  rw[zJ,Ri r w];rfl
theorem Ve {cal bx:Str->Option Str}: ∀(r:List Str) (p:Str) (j:Nat) (q w:Str),(p::r)[j]? =some q->r[j]? =some w->(SJ cal bx p r)[j]? =some (if q="call" then cal w else bx w)
 |[],p,j,q,w,_,h=>by simp at h
 |x::r,p,0,q,w,h1,h2=>by
  have e1:p=q:=by simpa using h1
  have e2:x=w:=by simpa using h2
  subst e1 e2
  rfl
 |x::r,p,j+1,q,w,h1,h2=>by
  show(SJ cal bx x r)[j]? =_
  exact Ve r x j q w (by simpa using h1) (by simpa using h2)
end L2

namespace L2
open PySem
def dS (ks vs:List Str):List (Bj×V):=List.zipWith (fun k v=>(Sum.inr k,V.str v)) ks vs
theorem Qm: ∀(ks vs:List Str) (x:Str),Cv (dS ks vs) (Sum.inr x:Bj)=(Bt ks vs x).map V.str
 |[],_,x=>by unfold dS Bt;rfl
 |k::ks,[],x=>by unfold dS Bt;rfl
 |k::ks,v::vs,x=>by
  show Cv ((Sum.inr k,V.str v)::dS ks vs) (Sum.inr x:Bj)=_
  unfold Bt
  by_cases c:k=x
  ·rw[FL (by rw[c]),zW c];rfl
  ·rw[FN (fun z=>c (by injection z)),zL c]
   exact Qm ks vs x
theorem Oy: ∀(l acc:List (Bj×V)),((acc++l).map (·.1)).Nodup->l.foldl (fun acc x=>Ju acc x.1 x.2) acc=acc++l
 |[],acc,_=>by rw[yX];rfl
 |x::l,acc,h=>by
  have n:Cv acc x.1=none:=by
   cases e:Cv acc x.1 with
   |none=>rfl
   |some v=>
    unfold Cv at e
    cases f:acc.find? (fun kv=>decide (kv.1=x.1))with
    |none=>rw[f]at e;cases e
    |some y=>
     have m:=List.mem_of_find?_eq_some f
     have p:=List.find?_some f
     have p':y.1=x.1:=yB p
     rw[yA,Af]at h
     exact absurd p' (h.2.2 _ (List.mem_map.mpr ⟨y,m,rfl⟩) _ (List.mem_map.mpr ⟨x,zP ..,rfl⟩))
  show l.foldl _ (Ju acc x.1 x.2)=_
  rw[TC x.2 n,Oy l (acc++[(x.1,x.2)]) (by rw[yP];exact h),yP]
  rfl
theorem Nh: ∀{ks vs:List Str},ks.length=vs.length->(dS ks vs).map (·.1)=ks.map Sum.inr
 |[],[],_=>rfl
 |k::ks,v::vs,l=>by
  show _::(dS ks vs).map (·.1)=_
  rw[Nh (by simpa using l)];rfl
theorem Rp: ∀{ks vs:List Str},ks.length=vs.length->(dS ks vs).map (·.2)=vs.map V.str
 |[],[],_=>rfl
 |k::ks,v::vs,l=>by
  show _::(dS ks vs).map (·.2)=_
  rw[Rp (by simpa using l)];rfl
theorem Vk {ks vs:List Str}(nd:ks.Nodup)(l:ks.length=vs.length):Gc (dS ks vs)=dS ks vs:=by
 unfold Gc
 rw[Oy _ [] ?_,jM]
 rw[jM,Nh l]
 exact List.Pairwise.map _ (fun a b h z=>h (by injection z)) nd
end L2

namespace HT
open PySem PySem.Spec PyProof.Rows
section
variable {prog:Program}{w:World}{A:Around}{E:Value->Shared->Prop}{s:Shared}
theorem getItem_tuple_all {t sl:Addr}{items:Array Value}{vl vu:Value}{lo hi:Option Int}{Q:Value->Shared->Prop}(ht:IsTup s.heap t items)(hs:s.heap.IsSliceOf sl vl vu .none)(pl:IsPart vl lo)(pu:IsPart vu hi)
  (hw:sIx items.size 0 lo=0/\sIx items.size items.size hi=items.size) (h:Q (.ref t) s):wpAny (model prog w) A (getItem (.ref t) (.ref sl)) Q E s:=by
 obtain⟨os,hos,hcs,hds⟩:=id hs
 have hTs:s.TypeIs (.ref sl) "slice":=⟨os,hos,hcs⟩
 unfold getItem
 try with_reducible refine wpAny_holding ?_
 first|refine wpAny_bind (wpAny_pure ?_)|skip
 refine wpAny_bind (wpAny_sequenceKey ht.typeIs (by decide) ?_)
 refine wpAny_bind (wpAny_callSpecial?_slot (name:=Str.ofString "__getitem__") ht.typeIs PyProof.Rows.slot_tuple_getitem
  (wpAny_call_entry PyProof.Rows.slot_tuple_getitem ht.typeIs entry_tuple_getitem ?_ (args_tuple_getitem _ _)))
 show wpAny _ _ (Builtin.Tuple.tupleItemsOf (.ref t)>>=_) _ _ s
 refine wpAny_bind (tupleItemsOf_ ht ?_)
 refine wpAny_bind (wpAny_typeOf hTs ?_)
 rw[if_pos (by decide)]
 refine wpAny_bind (Eu hs pl pu ?_)
 have yes:(((sIx items.size 0 lo:Nat):Int)==0&&(1:Int)==1&&(sIx items.size items.size hi-sIx items.size 0 lo)==items.size)=true:=by
  rw[hw.1,hw.2];simp
 show wpAny _ _ (if(((sIx items.size 0 lo:Nat):Int)==0&&(1:Int)==1&&(sIx items.size items.size hi-sIx items.size 0 lo)==items.size)=true then _ else _) _ _ s
 rw[if_pos yes]
 obtain⟨ot,hot,hct,_⟩:=ht
 have Ty:s.TypeIs (.ref t) "tuple":=⟨ot,hot,hct⟩
 unfold Builtin.Tuple.tupleIsExact
 refine wpAny_bind (wpAny_bind (wpAny_typeOf Ty (wpAny_pure ?_)))
 rw[if_pos (by decide)]
 first
  |exact wpAny_bind (wpAny_rule (wpAny_pure ⟨_,rfl,wpAny_pure h⟩))
  |exact wpAny_bind (wpAny_rule (wpAny_bind (wpAny_pure (wpAny_pure ⟨_,rfl,wpAny_pure h⟩))))
end
end HT
namespace L2
open PySem PySem.Spec PyProof.Rows
section
variable {X:Cx}
inductive YW (x:V) (lo:Option Int) (hi:Option Int) (H:Hp) (Q:VK):Prop
 |mk (a xs:_) (h0:x=.ref a) (h1:H a=some (.tup xs)) (h2: ∀r H',wG H H'->H' r=some (.tup (KF xs lo hi))->Q (.ref r) H'):YW x lo hi H Q
theorem Vl {xs:List V}{lo hi:Option Int}(h:HT.sIx xs.length 0 lo=0/\HT.sIx xs.length xs.length hi=xs.length):KF xs lo hi=xs:=by
 unfold KF
 rw[h.1,h.2];simp
theorem JC:SlR X YW:=by
 intro pins s σ H x v vl vu lo hi sl Q I rx hs pl pu h
 obtain⟨a,xs,rfl,hx,q⟩:=h
 by_cases hw:HT.sIx xs.length 0 lo=0/\HT.sIx xs.length xs.length hi=xs.length
 ·cases rx
  obtain⟨its,r,ht,hz⟩:=I.tuple (EH.of hx)
  have hlen:its.toArray.size=xs.length:=by rw[yD];exact r.length.symm
  refine⟨"tuple",_,PyProof.Rows.slot_tuple_getitem.lookup,ht.typeIs,?_⟩
  exact HT.getItem_tuple_all ht hs pl pu (by rw[hlen];exact hw) ⟨.ref a,H,I,rfl,q a H (wG.refl _) (by rw[Vl hw];exact hx)⟩
 ·exact Xw pins s σ H (.ref a) v vl vu lo hi sl Q I rx hs pl pu ⟨a,xs,rfl,EH.of hx,hw,fun p hp=>q p _ (zV hp _) zG⟩
end
theorem LY {xs:List V}(n:Nat):KF xs none (some (n:Int))=xs.take n:=by
 unfold KF
 rw[HT.sIx_none,HT.sIx_nat,BH,Nat.sub_zero]
 by_cases h:n<=xs.length
 ·rw[CI h]
 ·rw[Nat.min_eq_right (by(first|lia|omega)),wS,xP (by(first|lia|omega))]
theorem LZ {xs:List V}(n:Nat):KF xs (some (n:Int)) none=xs.drop n:=by
 unfold KF
 rw[HT.sIx_none,HT.sIx_nat]
 by_cases h:n<=xs.length
 ·rw[CI h,xP (by rw[jK];(first|lia|omega))]
 ·rw[Nat.min_eq_right (by(first|lia|omega)),BG,wY,BI (by(first|lia|omega))]
end L2

namespace L2
open PySem PySem.Spec
section
variable {X:Cx}
inductive QL (K:PySem.W.Frag) (x:V) (y:V) (H:Hp) (Q:VK):Prop
 |mk (a b xs:_) (h0:x=.ref a) (h1:y=.ref b) (h2:EH K H a xs) (h3:EH K H b []) (h4:Q (.bl xs.isEmpty) H):QL K x y H Q
theorem RU {k:Nat}(hr:uD k X.A):Jx X (compareOp .Eq) (QL X.K):=by
 intro pins s σ H x y v u Q I rx ry h
 obtain⟨a,b,xs,rfl,rfl,ha,hb,q⟩:=h
 cases xs with
 |nil=>exact Ud hr pins s σ H _ _ _ _ Q I rx ry ⟨a,b,[],[],0,rfl,rfl,.inr ⟨ha,hb⟩,.nil,by decide,q⟩
 |cons z zs=>
  cases rx;cases ry
  have hu:=hr.un
  obtain⟨us,r,pa,_⟩:=I.tuple ha
  obtain⟨vs,q',pb,_⟩:=I.tuple hb
  cases q'
  cases r with
  |cons r1 r2=>
   have:=DY (A:=X.A) (s:=s) (e:=fun _=>true) pa pb (by(first|lia|omega)) (fun j h1 h2=>absurd h2 (by simp))
   simp at this
   exact this _ _ _ _ ⟨.bl false,H,I,rfl,q⟩
end
end L2

namespace L2
open PySem
def Bz (H:Hp)(st:Addr)(m:Int):Prop:= ∃c s t:Int,H st=some (.lst [.int c,.int s,.int t])/\0<=c/\0<=t/\t<=m
structure jQ (st:Addr)(m:Int)(H H':Hp):Prop where
 pen:Bz H' st m
 keep:kJ st H H'
theorem jQ.trans {st:Addr}{m n:Int}{H H1 H2:Hp}(a:jQ st m H H1)(b:jQ st n H1 H2):jQ st n H H2:=⟨b.pen,a.keep.trans b.keep⟩
theorem Bz.is {H:Hp}{st:Addr}{m:Int}(d:Bz H st m): ∃xs,H st=some (.lst xs):=by
 obtain⟨c,s,t,e,_⟩:=d
 exact⟨_,e⟩
theorem Bz.ne {st b:Addr}{m:Int}{H:Hp}(d:Bz H st m)(h:H b=none):st≠b:=by
 obtain⟨xs,e⟩:=d.is
 exact zK e h
theorem Bz.mono {st:Addr}{m n:Int}{H:Hp}(d:Bz H st m)(h:m<=n):Bz H st n:=by
 obtain⟨c,s,t,e,a,b,k⟩:=d
 exact⟨c,s,t,e,a,b,by(first|lia|omega)⟩
theorem jQ.mono {st:Addr}{m n:Int}{H H':Hp}(d:jQ st m H H')(h:m<=n):jQ st n H H':=⟨d.pen.mono h,d.keep⟩
theorem Bz.same {st:Addr}{m:Int}{H H':Hp}(d:Bz H st m)(h:wG H H'):Bz H' st m:=by
 obtain⟨c,s,t,e,r⟩:=d
 exact⟨c,s,t,h _ _ e,r⟩
theorem Bz.more {st:Addr}{m:Int}{H H':Hp}(d:Bz H st m)(g:wG H H'):jQ st m H H':=⟨d.same g,kJ.same g⟩
theorem Bz.new {st p:Addr}{m:Int}{H:Hp}(d:Bz H st m)(h:H p=none)(o:HO):jQ st m H (upd H p o):=d.more (zV h o)
theorem Bz.put {st p:Addr}{m:Int}{H:Hp}{o:HO}(d:Bz H st m)(n:p≠st):Bz (upd H p o) st m:=by
 obtain⟨c,s,t,e,r⟩:=d
 exact⟨c,s,t,(by rw[zQ (Ne.symm n)];exact e),r⟩
theorem jQ.free {st b:Addr}{m:Int}{H H':Hp}(h:jQ st m H H')(e:H' b=none):H b=none:=by
 cases z:H b with
 |none=>rfl
 |some o=>rw[h.keep b o (Ne.symm (h.pen.ne e)) z]at e;cases e
theorem jQ.putNew {st p:Addr}{m:Int}{H H':Hp}{o:HO}(h:jQ st m H H')(nH:H p=none)(n:p≠st):jQ st m H (upd H' p o):=
 ⟨h.pen.put n,fun b o nb e=>by rw[zQ (zK e nH)];exact h.keep b o nb e⟩
inductive DM (vs:List V) (H:Hp) (Q:VK) (E:XK):Prop
 |mk (st:Addr) (many m:Int) (h0:vs=[.ref st,.int many]) (h1:0<many) (h2:many<1073741824) (h3:m<=1000000) (h4:Bz H st m) (h5: ∀(r:Int) (H':Hp),0<=r->r<many->jQ st (m+1) H H'->Q (.int r) H'):DM vs H Q E
end L2

namespace L2
open PySem PySem.Spec
section
variable {K:Type}[DecidableEq K]{prog:Program}{w:World}{knd:KeyKind prog w K}{A:Around}{E:Value->Shared->Prop}{s:Shared}
theorem Gm {d:Addr}{kvs:List (K×Value)}{k:K}{key dflt:Value}{Q:Value->Shared->Prop}(hkey:knd.is k key=true)(hm:s.heap.DictOf knd d kvs)
  (hthere: ∀v,valueAt kvs k=some v->Q v {s with toks:=s.toks+1})
  (hnew:valueAt kvs k=none-> ∀h',h'.DictOf knd d (kvs++[(k,dflt)])->Heap.SameBut d s.heap h'->Q dflt {s with heap:=h',toks:=s.toks+1})
  (hsz:kvs.length<=sizeLine):
  wpAny (model prog w) A (dictSetDefault d key dflt) Q E s:=by
 have hmo:=hm.mapOf
 obtain⟨o,es,ep,ho,hc,hd,hk,hp,hn⟩:=hm
 have hes:es.size<=sizeLine:=by
  have e1:=hp.length
  have e2:es.toList.length=es.size:=by simp
  (first|lia|omega)
 obtain⟨o',es',ep',ho',hc',hd',hk',hf⟩:=hmo
 rw[ho]at ho'
 cases ho'
 rw[hd]at hd'
 injection hd' with q1 q2
 subst q1
 unfold dictSetDefault
 try with_reducible refine qK ?_
 refine zE (knd.pyHash hkey ?_)
 refine zE (wpAny_dictFind_of (s:={s with toks:=s.toks+1}) hkey ho hd hk ?_)
 have hidx:(es.findIdx? fun e=>knd.is k e.key)=kvs.findIdx? fun kv=>decide (kv.1=k):=by
  rw[<-hp.findIdx k];obtain⟨l⟩:=es;simp
 cases hi:es.findIdx? fun e=>knd.is k e.key with
 |some i=>
  have hfk:valueAt kvs k=(es[i]?).map (·.val):=by rw[<-hf k,findBy_of_findIdx?,hi]
  refine zE (wpAny_dictEntries (s:={s with toks:=s.toks+1}) ho hd ?_)
  cases he:es[i]? with
  |none=>
   exfalso
   have:=Array.findIdx?_eq_some_iff_findIdx_eq.mp hi
   have hlt:i<es.size:=this.1
   rw[AD hlt]at he
   exact nomatch he
  |some e=>
   rw[he]at hfk
   exact zE (Ap (zR (hthere e.val hfk)))
 |none=>
  have hnot:k∉kvs.map (·.1):=not_mem_of_findIdx_none (hidx▸hi)
  have hfk:valueAt kvs k=none:=by rw[<-hf k,findBy_of_findIdx?,hi]
  refine zE (Ap (zE (wpAny_updateDictKeys (hz:=hes) (s:={s with toks:=s.toks+1}) ho hd (zR (hnew hfk _ ⟨_,_,ep+1,kD _ ho (Obj.isFreed_of_dict (Obj.data_mapDictKeys hd _)),
   hc.mapDictKeys _,Obj.data_mapDictKeys hd _,hk.push hkey _,?_,?_⟩ (AI ..))))))
  ·rw[Array.toList_push]
   exact hp.append hkey _ _
  ·rw[yA]
   refine List.nodup_append.mpr ⟨hn,by simp,fun a ha b hb e=>?_⟩
   have:b=k:=by simpa using hb
   exact hnot (this▸e▸ha)
theorem Fv {k:K}{key:Value}(d:Addr)(hkey:knd.is k key=true)(hd:(d==sysModules)=false)(dflt:Value):
  MeetsIn prog w (Builtin.«dict.setdefault» ⟨[.ref d,key,dflt],[]⟩) (fun _ R s=> ∃kvs,s.heap.DictOf knd d kvs/\kvs.length<=sizeLine/\
   (∀v,valueAt kvs k=some v->R (.ok (.ret v)) {s with toks:=s.toks+1})/\
   (valueAt kvs k=none-> ∀h',h'.DictOf knd d (kvs++[(k,dflt)])->Heap.SameBut d s.heap h'->R (.ok (.ret dflt)) {s with heap:=h',toks:=s.toks+1})):=
 .of_wp fun A R s ⟨kvs,hm,hz,h1,h2⟩=>by
  unfold Builtin.«dict.setdefault»
  refine zE ?_
  unfold Builtin.Dict.keyAndDefault
  refine zE (wpAny_notOrdered_dict hm.typeIs ?_)
  show wpAny _ _ (pure (d,key,some dflt)) _ _ s
  refine zR ?_
  show wpAny _ _ (if(d==sysModules)=true then _ else(dictSetDefault d key dflt>>=_)) _ _ s
  rw[zL (by rw[hd];exact yI)]
  exact zE (Gm hkey hm (fun v hv=>zR ⟨v,rfl,h1 v hv⟩) (fun hn h' hm' hs'=>zR ⟨dflt,rfl,h2 hn h' hm' hs'⟩) hz)
end
section
variable {X:Cx}{pins:List (Addr×Obj)}{σ:St}{H:Hp}{s:Shared}{a:Addr}{kvs:List (Bj×V)}{k:Bj}{u r:Value}{d:V}{A:Around}{E:Value->Shared->Prop}
theorem Vj {Q:Value->Shared->Prop}(I:xM X pins σ H s)(e:H a=some (.dK kvs))(ry:kB (kV k) u)(rd:kB d r)(hl:kvs.length<sizeLine)
  (h1: ∀v w' s',Cv kvs k=some v->xM X pins σ H s'->kB v w'->Q w' s') (h2: ∀s',Cv kvs k=none->xM X pins σ (upd H a (.dK (kvs++[(k,d)]))) s'->Q r s'):
  wpAny (model X.prog X.w) A (call (.builtin "dict.setdefault") [.ref a,u,r]) Q E s:=by
 obtain⟨z,hd,vs,rel,dd⟩:=Zt I.hok e
 have hz:vs.length<=sizeLine:=by rw[<-rel.length];exact z
 refine call_meetsIn CH dd.typeIs PySem.F.entry_dict_setdefault (PySem.F.args_dict_setdefault_3 _ _ _) (Fv (knd:=qT X.prog X.w) a (Ks ry) hd r) ⟨vs,dd,hz,fun v hv=>?_,fun hv h' dd' hs=>?_⟩
 ·have rl:=rel.val k
  rw[hv]at rl
  cases q:Cv kvs k with
  |none=>rw[q]at rl;exact rl.elim
  |some y=>rw[q]at rl;exact h1 y _ _ q (I.tok _) rl
 ·have rl:=rel.val k
  rw[hv]at rl
  have q:Cv kvs k=none:=by
   cases q:Cv kvs k with
   |none=>rfl
   |some y=>rw[q]at rl;exact rl.elim
  have he: ∃q,h'.get? a=some q:=let⟨q,_,_,hq,_⟩:=dd';⟨q,hq⟩
  refine h2 _ q (Ww I (by rw[e];exact True.intro) hs he (Vg (by rw[zC];exact hl) hd (qG rel ⟨rfl,rd⟩) dd'))
end
section
variable {X:Cx}{o e f:Expr}{td ty tx:TE}{apos cpos:Pos}
def Xs (td ty tx:TE):TE:=fun σ H Q=>td σ H fun x H1=> ∃a,x=.ref a/\IsD H1 a/\ty σ H1 fun y H2=>tx σ H2 fun z H3=> ∃kvs k,H3 a=some (.dK kvs)/\y=kV k/\kvs.length<sizeLine/\
 (∀v,Cv kvs k=some v->Q v H3)/\(Cv kvs k=none->Q z (upd H3 a (.dK (kvs++[(k,z)]))))
theorem TX (ho:PE X o td)(he:PE X e ty)(hf:PE X f tx)(m:M2 X o "setdefault" apos e f cpos):PE X (.Call (.Attribute o "setdefault" apos) [e,f] [] cpos) (Xs td ty tx):=by
 refine⟨?_⟩
 intro pins s σ H Q I h
 refine wpAny_Call_method m.base m.few m.line ET CH PySem.F.type_dict_setdefault (qR (ho pins s σ H _ I h) fun u s1 hzz=>?_)
 obtain⟨x,H1,I1,rx,a,ex,d,q1⟩:=hzz
 subst ex
 obtain rfl:u=Value.ref a:=rx
 obtain⟨t1,t2,_⟩:=UM I1 d
 refine⟨t1,t2,?_⟩
 rw[m.trees]
 refine qP rfl (vK (qF (qR (he pins s1 σ H1 _ I1 q1) fun iv s2 ⟨y,H2,I2,ry,q2⟩=>
  qF (qR (hf pins s2 σ H2 _ I2 q2) fun fv s3 ⟨z,H3,I3,rz,kvs,k,ea,ey,hl,qa,qb⟩=>Ag ?_))))
 subst ey
 exact Vj I3 ea ry rz hl (fun v w' s' hv I4 rv=>⟨_,H3,I4,rv,qa v hv⟩) fun s' hv I4=>⟨_,_,I4,rz,qb hv⟩
end
end L2

namespace L2
open PySem
theorem IB {M:Model}{Γ:PySem.Ctx}{p:Pos}{t:Sem Fin}{fs:List Frame}{s:Shared}{e:End}{s':Shared}(h:Runs M Γ p t fs s e s'):s.toks<=s'.toks:=by
 induction h with
 |done=>exact zS _
 |raise=>exact zS _
 |again _ _ ih=>exact ih
 |rule _ ih=>exact ih
 |«at» _ ih=>exact ih
 |load _ _ ih=>exact ih
 |update _ _ ih=>exact ih
 |loadIfAlive _ ih=>exact ih
 |point _ ih=>exact ih
 |alloc _ ih=>exact ih
 |fresh _ ih=>exact Nat.le_of_succ_le ih
 |ask _ ih=>exact ih
 |choose _ _ ih=>exact ih
 |os _ ih=>exact ih
 |handled _ ih=>exact ih
 |genState _ _ ih=>exact ih
 |stack _ ih=>exact ih
 |thread _ ih=>exact ih
 |newGen _ ih=>exact ih
 |call _ _ i1 i2=>exact yO i1 i2
 |callSusp _ ih=>exact ih
 |yield=>exact zS _
 |resumeFresh _ _ _ _ i1 i2=>exact yO i1 i2
 |resumeSuspended _ _ _ _ i1 i2=>exact yO i1 i2
 |resumeJustStarted _ _ _ ih=>exact ih
 |resumeThrowFresh _ _ ih=>exact ih
 |resumeRunning _ _ ih=>exact ih
 |resumeFinished _ _ ih=>exact ih
 |segRet _ _ i1 i2=>exact yO i1 i2
 |segGen _ _ i1 i2=>exact yO i1 i2
 |segSuspOut _ _ ih=>exact ih
 |segSuspGen _ _ _ _ i1 i2=>exact yO i1 i2
theorem Pd {M:Model}{Γ:PySem.Ctx}{p:Pos}{g:Nat}{r:Resume}{s:Shared}{res:GenResult}{s':Shared}(h:Wakes M Γ p g r s res s'):s.toks<=s'.toks:=by
 unfold Wakes at h
 split at h
 ·exact h.elim
 ·split at h
  ·obtain⟨e1,s1,h1,_,_,rfl⟩:=h
   have:=IB h1
   exact this
  ·rw[h.2];exact zS _
  ·rw[h.2];exact zS _
 ·obtain⟨e1,s1,h1,_,_,rfl⟩:=h
  have:=IB h1
  exact this
 ·rw[h.2];exact zS _
 ·rw[h.2];exact zS _
theorem Mo {α:Type}{M:Model}{Γ:PySem.Ctx}{Q:α->Pos->Shared->Prop}{E:Value->Pos->Shared->Prop}{n:Nat}: ∀(t:Sem α) (p:Pos) (s:Shared),n<=s.toks->Sem.wp M Γ t (fun a p' s'=>n<=s'.toks->Q a p' s') (fun e p' s'=>n<=s'.toks->E e p' s') p s->Sem.wp M Γ t Q E p s:=by
 intro t
 induction t with
 |pure a=>intro p s hn h;exact h hn
 |raise e=>intro p s hn h;exact h hn
 |unsupported _=>intro p s hn h;exact h
 |finish _=>intro p s hn h;exact h
 |rule _ k ih=>intro p s hn h;rw[Sem.wp_rule]at h ⊢;exact ih () p s hn h
 |«at» p' k ih=>intro p s hn h;rw[Sem.wp_at]at h ⊢;exact ih () p' s hn h
 |load a part k ih=>
  intro p s hn h
  rw[Sem.wp_load]at h ⊢
  obtain⟨o,e,h⟩:=h
  exact⟨o,e,ih o p s hn h⟩
 |update a part f k ih=>
  intro p s hn h
  rw[Sem.wp_update]at h ⊢
  exact⟨h.1,ih () p _ hn h.2⟩
 |alloc o k ih=>intro p s hn h;rw[Sem.wp_alloc]at h ⊢;exact ih _ p _ hn h
 |loadIfAlive a k ih=>intro p s hn h;rw[Sem.wp_loadIfAlive]at h ⊢;exact ih _ p s hn h
 |point l k ih=>intro p s hn h;rw[Sem.wp_point]at h ⊢;exact ih () p s hn h
 |register a k ih=>intro p s hn h;rw[Sem.wp_register]at h;exact h.elim
 |fresh k ih=>intro p s hn h;rw[Sem.wp_fresh]at h ⊢;exact ih _ p _ (Nat.le_succ_of_le hn) h
 |ask k ih=>intro p s hn h;rw[Sem.wp_ask]at h ⊢;exact ih _ p s hn h
 |choose src m k ih=>intro p s hn h;unfold Sem.wp at h ⊢;exact⟨h.1,ih _ p _ hn h.2⟩
 |os q l k ih=>intro p s hn h;unfold Sem.wp at h ⊢;exact ih _ p _ hn h
 |call c hd g l k ih=>
  intro p s hn h
  unfold Sem.wp at h ⊢
  obtain⟨r,s1,hr,h⟩:=h
  exact⟨r,s1,hr,ih r p s1 (yO hn (IB hr)) h⟩
 |handled own k ih=>intro p s hn h;unfold Sem.wp at h ⊢;exact ih _ p s hn h
 |newGen c k ih=>intro p s hn h;unfold Sem.wp at h ⊢;exact ih _ p _ hn h
 |genState g k ih=>
  intro p s hn h
  unfold Sem.wp at h ⊢
  obtain⟨st,e,h⟩:=h
  exact⟨st,e,ih _ p s hn h⟩
 |resume g r l k ih=>
  intro p s hn h
  unfold Sem.wp at h ⊢
  obtain⟨res,s1,hr,h⟩:=h
  exact⟨res,s1,hr,ih _ p s1 (yO hn (Pd hr)) h⟩
 |yield v g l k ih=>intro p s hn h;unfold Sem.wp at h;exact h.elim
 |stack k ih=>intro p s hn h;unfold Sem.wp at h ⊢;exact ih _ p s hn h
 |fork c k ih=>intro p s hn h;unfold Sem.wp at h;exact h.elim
 |thread k ih=>intro p s hn h;unfold Sem.wp at h ⊢;exact ih _ p s hn h
 |await a tk td l k ih=>intro p s hn h;unfold Sem.wp at h;exact h.elim
theorem Pb {α:Type}{M:Model}{A:Around}{t:Sem α}{Q:α->Shared->Prop}{E:Value->Shared->Prop}{s:Shared}(h:wpAny M A t (fun v s'=>s.toks<=s'.toks->Q v s') (fun e s'=>s.toks<=s'.toks->E e s') s):wpAny M A t Q E s:=
 fun Γ p hΓ=>Mo t p s (zS _) (h Γ p hΓ)
end L2

namespace L2
open PySem PySem.Spec PySem.Builtin.Str PyProof.Rows
def Mh {α:Type}(t:Sem α):Prop:= ∀(M:Model) (Γ:PySem.Ctx) (Q:α->Pos->Shared->Prop) (E:Value->Pos->Shared->Prop) (p:Pos) (s:Shared),
 Sem.wp M Γ t (fun a p' s'=>s.toks<s'.toks->Q a p' s') E p s->Sem.wp M Γ t Q E p s
theorem Mh.fst {α β:Type}{m:Sem α}{f:α->Sem β}(h:Mh m):Mh (m>>=f):=fun M Γ Q E p s q=>by
 rw[Sem.wp_bind']at q ⊢
 refine h M Γ _ E p s (Sem.wp_mono M Γ m (fun a p' s' h'=>?_) (fun _ _ _ h'=>h') p s q)
 intro lt
 refine Mo (n:=s'.toks) (f a) p' s' (zS _) (Sem.wp_mono M Γ (f a) (fun b p2 s2 h2=>?_) (exc':=fun e p' s2=>s'.toks<=s2.toks->E e p' s2) (fun _ _ _ h2 _=>h2) p' s' h')
 exact fun le=>h2 (yR lt le)
theorem Mh.snd {α β:Type}{m:Sem α}{f:α->Sem β}(h: ∀a,Mh (f a)):Mh (m>>=f):=fun M Γ Q E p s q=>by
 rw[Sem.wp_bind']at q ⊢
 refine Mo (n:=s.toks) m p s (zS _) (Sem.wp_mono M Γ m (fun a p' s' h'=>?_) (exc':=fun e p' s2=>s.toks<=s2.toks->E e p' s2) (fun _ _ _ h2 _=>h2) p s q)
 intro le
 refine h a M Γ _ E p' s' (Sem.wp_mono M Γ (f a) (fun b p2 s2 h2=>?_) (fun _ _ _ h2=>h2) p' s' h')
 exact fun lt=>h2 (jY le lt)
theorem Sz:Mh fresh:=fun M Γ Q E p s q=>by
 unfold fresh at q ⊢
 rw[Sem.wp_fresh]at q ⊢
 exact q (wR _)
theorem Sy {ns:Addr}{x:Str}{v:Value}:Mh (nsSet ns x v):=by
 unfold nsSet
 exact Mh.snd fun _=>Mh.fst (Mh.fst Sz)
theorem Mh.go {α:Type}{t:Sem α}{M:Model}{A:Around}{Q:α->Shared->Prop}{E:Value->Shared->Prop}{s:Shared}(h:Mh t)(q:wpAny M A t (fun a s'=>s.toks<s'.toks->Q a s') E s):wpAny M A t Q E s:=
 fun Γ p hΓ=>h M Γ _ _ p s (q Γ p hΓ)
theorem Jt {env:Env}{x:Str}{v:Value}(hk:env.scope.kind=.function)(hl:env.kindOf x=some .local):storeName env x v=nsSet env.locals x v:=by
 unfold storeName
 rw[hl,hk]
 rfl
theorem Wq {scope:Scope}{globals:Addr}{n:Str}{v:Value}{binds:List (Str×Value)}{qual:Str}{func:Option Addr}{code:Value}{builtins:Addr}(hk:scope.kind=.function)(hl:scope.names.lookup n=some .local):
  Mh (newFunctionEnv scope globals [] ((n,v)::binds) qual func code none builtins):=by
 simp only[newFunctionEnv,Option.isSome_none,uH,EQ]
 refine Mh.snd fun L=>Mh.snd fun cells=>Mh.fst ?_
 rw[vH]
 refine Mh.fst (Mh.fst ?_)
 rw[Jt (by exact hk) (by exact hl)]
 exact Sy
structure Zz (X:Cx)(st:List Stmt)(t:TS):Prop where
 go: ∀(pins:List (Addr×Obj)) (s:Shared) (σ:St) (H:Hp) (D:FJ),xM X pins σ H s->0<s.toks->t D σ H->wpAny (model X.prog X.w) X.A (execs st X.env) (SP X pins D) X.xe s
structure Yz (X:Cx)(e:Expr)(t:TE):Prop where
 go: ∀(pins:List (Addr×Obj)) (s:Shared) (σ:St) (H:Hp) (Q:VK),xM X pins σ H s->0<s.toks->t σ H Q->wpAny (model X.prog X.w) X.A (eval e X.env) (EP X pins σ Q) X.xe s
structure PIT (X:Cx)(tg iter:Expr)(wi:TI):Prop where
 go: ∀(pins:List (Addr×Obj)) (s:Shared) (σ:St) (H:Hp) (R:It->Hp->Prop),xM X pins σ H s->0<s.toks->wi σ H R->
  wpAny (model X.prog X.w) X.A (eval iter X.env) (fun v s1=>wpAny (model X.prog X.w) X.A (pyIter v) (PIE X pins σ tg R) X.xe s1) X.xe s
theorem Yf {CX:Jr}{P:Program}{w:World}{K:PySem.W.Frag}{mg:Str->Option Value}{base:Heap}{k:Nat}{f:Addr}{name qual:Str}{params:Arguments}{body:List Stmt}{scope:Scope}{dV kV doc pm cdv ct oc:Value}{an od:Option Addr}
  {osl:Array (Option Value)} {N ps:List Str} {p0:Str} {sp:Sp} (lk:K.lookup f=some ⟨oc,od,.func (PySem.W.fnOf name qual params body scope dV kV doc pm an cdv ct),osl⟩) (hcd:PySem.W.codeIn K cdv qual=true) (S:xI N (p0::ps) scope)
  (h0:scope.names.lookup p0=some .local)
  (len: ∀vs H Q E,sp vs H Q E->vs.length=(p0::ps).length)
  (hbody: ∀(A:Around) (outer:List Env) (s:Shared) (H:Hp) (vs:List V) (Q:VK) (E:XK),uD k (A.deeper (envOfC qual scope s.heap.objs.size f cdv))->sp vs H Q E->
   ∃t,Zz (KD CX P w K mg base N qual scope f cdv A outer s H E) body t/\t {nx:=fun _ H'=>Q .non H',rt:=Q} (FD N vs) H):
  jV P w K mg base CX (k+1) f (PySem.W.fnOf name qual params body scope dV kV doc pm an cdv ct) (p0::ps) sp:=by
 refine⟨len,fun A outer s H args us vs Q E hr e0 hb r hsp=>?_⟩
 have hl:=len _ _ _ _ hsp
 have KX:K.In s.heap:=e0.mod.kin.keeps fun b o e=>(e0.bs b o e).1
 have lim:s.heap.NoLimit:=e0.mod.nolimit.keeps fun b o e=>(e0.bs b o e).1
 have hkind: ∀y∈(p0::ps).zip us,scope.names.lookup y.1=some .local\/(scope.names.lookup y.1=some .cell/\((cellsFrom (s.heap.objs.size+1) scope.names []).lookup y.1).isSome =true):=fun⟨n,v⟩ hy=>by
  rcases S.par n (CJ hy).1 with q|q
  ·exact .inl q
  ·exact .inr ⟨q,BE _ _ _ (.inl q)⟩
 have hul:us.length=vs.length:=r.length.symm
 obtain⟨u0,us',rfl⟩: ∃u0 us',us=u0::us':=by
  cases us with
  |nil=>rw[hl]at hul;cases hul
  |cons a b=>exact⟨a,b,rfl⟩
 refine codeAny_call_function hr.depth (KX _ _ lk) rfl S.co S.gen rfl (PySem.W.codeRec_of KX hcd) (hb _ _ _ _ ?_)
 refine Mh.go (by rw[Bc];exact Wq S.kind h0) ?_
 refine wpAny_newFunctionEnv_cells S.kind hkind fun env he s1 x lt=>?_
 subst he
 refine⟨lim.keeps x.toInCall.keep,codeAny_func ?_⟩
 obtain⟨t,ht,hq⟩:=hbody A outer s H vs Q E (hr.deeper _) hsp
 have I:xM (KD CX P w K mg base N qual scope f cdv A outer s H E) [] (FD N vs) H s1:=LN S hr.hd e0 hl r x
 refine vQ (ht.go [] s1 (FD N vs) H _ I (jY (yZ _) lt) hq) (fun fl s' hs=>?_) fun e s' hs=>hs
 have fin: ∀{σ':St} {H':Hp} {v:V} {u:Value},xM (KD CX P w K mg base N qual scope f cdv A outer s H E) [] σ' H' s'->kB v u->Q v H'->CE outer P w H s Q u s':=
  fun{σ' H' v u} J rv q=>⟨v,H',J.os,J.bare,J.base,J.hok,rv,q⟩
 cases fl with
 |ret u=>
  obtain⟨v,σ',H',J,rv,q⟩:=hs
  exact fin J rv q
 |next=>
  obtain⟨σ',H',J,q⟩:=hs
  exact fin (v:=V.non) (u:=Value.none) J rfl q
 |brk=>
  obtain⟨_,_,_,q⟩:=hs
  exact False.elim q
 |cont=>
  obtain⟨_,_,_,q⟩:=hs
  exact False.elim q
section
variable {X:Cx}{e:Expr}{te:TE}{pos:Pos}
theorem TD (he:Yz X e te):Zz X [.Return (some e) pos] (YH te):=by
 refine⟨?_⟩
 intro pins s σ H D I h0 h
 refine EN (wpAny_Return_some (qR (he.go pins s σ H _ I h0 h) fun v s1 hzz=>?_))
 obtain⟨x,H1,I1,r1,q1⟩:=hzz
 exact⟨x,σ,H1,I1,r1,q1⟩
theorem TK {tg l:Expr}{tl:TE}(hl:Yz X l tl):PIT X tg l (Xa X.K tl):=by
 refine⟨?_⟩
 intro pins s σ H R I h0 h
 refine qR (hl.go pins s σ H _ I h0 h) fun v s1 hzz=>?_
 obtain⟨x,H1,I1,r1,q1⟩:=hzz
 obtain⟨a,e,⟨xs,hq⟩,q⟩:=q1
 subst e
 cases r1
 obtain⟨its,rv,p,hz⟩:=I1.list hq
 refine Ad p.isList ?_
 refine⟨s1.heap.objs.size,[s1.heap.objs.size],_,_,H1,rfl,I1.kept (t':=s1.toks) fun b o e=>zI _ e,Li a _,⟨_,yG _ rfl,rfl,rfl⟩,fun b hb=>?_,q⟩
 have e:b=s1.heap.objs.size:=by simpa using hb
 subst e
 exact I1.fpOk (zS _) (I1.hok.fresh (zS _))
theorem Ua {target iter elt:Expr}{ifs:List Expr}{scope:Scope}{wi:TI}{own ys:List Str}{js:List Nat}{g:TG}{tt:TT}(hc:X.calm=true)(hi:PIT X target iter wi)(S:Nn X scope ys)(fr:Gp X.N ys js)
  (hg: ∀cl C fp s H,PG (X.comp (own++ys) scope cl C fp s H) target g) (ht: ∀cl C fp s H,Xh (X.comp (own++ys) scope cl C fp s H) ifs tt) (he: ∀cl C fp s H,PE (X.comp (own++ys) scope cl C fp s H) elt te)
  (hs: ∀x,foldedSetIterable iter X.env x=pure x:=by intro _;rfl):Yz X (.ListComp elt [⟨target,iter,ifs,0⟩] scope pos) (To wi own.length js g tt te):=by
 refine⟨?_⟩
 intro pins s σ H Q I h0 h
 rw[eval_ListComp]
 obtain⟨cl,e,c1,c2⟩:=Hz (env:=X.env) (scope:=scope) fun y hy hf=>I.ok.has y.1 (.inl (S.free y hy hf))
 refine AL (use:=none) rfl hs e S.kind S.loc (qR (hi.go pins s σ H _ I h0 h) fun v s1 h1=>qR h1 fun itv s2 h2=>?_)
 obtain⟨it,fp,tn,J,H2,e,I2,T,st2,f2,q2⟩:=h2
 subst e
 refine Hx (Q:=Q) (RR:=fun acc C=>compPost (model X.prog X.w) X.A X.xe none (EP X pins σ Q) acc C) hc I2 T st2 f2 S.kind S.cell fr S.cap c1 c2 S.vis hg ht he q2 ?_
 intro D C H' s' I' q hm n1 n2 n3 n4 n5
 obtain⟨m,hn⟩:=hm
 exact⟨m,hn,fun h' hs'=>⟨.ref D,H',I'.turned (fun b o hb e=>(hs'.2 b hb).trans e) n1 n2 (.inr n3) n4 n5,rfl,q⟩⟩
theorem XJ {o:Expr}{es:List Expr}{to:TE}{t:TA}{T id:String}{name:Str}{r:V->List V->Hp->VK->Prop}{apos cpos:Pos}(pa:PlainAttrs T)(slot:Slot T name id)(hty:typeOf (.builtin id)=pure (.type "method_descriptor"))(hm:SY X id r)(ho:Yz X o to)(ha:PA X (e::es) t)
  (hbase:attributeBase o name X.env (eval o X.env)=eval o X.env:=by rfl)
  (hfew:((backTo cpos (starEach (e::es) X.env)).all (fun x=>!x.1)&&(backToKw cpos (keywordEach [] X.env)).all (fun x=>x.1.isSome)
   &&decide ((e::es).length +([]:List Keyword).length +(if([]:List Keyword).isEmpty then 0 else 1)<30))=true:=by rfl)
  (hline:(apos.endLine==cpos.line)=true:=by rfl) (hs:starEach (e::es) X.env=(false,eval e X.env)::starEach es X.env:=by rfl) (hplain:(backTo cpos (starEach es X.env)).any (·.1)=false:=by rfl):
  Yz X (.Call (.Attribute o name apos) (e::es) [] cpos) (tBM X.K T r to t):=by
 refine⟨?_⟩
 intro pins s σ H Q I h0 h
 refine BB hbase hfew hline rfl (qR (ho.go pins s σ H _ I h0 h) fun v s1 hzz=>?_)
 obtain⟨x,H1,I1,r1,ty,q1⟩:=hzz
 obtain⟨h1,h2⟩:=Pe I1 r1 ty
 refine⟨T,id,pa,slot,hty,h1,h2,?_⟩
 have hA:=ha cpos pins s1 σ H1 _ I1 q1
 rw[hs]at hA ⊢
 refine qP (by show(false || (backTo cpos (starEach es X.env)).any (·.1))=false;rw[hplain]<;>rfl) (vK ?_)
 exact qR hA fun us s2 ⟨vs,H2,I2,r2,q2⟩=>hm pins s2 σ H2 x vs v us Q I2 r1 r2 q2
def YI (to:TE)(y z:Str):TE:=fun σ H Q=>to σ H fun v H1=> ∃x:Str,v=.str x/\x.length<=1048576/\Q (.str (Txt.replace x y z)) H1
theorem NX {o:Expr}{to:TE}{y z:Str}{apos cpos p1 p2:Pos}{k1 k2:Nat}(hyz:(y==z)=false)(hz:z.length<=14)(ho:PE X o to)
  (hbase:attributeBase o "replace" X.env (eval o X.env)=eval o X.env:=by rfl)
  (hline:(apos.endLine==cpos.line)=true:=by rfl):
  Yz X (.Call (.Attribute o "replace" apos) [.Constant (.str y) k1 p1,.Constant (.str z) k2 p2] [] cpos) (YI to y z):=by
 refine⟨?_⟩
 intro pins s σ H Q I h0 h
 refine BB hbase rfl hline rfl (Pb (vQ (ho pins s σ H _ I h) (fun v s1 ⟨x,H1,I1,r1,q1⟩ le=>?_) fun _ _ q _=>q))
 obtain⟨x,rfl,hx,q⟩:=q1
 obtain⟨tk,rfl⟩:=r1
 refine⟨"str","str.replace",F.plainAttrs_str,F.slot_str_replace,F.type_str_replace,Aq _ _ _,(fun _ e=>nomatch e),?_⟩
 refine qP rfl (vK ?_)
 refine qF (DF (k:=k1) (pos:=p1) (qF (DF (k:=k2) (pos:=p2) (Ag ?_))))
 have hp:0<s1.toks:=yR h0 le
 refine SC.replaceW (kH hp) (Nat.succ_ne_zero _) (xK (wR _)) hyz hx hz fun t' k=>?_
 exact⟨.str _,H1,I1.tok _,⟨_,rfl⟩,q⟩
theorem XI {c a b:Expr}{tA:TT}{x y:V}(hc:PT X c tA)(ha:PE X a (tC x))(hb:PE X b (tC y)):PE X (.IfExp c a b pos) (fun σ H Q=>tA σ H fun c H1=>Q (if c=true then x else y) H1):=by
 refine⟨?_⟩
 intro pins s σ H Q I h
 refine wpAny_IfExp (qR (hc pins s σ H _ I h) fun d s1 hzz=>?_)
 obtain⟨H1,I1,q1⟩:=hzz
 cases d with
 |true=>exact ha pins s1 σ H1 Q I1 q1
 |false=>exact hb pins s1 σ H1 Q I1 q1
end
end L2

namespace L2
open PySem
structure RA where
 rd:Addr
 dr:Addr
 wd:Addr
 nm:Addr
 hd:Addr
 bd:Addr
 nu:Addr
 cn:Addr
def DI (C:Addr)(A:RA)(a:Nat):HO:=.ins C A.dr [("words",.ref A.wd),("at",.int (a:Int)),("names",.ref A.nm),("heads",.ref A.hd),("bodies",.ref A.bd),("numbered",.ref A.nu),("counted",.ref A.cn)]
structure WOk (W:List Str):Prop where
 few:W.length<=1000000
 short: ∀w∈W,w.length<=1000000
theorem Ac {n:Nat}(h:n<=8000000):n<=sizeLine:=yO h (by decide)
theorem Ak {n:Nat}(h:n<=8000000):n<sizeLine:=jY h (by decide)
theorem WOk.at {W:List Str}(h:WOk W){a:Nat}{w:Str}(e:W[a]? =some w):w.length<=sizeLine:=Ac (yO (h.short w (zM e)) (by decide))
structure KZ (C:Addr)(A:RA)(W:List Str)(H:Hp)(a:Nat):Prop where
 rd:H A.rd=some (DI C A a)
 wd:H A.wd=some (.lst (W.map V.str))
 ok:WOk W
section
variable {C CT:Addr}{A:RA}{W:List Str}{H H1:Hp}{a b:Nat}{E:XK}
theorem KZ.ne (h:KZ C A W H a){x:Addr}{xs:List V}(e:H x=some (.lst xs)):x≠A.rd:=fun z=>by
 rw[z,h.rd]at e;cases e
theorem KZ.put (h:KZ C A W H a)(b:Nat):KZ C A W (upd H A.rd (DI C A b)) b:=⟨zG,by rw[zQ (h.ne h.wd)];exact h.wd,h.ok⟩
theorem KZ.at (h:KZ C A W H a){w:Str}(e:W[a]? =some w):Fz (W.map V.str) (a:Int)=some (.str w):=By (by rw[zN,e];rfl)
theorem ND {H:Hp}{a:Addr}{o:HO}(h:H a=some o):upd H a o=H:=by
 funext b
 by_cases z:b=a
 ·rw[z,zG,h]
 ·rw[zQ z]
def IX {α:Type}(ok:α->Prop)(no:Nat->Prop):Except Nat α->Prop
 | .ok x=>ok x
 | .error n=>no n
def qU (CT:Addr)(S:List Addr)(H:Hp)(E:XK)(n:Nat):Prop:= ∀d H',jG S H H'->H' d=some (OY d [("at",.int (n:Int))])->E (.ref CT) (some d) H'
theorem qU.mono {S:List Addr}{n:Nat}(f:qU CT S H E n)(k:jG S H H1):qU CT S H1 E n:=fun d H' g e=>f d H' (k.trans g) e
theorem qU.one {S:List Addr}{n:Nat}(f:qU CT S H E n):CC CT H E (n:Int):=fun d H' g e=>f d H' (jG.same g) e
theorem qU.sub {S S':List Addr}{n:Nat}(f:qU CT S H E n)(h: ∀x∈S',x∈S):qU CT S' H E n:=fun d H' g e=>f d H' (fun b o nb q=>g b o (fun z=>nb (h b z)) q) e
end
theorem jG.fst {x:Addr}{S:List Addr}{H H1:Hp}{o:HO}(k:jG (x::S) H H1):jG (x::S) H (L2.upd H1 x o):=k.trans (jG.upd (zP ..))
theorem wM {H H1:Hp}{x:Addr}{o u:HO}(h: ∀b,H1 b=none->H b=none)(e:H1 x=some u): ∀b,upd H1 x o b=none->H b=none:=fun b z=>by
 by_cases q:b=x
 ·rw[q,zG]at z;cases z
 ·rw[zQ q]at z;exact h b z
theorem BX {W:List Str}{most:Nat}{last:Str}: ∀(n a:Nat) (bs:List Str) (q:Nat×List Str),vO W most last n a bs=.ok q->bs.length<=most->q.2.length<=most/\bs.length<=q.2.length/\a<q.1/\q.1<=W.length
 |0,a,bs,q,h,_=>by cases h
 |n+1,a,bs,q,h,l=>by
  unfold vO at h
  split at h
  ·cases h
  rename_i w e
  have hl:=Gi e
  split at h
  ·cases h;exact⟨l,zS _,wR _,hl⟩
  split at h
  ·cases h
  split at h
  ·rename_i c1 c2 c3
   have r:=BX n (a+1) (bs++[w]) q h (by rw[zC];show bs.length+1<=most;(first|lia|omega))
   rw[zC]at r
   have:[w].length =1:=rfl
   (first|lia|omega)
  ·cases h
theorem Ck (k:Str): ∀ss:List Str,WV (.str k) (ss.map V.str)=decide (k∈ss)
 |[]=>rfl
 |x::r=>by
  have ih:=Ck k r
  unfold WV at ih ⊢
  rw[yK,uU,ih]
  by_cases z:x=k
  ·subst z
   have:Nc (V.str x) (.str x)=true:=by unfold Nc;simp
   rw[this,yE (zP ..)]
   rfl
  ·have:Nc (V.str x) (.str k)=false:=by unfold Nc;simp[z]
   rw[this,Bool.false_or]
   by_cases m:k∈r
   ·rw[yE m,yE (zT _ m)]
   ·rw[yJ m,yJ (fun q=>m ((List.mem_cons.mp q).resolve_left (Ne.symm z)))]
theorem uS: ∀ys:List Str,(ys.map V.str).all Cm=true
 |[]=>rfl
 |_::r=>by rw[yK,List.all_cons,uS r];rfl
theorem OF (x y:Str):Nc (V.str x) (.str y)=decide (x=y):=by
 unfold Nc
 by_cases z:x=y
 ·subst z;simp
 ·simp[z]
theorem KA {k:Str}{ss:List Str}(h:k∈ss):Nm (ss.map V.str) (.str k) (ss.idxOf k):=by
 have hl:=List.idxOf_lt_length_iff.mpr h
 refine⟨⟨.str k,?_,by rw[OF,yE rfl]⟩,fun m z hm hz=>?_⟩
 ·rw[zN,zB hl,DC hl]
  rfl
 ·rw[zN]at hz
  have hml:m<ss.length:=qB hm hl
  rw[zB hml]at hz
  cases hz
  rw[OF]
  refine yJ fun e=>?_
  have:=List.not_of_lt_findIdx (p:=(· ==k)) (xs:=ss) (i:=m) hm
  simp[e]at this
def HY (num:List (Str×Int)):List (Bj×V):=num.map fun p=>(Sum.inr p.1,V.int p.2)
theorem FM (x:Str): ∀num:List (Str×Int),Cv (HY num) (Sum.inr x)=(wE num x).map V.int
 |[]=>rfl
 |p::r=>by
  unfold wE
  by_cases z:p.1=x
  ·rw[zW z]
   exact FL (p:=(Sum.inr p.1,V.int p.2)) (by rw[z])
  ·rw[zL z,<-FM x r]
   exact FN (p:=(Sum.inr p.1,V.int p.2)) (fun e=>z (by injection e))
section
variable (C CT:Addr)
inductive Fa (vs:List V) (H:Hp) (Q:VK) (E:XK):Prop
 |mk (A:RA) (W:List Str) (a:Nat) (h0:vs=[.ref A.rd]) (h1:KZ C A W H a) (h2:IX (fun w=>Q (.str w) H) (fun n=>CC CT H E (n:Int)) (AG W a)):Fa vs H Q E
inductive HH (vs:List V) (H:Hp) (Q:VK) (E:XK):Prop
 |mk (x:Str) (h0:vs=[.str x]) (h1:x.length<=sizeLine) (h2:Q (.bl (jF x)) H):HH vs H Q E
inductive Mx (vs:List V) (H:Hp) (Q:VK) (E:XK):Prop
 |mk (A:RA) (W:List Str) (a:Nat) (th:Addr) (ts:List Str) (h0:vs=[.ref A.rd,.ref th]) (h1:KZ C A W H a) (h2:H th=some (.lst (ts.map V.str))) (h3:IX (fun w=>Q (.str w) (upd H A.rd (DI C A (a+1)))) (fun n=>CC CT H E (n:Int)) (GJ W a ts)):Mx vs H Q E
inductive JV (vs:List V) (H:Hp) (Q:VK) (E:XK):Prop
 |mk (A:RA) (W:List Str) (a:Nat) (bx:Addr) (bs:List Str) (most:Nat) (last:Str) (h0:vs=[.ref A.rd,.ref bx,.int (most:Int),.str last]) (h1:KZ C A W H a) (h2:H bx=some (.lst (bs.map V.str))) (h3:bx≠A.wd) (h4:bs.length<=most) (h5:most<=50) (h6:IX (fun q=> ∀H',jG [A.rd,bx] H H'->(∀b,H' b=none->H b=none)->H' A.rd=some (DI C A q.1)->H' bx=some (.lst (q.2.map V.str))->Q .non H') (qU CT [A.rd,bx] H E) (vO W most last (W.length+1) a bs)):JV vs H Q E
inductive Pp (vs:List V) (H:Hp) (Q:VK) (E:XK):Prop
 |mk (A:RA) (W:List Str) (a:Nat) (bx:Addr) (bs:List Str) (h0:vs=[.ref A.rd,.ref bx]) (h1:KZ C A W H a) (h2:H bx=some (.lst (bs.map V.str))) (h3:IX (fun n=>Q (.int (n:Int)) (upd H A.rd (DI C A (a+1)))) (fun n=>CC CT H E (n:Int)) (KH W a bs)):Pp vs H Q E
inductive Mv (vs:List V) (H:Hp) (Q:VK) (E:XK):Prop
 |mk (A:RA) (W:List Str) (a:Nat) (h0:vs=[.ref A.rd]) (h1:KZ C A W H a) (h2:IX (fun n=>Q (.int n) (upd H A.rd (DI C A (a+1)))) (fun n=>CC CT H E (n:Int)) (ID W a)):Mv vs H Q E
inductive My (vs:List V) (H:Hp) (Q:VK) (E:XK):Prop
 |mk (A:RA) (W:List Str) (a:Nat) (least:Int) (h0:vs=[.ref A.rd,.int least]) (h1:KZ C A W H a) (h2:IX (fun n=>Q (.int n) (upd H A.rd (DI C A (a+1)))) (qU CT [A.rd] H E) (FF W a least)):My vs H Q E
inductive Iw (vs:List V) (H:Hp) (Q:VK) (E:XK):Prop
 |mk (A:RA) (W:List Str) (a:Nat) (num:List (Str×Int)) (h0:vs=[.ref A.rd]) (h1:KZ C A W H a) (h2:H A.nu=some (.dK (HY num))) (h3:IX (fun n=>Q (.int n) (upd H A.rd (DI C A (a+1)))) (fun n=>CC CT H E (n:Int)) (Bw W num a)):Iw vs H Q E
inductive Mu (vs:List V) (H:Hp) (Q:VK) (E:XK):Prop
 |mk (A:RA) (W:List Str) (a:Nat) (k:Int) (bx:Addr) (bs:List Str) (num:List (Str×Int)) (h0:vs=[.ref A.rd,.int k,.ref bx]) (h1:KZ C A W H a) (h2:H bx=some (.lst (bs.map V.str))) (h3:H A.nu=some (.dK (HY num))) (h4:IX (fun r=> ∀t H',jG [A.rd] H H'->(∀b,H' b=none->H b=none)->H' A.rd=some (DI C A r.2)->H' t=some (.tup (r.1.map V.int))->Q (.ref t) H') (qU CT [A.rd] H E) (Ex W num a k bs)):Mu vs H Q E
inductive JU (vs:List V) (H:Hp) (Q:VK) (E:XK):Prop
 |mk (x:Str) (h0:vs=[.str x]) (h1:(x∈kwW->Q (.int (2+(kwW.idxOf x:Int))) H)) (h2:(x∉kwW->Q .non H)):JU vs H Q E
inductive JB (vs:List V) (H:Hp) (Q:VK) (E:XK):Prop
 |mk (A:RA) (W:List Str) (a:Nat) (bx:Addr) (bs:List Str) (h0:vs=[.ref A.rd,.ref bx]) (h1:KZ C A W H a) (h2:H bx=some (.lst (bs.map V.str))) (h3:IX (fun q=>Q (.int q.1) (upd H A.rd (DI C A q.2))) (fun n=>CC CT H E (n:Int)) (DU W a bs)):JB vs H Q E
def Xj (H:Hp)(v:V)(n:Int):Prop:= ∃t,v=.ref t/\H t=some (.tup [.int n])
def EI (H:Hp)(c:Addr)(cnt:List Int):Prop:= ∃vs,H c=some (.lst vs)/\Paired (Xj H) vs cnt
inductive JT (vs:List V) (H:Hp) (Q:VK) (E:XK):Prop
 |mk (k:Int) (h0:vs=[.int k]) (h1:7<=k) (h2:k<=19) (h3:Q (.int ((partsW[(k-7).toNat]?).getD 0)) H):JT vs H Q E
inductive MD (vs:List V) (H:Hp) (Q:VK) (E:XK):Prop
 |mk (k:Int) (t c:Addr) (ns cnt:List Int) (h0:vs=[.int k,.ref t,.ref c]) (h1:H t=some (.tup (ns.map V.int))) (h2:EI H c cnt) (h3:0<=k) (h4:k<=19) (h5:(k=3\/k=4\/k=6->ns.length=1)) (h6:(k=6->0<=ns.headD 0/\(ns.headD 0).toNat <cnt.length)) (h7:Q (.int (Ib cnt k ns)) H):MD vs H Q E
structure Vv (A:RA)(H:Hp)(bx:Addr)(W bs:List Str)(num:List (Str×Int))(cnt:List Int)(a:Nat)(bs':List Int):Prop where
 w:KZ C A W H a
 box:H bx=some (.lst (bs.map V.str))
 nu:H A.nu=some (.dK (HY num))
 cn:EI H A.cn cnt
 bd:H A.bd=some (.lst (bs'.map V.int))
 n1:A.bd≠A.wd
 n2:A.bd≠bx
 n3:A.bd≠A.cn
 le:a<=W.length
 few:bs'.length<=2*a
structure Qt (num:List (Str×Int))(cnt:List Int):Prop where
 there: ∀x f,wE num x=some f->0<=f/\f.toNat<cnt.length
 near: ∀c∈cnt,-1000000000<=c/\c<=1000000000
inductive Gs (d:Nat) (vs:List V) (H:Hp) (Q:VK) (E:XK):Prop
 |mk (A:RA) (bx:Addr) (W bs:List Str) (num:List (Str×Int)) (cnt:List Int) (a:Nat) (bd:List Int) (h0:vs=[.ref A.rd,.ref bx,.int (11-(d:Int))]) (h1:d<=10) (h2:Vv C A H bx W bs num cnt a bd) (h3:Qt num cnt) (h4:IX (fun q=> ∀H',jG [A.rd,A.bd] H H'->(∀b,H' b=none->H b=none)->Vv C A H' bx W bs num cnt q.1 q.2->Q .non H') (qU CT [A.rd,A.bd] H E) (Bs W num cnt bs d a bd)):Gs d vs H Q E
def VL:Nat->Sp
 |0=>fun _ _ _ _=>False
 |d+1=>Gs C CT d
end
section
variable {C:Addr}{A:RA}{H H1:Hp}{bx:Addr}{W bs:List Str}{num:List (Str×Int)}{cnt:List Int}{a b:Nat}{bd bd':List Int}
theorem EI.tups {c:Addr}(h:EI H c cnt)(e: ∀xs,H c=some (.lst xs)->H1 c=some (.lst xs))(t:wV H H1):EI H1 c cnt:=by
 obtain⟨vs,ev,p⟩:=h
 refine⟨vs,e _ ev,Paired.imp (fun _ _ z=>?_) p⟩
 obtain⟨q,rfl,hq⟩:=z
 exact⟨q,rfl,t _ _ hq⟩
theorem Qo {n:Int}(h:Bw W num a=.ok n): ∃x,wE num x=some n:=by
 unfold Bw at h
 split at h
 ·split at h
  ·split at h
   ·rename_i f e;cases h;exact⟨_,e⟩
   ·cases h
  ·cases h
 ·cases h
theorem Wb {r:List Int×Nat}(h:Ex W num a 6 bs=.ok r): ∃x,wE num x=some (r.1.headD 0):=by
 unfold Ex at h
 rw[zL (by decide),zL (by decide),zL (by decide),zL (by decide),zW rfl]at h
 split at h
 ·rename_i n e;cases h;exact Qo e
 ·cases h
theorem Vf (hn: ∀c∈cnt,-1000000000<=c/\c<=1000000000){k:Int}{ns:List Int}(h:k=3\/k=4->1<=ns.headD 0/\ns.headD 0<=12): -1000000000<=Ib cnt k ns/\Ib cnt k ns<=1000000000:=by
 have get: ∀(l:List Int) (i:Nat),(∀c∈l,-1000000000<=c/\c<=1000000000)-> -1000000000<=(l[i]?).getD 0/\(l[i]?).getD 0<=1000000000:=fun l i hl=>by
  cases e:l[i]? with
  |none=>exact⟨by decide,by decide⟩
  |some c=>exact hl c (zM e)
 unfold Ib
 split
 ·(first|lia|omega)
 split
 ·(first|lia|omega)
 split
 ·have:=h (by(first|lia|omega));(first|lia|omega)
 split
 ·have:=h (by(first|lia|omega));(first|lia|omega)
 split
 ·(first|lia|omega)
 split
 ·exact get _ _ hn
 ·exact get _ _ (by decide)
end
end L2

namespace L2
open PySem PySem.W PySem.W.X
theorem walkX_of {q:Program}{loose:List Str}{XP:(Str->Option Value)->Heap->Prop}{as:List Addr}{K:Params->Frag}{n t:Nat}{r:RowW}{d:DefRec}{kwd:List (Str×Expr)}{run:Value->List Value->Sem Value}(e: ∀P,as=(K P).map (·.1))
  (h:WalkO q loose XP (fun w h=>(K w.params).In h) r d kwd run):WalkX q loose XP (obsZ as) (valZ K n t) r d kwd run:=by
 intro w s₀ s₁ mg mb G y a o pm cd doc dV kV h1 h2 h3 h4 h5 h6 args vals as' L h7 h8 h9 h10 h11
 have Y:(K w.params).In s₁.heap:=InK.keeps (K:=K) w s₀.heap s₁.heap (z_facts e y).2.1 L.keeps
 exact h w s₀ s₁ mg mb G Y a o pm cd doc dV kV h1 h2 h3 h4 h5 h6 args vals as' h7 h8 h9 h10 h11
end L2











namespace OcL
open PySem L2
def top (i:Nat):Stmt:=PySem.Challenge.pw_ownchain_k09_programs_shown.main.body.getD i (.Pass ⟨0,0,0,0⟩)
abbrev AV:Stmt:=GC (top 2) 0
theorem GI:xI ["self","place","word"] ["self","place","word"] (yH AV):=⟨rfl,rfl,rfl,by decide+kernel,rfl,by decide+kernel,by decide+kernel⟩
abbrev Bo:Stmt:=GC (top 3) 0
theorem Hf:xI ["self","at"] ["self","at"] (yH Bo):=⟨rfl,rfl,rfl,by decide+kernel,rfl,by decide+kernel,by decide+kernel⟩
abbrev Fh:Stmt:=top 16
theorem Je:xI ["kind"] ["kind"] (yH Fh):=⟨rfl,rfl,rfl,by decide+kernel,rfl,by decide+kernel,by decide+kernel⟩
abbrev Iy:Stmt:=top 17
theorem Pr:xI ["kind"] ["kind"] (yH Iy):=⟨rfl,rfl,rfl,by decide+kernel,rfl,by decide+kernel,by decide+kernel⟩
abbrev Iz:Stmt:=top 18
theorem Ps:xI ["word"] ["word"] (yH Iz):=⟨rfl,rfl,rfl,by decide+kernel,rfl,by decide+kernel,by decide+kernel⟩
abbrev Hl:Stmt:=top 27
theorem NK:xI ["thing"] ["thing"] (yH Hl):=⟨rfl,rfl,rfl,by decide+kernel,rfl,by decide+kernel,by decide+kernel⟩
abbrev Cz:Stmt:=GC (top 28) 0
theorem Ix:xI ["self","numbers"] ["self","numbers"] (yH Cz):=⟨rfl,rfl,rfl,by decide+kernel,rfl,by decide+kernel,by decide+kernel⟩
abbrev Ga:Stmt:=GC (top 28) 1
theorem HM:xI ["self","number"] ["self"] (yH Ga):=⟨rfl,rfl,rfl,by decide+kernel,rfl,by decide+kernel,by decide+kernel⟩
abbrev AW:Stmt:=GC (top 28) 2
theorem AE:xI ["self","least","most","place","number"] ["self","least","most"] (yH AW):=⟨rfl,rfl,rfl,by decide+kernel,rfl,by decide+kernel,by decide+kernel⟩
abbrev Ff:Stmt:=top 29
theorem uP:xI ["look","heads","most_params","function","params"] ["look"] (yH Ff):=⟨rfl,rfl,rfl,by decide+kernel,rfl,by decide+kernel,by decide+kernel⟩
abbrev Bm:Stmt:=top 30
theorem He:xI ["look","kind","heads","boxes"] ["look","kind","heads","boxes"] (yH Bm):=⟨rfl,rfl,rfl,by decide+kernel,rfl,by decide+kernel,by decide+kernel⟩
abbrev DQ:Stmt:=top 32
theorem HL:xI ["kind","numbers","heads"] ["kind","numbers","heads"] (yH DQ):=⟨rfl,rfl,rfl,by decide+kernel,rfl,by decide+kernel,by decide+kernel⟩
abbrev DO:Stmt:=top 33
theorem Av:xI ["look","heads","boxes","deep","place","kind","numbers","parts","part"] ["look","heads","boxes","deep"] (yH DO):=⟨rfl,rfl,rfl,by decide+kernel,rfl,by decide+kernel,by decide+kernel⟩
abbrev FY:Stmt:=top 34
theorem Aw:xI ["sheet","look","heads","told","params","boxes"] ["sheet"] (yH FY):=⟨rfl,rfl,rfl,by decide+kernel,rfl,by decide+kernel,by decide+kernel⟩
abbrev Hk:Stmt:=top 35
theorem Ch:xI ["body","told","waiting","node","part"] ["body"] (yH Hk):=⟨rfl,rfl,rfl,by decide+kernel,rfl,by decide+kernel,by decide+kernel⟩
abbrev Fe:Stmt:=top 42
theorem NI:xI ["text"] ["text"] (yH Fe):=⟨rfl,rfl,rfl,by decide+kernel,rfl,by decide+kernel,by decide+kernel⟩
abbrev Cy:Stmt:=top 43
theorem Ew:xI ["word","signs","sign"] ["word","signs"] (yH Cy):=⟨rfl,rfl,rfl,by decide+kernel,rfl,by decide+kernel,by decide+kernel⟩
abbrev IA:Stmt:=top 44
theorem Pt:xI ["word"] ["word"] (yH IA):=⟨rfl,rfl,rfl,by decide+kernel,rfl,by decide+kernel,by decide+kernel⟩
abbrev Dr:Stmt:=top 45
theorem FE:xI ["word","most_figures","figures"] ["word","most_figures"] (yH Dr):=⟨rfl,rfl,rfl,by decide+kernel,rfl,by decide+kernel,by decide+kernel⟩
abbrev FX:Stmt:=top 46
theorem MH:xI ["word"] ["word"] (yH FX):=⟨rfl,rfl,rfl,by decide+kernel,rfl,by decide+kernel,by decide+kernel⟩
abbrev AU:Stmt:=GC (top 47) 0
theorem GH:xI ["self","words"] ["self","words"] (yH AU):=⟨rfl,rfl,rfl,by decide+kernel,rfl,by decide+kernel,by decide+kernel⟩
abbrev Dq:Stmt:=top 48
theorem uJ:xI ["words","numbered","function","at"] ["words"] (yH Dq):=⟨rfl,rfl,rfl,by decide+kernel,rfl,by decide+kernel,by decide+kernel⟩
abbrev Ds:Stmt:=top 49
theorem uK:xI ["words","counted","ended","at"] ["words"] (yH Ds):=⟨rfl,rfl,rfl,by decide+kernel,rfl,by decide+kernel,by decide+kernel⟩
abbrev Tu:Stmt:=top 50
theorem Xy:xI ["reading"] ["reading"] (yH Tu):=⟨rfl,rfl,rfl,by decide+kernel,rfl,by decide+kernel,by decide+kernel⟩
abbrev Cw:Stmt:=top 51
theorem Ev:xI ["reading","there","name"] ["reading","there"] (yH Cw):=⟨rfl,rfl,rfl,by decide+kernel,rfl,by decide+kernel,by decide+kernel⟩
abbrev Fg:Stmt:=top 52
theorem KP:xI ["reading","boxes","most","last"] ["reading","boxes","most","last"] (yH Fg):=⟨rfl,rfl,rfl,by decide+kernel,rfl,by decide+kernel,by decide+kernel⟩
abbrev Hg:Stmt:=top 53
theorem Jd:xI ["reading","boxes","name"] ["reading","boxes"] (yH Hg):=⟨rfl,rfl,rfl,by decide+kernel,rfl,by decide+kernel,by decide+kernel⟩
abbrev Eh:Stmt:=top 54
theorem FP:xI ["reading","word"] ["reading"] (yH Eh):=⟨rfl,rfl,rfl,by decide+kernel,rfl,by decide+kernel,by decide+kernel⟩
abbrev FS:Stmt:=top 55
theorem Fb:xI ["reading","least","at","many"] ["reading","least"] (yH FS):=⟨rfl,rfl,rfl,by decide+kernel,rfl,by decide+kernel,by decide+kernel⟩
abbrev Ei:Stmt:=top 56
theorem FQ:xI ["reading","name"] ["reading"] (yH Ei):=⟨rfl,rfl,rfl,by decide+kernel,rfl,by decide+kernel,by decide+kernel⟩
abbrev BR:Stmt:=top 57
theorem HJ:xI ["reading","kind","boxes"] ["reading","kind","boxes"] (yH BR):=⟨rfl,rfl,rfl,by decide+kernel,rfl,by decide+kernel,by decide+kernel⟩
abbrev FT:Stmt:=top 59
theorem Fc:xI ["reading","boxes","word","kind"] ["reading","boxes"] (yH FT):=⟨rfl,rfl,rfl,by decide+kernel,rfl,by decide+kernel,by decide+kernel⟩
abbrev DP:Stmt:=top 60
theorem CY:xI ["reading","boxes","deep","kind","numbers","part"] ["reading","boxes","deep"] (yH DP):=⟨rfl,rfl,rfl,by decide+kernel,rfl,by decide+kernel,by decide+kernel⟩
abbrev AO:Stmt:=top 61
theorem BQ:xI ["reading","name","boxes"] ["reading"] (yH AO):=⟨rfl,rfl,rfl,by decide+kernel,rfl,by decide+kernel,by decide+kernel⟩
abbrev FW:Stmt:=top 62
theorem HK:xI ["text","reading"] ["text"] (yH FW):=⟨rfl,rfl,rfl,by decide+kernel,rfl,by decide+kernel,by decide+kernel⟩
abbrev Hh:Stmt:=top 63
theorem NJ:xI ["kind","number","boxes","names"] ["kind","number","boxes","names"] (yH Hh):=⟨rfl,rfl,rfl,by decide+kernel,rfl,by decide+kernel,by decide+kernel⟩
abbrev FV:Stmt:=top 64
theorem vZ:xI ["body","boxes","names","words","kind","place","numbers","parts","number"] ["body","boxes","names"] (yH FV):=⟨rfl,rfl,rfl,by decide+kernel,rfl,by decide+kernel,by decide+kernel⟩
abbrev FU:Stmt:=top 65
theorem wD:xI ["names","sheet","lines","named","told","name","boxes","params","many","body","words"] ["names","sheet"] (yH FU):=⟨rfl,rfl,rfl,by decide+kernel,rfl,by decide+kernel,by decide+kernel⟩
abbrev Hm:Stmt:=top 67
theorem DN:xI ["_law_script","_law_k","_law_cell"] ["_law_script","_law_k"] (yH Hm):=⟨rfl,rfl,rfl,by decide+kernel,rfl,by decide+kernel,by decide+kernel⟩
abbrev FZ:Stmt:=top 68
theorem Bl:xI ["_law_pen_here","_law_many","_law_drawn","_law_number_here"] ["_law_pen_here","_law_many"] (yH FZ):=⟨rfl,rfl,rfl,by decide+kernel,rfl,by decide+kernel,by decide+kernel⟩
abbrev Fi:Stmt:=top 69
theorem GO:xI ["_law_words_here"] [] (yH Fi):=⟨rfl,rfl,rfl,by decide+kernel,rfl,by decide+kernel,by decide+kernel⟩
abbrev DR:Stmt:=top 70
theorem CZ:xI ["_law_pen_here","_law_taken","_law_letters","_law_size","_law_signs"] ["_law_pen_here","_law_taken"] (yH DR):=⟨rfl,rfl,rfl,by decide+kernel,rfl,by decide+kernel,by decide+kernel⟩
abbrev Fk:Stmt:=top 71
theorem wP:xI ["_law_pen_here","_law_most","_law_found","_law_taken","_law_k","_law_name_here","_law_params","_law_boxes","_law_j"] ["_law_pen_here","_law_most"] (yH Fk):=⟨rfl,rfl,rfl,by decide+kernel,rfl,by decide+kernel,by decide+kernel⟩
abbrev Ej:Stmt:=top 72
theorem FR:xI ["_law_pen_here","_law_is_far","_law_way"] ["_law_pen_here","_law_is_far"] (yH Ej):=⟨rfl,rfl,rfl,by decide+kernel,rfl,by decide+kernel,by decide+kernel⟩
abbrev Db:Stmt:=top 73
theorem jE:xI ["_law_pen_here","_law_heads_here","_law_boxes","_law_left","_law_deep","_law_kind","_law_number_here","_law_at","_law_word","_law_many","_law_words_here","_law_numbers","_law_count","_law_k","_law_more","_law_further"] ["_law_pen_here","_law_heads_here","_law_boxes","_law_left","_law_deep"] (yH Db):=⟨rfl,rfl,rfl,by decide+kernel,rfl,by decide+kernel,by decide+kernel⟩
abbrev Bn:Stmt:=top 74
theorem jL:xI ["_law_pen_here","_law_most","_law_room","_law_heads_here","_law_names","_law_sheet","_law_name_here","_law_boxes","_law_params","_law_lines","_law_words_here","_law_numbers","_law_line"] ["_law_pen_here","_law_most","_law_room"] (yH Bn):=⟨rfl,rfl,rfl,by decide+kernel,rfl,by decide+kernel,by decide+kernel⟩
abbrev Fj:Stmt:=top 75
theorem KQ:xI ["_law_thing"] ["_law_thing"] (yH Fj):=⟨rfl,rfl,rfl,by decide+kernel,rfl,by decide+kernel,by decide+kernel⟩
abbrev Dc:Stmt:=top 76
theorem GP:xI ["_law_found","_law_names","_law_sheet","_law_one"] ["_law_found","_law_names","_law_sheet"] (yH Dc):=⟨rfl,rfl,rfl,by decide+kernel,rfl,by decide+kernel,by decide+kernel⟩
abbrev Ax:Stmt:=top 77
theorem xX:xI ["_law_pen_here","_law_names","_law_lines","_law_taken","_law_found","_law_name_here","_law_boxes","_law_fresh","_law_box","_law_callees","_law_further","_law_k","_law_line","_law_at","_law_word"] ["_law_pen_here","_law_names","_law_lines"] (yH Ax):=⟨rfl,rfl,rfl,by decide+kernel,rfl,by decide+kernel,by decide+kernel⟩
abbrev Da:Stmt:=top 78
theorem Eg:xI ["_law_names","_law_sheet","_law_lines","_law_handed","_law_wanted","_law_found"] ["_law_names","_law_sheet","_law_lines","_law_handed"] (yH Da):=⟨rfl,rfl,rfl,by decide+kernel,rfl,by decide+kernel,by decide+kernel⟩
abbrev Tt:Stmt:=top 79
theorem Fd:xI ["_law_script","_law_handed","_law_k","_law_pen_here","_law_names","_law_sheet","_law_lines","_law_others","_law_further"] ["_law_script"] (yH Tt):=⟨rfl,rfl,rfl,by decide+kernel,rfl,by decide+kernel,by decide+kernel⟩
structure Ym (K:PySem.W.Frag)(mg:Str->Option Value):Prop where
 n_len:mg "len"=none
 m_FIGURES:WI mg "FIGURES" "0123456789"
 m_MOST_FIGURES:uE mg "MOST_FIGURES" 60
structure Txt (K:PySem.W.Frag)(mg:Str->Option Value)(aP aW aH CT CR:Addr):Prop where
 n_len:mg "len"=none
 n_range:mg "range"=none
 n_int:mg "int"=none
 n_tuple:mg "tuple"=none
 n_str:mg "str"=none
 n_isinstance:mg "isinstance"=none
 m_NUMBER:uE mg "NUMBER" 0
 m_GET:uE mg "GET" 1
 m_SET:uE mg "SET" 2
 m_ALL:uE mg "ALL" 3
 m_PICK:uE mg "PICK" 4
 m_LOOP:uE mg "LOOP" 5
 m_CALL:uE mg "CALL" 6
 m_FAIL:uE mg "FAIL" 7
 m_MOST_FUNCTIONS:uE mg "MOST_FUNCTIONS" 16
 m_MOST_PARAMS:uE mg "MOST_PARAMS" 4
 m_MOST_BOXES:uE mg "MOST_BOXES" 12
 m_MOST_DEEP:uE mg "MOST_DEEP" 10
 m_MOST_MANY:uE mg "MOST_MANY" 12
 m_LEAST_ALL:uE mg "LEAST_ALL" 1
 m_LEAST_PICK:uE mg "LEAST_PICK" 2
 m_MOST_LETTERS:uE mg "MOST_LETTERS" 8
 m_MOST_FIGURES:uE mg "MOST_FIGURES" 60
 m_LETTERS:WI mg "LETTERS" lettersS
 m_FIGURES:WI mg "FIGURES" "0123456789"
 m_WORDS:mg "WORDS"=some (.ref aW)
 m_HEAD_WORDS:mg "HEAD_WORDS"=some (.ref aH)
 m_PARTS:mg "PARTS"=some (.ref aP)
 words: ∀H,EH K H aW (kwW.map V.str)
 wordsT: ∃o,K.lookup aW=some o/\o.cls=.type "tuple"/\o.dict=none
 hwords: ∀H,EH K H aH (kwH.map V.str)
 parts: ∀H,EH K H aP (partsW.map V.int)
 kstr:PySem.W.kitOne K (.type "str") (.type "str")=some true
 exc:Jq K CT
 xat:vT K CT "at"
 cls:RC K CR
 f_words:vT K CR "words"
 f_at:vT K CR "at"
 f_names:vT K CR "names"
 f_heads:vT K CR "heads"
 f_bodies:vT K CR "bodies"
 f_numbered:vT K CR "numbered"
 f_counted:vT K CR "counted"
structure Ik (K:PySem.W.Frag)(mg:Str->Option Value)(aP CL CN:Addr):Prop where
 n_len:mg "len"=none
 n_abs:mg "abs"=none
 n_range:mg "range"=none
 n_isinstance:mg "isinstance"=none
 n_int:mg "int"=none
 n_bool:mg "bool"=none
 n_list:mg "list"=none
 n_tuple:mg "tuple"=none
 m_NUMBER:uE mg "NUMBER" 0
 m_GET:uE mg "GET" 1
 m_SET:uE mg "SET" 2
 m_ALL:uE mg "ALL" 3
 m_PICK:uE mg "PICK" 4
 m_LOOP:uE mg "LOOP" 5
 m_CALL:uE mg "CALL" 6
 m_FAIL:uE mg "FAIL" 7
 m_NEW:uE mg "NEW" 19
 m_MOST_FUNCTIONS:uE mg "MOST_FUNCTIONS" 16
 m_MOST_PARAMS:uE mg "MOST_PARAMS" 4
 m_MOST_BOXES:uE mg "MOST_BOXES" 12
 m_MOST_DEEP:uE mg "MOST_DEEP" 10
 m_MOST_MANY:uE mg "MOST_MANY" 12
 m_LEAST_ALL:uE mg "LEAST_ALL" 1
 m_LEAST_PICK:uE mg "LEAST_PICK" 2
 m_PARTS:mg "PARTS"=some (.ref aP)
 m_NoSheet:mg "NoSheet"=some (.ref CN)
 parts: ∀H,EH K H aP (partsN.map V.int)
 kint:PySem.W.kitOne K (.type "int") (.type "int")=some true
 kbool:PySem.W.kitOne K (.type "int") (.type "bool")=some false
 klist:PySem.W.kitOne K (.type "list") (.type "list")=some true
 ktup:PySem.W.kitOne K (.type "tuple") (.type "tuple")=some true
 look:RC K CL
 lnum:vT K CL "numbers"
 lplace:vT K CL "place"
 exc:Jq K CN
 xplace:vT K CN "place"
 xword:vT K CN "word"
 mch:Mch K CN CN

section
variable {P:Program}{w:World}{K:PySem.W.Frag}{mg:Str->Option Value}{base:Heap}{f:Addr}{fd:FuncData}{aP aW aH CT CR CL CN:Addr}
set_option maxHeartbeats 4000000

inductive DK (vs:List V) (H:Hp) (Q:VK) (E:XK):Prop
 |mk (w sg:Str) (h0:vs=[.str w,.str sg]) (h1:Q (.bl (BL w sg)) H):DK vs H Q E
theorem KS (F:vW K "is_written_in" "is_written_in" Cy f fd):jV P w K mg base (jX P w) 1 f fd ["word","signs"] DK:=by
 refine F.okN Ew (fun vs H Q E h=>?_) (fun cdv A outer s H vs Q E hr h=>?_)
 ·obtain⟨x,sg,rfl,_⟩:=h
  rfl
 obtain⟨x,sg,rfl,q⟩:=h
 refine⟨_,(zF (vE xO rfl (XF (pv 0)) (xG (i:=2) Ew.nd rfl (Or.inl rfl)) (zU (jB (yL MP (pv 2) (pv 1) rfl) (zU (yU GR)) yV)))
   (zU (yU GR))),?_⟩
 try dsimp only[Cx.nox,Cx.exc,Cx.wish,jC]
 refine⟨_,rfl,x,rfl,Ws (fun i σ' H'=>(∃v2,σ'=[some (.str x),some (.str sg),v2])/\H'=H/\ ∀j c,j<i->x.cps[j]? =some c->c∈sg.cps.toList) ⟨⟨_,rfl⟩,rfl,fun j c hj=>absurd hj (Nat.not_lt_zero _)⟩ ?_ ?_⟩
 ·rintro i c σ' H' hc ⟨⟨v2,rfl⟩,rfl,hi⟩
  refine⟨_,rfl,_,rfl,_,_,rfl,rfl,_,rfl,?_⟩
  rw[VM]
  by_cases m:c∈sg.cps.toList
  ·rw[yE m]
   refine Bi ⟨⟨_,rfl⟩,rfl,fun j d hj hd=>?_⟩
   by_cases z:j=i
   ·subst z
    rw[hc]at hd
    cases hd
    exact m
   ·exact hi j d (by(first|lia|omega)) hd
  ·rw[yJ m]
   refine AX ?_
   have:BL x sg=false:=by
    unfold BL
    rw[List.all_eq_false]
    refine⟨c,?_,by rw[yJ m];exact yI⟩
    rw[<-BP]at hc
    exact zM hc
   rw[this]at q
   exact q
 ·rintro σ' H' ⟨⟨v2,rfl⟩,rfl,hi⟩
  have:BL x sg=true:=by
   unfold BL
   rw[wC]
   intro c hc
   obtain⟨j,hj⟩:=kO hc
   rw[BP]at hj
   have hl:j<x.cps.size:=by
    rw[Array.getElem?_eq_some_iff]at hj
    exact hj.1
   exact yE (hi j c hl hj)
  rw[this]at q
  exact q
inductive Mw (vs:List V) (H:Hp) (Q:VK) (E:XK):Prop
 |mk (x:Str) (most:Int) (h0:vs=[.str x,.int most]) (h1:x.length<=sizeLine) (h2:Q (.bl (Ab x most)) H):Mw vs H Q E
theorem MU (T:Ym K mg)(F:vW K "is_number_of" "is_number_of" Dr f fd)(Cis_written_in:vV P w K mg base (jX P w) 1 "is_written_in" ["word","signs"] DK):jV P w K mg base (jX P w) 2 f fd ["word","most_figures"] Mw:=by
 refine F.okN FE (fun vs H Q E h=>?_) (fun cdv A outer s H vs Q E hr h=>?_)
 ·obtain⟨x,m,rfl,_⟩:=h
  rfl
 obtain⟨x,most,rfl,hz,q⟩:=h
 refine⟨_,(zF (Ek (yT (i:=2) FE.nd rfl (Or.inl rfl) (TW (uB (kK jI PySem.F.slot_str_startswith PySem.F.type_str_startswith Sh (pv 0) (zA kQ zH))) (Gd Xx (pv 0) (HR zX) HS) (pv 0))))
   (zF (jB (PW.pt (uZ (yL GS (xR Df rfl T.n_len qJ (zA (pv 2) zH)) zX (yY _)) (uZ (yL GU (xR Df rfl T.n_len qJ (zA (pv 2) zH)) (pv 1) (yY _)) (uA (Ai (uB (yF Cis_written_in hr rfl (zA (pv 2) (zA (QP rfl T.m_FIGURES) zH)) jZ))))))) (zU (yU GR)) yV)
   (zU (yU (Zf (Cd kT (pv 0) kQ (yY _)) (Kd (Cd HV (xZ Qf (pv 2) zX (fun _ _=>rfl)) kQ (yY _)))))))),?_⟩
 try dsimp only[Cx.nox,Cx.exc,Cx.wish,jC]
 refine⟨fun σ' H'=>σ'=[some (.str x),some (.int most),some (.str (vR x))]/\H'=H,?_,?_⟩
 ·refine⟨_,rfl,rfl,x,_,rfl,rfl,_,rfl,kI (fun c=>?_) (fun c=>?_)⟩
  ·have c':=(HF x).mp c
   obtain⟨r,er⟩: ∃r,x.cps.toList=45::r:=by
    cases e:x.cps.toList with
    |nil=>rw[e]at c';cases c'
    |cons a r=>rw[e]at c';cases c';exact⟨r,rfl⟩
   obtain⟨e1,e2⟩:=Dw er
   refine⟨_,rfl,_,rfl,x,rfl,hz,?_⟩
   rw[e2,e1]
   exact⟨rfl,rfl⟩
  ·rw[BV (fun z=>c ((HF x).mpr z))]
   exact⟨_,rfl,rfl,rfl⟩
 rintro _ _ ⟨rfl,rfl⟩
 rename_i H
 have no: ∀{b:Bool},Ab x most=b->Q (.bl b) H:=fun e=>by rw[<-e];exact q
 have hzf:(vR x).length<=sizeLine:=yO (UZ x) hz
 refine⟨_,rfl,_,rfl,hzf,_,_,rfl,rfl,_,rfl,kI (fun c1=>?_) (fun c1=>?_)⟩
 ·exact AX (no (by
   have:=yB c1
   unfold Ab
   rw[yJ (by(first|lia|omega))]
   rfl))
 have l1:1<=(vR x).length:=by
  have n1: ¬((vR x).length:Int)<1:=fun z=>c1 (yE z)
  (first|lia|omega)
 refine⟨_,rfl,_,rfl,hzf,_,rfl,_,_,rfl,rfl,_,rfl,kI (fun c2=>?_) (fun c2=>?_)⟩
 ·exact AX (no (by
   have:=yB c2
   unfold Ab
   rw[yJ (show ¬((vR x).length:Int)<=most by(first|lia|omega)),DH]
   rfl))
 have l2:((vR x).length:Int)<=most:=by
  have n2: ¬most<((vR x).length:Int):=fun z=>c2 (yE z)
  (first|lia|omega)
 have e0:Ab x most=(BL (vR x) "0123456789"&&(decide (x="0") || !decide ((vR x).cps.toList[0]? =some 48))):=by
  unfold Ab
  rw[yE l1,yE l2]
  rfl
 refine⟨_,rfl,vR x,_,rfl,_,rfl,?_⟩
 cases ci:BL (vR x) "0123456789" with
 |false=>exact AX (no (by rw[e0,ci];rfl))
 |true=>
  have hl:(vR x).cps.toList.length =(vR x).length:=yQ
  obtain⟨c0,r,ec⟩: ∃c0 r,(vR x).cps.toList =c0::r:=by
   cases e:(vR x).cps.toList with
   |nil=>rw[e]at hl;have:([]:List Nat).length =0:=rfl;(first|lia|omega)
   |cons a r=>exact⟨a,r,rfl⟩
  rw[ci,ec]at e0
  refine Bi ⟨_,rfl,rfl,_,rfl,kI (fun c=>?_) (fun c=>?_)⟩
  ·have ex:x="0":=by
    have:=yB c
    injection this
   exact no (by rw[e0,yE ex];rfl)
  ·have nx: ¬x="0":=fun z=>c (yE (xT V.str z))
   have ez:(Str.ofString "0")=⟨#[48]⟩:=by decide
   refine⟨_,rfl,vR x,0,c0,rfl,rfl,hzf,(by rw[ec];exact By (xs:=c0::r) (j:=0) rfl),rfl,?_⟩
   refine no ?_
   rw[e0,yJ nx]
   show(true&&(false || !decide (some c0=some 48)))=!decide (V.str ⟨#[c0]⟩=V.str (Str.ofString "0"))
   rw[ez]
   by_cases z:c0=48
   ·subst z;decide
   ·rw[yJ (fun h=>z (by injection h)),yJ (fun h=>z (by injection h with h;injection h with h;injection h with h;injection h with h))]
    rfl
inductive QF (vs:List V) (H:Hp) (Q:VK) (E:XK):Prop
 |mk (x:Str) (h0:vs=[.str x]) (h1:x.length<=sizeLine) (h2:Q (.bl (Ab x 60)) H):QF vs H Q E
theorem Sb (T:Ym K mg)(F:vW K "is_number" "is_number" FX f fd)(Cis_number_of:vV P w K mg base (jX P w) 2 "is_number_of" ["word","most_figures"] Mw):jV P w K mg base (jX P w) 3 f fd ["word"] QF:=by
 refine F.okN MH (fun vs H Q E h=>?_) (fun cdv A outer s H vs Q E hr h=>?_)
 ·obtain⟨x,rfl,_⟩:=h
  rfl
 obtain⟨x,rfl,hz,q⟩:=h
 refine⟨_,(zU (yU (yF Cis_number_of hr rfl (zA (pv 0) (zA (xH rfl T.m_MOST_FIGURES) zH)) jZ))),?_⟩
 try dsimp only[Cx.nox,Cx.exc,Cx.wish,jC]
 exact⟨_,rfl,x,60,rfl,hz,q⟩

theorem Zn {c:Bool}{A B:Prop}(e:c=false)(h:B):if c=true then A else B:=by
 rw[e];exact Bi h
theorem Uq (T:Txt K mg aP aW aH CT CR)(F:vW K "__init__" "NoText.__init__" Bo f fd):jV P w K mg base (jX P w) 1 f fd ["self","at"] (vY CT):=by
 refine F.okN Hf (fun vs H Q E h=>?_) (fun cdv A outer s H vs Q E hr h=>?_)
 ·obtain⟨x,y,rfl,_⟩:=h
  rfl
 obtain⟨x,y,rfl,hx,q⟩:=h
 refine⟨_,(zU (MJ (pv 0) (pv 1))),?_⟩
 try dsimp only[Cx.nox,Cx.exc,Cx.wish,jC]
 refine⟨_,rfl,_,rfl,x,CT,none,rfl,hx,T.exc,T.xat,.inl ⟨rfl,fun d hd=>?_⟩⟩
 have nd:d≠x:=fun e=>by rw[e,hx]at hd;cases hd
 refine q d _ nd hd (fun b o nb e=>?_) zG (by rw[zQ nd];exact zG)
 rw[zQ nb,zQ (zK e hd)];exact e
inductive Ip (vs:List V) (H:Hp) (Q:VK) (E:XK):Prop
 |mk (t:Str) (h0:vs=[.str t]) (h1:t.length<=1000000) (h2:(Txt.replace t "\n" " ").length<=1000000) (h3:(Txt.split (Txt.replace t "\n" " ") " ").length<=2000000) (h4: ∀p H',H p=none->wG H H'->H' p=some (.lst ((wordsT t).map V.str))->Q (.ref p) H'):Ip vs H Q E
theorem Oa (F:vW K "words_of" "words_of" Fe f fd):jV P w K mg base (jX P w) 1 f fd ["text"] Ip:=by
 obtain⟨oc,od,kV,doc,pm,an,cdv,ct,osl,rfl,lk,hcd⟩:=F.ex
 refine Yf lk hcd NI rfl (fun vs H Q E h=>?_) (fun A outer s H vs Q E hr h=>?_)
 ·obtain⟨t,rfl,_⟩:=h
  rfl
 obtain⟨t,rfl,tl,rl,sl,q⟩:=h
 refine⟨_,TD (Ua (own:=["word"]) (ys:=[]) rfl (TK (XJ jI PySem.F.slot_str_split PySem.F.type_str_split Oo (NX (by decide) (by decide) (pv 0)) (zA kQ zH)))
  (BW (sc:=yH Fe) rfl (by decide+kernel)) .nil (fun _ _ _ _ _=>(xG (i:=0) (show List.Nodup [("word":Str)]from(by decide+kernel)) rfl (Or.inl rfl))) (fun _ _ _ _ _=>VS (yL HV (pv 0) kQ (yY _))) (fun _ _ _ _ _=>(pv 0))),?_⟩
 refine⟨_,rfl,t,rfl,by(first|lia|omega),rfl,_," ",rfl,rfl,rfl,Ac (by(first|lia|omega)),Ac (by(first|lia|omega)),fun a ha=>⟨a,rfl,⟨_,.of zG⟩,fun p hp=>?_⟩⟩
 have np:p≠a:=fun z=>by rw[z,zG]at hp;cases hp
 have hpH:H p=none:=(zV ha _).free hp
 refine Gn (xs:=(Txt.split (Txt.replace t "\n" " ") " ").map V.str) (fun i σ' H'=>H'=upd (upd H a (.lst ((Txt.split (Txt.replace t "\n" " ") " ").map V.str))) p (.lst ((((Txt.split (Txt.replace t "\n" " ") " ").take i).filter PQ).map V.str))/\ ∃x,σ'=[x]) ⟨rfl,_,rfl⟩ ?_ ?_ ?_
 ·rintro i σ' H' hi ⟨rfl,_⟩
  exact .of (by rw[zQ (Ne.symm np)];exact zG)
 ·rintro i x σ' H' hi hx ⟨rfl,x0,rfl⟩
  rw[zD]at hi
  rw[zN,zB hi]at hx
  cases hx
  generalize ey:(Txt.split (Txt.replace t "\n" " ") " ")[i]=y
  have et:(Txt.split (Txt.replace t "\n" " ") " ").take (i+1)=(Txt.split (Txt.replace t "\n" " ") " ").take i++[y]:=by
   rw[<-ey]
   rw[kM,zB hi];rfl
  refine⟨_,rfl,rfl,_,rfl,kI (fun c=>?_) (fun c=>?_)⟩
  ·have c': ¬y="":=fun z=>by rw[z]at c;exact absurd c (by decide)
   refine⟨_,rfl,_,zG,Ak ?_,CW.next (by rw[zD];exact hi) ⟨?_,_,rfl⟩⟩
   ·rw[zD]
    exact yO (List.length_filter_le _ _) (yO (CU ..) (by(first|lia|omega)))
   ·rw[EZ,et,List.filter_append,yA]
    simp[PQ,c']
  ·have c':y="":=by
    by_cases z:y=""
    ·exact z
    ·exact absurd (by show(!decide (V.str y=V.str ""))=true;rw[yJ (fun e=>z (by injection e))];rfl) c
   refine CW.next (by rw[zD];exact hi) ⟨?_,_,rfl⟩
   rw[et,List.filter_append]
   simp[PQ,c']
 ·rintro σ' H' ⟨rfl,_⟩
  rw[zD,wS]
  refine q p _ hpH (fun b o e=>?_) zG
  rw[zQ (zK e hpH),zQ (zK e ha)]
  exact e

end
section
variable {P:Program}{w:World}{K:PySem.W.Frag}{mg:Str->Option Value}{base:Heap}{f:Addr}{fd:FuncData}{aP aW aH CT CR CL CN:Addr}
set_option maxHeartbeats 4000000

theorem PJ (T:Txt K mg aP aW aH CT CR)(F:vW K "is_name" "is_name" IA f fd)(Cis_written_in:vV P w K mg base (jX P w) 1 "is_written_in" ["word","signs"] DK):jV P w K mg base (jX P w) 2 f fd ["word"] HH:=by
 refine F.okN Pt (fun vs H Q E h=>?_) (fun cdv A outer s H vs Q E hr h=>?_)
 ·obtain⟨x,rfl,_⟩:=h
  rfl
 obtain⟨x,rfl,hz,q⟩:=h
 refine⟨_,(zF (jB (PW.pt (uZ (yL GS (xR Df rfl T.n_len qJ (zA (pv 0) zH)) zX (yY _)) (uZ (yL GU (xR Df rfl T.n_len qJ (zA (pv 0) zH)) (xH rfl T.m_MOST_LETTERS) (yY _)) (uA (Ai (uB (yF Cis_written_in hr rfl (zA (pv 0) (zA (QP rfl T.m_LETTERS) zH)) jZ))))))) (zU (yU GR)) yV)
   (zU (yU (MN (Cd Fq (pv 0) (Fp rfl T.m_HEAD_WORDS) rfl) (Kd (Cd Fq (pv 0) (Fp rfl T.m_WORDS) rfl)))))),?_⟩
 try dsimp only[Cx.nox,Cx.exc,Cx.wish,jC]
 have no: ∀{b:Bool},jF x=b->Q (.bl b) H:=fun e=>by rw[<-e];exact q
 refine⟨_,rfl,_,rfl,hz,_,_,rfl,rfl,_,rfl,kI (fun c1=>?_) (fun c1=>?_)⟩
 ·exact AX (no (by
   have:=yB c1
   unfold jF
   rw[yJ (by(first|lia|omega))]
   rfl))
 have l1:1<=x.length:=by
  have n1: ¬(x.length:Int)<1:=fun z=>c1 (yE z)
  (first|lia|omega)
 refine⟨_,rfl,_,rfl,hz,_,_,rfl,rfl,_,rfl,kI (fun c2=>?_) (fun c2=>?_)⟩
 ·exact AX (no (by
   have:=yB c2
   unfold jF
   rw[yJ (show ¬x.length<=8 by(first|lia|omega)),DH]
   rfl))
 have l2:x.length<=8:=by
  have n2: ¬(8:Int)<(x.length:Int):=fun z=>c2 (yE z)
  (first|lia|omega)
 have e0:jF x=(BL x lettersS&&!decide (x∈kwH)&&!decide (x∈kwW)):=by
  unfold jF
  rw[yE l1,yE l2]
  rfl
 refine⟨_,rfl,x,_,rfl,_,rfl,?_⟩
 cases ci:BL x lettersS with
 |false=>exact AX (no (by rw[e0,ci];rfl))
 |true=>
  refine Bi ⟨_,rfl,aH,_,rfl,.inr (T.hwords H),rfl,uS _,_,rfl,?_⟩
  rw[Ck]
  rw[ci]at e0
  cases c3:decide (x∈kwH)with
  |true=>exact Bi (no (by rw[e0,c3];rfl))
  |false=>
   refine AX ⟨_,rfl,aW,_,rfl,.inr (T.words H),rfl,uS _,?_⟩
   rw[Ck]
   exact no (by rw[e0,c3];rfl)
theorem PH (T:Txt K mg aP aW aH CT CR)(F:vW K "kind_of" "kind_of" Iz f fd):jV P w K mg base (jX P w) 1 f fd ["word"] JU:=by
 refine F.okN Ps (fun vs H Q E h=>?_) (fun cdv A outer s H vs Q E hr h=>?_)
 ·obtain⟨x,rfl,_⟩:=h
  rfl
 obtain⟨x,rfl,q1,q2⟩:=h
 refine⟨_,(zF (jB (yL Do (pv 0) (Fp rfl T.m_WORDS) rfl) (zU (yU (xS vM (xH rfl T.m_SET) (kK PySem.F.plainAttrs_tuple PySem.F.slot_tuple_index PySem.F.type_tuple_index Sj (Fp rfl T.m_WORDS) (zA (pv 0) zH))))) yV)
   (zU (yU TR))),?_⟩
 try dsimp only[Cx.nox,Cx.exc,Cx.wish,jC]
 refine⟨_,rfl,aW,_,rfl,.inr (T.words H),rfl,uS _,_,rfl,?_⟩
 rw[Ck]
 refine kI (fun c=>?_) (fun c=>?_)
 ·have c':=yB c
  exact⟨.inr (.inl ⟨rfl,T.wordsT⟩),_,rfl,aW,_,_,_,rfl,rfl,T.words H,rfl,uS _,KA c',_,_,rfl,rfl,q1 c'⟩
 ·exact q2 (kL (Bool.eq_false_iff.mpr c))
theorem Wk (T:Txt K mg aP aW aH CT CR)(F:vW K "due" "due" Tu f fd)(CNoText:EK P w K mg base 1 "NoText" CT ["self","at"] (vY CT)):jV P w K mg base (jX P w) 3 f fd ["reading"] (Fa CR CT):=by
 refine F.okX Xy (fun vs H Q E h=>?_) (fun cdv A outer s H vs Q E hr h=>?_)
 ·obtain⟨A,W,a,rfl,_⟩:=h
  rfl
 obtain⟨A,W,a,rfl,R,q⟩:=h
 refine⟨_,(zF (jB (yL Uc (jT (pv 0) rfl) (xR xJ rfl T.n_len qJ (zA (jT (pv 0) rfl) zH)) (yY _)) (zU (qQ CNoText hr rfl (zA (jT (pv 0) rfl) zH))) yV)
   (zU (yU (xZ jH (jT (pv 0) rfl) (jT (pv 0) rfl) (fun _ _=>rfl))))),?_⟩
 try dsimp only[Cx.nox,Cx.exc,Cx.wish,jC]
 have hz:(W.map V.str).length =W.length:=zD ..
 refine⟨_,rfl,A.rd,CR,A.dr,_,_,rfl,R.rd,T.cls,T.f_at,rfl,_,rfl,A.rd,CR,A.dr,_,_,rfl,R.rd,T.cls,T.f_words,rfl,A.wd,_,rfl,.inl (.of R.wd),_,_,rfl,rfl,_,rfl,kI (fun c=>?_) (fun c=>?_)⟩
 ·have c':=yB c
  have e:AG W a=.error a:=by unfold AG;rw[jS (by(first|lia|omega))]
  rw[e]at q
  exact⟨_,rfl,A.rd,CR,A.dr,_,_,rfl,R.rd,T.cls,T.f_at,rfl,sm1,uY q⟩
 ·have c':=df c
  have hl:a<W.length:=by(first|lia|omega)
  have e1:W[a]? =some W[a]:=zB hl
  generalize W[a]=x at e1
  have e:AG W a=.ok x:=by unfold AG;rw[e1]
  rw[e]at q
  exact⟨_,rfl,A.rd,CR,A.dr,_,_,rfl,R.rd,T.cls,T.f_words,rfl,_,rfl,A.rd,CR,A.dr,_,_,rfl,R.rd,T.cls,T.f_at,rfl,A.wd,_,_,_,rfl,rfl,.of R.wd,R.at e1,q⟩
theorem Wg (T:Txt K mg aP aW aH CT CR)(F:vW K "take_new_name" "take_new_name" Cw f fd)(CNoText:EK P w K mg base 1 "NoText" CT ["self","at"] (vY CT))(Cdue:vV P w K mg base (jX P w) 3 "due" ["reading"] (Fa CR CT))
  (Cis_name:vV P w K mg base (jX P w) 2 "is_name" ["word"] HH):jV P w K mg base (jX P w) 4 f fd ["reading","there"] (Mx CR CT):=by
 refine F.okX Ev (fun vs H Q E h=>?_) (fun cdv A outer s H vs Q E hr h=>?_)
 ·obtain⟨A,W,a,th,ts,rfl,_⟩:=h
  rfl
 obtain⟨A,W,a,th,ts,rfl,R,hth,q⟩:=h
 refine⟨_,(zF (yT (i:=2) Ev.nd rfl (Or.inl rfl) (yF Cdue hr rfl (zA (pv 0) zH) kG))
   (zF (jB (PW.pt (uZ (Ai (uB (yF Cis_name hr rfl (zA (pv 2) zH) kG))) (uA (yL Do (pv 2) (pv 1) rfl)))) (zU (qQ CNoText hr rfl (zA (jT (pv 0) rfl) zH))) yV)
   (zF (Be (pv 0) zX Gg)
   (zU (yU (pv 2)))))),?_⟩
 try dsimp only[Cx.nox,Cx.exc,Cx.wish,jC]
 refine⟨_,rfl,A,W,a,rfl,R,?_⟩
 cases e1:W[a]? with
 |none=>
  have e:GJ W a ts=.error a:=by unfold GJ;rw[e1]
  rw[e]at q
  rw[show AG W a=.error a by unfold AG;rw[e1]]
  exact q
 |some x=>
  rw[show AG W a=.ok x by unfold AG;rw[e1]]
  have no:jF x=true/\x∉ts\/GJ W a ts=.error a:=by
   unfold GJ
   rw[e1]
   by_cases z:jF x=true/\x∉ts
   ·exact .inl z
   ·exact .inr (zL z)
  have fail:GJ W a ts=.error a->CC CT H E (a:Int):=fun e=>by rw[e]at q;exact q
  refine⟨_,rfl,x,rfl,R.ok.at e1,_,rfl,?_⟩
  cases c1:jF x with
  |false=>
   refine AX ?_
   exact⟨_,rfl,A.rd,CR,A.dr,_,_,rfl,R.rd,T.cls,T.f_at,rfl,sm1,uY (fail (no.resolve_left (fun z=>by rw[c1]at z;exact absurd z.1 (by decide))))⟩
  |true=>
   refine Bi ⟨_,rfl,_,rfl,th,_,rfl,.inl (.of hth),rfl,uS _,_,rfl,?_⟩
   rw[Ck]
   refine kI (fun c=>?_) (fun c=>?_)
   ·have m:=yB c
    exact⟨_,rfl,A.rd,CR,A.dr,_,_,rfl,R.rd,T.cls,T.f_at,rfl,sm1,uY (fail (no.resolve_left (fun z=>z.2 m)))⟩
   ·have m:x∉ts:=kL (Bool.eq_false_iff.mpr c)
    have e:GJ W a ts=.ok x:=by unfold GJ;rw[e1];exact zW ⟨c1,m⟩
    rw[e]at q
    exact⟨_,rfl,A.rd,CR,A.dr,_,_,rfl,R.rd,T.cls,T.f_at,rfl,_,_,rfl,rfl,A.dr,_,R.rd,(show 7<1000 by decide),_,rfl,q⟩

end
section
variable {P:Program}{w:World}{K:PySem.W.Frag}{mg:Str->Option Value}{base:Heap}{f:Addr}{fd:FuncData}{aP aW aH CT CR CL CN:Addr}
set_option maxHeartbeats 4000000

theorem Sc (T:Txt K mg aP aW aH CT CR)(F:vW K "take_boxes" "take_boxes" Fg f fd)(CNoText:EK P w K mg base 1 "NoText" CT ["self","at"] (vY CT))(Cdue:vV P w K mg base (jX P w) 3 "due" ["reading"] (Fa CR CT))
  (Ctake_new_name:vV P w K mg base (jX P w) 4 "take_new_name" ["reading","there"] (Mx CR CT)):jV P w K mg base (jX P w) 5 f fd ["reading","boxes","most","last"] (JV CR CT):=by
 refine F.okX KP (fun vs H Q E h=>?_) (fun cdv A outer s H vs Q E hr h=>?_)
 ·obtain⟨A,W,a,bx,bs,most,last,rfl,_⟩:=h
  rfl
 obtain⟨A,W,a,bx,bs,most,last,rfl,R,hbx,nbw,hbm,hm,q⟩:=h
 refine⟨_,(zF (HP (Gw rfl rfl) (yL HV (yF Cdue hr rfl (zA (pv 0) zH) kG) (pv 3) (yY _)) (zF (jB (yL kT (xR xJ rfl T.n_len qJ (zA (pv 1) zH)) (pv 2) (yY _)) (zU (qQ CNoText hr rfl (zA (jT (pv 0) rfl) zH))) yV)
   (zU (xV (kK zO zZ zY xY (pv 1) (zA (yF Ctake_new_name hr rfl (zA (pv 0) (zA (pv 1) zH)) kG) zH))))))
   (zU (Be (pv 0) zX Gg))),?_⟩
 try dsimp only[Cx.nox,Cx.exc,Cx.wish,jC]
 refine⟨fun m σ' H'=> ∃a' bs',σ'=[some (.ref A.rd),some (.ref bx),some (.int (most:Int)),some (.str last)]/\jG [A.rd,bx] H H'/\(∀b,H' b=none->H b=none)/\KZ CR A W H' a'/\H' bx=some (.lst (bs'.map V.str))/\bs'.length<=most/\
  vO W most last m a' bs'=vO W most last (W.length+1) a bs/\W.length<a'+m,⟨W.length+1,a,bs,rfl,jG.refl _ _,fun _ z=>z,R,hbx,hbm,rfl,by(first|lia|omega)⟩,?_⟩
 rintro m σ' H' ⟨a',bs',rfl,kp,lv,R',hbx',hbm',eb,hlt⟩
 refine⟨_,rfl,A,W,a',rfl,R',?_⟩
 rw[<-eb]at q
 cases e1:W[a']? with
 |none=>
  rw[show AG W a'=.error a' by unfold AG;rw[e1]]
  have e:vO W most last m a' bs'=.error a':=by
   cases m with
   |zero=>rfl
   |succ m=>unfold vO;rw[e1]
  rw[e]at q
  exact(qU.mono q kp).one
 |some x=>
  rw[show AG W a'=.ok x by unfold AG;rw[e1]]
  have hl:=Gi e1
  obtain⟨m,rfl⟩: ∃m',m=m'+1:=⟨m-1,by(first|lia|omega)⟩
  unfold vO at q
  rw[e1]at q
  dsimp only at q
  refine⟨_,rfl,rfl,_,rfl,kI (fun c=>?_) (fun c=>?_)⟩
  ·have c': ¬x=last:=fun z=>by rw[z]at c;exact absurd c (by simp)
   rw[zL c']at q
   refine⟨_,fun σ2 H2 z=>z,?_⟩
   refine⟨_,rfl,bx,_,rfl,.inl (.of hbx'),_,rfl,rfl,_,rfl,?_⟩
   have hz:(bs'.map V.str).length =bs'.length:=zD ..
   refine kI (fun c2=>?_) (fun c2=>?_)
   ·have c2':=vt c2
    rw[zW (by(first|lia|omega))]at q
    exact⟨_,rfl,A.rd,CR,A.dr,_,_,rfl,R'.rd,T.cls,T.f_at,rfl,sm1,uY (qU.mono q kp).one⟩
   ·have c2':=vf c2
    have ne: ¬bs'.length=most:=by(first|lia|omega)
    rw[zL ne]at q
    refine⟨_,rfl,.inl ⟨rfl,_,.of hbx'⟩,_,rfl,_,rfl,A,W,a',bx,bs',rfl,R',hbx',?_⟩
    by_cases c3:jF x=true/\x∉bs'
    ·rw[show GJ W a' bs'=.ok x by unfold GJ;rw[e1];exact zW c3]
     rw[zW c3]at q
     have hb2:upd H' A.rd (DI CR A (a'+1)) bx=some (.lst (bs'.map V.str)):=by rw[zQ (R'.ne hbx')];exact hbx'
     have R2:=R'.put (a'+1)
     have st:vO W most last (m+1) a' bs'=vO W most last m (a'+1) (bs'++[x]):=by
      rw[vO,e1]
      dsimp only
      rw[zL c',zL ne,zW c3]
     refine⟨bx,_,_,rfl,rfl,hb2,Ak (by(first|lia|omega)),m,wR m,a'+1,bs'++[x],rfl,?_,?_,⟨?_,?_,R.ok⟩,?_,?_,st.symm.trans eb,by(first|lia|omega)⟩
     ·exact kp.fst.trans (jG.upd (zT _ (zP ..)))
     ·exact wM (wM lv R'.rd) hb2
     ·rw[zQ (Ne.symm (R'.ne hbx'))];exact R2.rd
     ·rw[zQ (Ne.symm nbw)];exact R2.wd
     ·rw[zG,yA];rfl
     ·rw[zC];show bs'.length+1<=most;(first|lia|omega)
    ·rw[show GJ W a' bs'=.error a' by unfold GJ;rw[e1];exact zL c3]
     rw[zL c3]at q
     exact(qU.mono q kp).one
  ·have c':x=last:=by
    by_cases z:x=last
    ·exact z
    ·exact absurd (by show(!decide (V.str x=V.str last))=true;rw[yJ (fun e=>z (by injection e))];rfl) c
   rw[zW c']at q
   refine⟨_,rfl,A.rd,CR,A.dr,_,_,rfl,R'.rd,T.cls,T.f_at,rfl,_,_,rfl,rfl,A.dr,_,R'.rd,(show 7<1000 by decide),?_⟩
   refine q _ kp.fst (wM lv R'.rd) zG ?_
   rw[zQ (R'.ne hbx')]
   exact hbx'

theorem Wl (T:Txt K mg aP aW aH CT CR)(F:vW K "take_box" "take_box" Hg f fd)(CNoText:EK P w K mg base 1 "NoText" CT ["self","at"] (vY CT))(Cdue:vV P w K mg base (jX P w) 3 "due" ["reading"] (Fa CR CT)):jV P w K mg base (jX P w) 4 f fd ["reading","boxes"] (Pp CR CT):=by
 refine F.okX Jd (fun vs H Q E h=>?_) (fun cdv A outer s H vs Q E hr h=>?_)
 ·obtain⟨A,W,a,bx,bs,rfl,_⟩:=h
  rfl
 obtain⟨A,W,a,bx,bs,rfl,R,hbx,q⟩:=h
 refine⟨_,(zF (yT (i:=2) Jd.nd rfl (Or.inl rfl) (yF Cdue hr rfl (zA (pv 0) zH) kG))
   (zF (jB (yL Fq (pv 2) (pv 1) rfl) (zU (qQ CNoText hr rfl (zA (jT (pv 0) rfl) zH))) yV)
   (zF (Be (pv 0) zX Gg)
   (zU (yU (kK zO PySem.F.slot_list_index PySem.F.type_list_index Sk (pv 1) (zA (pv 2) zH))))))),?_⟩
 try dsimp only[Cx.nox,Cx.exc,Cx.wish,jC]
 refine⟨_,rfl,A,W,a,rfl,R,?_⟩
 unfold KH at q
 cases e1:W[a]? with
 |none=>
  rw[e1]at q
  rw[show AG W a=.error a by unfold AG;rw[e1]]
  exact q
 |some x=>
  rw[e1]at q
  dsimp only at q
  rw[show AG W a=.ok x by unfold AG;rw[e1]]
  refine⟨_,rfl,_,rfl,bx,_,rfl,.inl (.of hbx),rfl,uS _,_,rfl,?_⟩
  rw[Ck]
  by_cases m:x∈bs
  ·rw[yE m]
   rw[zW m]at q
   refine Bi ⟨_,rfl,A.rd,CR,A.dr,_,_,rfl,R.rd,T.cls,T.f_at,rfl,_,_,rfl,rfl,A.dr,_,R.rd,(show 7<1000 by decide),?_⟩
   have hb2:upd H A.rd (DI CR A (a+1)) bx=some (.lst (bs.map V.str)):=by rw[zQ (R.ne hbx)];exact hbx
   exact⟨_,rfl,.inl ⟨rfl,_,.of hb2⟩,_,rfl,bx,_,_,_,rfl,rfl,.of hb2,rfl,uS _,KA m,q⟩
  ·rw[yJ m]
   rw[zL m]at q
   exact AX ⟨_,rfl,A.rd,CR,A.dr,_,_,rfl,R.rd,T.cls,T.f_at,rfl,sm1,uY q⟩
theorem Wf (T:Txt K mg aP aW aH CT CR)(F:vW K "take_number" "take_number" Eh f fd)(CNoText:EK P w K mg base 1 "NoText" CT ["self","at"] (vY CT))(Cdue:vV P w K mg base (jX P w) 3 "due" ["reading"] (Fa CR CT))
  (Cis_number:vV P w K mg base (jX P w) 3 "is_number" ["word"] QF):jV P w K mg base (jX P w) 4 f fd ["reading"] (Mv CR CT):=by
 refine F.okX FP (fun vs H Q E h=>?_) (fun cdv A outer s H vs Q E hr h=>?_)
 ·obtain⟨A,W,a,rfl,_⟩:=h
  rfl
 obtain⟨A,W,a,rfl,R,q⟩:=h
 refine⟨_,(zF (yT (i:=1) FP.nd rfl (Or.inl rfl) (yF Cdue hr rfl (zA (pv 0) zH) kG))
   (zF (jB (Ai (uB (yF Cis_number hr rfl (zA (pv 1) zH) kG))) (zU (qQ CNoText hr rfl (zA (jT (pv 0) rfl) zH))) yV)
   (zF (Be (pv 0) zX Gg)
   (zU (yU (kR Nj rfl T.n_int IS (zA (pv 1) zH))))))),?_⟩
 try dsimp only[Cx.nox,Cx.exc,Cx.wish,jC]
 refine⟨_,rfl,A,W,a,rfl,R,?_⟩
 unfold ID at q
 cases e1:W[a]? with
 |none=>
  rw[e1]at q
  rw[show AG W a=.error a by unfold AG;rw[e1]]
  exact q
 |some x=>
  rw[e1]at q
  dsimp only at q
  rw[show AG W a=.ok x by unfold AG;rw[e1]]
  refine⟨_,rfl,x,rfl,R.ok.at e1,_,rfl,?_⟩
  cases m:Ab x 60 with
  |true=>
   rw[m,zW rfl]at q
   obtain⟨i1,i2⟩:=Sg m
   refine Bi ⟨_,rfl,A.rd,CR,A.dr,_,_,rfl,R.rd,T.cls,T.f_at,rfl,_,_,rfl,rfl,A.dr,_,R.rd,(show 7<1000 by decide),?_⟩
   exact⟨_,rfl,x,_,rfl,i1,i2,q⟩
  |false=>
   rw[m,zL (by decide)]at q
   exact AX ⟨_,rfl,A.rd,CR,A.dr,_,_,rfl,R.rd,T.cls,T.f_at,rfl,sm1,uY q⟩
theorem Uk (T:Txt K mg aP aW aH CT CR)(F:vW K "take_many" "take_many" FS f fd)(CNoText:EK P w K mg base 1 "NoText" CT ["self","at"] (vY CT))(Ctake_number:vV P w K mg base (jX P w) 4 "take_number" ["reading"] (Mv CR CT)):jV P w K mg base (jX P w) 5 f fd ["reading","least"] (My CR CT):=by
 refine F.okX Fb (fun vs H Q E h=>?_) (fun cdv A outer s H vs Q E hr h=>?_)
 ·obtain⟨A,W,a,least,rfl,_⟩:=h
  rfl
 obtain⟨A,W,a,least,rfl,R,q⟩:=h
 refine⟨_,(zF (yT (i:=2) Fb.nd rfl (Or.inl rfl) (jT (pv 0) rfl))
   (zF (yT (i:=3) Fb.nd rfl (Or.inl rfl) (yF Ctake_number hr rfl (zA (pv 0) zH) kG))
   (zF (jB (PW.pt (uZ (yL GS (pv 3) (pv 1) (yY _)) (uA (yL GU (pv 3) (xH rfl T.m_MOST_MANY) (yY _))))) (zU (qQ CNoText hr rfl (zA (pv 2) zH))) yV)
   (zU (yU (pv 3)))))),?_⟩
 try dsimp only[Cx.nox,Cx.exc,Cx.wish,jC]
 refine⟨_,rfl,A.rd,CR,A.dr,_,_,rfl,R.rd,T.cls,T.f_at,rfl,?_⟩
 refine⟨_,rfl,A,W,a,rfl,R,?_⟩
 unfold FF at q
 cases e1:ID W a with
 |error e=>
  rw[e1]at q
  exact qU.one q
 |ok n=>
  rw[e1]at q
  dsimp only at q
  have R2:=R.put (a+1)
  have kp:jG [A.rd] H (upd H A.rd (DI CR A (a+1))):=jG.upd (zP ..)
  refine⟨_,rfl,_,rfl,_,_,rfl,rfl,_,rfl,kI (fun c=>?_) (fun c=>?_)⟩
  ·have c':=yB c
   rw[zW (.inl c')]at q
   exact AX ⟨_,rfl,sm1,uY (qU.mono q kp).one⟩
  ·have c':=df c
   refine⟨_,rfl,_,_,rfl,rfl,_,rfl,kI (fun c2=>?_) (fun c2=>?_)⟩
   ·have c2':=yB c2
    rw[zW (.inr c2')]at q
    exact⟨_,rfl,sm1,uY (qU.mono q kp).one⟩
   ·have c2':=df c2
    rw[zL (by(first|lia|omega))]at q
    exact⟨_,rfl,q⟩
theorem PM (T:Txt K mg aP aW aH CT CR)(F:vW K "take_called" "take_called" Ei f fd)(CNoText:EK P w K mg base 1 "NoText" CT ["self","at"] (vY CT))(Cdue:vV P w K mg base (jX P w) 3 "due" ["reading"] (Fa CR CT))
  (Cis_name:vV P w K mg base (jX P w) 2 "is_name" ["word"] HH):jV P w K mg base (jX P w) 4 f fd ["reading"] (Iw CR CT):=by
 refine F.okX FQ (fun vs H Q E h=>?_) (fun cdv A outer s H vs Q E hr h=>?_)
 ·obtain⟨A,W,a,num,rfl,_⟩:=h
  rfl
 obtain⟨A,W,a,num,rfl,R,hnu,q⟩:=h
 refine⟨_,(zF (yT (i:=1) FQ.nd rfl (Or.inl rfl) (yF Cdue hr rfl (zA (pv 0) zH) kG))
   (zF (jB (PW.pt (uZ (Ai (uB (yF Cis_name hr rfl (zA (pv 1) zH) kG))) (uA (XC (RO (Rb hr) (pv 1) (jT (pv 0) rfl)))))) (zU (qQ CNoText hr rfl (zA (jT (pv 0) rfl) zH))) yV)
   (zF (Be (pv 0) zX Gg)
   (zU (yU (QQ (Rb hr) (jT (pv 0) rfl) (pv 1) (fun _ _=>rfl))))))),?_⟩
 try dsimp only[Cx.nox,Cx.exc,Cx.wish,jC]
 refine⟨_,rfl,A,W,a,rfl,R,?_⟩
 unfold Bw at q
 cases e1:W[a]? with
 |none=>
  rw[e1]at q
  rw[show AG W a=.error a by unfold AG;rw[e1]]
  exact q
 |some x=>
  rw[e1]at q
  dsimp only at q
  rw[show AG W a=.ok x by unfold AG;rw[e1]]
  refine⟨_,rfl,x,rfl,R.ok.at e1,_,rfl,?_⟩
  cases m:jF x with
  |false=>
   rw[m,zL (by decide)]at q
   exact AX ⟨_,rfl,A.rd,CR,A.dr,_,_,rfl,R.rd,T.cls,T.f_at,rfl,sm1,uY q⟩
  |true=>
   rw[m,zW rfl]at q
   have dg:IY H A.nu (.str x) ((wE num x).map V.int):=by
    have:=IY.k (k:=Sum.inr x) hnu
    rw[FM]at this
    exact this
   refine Bi ⟨_,rfl,_,rfl,A.rd,CR,A.dr,_,_,rfl,R.rd,T.cls,T.f_numbered,rfl,A.nu,_,rfl,dg,_,rfl,?_⟩
   cases e2:wE num x with
   |none=>
    rw[e2]at q
    exact AX ⟨_,rfl,A.rd,CR,A.dr,_,_,rfl,R.rd,T.cls,T.f_at,rfl,sm1,uY q⟩
   |some n=>
    rw[e2]at q
    have nn:A.nu≠A.rd:=fun z=>by rw[z,R.rd]at hnu;cases hnu
    have dg2:IY (upd H A.rd (DI CR A (a+1))) A.nu (.str x) (some (.int n)):=by
     have:=IY.k (k:=Sum.inr x) (show upd H A.rd (DI CR A (a+1)) A.nu=some (.dK (HY num))by rw[zQ nn];exact hnu)
     rw[FM,e2]at this
     exact this
    refine Bi ⟨_,rfl,A.rd,CR,A.dr,_,_,rfl,R.rd,T.cls,T.f_at,rfl,_,_,rfl,rfl,A.dr,_,R.rd,(show 7<1000 by decide),?_⟩
    exact⟨_,rfl,A.rd,CR,A.dr,_,_,rfl,zG,T.cls,T.f_numbered,rfl,_,rfl,A.nu,_,rfl,dg2,q⟩
theorem Ul (T:Txt K mg aP aW aH CT CR)(F:vW K "take_kind" "take_kind" FT f fd)(CNoText:EK P w K mg base 1 "NoText" CT ["self","at"] (vY CT))(Cdue:vV P w K mg base (jX P w) 3 "due" ["reading"] (Fa CR CT))
  (Cis_number:vV P w K mg base (jX P w) 3 "is_number" ["word"] QF) (Ckind_of:vV P w K mg base (jX P w) 1 "kind_of" ["word"] JU):jV P w K mg base (jX P w) 4 f fd ["reading","boxes"] (JB CR CT):=by
 refine F.okX Fc (fun vs H Q E h=>?_) (fun cdv A outer s H vs Q E hr h=>?_)
 ·obtain⟨A,W,a,bx,bs,rfl,_⟩:=h
  rfl
 obtain⟨A,W,a,bx,bs,rfl,R,hbx,q⟩:=h
 refine⟨_,(zF (yT (i:=2) Fc.nd rfl (Or.inl rfl) (yF Cdue hr rfl (zA (pv 0) zH) kG))
   (zF (jB (uB (yF Cis_number hr rfl (zA (pv 2) zH) kG)) (zU (yU (xH rfl T.m_NUMBER))) yV)
   (zF (jB (yL Do (pv 2) (pv 1) rfl) (zU (yU (xH rfl T.m_GET))) yV)
   (zF (yT (i:=3) Fc.nd rfl (Or.inl rfl) (yF Ckind_of hr rfl (zA (pv 2) zH) kG))
   (zF (jB (yL XO (pv 3) TR (yY _)) (zU (qQ CNoText hr rfl (zA (jT (pv 0) rfl) zH))) yV)
   (zF (Be (pv 0) zX Gg)
   (zU (yU (pv 3))))))))),?_⟩
 try dsimp only[Cx.nox,Cx.exc,Cx.wish,jC]
 refine⟨_,rfl,A,W,a,rfl,R,?_⟩
 unfold DU at q
 cases e1:W[a]? with
 |none=>
  rw[e1]at q
  rw[show AG W a=.error a by unfold AG;rw[e1]]
  exact q
 |some x=>
  rw[e1]at q
  dsimp only at q
  rw[show AG W a=.ok x by unfold AG;rw[e1]]
  refine⟨_,rfl,x,rfl,R.ok.at e1,_,rfl,?_⟩
  cases m:Ab x 60 with
  |true=>
   rw[m,zW rfl]at q
   have q':Q (.int 0) (upd H A.rd (DI CR A a)):=q
   rw[ND R.rd]at q'
   exact AX q'
  |false=>
   rw[m,zL (by decide)]at q
   refine Bi ⟨_,rfl,_,rfl,bx,_,rfl,.inl (.of hbx),rfl,uS _,_,rfl,?_⟩
   rw[Ck]
   by_cases mb:x∈bs
   ·rw[yE mb]
    rw[zW mb]at q
    have q':Q (.int 1) (upd H A.rd (DI CR A a)):=q
    rw[ND R.rd]at q'
    exact AX q'
   ·rw[yJ mb]
    rw[zL mb]at q
    refine Bi ⟨_,rfl,x,rfl,fun mk=>?_,fun mk=>?_⟩
    ·rw[zW mk]at q
     refine⟨_,rfl,rfl,_,rfl,Bi ?_⟩
     exact⟨_,rfl,A.rd,CR,A.dr,_,_,rfl,R.rd,T.cls,T.f_at,rfl,_,_,rfl,rfl,A.dr,_,R.rd,(show 7<1000 by decide),_,rfl,q⟩
    ·rw[zL mk]at q
     refine⟨_,rfl,rfl,_,rfl,AX ?_⟩
     exact⟨_,rfl,A.rd,CR,A.dr,_,_,rfl,R.rd,T.cls,T.f_at,rfl,sm1,uY q⟩

end
section
variable {P:Program}{w:World}{K:PySem.W.Frag}{mg:Str->Option Value}{base:Heap}{f:Addr}{fd:FuncData}{aP aW aH CT CR CL CN:Addr}
set_option maxHeartbeats 4000000

theorem We (T:Txt K mg aP aW aH CT CR)(F:vW K "take_own" "take_own" BR f fd)(Ctake_box:vV P w K mg base (jX P w) 4 "take_box" ["reading","boxes"] (Pp CR CT))(Ctake_number:vV P w K mg base (jX P w) 4 "take_number" ["reading"] (Mv CR CT))
  (Ctake_many:vV P w K mg base (jX P w) 5 "take_many" ["reading","least"] (My CR CT)) (Ctake_called:vV P w K mg base (jX P w) 4 "take_called" ["reading"] (Iw CR CT)):jV P w K mg base (jX P w) 6 f fd ["reading","kind","boxes"] (Mu CR CT):=by
 refine F.okX HJ (fun vs H Q E h=>?_) (fun cdv A outer s H vs Q E hr h=>?_)
 ·obtain⟨A,W,a,k,bx,bs,num,rfl,_⟩:=h
  rfl
 obtain⟨A,W,a,k,bx,bs,num,rfl,R,hbx,hnu,q⟩:=h
 refine⟨_,(zF (jB (yL kT (pv 1) (xH rfl T.m_NUMBER) (yY _)) (zU (yU (qD (zA (yF Ctake_number hr rfl (zA (pv 0) zH) kG) zH)))) yV)
   (zF (jB (PW.pt (uZ (yL kT (pv 1) (xH rfl T.m_GET) (yY _)) (uA (yL kT (pv 1) (xH rfl T.m_SET) (yY _))))) (zU (yU (qD (zA (yF Ctake_box hr rfl (zA (pv 0) (zA (pv 2) zH)) kG) zH)))) yV)
   (zF (jB (yL kT (pv 1) (xH rfl T.m_ALL) (yY _)) (zU (yU (qD (zA (yF Ctake_many hr rfl (zA (pv 0) (zA (xH rfl T.m_LEAST_ALL) zH)) kG) zH)))) yV)
   (zF (jB (yL kT (pv 1) (xH rfl T.m_PICK) (yY _)) (zU (yU (qD (zA (yF Ctake_many hr rfl (zA (pv 0) (zA (xH rfl T.m_LEAST_PICK) zH)) kG) zH)))) yV)
   (zF (jB (yL kT (pv 1) (xH rfl T.m_CALL) (yY _)) (zU (yU (qD (zA (yF Ctake_called hr rfl (zA (pv 0) zH) kG) zH)))) yV)
   (zU (yU (qD zH)))))))),?_⟩
 try dsimp only[Cx.nox,Cx.exc,Cx.wish,jC]
 have kp:jG [A.rd] H (upd H A.rd (DI CR A (a+1))):=jG.upd (zP ..)
 have lv: ∀b,upd H A.rd (DI CR A (a+1)) b=none->H b=none:=wM (fun _ z=>z) R.rd
 have one: ∀(n:Int),IX (fun r:List Int×Nat=> ∀t H',jG [A.rd] H H'->(∀b,H' b=none->H b=none)->H' A.rd=some (DI CR A r.2)->H' t=some (.tup (r.1.map V.int))->Q (.ref t) H') (qU CT [A.rd] H E) (.ok ([n],a+1))->
   ∀p,upd H A.rd (DI CR A (a+1)) p=none->Q (.ref p) (upd (upd H A.rd (DI CR A (a+1))) p (.tup [.int n])):=fun n q p hp=>by
  refine q p _ (kp.trans (jG.same (zV hp _))) (fun b z=>lv b ((zV hp _).free z)) ?_ zG
  rw[zQ (fun z=>by rw[<-z,zG]at hp;cases hp)]
  exact zG
 unfold Ex at q
 refine⟨_,rfl,rfl,_,rfl,kI (fun c=>?_) (fun c0=>?_)⟩
 ·rw[zW (vt c)]at q
  refine⟨_,rfl,A,W,a,rfl,R,?_⟩
  cases e:ID W a with
  |error n=>rw[e]at q;exact qU.one q
  |ok n=>rw[e]at q;exact⟨sm1,one n q⟩
 rw[zL (vf c0)]at q
 refine⟨_,rfl,rfl,_,rfl,kI (fun c=>AX ?_) (fun c1=>?_)⟩
 ·rw[zW (.inl (vt c))]at q
  refine⟨_,rfl,_,rfl,A,W,a,bx,bs,rfl,R,hbx,?_⟩
  cases e:KH W a bs with
  |error n=>rw[e]at q;exact qU.one q
  |ok n=>rw[e]at q;exact⟨sm1,one n q⟩
 refine⟨_,rfl,rfl,_,rfl,kI (fun c=>?_) (fun c2=>?_)⟩
 ·rw[zW (.inr (vt c))]at q
  refine⟨_,rfl,_,rfl,A,W,a,bx,bs,rfl,R,hbx,?_⟩
  cases e:KH W a bs with
  |error n=>rw[e]at q;exact qU.one q
  |ok n=>rw[e]at q;exact⟨sm1,one n q⟩
 rw[zL (fun z=>z.elim (vf c1) (vf c2))]at q
 refine⟨_,rfl,rfl,_,rfl,kI (fun c=>?_) (fun c3=>?_)⟩
 ·rw[zW (vt c)]at q
  refine⟨_,rfl,A,W,a,1,rfl,R,?_⟩
  cases e:FF W a 1 with
  |error n=>rw[e]at q;exact q
  |ok n=>rw[e]at q;exact⟨sm1,one n q⟩
 rw[zL (vf c3)]at q
 refine⟨_,rfl,rfl,_,rfl,kI (fun c=>?_) (fun c4=>?_)⟩
 ·rw[zW (vt c)]at q
  refine⟨_,rfl,A,W,a,2,rfl,R,?_⟩
  cases e:FF W a 2 with
  |error n=>rw[e]at q;exact q
  |ok n=>rw[e]at q;exact⟨sm1,one n q⟩
 rw[zL (vf c4)]at q
 refine⟨_,rfl,rfl,_,rfl,kI (fun c=>?_) (fun c6=>?_)⟩
 ·rw[zW (vt c)]at q
  refine⟨_,rfl,A,W,a,num,rfl,R,hnu,?_⟩
  cases e:Bw W num a with
  |error n=>rw[e]at q;exact qU.one q
  |ok n=>rw[e]at q;exact⟨sm1,one n q⟩
 rw[zL (vf c6)]at q
 exact⟨sm0,fun p hp=>q p _ (jG.same (zV hp _)) (fun b z=>(zV hp _).free z) (by rw[zQ (zK R.rd hp)];exact R.rd) zG⟩
theorem Sa (T:Txt K mg aP aW aH CT CR)(F:vW K "parts_of" "parts_of" Fh f fd):jV P w K mg base (jX P w) 1 f fd ["kind"] JT:=by
 refine F.okN Je (fun vs H Q E h=>?_) (fun cdv A outer s H vs Q E hr h=>?_)
 ·obtain⟨k,rfl,_⟩:=h
  rfl
 obtain⟨k,rfl,k0,k1,q⟩:=h
 refine⟨_,(zU (yU (xZ qL (Fp rfl T.m_PARTS) (xS vL (pv 0) (xH rfl T.m_FAIL)) (fun _ _=>rfl)))),?_⟩
 try dsimp only[Cx.nox,Cx.exc,Cx.wish,jC]
 refine⟨_,rfl,_,_,rfl,rfl,aP,_,_,_,rfl,rfl,T.parts _,?_,q⟩
 refine An (by(first|lia|omega)) ?_
 have hl:(k-7).toNat <partsW.length:=by show(k-7).toNat <13;(first|lia|omega)
 rw[zN,zB hl]
 rfl
theorem Wj (T:Txt K mg aP aW aH CT CR)(F:vW K "parts_due" "parts_due" DQ f fd)(Cparts_of:vV P w K mg base (jX P w) 1 "parts_of" ["kind"] JT):
  jV P w K mg base (jX P w) 2 f fd ["kind","numbers","heads"] MD:=by
 refine F.okN HL (fun vs H Q E h=>?_) (fun cdv A outer s H vs Q E hr h=>?_)
 ·obtain⟨k,t,c,ns,cnt,rfl,_⟩:=h
  rfl
 obtain⟨k,t,c,ns,cnt,rfl,ht,⟨rs,eh,pr⟩,h0,h1,hk,hk6,q⟩:=h
 refine⟨_,(zF (jB (PW.pt (uZ (yL kT (pv 0) (xH rfl T.m_NUMBER) (yY _)) (uA (yL kT (pv 0) (xH rfl T.m_GET) (yY _))))) (zU (yU zX)) yV)
   (zF (jB (yL kT (pv 0) (xH rfl T.m_SET) (yY _)) (zU (yU zX)) yV)
   (zF (jB (yL kT (pv 0) (xH rfl T.m_ALL) (yY _)) (zU (yU (xZ qL (pv 1) zX (fun _ _=>rfl)))) yV)
   (zF (jB (yL kT (pv 0) (xH rfl T.m_PICK) (yY _)) (zU (yU (xS vM zX (xZ qL (pv 1) zX (fun _ _=>rfl))))) yV)
   (zF (jB (yL kT (pv 0) (xH rfl T.m_LOOP) (yY _)) (zU (yU zX)) yV)
   (zF (jB (yL kT (pv 0) (xH rfl T.m_CALL) (yY _)) (zU (yU (xZ qL (xZ jH (pv 2) (xZ qL (pv 1) zX (fun _ _=>rfl)) (fun _ _=>rfl)) zX (fun _ _=>rfl)))) yV)
   (zU (yU (yF Cparts_of hr rfl (zA (pv 0) zH) jZ))))))))),?_⟩
 try dsimp only[Cx.nox,Cx.exc,Cx.wish,jC]
 have hd1:ns.length=1-> ∃n,ns=[n]:=fun l=>by
  cases ns with
  |nil=>cases l
  |cons n r=>cases r with
   |nil=>exact⟨n,rfl⟩
   |cons m r=>cases l
 unfold Ib at q
 refine⟨_,rfl,rfl,_,rfl,kI (fun c=>AX ?_) (fun c0=>?_)⟩
 ·rw[zW (.inl (vt c))]at q;exact q
 refine⟨_,rfl,rfl,_,rfl,kI (fun c=>?_) (fun c1=>?_)⟩
 ·rw[zW (.inr (vt c))]at q;exact q
 have n01: ¬(k=0\/k=1):=fun z=>z.elim (vf c0) (vf c1)
 rw[zL n01]at q
 refine⟨_,rfl,rfl,_,rfl,kI (fun c=>?_) (fun c2=>?_)⟩
 ·rw[zW (vt c)]at q;exact q
 rw[zL (vf c2)]at q
 refine⟨_,rfl,rfl,_,rfl,kI (fun c=>?_) (fun c3=>?_)⟩
 ·rw[zW (vt c)]at q
  obtain⟨n,rfl⟩:=hd1 (hk (.inl (vt c)))
  exact⟨_,rfl,t,_,_,_,rfl,rfl,.of ht,rfl,q⟩
 rw[zL (vf c3)]at q
 refine⟨_,rfl,rfl,_,rfl,kI (fun c=>?_) (fun c4=>?_)⟩
 ·rw[zW (vt c)]at q
  obtain⟨n,rfl⟩:=hd1 (hk (.inr (.inl (vt c))))
  exact⟨_,rfl,t,_,_,_,rfl,rfl,.of ht,rfl,_,_,rfl,rfl,q⟩
 rw[zL (vf c4)]at q
 refine⟨_,rfl,rfl,_,rfl,kI (fun c=>?_) (fun c5=>?_)⟩
 ·rw[zW (vt c)]at q;exact q
 rw[zL (vf c5)]at q
 refine⟨_,rfl,rfl,_,rfl,kI (fun cc=>?_) (fun c6=>?_)⟩
 ·rw[zW (vt cc)]at q
  obtain⟨n,rfl⟩:=hd1 (hk (.inr (.inr (vt cc))))
  obtain⟨n0,n1⟩:=hk6 (vt cc)
  have n1':n.toNat<cnt.length:=n1
  have n0':0<=n:=n0
  have ln:rs.length=cnt.length:=Paired.len pr
  have e1:cnt[n.toNat]? =some cnt[n.toNat]:=zB n1'
  have e2:rs[n.toNat]? =some rs[n.toNat]:=zB (by(first|lia|omega))
  obtain⟨tt,er,et⟩:=Paired.get pr _ _ _ e2 e1
  have av:Fz rs n=some (.ref tt):=An n0' (by rw[e2,er])
  refine⟨_,rfl,_,rfl,t,_,_,_,rfl,rfl,.of ht,rfl,c,rs,n,_,rfl,rfl,.of eh,av,tt,_,_,_,rfl,rfl,.of et,rfl,?_⟩
  have:(cnt[([n].headD 0).toNat]?).getD 0=cnt[n.toNat]:=by
   show(cnt[n.toNat]?).getD 0=_
   rw[e1];rfl
  rw[this]at q
  exact q
 ·rw[zL (vf c6)]at q
  have n0:=vf c0;have n1:=vf c1;have n2:=vf c2;have n3:=vf c3;have n4:=vf c4;have n5:=vf c5;have n6:=vf c6
  exact⟨_,rfl,k,rfl,by(first|lia|omega),h1,q⟩
theorem Oe (d:Nat)(hd10:d<=10)(T:Txt K mg aP aW aH CT CR)(F:vW K "read_node" "read_node" DP f fd)(CNoText:EK P w K mg base 1 "NoText" CT ["self","at"] (vY CT))(Ctake_kind:vV P w K mg base (jX P w) 4 "take_kind" ["reading","boxes"] (JB CR CT))
  (Ctake_own_texts:vV P w K mg base (jX P w) 6 "take_own_texts" ["reading","kind","boxes"] (Mu CR CT)) (Cparts_due:vV P w K mg base (jX P w) 2 "parts_due" ["kind","numbers","heads"] MD)
  (Cread_node:vV P w K mg base (jX P w) (6+d) "read_node" ["reading","boxes","deep"] (VL CR CT d)):jV P w K mg base (jX P w) (6+d+1) f fd ["reading","boxes","deep"] (Gs CR CT d):=by
 refine F.okX CY (fun vs H Q E h=>?_) (fun cdv A outer s H vs Q E hr h=>?_)
 ·obtain⟨A,bx,W,bs,num,cnt,a,bd,rfl,_⟩:=h
  rfl
 obtain⟨A,bx,W,bs,num,cnt,a,bd,rfl,_,N,nok,q⟩:=h
 refine⟨_,(zF (jB (yL GU (pv 2) (xH rfl T.m_MOST_DEEP) (yY _)) (zU (qQ CNoText hr rfl (zA (jT (pv 0) rfl) zH))) yV)
   (zF (yT (i:=3) CY.nd rfl (Or.inl rfl) (yF Ctake_kind hr rfl (zA (pv 0) (zA (pv 1) zH)) kG))
   (zF (yT (i:=4) CY.nd rfl (Or.inl rfl) (yF Ctake_own_texts hr rfl (zA (pv 0) (zA (pv 3) (zA (pv 1) zH))) kG))
   (zF (xV (kK zO zZ zY xY (jT (pv 0) rfl) (zA (pv 3) zH)))
   (zF (xV (kK zO qA kZ PX (jT (pv 0) rfl) (zA (pv 4) zH)))
   (zU (vE (Gw rfl rfl) rfl (uQ rfl T.n_range (zA (yF Cparts_due hr rfl (zA (pv 3) (zA (pv 4) (zA (jT (pv 0) rfl) zH))) kG) zH)) (xG (i:=5) CY.nd rfl (Or.inl rfl)) (zU (xV (yF Cread_node hr rfl (zA (pv 0) (zA (pv 1) (zA (xS vM (pv 2) zX) zH))) kG)))))))))),?_⟩
 try dsimp only[Cx.nox,Cx.exc,Cx.wish,jC]
 refine⟨_,rfl,_,_,rfl,rfl,_,rfl,kI (fun c=>?_) (fun c=>?_)⟩
 ·have c':=yB c
  obtain rfl:d=0:=by(first|lia|omega)
  exact⟨_,rfl,A.rd,CR,A.dr,_,_,rfl,N.w.rd,T.cls,T.f_at,rfl,sm1,uY (qU.one q)⟩
 have c':=df c
 obtain⟨d,rfl⟩: ∃d',d=d'+1:=⟨d-1,by(first|lia|omega)⟩
 refine⟨_,rfl,_,rfl,A,W,a,bx,bs,rfl,N.w,N.box,?_⟩
 unfold Bs at q
 cases e1:DU W a bs with
 |error n=>rw[e1]at q;exact qU.one q
 |ok k=>
 rw[e1]at q
 dsimp only at q
 obtain⟨al,kq⟩:=Kr e1
 have R1:=N.w.put k.2
 have k1:jG [A.rd,A.bd] H (upd H A.rd (DI CR A k.2)):=jG.upd (zP ..)
 have lv1: ∀b,upd H A.rd (DI CR A k.2) b=none->H b=none:=wM (fun _ z=>z) N.w.rd
 have nun:A.nu≠A.rd:=fun z=>by have:=N.nu;rw[z,N.w.rd]at this;cases this
 refine⟨_,rfl,_,rfl,_,rfl,A,W,k.2,k.1,bx,bs,num,rfl,R1,by rw[zQ (N.w.ne N.box)];exact N.box,by rw[zQ nun];exact N.nu,?_⟩
 cases e2:Ex W num k.2 k.1 bs with
 |error n=>rw[e2]at q;exact(qU.mono q k1).sub (fun x hx=>by rw[List.mem_singleton.mp hx];exact zP ..)
 |ok r=>
 rw[e2]at q
 dsimp only at q
 intro t H2 kp2 lv2 rd2 et2
 obtain⟨o1,o2,o3,o4,o5,o6,o7⟩:=QR e2 (by(first|lia|omega))
 have k2:jG [A.rd,A.bd] H H2:=k1.trans (fun b o nb e=>kp2 b o (fun z=>nb (by rw[List.mem_singleton.mp z];exact zP ..)) e)
 have lst2: ∀{x:Addr} {xs:List V},H x=some (.lst xs)->H2 x=some (.lst xs):=fun{x xs} e=>kp2 x _ (fun z=>N.w.ne e (List.mem_singleton.mp z)) (by rw[zQ (N.w.ne e)];exact e)
 have bd2:=lst2 N.bd
 have ht2:wV H H2:=fun b xs e=>by
  have nb:b≠A.rd:=fun z=>by rw[z,N.w.rd]at e;cases e
  exact kp2 b _ (fun z=>nb (List.mem_singleton.mp z)) (by rw[zQ nb];exact e)
 have nu2:H2 A.nu=some (.dK (HY num)):=kp2 _ _ (fun z=>nun (List.mem_singleton.mp z)) (by rw[zQ nun];exact N.nu)
 have nrb:A.rd≠A.bd:=Ne.symm (N.w.ne N.bd)
 have few:=N.few
 have le:=N.le
 have hWk:=N.w.ok.few
 have hbl:(bd.map V.int).length =bd.length:=zD ..
 refine⟨_,rfl,A.rd,CR,A.dr,_,_,rfl,rd2,T.cls,T.f_bodies,rfl,.inl ⟨rfl,_,.of bd2⟩,_,rfl,A.bd,_,_,rfl,rfl,bd2,Ak (by(first|lia|omega)),?_⟩
 have rd3:upd H2 A.bd (.lst (bd.map V.int++[.int k.1])) A.rd=some (DI CR A r.2):=by rw[zQ nrb];exact rd2
 have tb:t≠A.bd:=fun z=>by rw[z,bd2]at et2;cases et2
 have et3:upd H2 A.bd (.lst (bd.map V.int++[.int k.1])) t=some (.tup (r.1.map V.int)):=by rw[zQ tb];exact et2
 refine⟨_,rfl,A.rd,CR,A.dr,_,_,rfl,rd3,T.cls,T.f_bodies,rfl,.inl ⟨rfl,_,.of zG⟩,_,rfl,A.bd,t,_,_,rfl,rfl,zG,et3,Ac (by rw[zC,zD,zD];show bd.length+1+r.1.length<=_;(first|lia|omega)),?_⟩
 rw[EZ]
 have eb:bd.map V.int++[V.int k.1]++r.1.map V.int=(bd++k.1::r.1).map V.int:=by simp
 rw[eb]
 have et4:upd H2 A.bd (.lst ((bd++k.1::r.1).map V.int)) t=some (.tup (r.1.map V.int)):=by rw[zQ tb];exact et2
 have k4:jG [A.rd,A.bd] H (upd H2 A.bd (.lst ((bd++k.1::r.1).map V.int))):=k2.trans (jG.upd (zT _ (zP ..)))
 have lv4: ∀b,upd H2 A.bd (.lst ((bd++k.1::r.1).map V.int)) b=none->H b=none:=wM (fun b z=>lv1 b (lv2 b z)) bd2
 have ht4:wV H (upd H2 A.bd (.lst ((bd++k.1::r.1).map V.int))):=fun b xs e=>by
  have:=ht2 b xs e
  rw[zQ (fun z=>by rw[z,bd2]at this;cases this)]
  exact this
 have N4:Vv CR A (upd H2 A.bd (.lst ((bd++k.1::r.1).map V.int))) bx W bs num cnt r.2 (bd++k.1::r.1):=by
  refine⟨⟨by rw[zQ nrb];exact rd2,by rw[zQ (Ne.symm N.n1)];exact lst2 N.w.wd,N.w.ok⟩,by rw[zQ (Ne.symm N.n2)];exact lst2 N.box,?_,N.cn.tups (fun xs e=>by rw[zQ (Ne.symm N.n3)];exact lst2 e) ht4,zG,N.n1,N.n2,N.n3,o1,?_⟩
  ·rw[zQ (fun z=>by rw[z,bd2]at nu2;cases nu2)];exact nu2
  ·rw[zC,zJ]
   rcases kq with⟨ka,kb⟩|⟨ka,kb,kc⟩
   ·have:=o3 ka;(first|lia|omega)
   ·(first|lia|omega)
 generalize upd H2 A.bd (.lst ((bd++k.1::r.1).map V.int))=H4 at *
 generalize bd++k.1::r.1=bd4 at *
 have d6:k.1=6->0<=r.1.headD 0/\(r.1.headD 0).toNat <cnt.length:=fun z=>by
  rw[z]at e2
  obtain⟨x,ex⟩:=Wb e2
  exact nok.there _ _ ex
 refine⟨_,rfl,_,rfl,_,rfl,A.rd,CR,A.dr,_,_,rfl,N4.w.rd,T.cls,T.f_counted,rfl,k.1,t,A.cn,r.1,cnt,rfl,et4,N4.cn,?_,?_,o6,d6,?_⟩
 ·rcases kq with⟨ka,kb⟩|⟨ka,kb,kc⟩<;>(first|lia|omega)
 ·rcases kq with⟨ka,kb⟩|⟨ka,kb,kc⟩<;>(first|lia|omega)
 obtain⟨n1,n2⟩:=Vf nok.near o7
 generalize Ib cnt k.1 r.1=nd at *
 generalize er:uW (Bs W num cnt bs d) nd.toNat r.2 bd4=res at q
 refine⟨_,rfl,by(first|lia|omega),by(first|lia|omega),uR (fun i σ' H'=> ∃a' bd' v5,σ'=[some (.ref A.rd),some (.ref bx),some (.int (11-((d+1:Nat):Int))),some (.int k.1),some (.ref t),v5]/\jG [A.rd,A.bd] H H'/\(∀b,H' b=none->H b=none)/\Vv CR A H' bx W bs num cnt a' bd'/\
  uW (Bs W num cnt bs d) (nd.toNat-i) a' bd'=res) ⟨_,_,_,rfl,k4,lv4,N4,er⟩ ?_ ?_⟩
 ·rintro i σ' H' hi ⟨a',bd',v5,rfl,kp',lv',N',ep⟩
  refine⟨_,rfl,_,rfl,_,rfl,_,_,rfl,rfl,A,bx,W,bs,num,cnt,a',bd',?_,by(first|lia|omega),N',nok,?_⟩
  ·show[V.ref A.rd,.ref bx,.int (11-((d+1:Nat):Int)+1)]=[V.ref A.rd,.ref bx,.int (11-(d:Int))]
   rw[show(11-((d+1:Nat):Int)+1)=11-(d:Int)by(first|lia|omega)]
  have hs:nd.toNat-i=(nd.toNat-(i+1))+1:=by(first|lia|omega)
  rw[hs]at ep
  unfold uW at ep
  cases e3:Bs W num cnt bs d a' bd' with
  |error n=>
   rw[e3]at ep
   rw[<-ep]at q
   exact qU.mono q kp'
  |ok z=>
   rw[e3]at ep
   dsimp only at ep
   exact fun H5 k5 lv5 N5=>⟨_,_,_,rfl,kp'.trans k5,fun b e=>lv' b (lv5 b e),N5,ep⟩
 ·rintro σ' H' ⟨a',bd',v5,rfl,kp',lv',N',ep⟩
  rw[BG]at ep
  unfold uW at ep
  rw[<-ep]at q
  exact q H' kp' lv' N'

end
section
variable {P:Program}{w:World}{K:PySem.W.Frag}{mg:Str->Option Value}{base:Heap}{f:Addr}{fd:FuncData}{aP aW aH CT CR CL CN:Addr}
set_option maxHeartbeats 4000000

theorem UV {lo:Int}{n:Nat}{g:TG}{tb:TS}{D:FJ}{σ:St}{H:Hp}(Pv:Nat->St->Hp->Prop)(h0:Pv 0 σ H)
  (hs: ∀i σ H,i<n->Pv i σ H->g (.int (lo-(i:Nat))) σ H fun σ2 H2=>tb {D with nx:=Pv (i+1),ct:=Pv (i+1),bk:=D.nx} σ2 H2) (hd: ∀σ H,Pv n σ H->D.nx σ H):
  ∃W:Nat->Nat->St->Hp->Prop,(∃m,W 0 m σ H)/\ ∀i m σ H,W i m σ H->
   ((ZJ lo n).stop i H/\D.nx σ H)\/((ZJ lo n).go i H/\ ∃N:St->Hp->Prop,(∀σ' H',N σ' H'-> ∃m',m'<m/\W (i+1) m' σ' H')/\ ∀x H',(ZJ lo n).yld i H x H'->g x σ H' fun σ2 H2=>tb {D with nx:=N,ct:=N,bk:=D.nx} σ2 H2):=by
 refine⟨fun i m σ H=>m=n-i/\i<=n/\Pv i σ H,⟨n,by simp,yZ _,h0⟩,?_⟩
 rintro i m σ H ⟨rfl,hi,p⟩
 by_cases hlt:i<n
 ·refine .inr ⟨hlt,Pv (i+1),fun σ' H' p'=>⟨n-(i+1),by(first|lia|omega),rfl,hlt,p'⟩,fun x H' y=>?_⟩
  obtain⟨e,y⟩:=y
  subst e y
  exact hs i σ _ hlt p
 ·have e:i=n:=by(first|lia|omega)
  subst e
  exact .inl ⟨zS _,hd σ H p⟩
inductive Hc (vs:List V) (H:Hp) (Q:VK) (E:XK):Prop
 |mk (wd:Addr) (W:List Str) (h0:vs=[.ref wd]) (h1:H wd=some (.lst (W.map V.str))) (h2:W.length<=1000000) (h3: ∀p H',H p=none->wG H H'->H' p=some (.dK (HY (Ft W)))->Q (.ref p) H'):Hc vs H Q E
inductive ME (vs:List V) (H:Hp) (Q:VK) (E:XK):Prop
 |mk (wd:Addr) (W:List Str) (h0:vs=[.ref wd]) (h1:H wd=some (.lst (W.map V.str))) (h2:W.length<=1000000) (h3: ∀p H',H p=none->wG H H'->EI H' p (EF W)->Q (.ref p) H'):ME vs H Q E
theorem JH (x y:Str):decide (V.str x=V.str y)=decide (x=y):=by
 by_cases z:x=y
 ·rw[z,yE rfl,yE rfl]
 ·rw[yJ z,yJ (fun e=>z (by injection e))]
theorem Oc (T:Txt K mg aP aW aH CT CR)(F:vW K "number_names" "number_names" Dq f fd):jV P w K mg base (jX P w) 1 f fd ["words"] Hc:=by
 refine F.okN uJ (fun vs H Q E h=>?_) (fun cdv A outer s H vs Q E hr h=>?_)
 ·obtain⟨wd,W,rfl,_⟩:=h
  rfl
 obtain⟨wd,W,rfl,hw,hl,q⟩:=h
 refine⟨_,(zF (yT (i:=1) uJ.nd rfl (Or.inl rfl) TY)
   (zF (yT (i:=2) uJ.nd rfl (Or.inl rfl) zX)
   (zF (vE xO rfl (uQ rfl T.n_range (zA (xR xJ rfl T.n_len qJ (zA (pv 0) zH)) zH)) (xG (i:=3) uJ.nd rfl (Or.inl rfl)) (zU (jB (yL kT (xZ jH (pv 0) (pv 3) (fun _ _=>rfl)) kQ (yY _)) (zF (jB (yL GS (xS vM (pv 3) zX) (xR xJ rfl T.n_len qJ (zA (pv 0) zH)) (yY _)) (zU (xV (TX (pv 1) (xZ jH (pv 0) (xS vM (pv 3) zX) (fun _ _=>rfl)) (pv 2) ⟨rfl,rfl,rfl,rfl⟩))) yV)
   (zU (XD (i:=2) uJ.nd rfl (Or.inl rfl) zX Yc))) yV)))
   (zU (yU (pv 1)))))),?_⟩
 try dsimp only[Cx.nox,Cx.exc,Cx.wish,jC]
 intro p hp
 have nw:wd≠p:=zK hw hp
 have hwp: ∀o,upd H p o wd=some (.lst (W.map V.str)):=fun o=>by rw[zQ nw];exact hw
 have hz:(W.map V.str).length =W.length:=zD ..
 refine⟨_,rfl,wd,_,rfl,.inl (.of (hwp _)),_,rfl,by(first|lia|omega),by(first|lia|omega),uR (fun i σ' H'=> ∃(g:Int) (acc:List (Str×Int)) (v3:Option V),σ'=[some (.ref wd),some (.ref p),some (.int g),v3]/\H'=upd H p (.dK (HY acc))/\Hs (W.drop i) g acc=Ft W/\acc.length<=i) ⟨0,[],none,rfl,rfl,rfl,zS _⟩ ?_ ?_⟩
 ·rintro i σ' H' hi ⟨g,acc,v3,rfl,rfl,eg,la⟩
  have hi':i<W.length:=by(first|lia|omega)
  have e1:W[i]? =some W[i]:=zB hi'
  rw[xW hi']at eg
  generalize W[i]=x at e1 eg
  have atx:Fz (W.map V.str) ((0:Int)+(i:Int))=some (.str x):=by
   rw[Int.zero_add]
   exact By (by rw[zN,e1];rfl)
  refine⟨_,rfl,_,rfl,wd,_,_,_,rfl,rfl,.of (hwp _),atx,rfl,_,rfl,?_⟩
  rw[JH]
  unfold Hs at eg
  refine kI (fun c=>?_) (fun c=>?_)
  ·rw[zW (yB c)]at eg
   refine⟨_,rfl,_,_,rfl,rfl,_,rfl,wd,_,rfl,.inl (.of (hwp _)),_,_,rfl,rfl,_,rfl,kI (fun c2=>?_) (fun c2=>?_)⟩
   ·have c2':=yB c2
    have hi2:i+1<W.length:=by(first|lia|omega)
    have e2:W[i+1]? =some W[i+1]:=zB hi2
    rw[xW hi2]at eg
    generalize ey:W[i+1]=y at e2 eg
    have aty:Fz (W.map V.str) ((0:Int)+(i:Int)+1)=some (.str y):=by
     have:=By (xs:=W.map V.str) (j:=i+1) (v:=.str y) (by rw[zN,e2];rfl)
     rw[show(((i+1:Nat):Int))=(0:Int)+(i:Int)+1 by(first|lia|omega)]at this
     exact this
    dsimp only at eg
    refine⟨_,rfl,p,rfl,.inl ⟨_,.inl zG⟩,_,rfl,_,rfl,_,_,rfl,rfl,wd,_,_,_,rfl,rfl,.of (hwp _),aty,_,rfl,HY acc,Sum.inr y,zG,rfl,Ak (by unfold HY;rw[zD];(first|lia|omega)),fun v hv=>?_,fun hv=>?_⟩
    ·rw[FM]at hv
     have hs:(wE acc y).isSome =true:=by
      cases z:wE acc y with
      |none=>rw[z]at hv;cases hv
      |some n=>rfl
     rw[hs,zW rfl]at eg
     refine⟨_,rfl,_,_,rfl,rfl,?_⟩
     exact⟨_,_,_,rfl,rfl,by rw[xW hi2,ey];exact eg,by(first|lia|omega)⟩
    ·rw[FM]at hv
     have hs:(wE acc y).isSome =false:=by
      cases z:wE acc y with
      |none=>rfl
      |some n=>rw[z]at hv;cases hv
     rw[hs,zL (by decide)]at eg
     rw[EZ]
     refine⟨_,rfl,_,_,rfl,rfl,?_⟩
     exact⟨_,acc++[(y,g)],_,rfl,by unfold HY;rw[yA];rfl,by rw[xW hi2,ey];exact eg,by rw[zC];show acc.length+1<=i+1;(first|lia|omega)⟩
   ·have c2':=df c2
    have hn:W.drop (i+1)=[]:=BI (by(first|lia|omega))
    rw[hn]at eg
    refine⟨_,rfl,_,_,rfl,rfl,?_⟩
    exact⟨_,_,_,rfl,rfl,by rw[hn];exact eg,by(first|lia|omega)⟩
  ·rw[zL (kL (Bool.eq_false_iff.mpr c))]at eg
   exact⟨_,_,_,rfl,rfl,eg,by(first|lia|omega)⟩
 ·rintro σ' H' ⟨g,acc,v3,rfl,rfl,eg,la⟩
  rw[BI (by(first|lia|omega))]at eg
  have eg':acc=Ft W:=eg
  refine⟨_,rfl,q p _ hp (zV hp _) ?_⟩
  rw[zG,eg']
theorem Uu (T:Txt K mg aP aW aH CT CR)(F:vW K "count_params" "count_params" Ds f fd):jV P w K mg base (jX P w) 1 f fd ["words"] ME:=by
 refine F.okN uK (fun vs H Q E h=>?_) (fun cdv A outer s H vs Q E hr h=>?_)
 ·obtain⟨wd,W,rfl,_⟩:=h
  rfl
 obtain⟨wd,W,rfl,hw,hl,q⟩:=h
 refine⟨_,(zF (yT (i:=1) uK.nd rfl (Or.inl rfl) (jN zH))
   (zF (yT (i:=2) uK.nd rfl (Or.inl rfl) (xR xJ rfl T.n_len qJ (zA (pv 0) zH)))
   (zF (vE xO rfl (VX rfl T.n_range (zA (xS vL (xR xJ rfl T.n_len qJ (zA (pv 0) zH)) zX) (zA (NW JL zX) (zA (NW JL zX) zH)))) (xG (i:=3) uK.nd rfl (Or.inl rfl)) (zF (Ek (jB (yL kT (xZ jH (pv 0) (pv 3) (fun _ _=>rfl)) kQ (yY _)) (zU (yT (i:=2) uK.nd rfl (Or.inl rfl) (pv 3))) yV))
   (zU (jB (yL kT (xZ jH (pv 0) (pv 3) (fun _ _=>rfl)) kQ (yY _)) (zU (xV (kK zO zZ zY xY (pv 1) (zA (qD (zA (xS vL (xS vL (pv 2) (pv 3)) zX) zH)) zH)))) yV))))
   (zF (xV (PB zO PySem.F.slot_list_reverse PySem.F.type_list_reverse PV (pv 1)))
   (zU (yU (pv 1))))))),?_⟩
 try dsimp only[Cx.nox,Cx.exc,Cx.wish,jC]
 refine⟨sm0,fun p hp=>?_⟩
 have nw:wd≠p:=zK hw hp
 have hwp:upd H p (.lst []) wd=some (.lst (W.map V.str)):=by rw[zQ nw];exact hw
 have hz:(W.map V.str).length =W.length:=zD ..
 refine⟨_,rfl,wd,_,rfl,.inl (.of hwp),?_⟩
 refine⟨_,rfl,wd,_,rfl,.inl (.of hwp),_,_,rfl,rfl,_,rfl,_,rfl,_,_,rfl,⟨by(first|lia|omega),by(first|lia|omega),by(first|lia|omega),by(first|lia|omega)⟩,?_⟩
 refine UV (fun i σ' H'=> ∃(e:Int) (cs:List Int) (vs:List V) (v3:Option V),σ'=[some (.ref wd),some (.ref p),some (.int e),v3]/\wG H H'/\H' p=some (.lst vs)/\Paired (Xj H') vs cs.reverse/\i<=W.length/\CB (W.drop (W.length-i)) (W.length-i)=(e,cs)/\cs.length<=i)
  ⟨_,[],[],none,rfl,zV hp _,zG,.nil,yZ _,?_,zS _⟩ ?_ ?_
 ·rw[Nat.sub_zero,List.drop_length]
  show(((W.length:Nat):Int),([]:List Int))=_
  rw[hz]
 ·rintro i σ' H' hi ⟨e,cs,vs,v3,rfl,sm,ep,pr,hil,ec,lc⟩
  have hi':i<W.length:=by(first|lia|omega)
  have hj:W.length-(i+1)<W.length:=by(first|lia|omega)
  have e1:W[W.length-(i+1)]? =some W[W.length-(i+1)]:=zB hj
  have ed:W.drop (W.length-(i+1))=W[W.length-(i+1)]::W.drop (W.length-i):=by
   rw[xW hj,show W.length-(i+1)+1=W.length-i by(first|lia|omega)]
  have en:W.length-i=W.length-(i+1)+1:=by(first|lia|omega)
  rw[en]at ec
  rw[en]at ed
  generalize W[W.length-(i+1)]=x at e1 ed
  have atx:Fz (W.map V.str) (((W.map V.str).length:Int)-1-(i:Int))=some (.str x):=by
   refine An (by(first|lia|omega)) ?_
   rw[show(((W.map V.str).length:Int)-1-(i:Int)).toNat =W.length-(i+1)by(first|lia|omega),zN,e1]
   rfl
  have hw':=sm _ _ hw
  have np: ∀{H2:Hp},wG H' H2->True:=fun _=>trivial
  have step:CB (W.drop (W.length-(i+1))) (W.length-(i+1))=((if x="with" then((W.length-(i+1):Nat):Int)else e),if x="fun" then((if x="with" then((W.length-(i+1):Nat):Int)else e)-((W.length-(i+1):Nat):Int)-2)::cs else cs):=by
   rw[ed]
   unfold CB
   rw[ec]
  have ej:((W.map V.str).length:Int)-1-(i:Int)=((W.length-(i+1):Nat):Int):=by(first|lia|omega)
  generalize ee:(if x="with" then((W.length-(i+1):Nat):Int)else e)=e' at step
  refine⟨fun σ2 H2=>σ2=[some (.ref wd),some (.ref p),some (.int e'),some (.int (((W.map V.str).length:Int)-1-(i:Int)))]/\H2=H',?_,?_⟩
  ·refine⟨_,rfl,_,rfl,wd,_,_,_,rfl,rfl,.of hw',atx,rfl,_,rfl,?_⟩
   rw[JH]
   refine kI (fun c=>?_) (fun c=>?_)
   ·rw[zW (yB c)]at ee
    rw[ej,<-ee]
    exact⟨_,rfl,rfl,rfl⟩
   ·rw[zL (kL (Bool.eq_false_iff.mpr c))]at ee
    rw[<-ee]
    exact⟨rfl,rfl⟩
  rintro _ _ ⟨rfl,rfl⟩
  rename_i H'
  refine⟨_,rfl,_,rfl,wd,_,_,_,rfl,rfl,.of hw',atx,rfl,_,rfl,?_⟩
  rw[JH]
  refine kI (fun c=>?_) (fun c=>?_)
  ·rw[zW (yB c)]at step
   refine⟨_,rfl,.inl ⟨rfl,_,.of ep⟩,_,rfl,_,rfl,_,_,rfl,rfl,_,_,rfl,rfl,sm1,fun t ht=>?_⟩
   have nt:p≠t:=zK ep ht
   have lv:=Paired.len pr
   rw[AH]at lv
   have sm2: ∀o u,wG H (upd (upd H' t o) p u):=fun o u b z ez=>by
    rw[zQ (zK ez hp),zQ (zK (sm _ _ ez) ht)]
    exact sm _ _ ez
   refine⟨p,_,_,rfl,rfl,by rw[zQ nt];exact ep,Ak (by(first|lia|omega)),_,_,_,_,rfl,sm2 _ _,zG,?_,by(first|lia|omega),step,?_⟩
   ·rw[Ae]
    refine qG (Paired.imp (fun v n z=>?_) pr) ⟨t,rfl,?_⟩
    ·obtain⟨t',rfl,et⟩:=z
     refine⟨t',rfl,?_⟩
     rw[zQ (fun z=>by rw[z,ep]at et;cases et),zQ (zK et ht)]
     exact et
    ·rw[zQ (Ne.symm nt),zG,ej]
   ·rw[zJ];(first|lia|omega)
  ·rw[zL (kL (Bool.eq_false_iff.mpr c))]at step
   exact⟨_,_,_,_,rfl,sm,ep,pr,by(first|lia|omega),step,by(first|lia|omega)⟩
 ·rintro σ' H' ⟨e,cs,vs,v3,rfl,sm,ep,pr,hil,ec,lc⟩
  refine⟨_,rfl,.inl ⟨rfl,_,.of ep⟩,p,_,rfl,rfl,ep,_,rfl,q p _ hp (fun b z ez=>?_) ⟨_,zG,?_⟩⟩
  ·rw[zQ (zK ez hp)];exact sm _ _ ez
  ·have e0:cs=EF W:=by
    have:W.length-(((W.map V.str).length:Int)-1- -1).toNat =0:=by(first|lia|omega)
    rw[this,BH]at ec
    unfold EF
    rw[ec]
   rw[<-e0]
   have pr2:=Paired.rev pr
   rw[List.reverse_reverse]at pr2
   refine Paired.imp (fun v n z=>?_) pr2
   obtain⟨t',rfl,et⟩:=z
   refine⟨t',rfl,?_⟩
   rw[zQ (fun z=>by rw[z,ep]at et;cases et)]
   exact et

end
section
variable {P:Program}{w:World}{K:PySem.W.Frag}{mg:Str->Option Value}{base:Heap}{f:Addr}{fd:FuncData}{aP aW aH CT CR CL CN:Addr}
set_option maxHeartbeats 4000000

structure ZE (C:Addr)(A:RA)(H H':Hp)(W:List Str):Prop where
 rd:H' A.rd=some (DI C A 0)
 keep:kJ A.rd H H'
 nm:H' A.nm=some (.lst [])
 hd:H' A.hd=some (.lst [])
 bd:H' A.bd=some (.lst [])
 nu:H' A.nu=some (.dK (HY (Ft W)))
 cn:EI H' A.cn (EF W)
 n1:A.nm≠A.hd
 n2:A.nm≠A.bd
 n3:A.hd≠A.bd
 n4:A.cn≠A.nm
 n5:A.cn≠A.hd
 n6:A.cn≠A.bd
 f1:H A.nm=none
 f2:H A.hd=none
 f3:H A.bd=none
 f4:H A.cn=none
theorem NG {G G1:Hp}{x p:Addr}{i o:HO}(u:HO)(sm:wG G G1)(gx:G x=some i)(a:G p=none)(ep:G1 p=some o):G1 x=some i/\kJ x G (upd G1 x u)/\upd G1 x u p=some o/\upd G1 x u x=some u/\ ∀b,upd G1 x u b=none->G b=none:=by
 have n:p≠x:=Ne.symm (zK gx a)
 refine⟨sm _ _ gx,fun b v nb e=>?_,?_,zG,fun b e=>?_⟩
 ·rw[zQ nb];exact sm _ _ e
 ·rw[zQ n];exact ep
 ·by_cases z:b=x
  ·rw[z,zG]at e;cases e
  ·rw[zQ z]at e;exact sm.free e
theorem EI.keep {H H':Hp}{x c:Addr}{cnt:List Int}{C dx:Addr}{fs:List (Str×V)}(h:EI H c cnt)(k:kJ x H H')(hx:H x=some (.ins C dx fs)):EI H' c cnt:=
 h.tups (fun xs e=>k _ _ (fun z=>by rw[z,hx]at e;cases e) e) fun b xs e=>k _ _ (fun z=>by rw[z,hx]at e;cases e) e
inductive Mz (C:Addr) (vs:List V) (H:Hp) (Q:VK) (E:XK):Prop
 |mk (x dx wd:Addr) (W:List Str) (h0:vs=[.ref x,.ref wd]) (h1:H x=some (.ins C dx [])) (h2:H wd=some (.lst (W.map V.str))) (h3:W.length<=1000000) (h4: ∀A H',A.rd=x->A.dr=dx->A.wd=wd->ZE C A H H' W->Q .non H'):Mz C vs H Q E
theorem Uo (T:Txt K mg aP aW aH CT CR)(F:vW K "__init__" "Reading.__init__" AU f fd)(Cnumber_names:vV P w K mg base (jX P w) 1 "number_names" ["words"] Hc)
  (Ccount_params:vV P w K mg base (jX P w) 1 "count_params" ["words"] ME):jV P w K mg base (jX P w) 2 f fd ["self","words"] (Mz CR):=by
 refine F.okN GH (fun vs H Q E h=>?_) (fun cdv A outer s H vs Q E hr h=>?_)
 ·obtain⟨x,dx,wd,W,rfl,_⟩:=h
  rfl
 obtain⟨x,dx,wd,W,rfl,hx,hw,hl,q⟩:=h
 refine⟨_,(zF (Fm (pv 0) (pv 1) rfl)
   (zF (Fm (pv 0) zX rfl)
   (zF (Fm (pv 0) (jN zH) rfl)
   (zF (Fm (pv 0) (jN zH) rfl)
   (zF (Fm (pv 0) (jN zH) rfl)
   (zF (Fm (pv 0) (yF Cnumber_names hr rfl (zA (pv 1) zH) jZ) rfl)
   (zU (Fm (pv 0) (yF Ccount_params hr rfl (zA (pv 1) zH) jZ) rfl)))))))),?_⟩
 try dsimp only[Cx.nox,Cx.exc,Cx.wish,jC]
 have nwx:wd≠x:=fun z=>by rw[z,hx]at hw;cases hw
 refine⟨_,rfl,_,rfl,x,CR,dx,_,rfl,hx,T.cls,T.f_words,(show 0<1000 by decide),?_⟩
 refine⟨_,rfl,x,CR,dx,_,rfl,zG,T.cls,T.f_at,(show 1<1000 by decide),?_⟩
 rw[EZ]
 have live0: ∀{b:Addr} {o:HO},upd H x o b=none->H b=none:=fun{b o} e=>by
  by_cases z:b=x
  ·rw[z,zG]at e;cases e
  ·rw[zQ z]at e;exact e
 have K0: ∀{o:HO},kJ x H (upd H x o):=fun{o}=>kJ.upd
 generalize hG:upd H x _=G at *
 have gx:G x=some (.ins CR dx [("words",.ref wd),("at",.int 0)]):=by rw[<-hG];exact zG
 have gk:kJ x H G:=by rw[<-hG];exact kJ.upd
 have gl: ∀b,G b=none->H b=none:=fun b e=>by rw[<-hG]at e;exact live0 e
 clear hG live0 K0
 refine⟨sm0,fun nm a1=>?_⟩
 obtain⟨x1,k1,p1,y1,l1⟩:=NG (.ins CR dx [("words",.ref wd),("at",.int 0),("names",.ref nm)]) (zV a1 (.lst [])) gx a1 zG
 refine⟨_,rfl,x,CR,dx,_,rfl,x1,T.cls,T.f_names,(show 2<1000 by decide),sm0,fun hd a2=>?_⟩
 obtain⟨x2,k2,p2,y2,l2⟩:=NG (.ins CR dx [("words",.ref wd),("at",.int 0),("names",.ref nm),("heads",.ref hd)]) (zV a2 (.lst [])) y1 a2 zG
 refine⟨_,rfl,x,CR,dx,_,rfl,x2,T.cls,T.f_heads,(show 3<1000 by decide),sm0,fun bd a3=>?_⟩
 obtain⟨x3,k3,p3,y3,l3⟩:=NG (.ins CR dx [("words",.ref wd),("at",.int 0),("names",.ref nm),("heads",.ref hd),("bodies",.ref bd)]) (zV a3 (.lst [])) y2 a3 zG
 refine⟨_,rfl,x,CR,dx,_,rfl,x3,T.cls,T.f_bodies,(show 4<1000 by decide),?_⟩
 have k03:=gk.trans (k1.trans (k2.trans k3))
 refine⟨_,rfl,wd,W,rfl,k03 _ _ nwx hw,hl,fun nu G4 a4 s4 e4=>?_⟩
 obtain⟨x4,k4,p4,y4,l4⟩:=NG (.ins CR dx [("words",.ref wd),("at",.int 0),("names",.ref nm),("heads",.ref hd),("bodies",.ref bd),("numbered",.ref nu)]) s4 y3 a4 e4
 refine⟨_,rfl,x,CR,dx,_,rfl,x4,T.cls,T.f_numbered,(show 5<1000 by decide),?_⟩
 refine⟨_,rfl,wd,W,rfl,(k03.trans k4) _ _ nwx hw,hl,fun cn G5 a5 s5 e5=>?_⟩
 obtain⟨vs,ev,pv⟩:=id e5
 obtain⟨x5,k5,p5,y5,l5⟩:=NG (.ins CR dx [("words",.ref wd),("at",.int 0),("names",.ref nm),("heads",.ref hd),("bodies",.ref bd),("numbered",.ref nu),("counted",.ref cn)]) s5 y4 a5 ev
 refine⟨_,rfl,x,CR,dx,_,rfl,x5,T.cls,T.f_counted,(show 6<1000 by decide),?_⟩
 have nx: ∀{G:Hp} {b:Addr} {i:HO},G x=some i->G b=none->b≠x:=fun e a=>Ne.symm (zK e a)
 have m1:=nx gx a1
 have m2:=nx y1 a2
 have m3:=nx y2 a3
 have m4:=nx y3 a4
 have h2:=k2 _ _ m1 p1
 have h3:=k3 _ _ m1 h2
 have h4:=k4 _ _ m1 h3
 have i3:=k3 _ _ m2 p2
 have i4:=k4 _ _ m2 i3
 have j4:=k4 _ _ m3 p3
 refine q ⟨x,dx,wd,nm,hd,bd,nu,cn⟩ _ rfl rfl rfl ⟨y5,k03.trans (k4.trans k5),k5 _ _ m1 h4,k5 _ _ m2 i4,k5 _ _ m3 j4,k5 _ _ m4 p4,EI.keep e5 kJ.upd x5,zK p1 a2,zK h2 a3,zK p2 a3,
  Ne.symm (zK h4 a5),Ne.symm (zK i4 a5),Ne.symm (zK j4 a5),gl _ a1,gl _ (l1 _ a2),gl _ (l1 _ (l2 _ a3)),gl _ (l1 _ (l2 _ (l3 _ (l4 _ a5))))⟩

end
section
variable {P:Program}{w:World}{K:PySem.W.Frag}{mg:Str->Option Value}{base:Heap}{f:Addr}{fd:FuncData}{aP aW aH CT CR CL CN:Addr}
set_option maxHeartbeats 4000000

def BY (H:Hp)(v:V)(p:Str×List Str):Prop:= ∃t b,v=.ref t/\H t=some (.tup [.str p.1,.ref b])/\H b=some (.tup (p.2.map V.str))
theorem BY.tups {H H':Hp}{v:V}{p:Str×List Str}(h:BY H v p)(g:wV H H'):BY H' v p:=by
 obtain⟨t,b,rfl,e1,e2⟩:=h
 exact⟨t,b,rfl,g _ _ e1,g _ _ e2⟩
structure FnR (C:Addr)(A:RA)(H:Hp)(W:List Str)(num:List (Str×Int))(cnt:List Int)(s:RS):Prop where
 w:KZ C A W H s.at_
 nm: ∃vs,H A.nm=some (.lst vs)/\Paired (BY H) vs s.names
 hd:H A.hd=some (.lst (s.heads.map V.int))
 bd:H A.bd=some (.lst (s.bodies.map V.int))
 nu:H A.nu=some (.dK (HY num))
 cn:EI H A.cn cnt
 n1:A.nm≠A.hd
 n2:A.nm≠A.bd
 n3:A.hd≠A.bd
 n4:A.cn≠A.nm
 n5:A.cn≠A.hd
 n6:A.cn≠A.bd
 w1:A.wd≠A.nm
 w2:A.wd≠A.hd
 w3:A.wd≠A.bd
 le:s.at_<=W.length
 few:s.bodies.length<=2*s.at_
 hfew:s.heads.length=2*s.names.length
 nfew:s.names.length<=16
def SO (A:RA):List Addr:=[A.rd,A.bd,A.nm,A.hd]
inductive Po (C CT:Addr) (vs:List V) (H:Hp) (Q:VK) (E:XK):Prop
 |mk (A:RA) (W:List Str) (num:List (Str×Int)) (cnt:List Int) (s:RS) (h0:vs=[.ref A.rd]) (h1:FnR C A H W num cnt s) (h2:Qt num cnt) (h3:IX (fun s'=> ∀H',jG (SO A) H H'->(∀b,H' b=none->H b=none)->FnR C A H' W num cnt s'->Q .non H') (qU CT (SO A) H E) (KY W num cnt s)):Po C CT vs H Q E
theorem IQ {A:RA}:A.rd∈SO A:=zP ..
theorem Vo {A:RA}:A.bd∈SO A:=zT _ (zP ..)
theorem Yi {A:RA}:A.nm∈SO A:=zT _ (zT _ (zP ..))
theorem Yj {A:RA}:A.hd∈SO A:=zT _ (zT _ (zT _ (zP ..)))
structure Np (C:Addr)(A:RA)(H Hi:Hp)(W:List Str)(num:List (Str×Int))(cnt:List Int)(bx:Addr)(bs:List Str)(a:Nat)(nv:List V)(hds bds:List Int):Prop where
 w:KZ C A W Hi a
 nm:Hi A.nm=some (.lst nv)
 hd:Hi A.hd=some (.lst (hds.map V.int))
 bd:Hi A.bd=some (.lst (bds.map V.int))
 nu:Hi A.nu=some (.dK (HY num))
 cn:EI Hi A.cn cnt
 box:Hi bx=some (.lst (bs.map V.str))
 tup:wV H Hi
 keep:jG (SO A) H Hi
 live: ∀b,Hi b=none->H b=none
structure ZR (A:RA)(H:Hp)(bx:Addr):Prop where
 n1:A.nm≠A.hd
 n2:A.nm≠A.bd
 n3:A.hd≠A.bd
 n4:A.cn≠A.nm
 n5:A.cn≠A.hd
 n6:A.cn≠A.bd
 w1:A.wd≠A.nm
 w2:A.wd≠A.hd
 w3:A.wd≠A.bd
 b1:bx≠A.nm
 b2:bx≠A.hd
 b3:bx≠A.bd
 b4:bx≠A.wd
 b5:bx≠A.cn
 bn:H bx=none
section
variable {C:Addr}{A:RA}{H Hi Hj:Hp}{W:List Str}{num:List (Str×Int)}{cnt:List Int}{bx:Addr}{bs bs':List Str}{a a':Nat}{nv:List V}{hds bds:List Int}
theorem Np.fail (m:Np C A H Hi W num cnt bx bs a nv hds bds){E:XK}{n:Nat}(f:qU CT (SO A) H E n)(hb:H bx=none):qU CT [A.rd,bx] Hi E n:=fun d H' g e=>f d H' (fun b o nb q=>g b o (fun z=>by
 rcases List.mem_cons.mp z with z|z
 ·exact nb (z▸IQ)
 ·rw[List.mem_singleton.mp z,hb]at q;cases q) (m.keep b o nb q)) e
theorem Np.boxes (m:Np C A H Hi W num cnt bx bs a nv hds bds)(p:ZR A H bx)(k:jG [A.rd,bx] Hi Hj)(lv: ∀b,Hj b=none->Hi b=none)(e1:Hj A.rd=some (DI C A a'))(e2:Hj bx=some (.lst (bs'.map V.str))):Np C A H Hj W num cnt bx bs' a' nv hds bds:=by
 have nx: ∀{b:Addr} {xs:List V},Hi b=some (.lst xs)->b≠bx->Hj b=some (.lst xs):=fun{b xs} e n=>k b _ (fun z=>by
  rcases List.mem_cons.mp z with z|z
  ·exact m.w.ne e z
  ·exact n (List.mem_singleton.mp z)) e
 have tp:wV Hi Hj:=fun b xs e=>k b _ (fun z=>by
  rcases List.mem_cons.mp z with z|z
  ·rw[z,m.w.rd]at e;cases e
  ·rw[List.mem_singleton.mp z,m.box]at e;cases e) e
 refine⟨⟨e1,nx m.w.wd (Ne.symm p.b4),m.w.ok⟩,nx m.nm (Ne.symm p.b1),nx m.hd (Ne.symm p.b2),nx m.bd (Ne.symm p.b3),k _ _ (fun z=>?_) m.nu,m.cn.tups (fun xs e=>nx e (Ne.symm p.b5)) tp,e2,fun b xs e=>tp _ _ (m.tup _ _ e),fun b o nb e=>k b o (fun z=>?_) (m.keep b o nb e),fun b e=>m.live b (lv b e)⟩
 ·have:=m.nu
  rcases List.mem_cons.mp z with z|z
  ·rw[z,m.w.rd]at this;cases this
  ·rw[List.mem_singleton.mp z,m.box]at this;cases this
 ·rcases List.mem_cons.mp z with z|z
  ·exact nb (z▸IQ)
  ·rw[List.mem_singleton.mp z,p.bn]at e;cases e
theorem Np.heads (m:Np C A H Hi W num cnt bx bs a nv hds bds)(p:ZR A H bx)(hds':List Int):Np C A H (upd Hi A.hd (.lst (hds'.map V.int))) W num cnt bx bs a nv hds' bds:=by
 have nx: ∀{b:Addr} {o:HO},b≠A.hd->Hi b=some o->upd Hi A.hd (.lst (hds'.map V.int)) b=some o:=fun n e=>by rw[zQ n];exact e
 have tp:wV Hi (upd Hi A.hd (.lst (hds'.map V.int))):=fun b xs e=>nx (fun z=>by rw[z,m.hd]at e;cases e) e
 exact⟨⟨nx (Ne.symm (m.w.ne m.hd)) m.w.rd,nx p.w2 m.w.wd,m.w.ok⟩,nx p.n1 m.nm,zG,nx (Ne.symm p.n3) m.bd,nx (fun z=>by have:=m.nu;rw[z,m.hd]at this;cases this) m.nu,m.cn.tups (fun xs e=>nx p.n5 e) tp,nx p.b2 m.box,fun b xs e=>tp _ _ (m.tup _ _ e),
  m.keep.trans (jG.upd Yj),wM m.live m.hd⟩
theorem Np.same (m:Np C A H Hi W num cnt bx bs a nv hds bds)(g:wG Hi Hj):Np C A H Hj W num cnt bx bs a nv hds bds:=
 ⟨⟨g _ _ m.w.rd,g _ _ m.w.wd,m.w.ok⟩,g _ _ m.nm,g _ _ m.hd,g _ _ m.bd,g _ _ m.nu,m.cn.tups (fun xs e=>g _ _ e) fun b xs e=>g _ _ e,g _ _ m.box,fun b xs e=>g _ _ (m.tup _ _ e),m.keep.trans (jG.same g),fun b e=>m.live b (g.free e)⟩
theorem Np.named (m:Np C A H Hi W num cnt bx bs a nv hds bds)(p:ZR A H bx)(nv':List V):Np C A H (upd Hi A.nm (.lst nv')) W num cnt bx bs a nv' hds bds:=by
 have nx: ∀{b:Addr} {o:HO},b≠A.nm->Hi b=some o->upd Hi A.nm (.lst nv') b=some o:=fun n e=>by rw[zQ n];exact e
 have tp:wV Hi (upd Hi A.nm (.lst nv')):=fun b xs e=>nx (fun z=>by rw[z,m.nm]at e;cases e) e
 exact⟨⟨nx (Ne.symm (m.w.ne m.nm)) m.w.rd,nx p.w1 m.w.wd,m.w.ok⟩,zG,nx (Ne.symm p.n1) m.hd,nx (Ne.symm p.n2) m.bd,nx (fun z=>by have:=m.nu;rw[z,m.nm]at this;cases this) m.nu,m.cn.tups (fun xs e=>nx p.n4 e) tp,nx p.b1 m.box,fun b xs e=>tp _ _ (m.tup _ _ e),
  m.keep.trans (jG.upd Yi),wM m.live m.nm⟩
theorem Np.nd (m:Np C A H Hi W num cnt bx bs a nv hds bds)(p:ZR A H bx)(le:a<=W.length)(few:bds.length<=2*a):Vv C A Hi bx W bs num cnt a bds:=
 ⟨m.w,m.box,m.nu,m.cn,m.bd,Ne.symm p.w3,Ne.symm p.b3,Ne.symm p.n6,le,few⟩
end
theorem Wi (T:Txt K mg aP aW aH CT CR)(F:vW K "read_function" "read_function" AO f fd)(CNoText:EK P w K mg base 1 "NoText" CT ["self","at"] (vY CT))(Cdue:vV P w K mg base (jX P w) 3 "due" ["reading"] (Fa CR CT))
  (Ctake_new_name:vV P w K mg base (jX P w) 4 "take_new_name" ["reading","there"] (Mx CR CT)) (Ctake_boxes:vV P w K mg base (jX P w) 5 "take_boxes" ["reading","boxes","most","last"] (JV CR CT))
  (Cread_node:vV P w K mg base (jX P w) 17 "read_node" ["reading","boxes","deep"] (Gs CR CT 10)):jV P w K mg base (jX P w) 18 f fd ["reading"] (Po CR CT):=by
 refine F.okX BQ (fun vs H Q E h=>?_) (fun cdv Ar outer s0 H vs Q E hr h=>?_)
 ·obtain⟨A,W,num,cnt,s,rfl,_⟩:=h
  rfl
 obtain⟨A,W,num,cnt,s,rfl,R,nok,q⟩:=h
 refine⟨_,(zF (jB (PW.pt (uZ (yL HV (yF Cdue hr rfl (zA (pv 0) zH) kG) kQ (yY _)) (uA (yL kT (xR xJ rfl T.n_len qJ (zA (jT (pv 0) rfl) zH)) (xH rfl T.m_MOST_FUNCTIONS) (yY _))))) (zU (qQ CNoText hr rfl (zA (jT (pv 0) rfl) zH))) yV)
   (zF (Be (pv 0) zX Gg)
   (zF (yT (i:=1) BQ.nd rfl (Or.inl rfl) (yF Ctake_new_name hr rfl (zA (pv 0) (zA (HU (own:=["named"]) (ys:=[]) rfl (DS (jT (pv 0) rfl)) (BW (sc:=yH AO) rfl (by decide+kernel)) .nil (fun _ _ _ _ _=>(xG (i:=0) (show List.Nodup [("named":Str)]from(by decide+kernel)) rfl (Or.inl rfl))) (fun _ _ _ _ _=>Gu) (fun _ _ _ _ _=>(xZ (MW K rfl) (pv 0) zX (fun _ _=>rfl)))) zH)) kG))
   (zF (yT (i:=2) BQ.nd rfl (Or.inl rfl) (jN zH))
   (zF (xV (yF Ctake_boxes hr rfl (zA (pv 0) (zA (pv 2) (zA (XI (NS (jT (pv 0) rfl) (fun _=>rfl)) (xH rfl T.m_MOST_PARAMS) zX) (zA kQ zH)))) kG))
   (zF (xV (kK zO zZ zY xY (jT (pv 0) rfl) (zA (xR xJ rfl T.n_len qJ (zA (pv 2) zH)) zH)))
   (zF (xV (yF Ctake_boxes hr rfl (zA (pv 0) (zA (pv 2) (zA (xH rfl T.m_MOST_BOXES) (zA kQ zH)))) kG))
   (zF (xV (kK zO zZ zY xY (jT (pv 0) rfl) (zA (xR xJ rfl T.n_len qJ (zA (pv 2) zH)) zH)))
   (zF (xV (kK zO zZ zY xY (jT (pv 0) rfl) (zA (qD (zA (pv 1) (zA (kR vN rfl T.n_tuple Am (zA (pv 2) zH)) zH))) zH)))
   (zU (xV (yF Cread_node hr rfl (zA (pv 0) (zA (pv 2) (zA zX zH))) kG)))))))))))),?_⟩
 try dsimp only[Cx.nox,Cx.exc,Cx.wish,jC]
 obtain⟨nv,env,pnv⟩:=R.nm
 have hnl:=Paired.len pnv
 refine⟨_,rfl,A,W,s.at_,rfl,R.w,?_⟩
 unfold KY at q
 cases e1:W[s.at_]? with
 |none=>
  rw[e1]at q
  rw[show AG W s.at_=.error s.at_ by unfold AG;rw[e1]]
  exact qU.one q
 |some x=>
 rw[e1]at q
 dsimp only at q
 rw[show AG W s.at_=.ok x by unfold AG;rw[e1]]
 have al:=Gi e1
 have fail:CC CT H E (s.at_:Int)-> ∀(D:FJ) (σ:St),True:=fun _ _ _=>trivial
 refine⟨rfl,_,rfl,?_⟩
 rw[JH]
 by_cases cx:x="fun"
 ·rw[yE cx]
  have hnv:((nv.length:Nat):Int)=(s.names.length:Int):=by(first|lia|omega)
  refine Bi ⟨_,rfl,A.rd,CR,A.dr,_,_,rfl,R.w.rd,T.cls,T.f_names,rfl,A.nm,_,rfl,.inl (.of env),rfl,_,rfl,kI (fun c=>?_) (fun c=>?_)⟩
  ·have c':=vt c
   rw[zW (.inr (by(first|lia|omega)))]at q
   exact⟨_,rfl,A.rd,CR,A.dr,_,_,rfl,R.w.rd,T.cls,T.f_at,rfl,sm1,uY (qU.one q)⟩
  have c':=vf c
  have nf:=R.nfew
  rw[zL (fun z=>z.elim (fun z=>z cx) (fun z=>by(first|lia|omega)))]at q
  refine⟨_,rfl,A.rd,CR,A.dr,_,_,rfl,R.w.rd,T.cls,T.f_at,rfl,_,_,rfl,rfl,A.dr,_,R.w.rd,(show 7<1000 by decide),?_⟩
  have R1:=R.w.put (s.at_+1)
  have nm1:upd H A.rd (DI CR A (s.at_+1)) A.nm=some (.lst nv):=by rw[zQ (R.w.ne env)];exact env
  have np1: ∀{b:Addr},upd H A.rd (DI CR A (s.at_+1)) b=none->H b=none:=fun{b} e=>wM (fun _ z=>z) R.w.rd b e
  have k1:jG (SO A) H (upd H A.rd (DI CR A (s.at_+1))):=jG.upd IQ
  have tp1:wV H (upd H A.rd (DI CR A (s.at_+1))):=fun b xs e=>by rw[zQ (fun z=>by rw[z,R.w.rd]at e;cases e)];exact e
  refine⟨_,rfl,_,rfl,A.rd,CR,A.dr,_,_,rfl,zG,T.cls,T.f_names,rfl,A.nm,rfl,⟨_,.of nm1⟩,fun p hp=>?_⟩
  have pm:A.nm≠p:=zK nm1 hp
  have pr:A.rd≠p:=zK R1.rd hp
  refine Gn (xs:=nv) (fun i σ' H'=>H'=upd (upd H A.rd (DI CR A (s.at_+1))) p (.lst (((s.names.map (·.1)).take i).map V.str))/\ ∃x,σ'=[x]) ⟨rfl,_,rfl⟩ ?_ ?_ ?_
  ·rintro i σ' H' hi ⟨rfl,_⟩
   exact .of (by rw[zQ pm];exact nm1)
  ·rintro i v σ' H' hi hv ⟨rfl,x0,rfl⟩
   have hi2:i<s.names.length:=by(first|lia|omega)
   obtain⟨t,b,rfl,et,eb⟩:=Paired.get pnv _ _ _ hv (zB hi2)
   have et1:=tp1 _ _ et
   refine⟨_,rfl,t,_,_,_,rfl,rfl,.of (by rw[zQ (zK et1 hp)];exact et1),rfl,_,zG,Ak ?_,CW.next hi ⟨?_,_,rfl⟩⟩
   ·rw[zD]
    have:=CU i (s.names.map (·.1))
    (first|lia|omega)
   ·rw[EZ,kM,zN,zB hi2,yA]
    rfl
  rintro σ' H' ⟨rfl,_⟩
  rw[xP (by rw[zD];(first|lia|omega))]
  have s2:wG (upd H A.rd (DI CR A (s.at_+1))) (upd (upd H A.rd (DI CR A (s.at_+1))) p (.lst ((s.names.map (·.1)).map V.str))):=zV hp _
  have R2:KZ CR A W (upd (upd H A.rd (DI CR A (s.at_+1))) p (.lst ((s.names.map (·.1)).map V.str))) (s.at_+1):=⟨s2 _ _ R1.rd,s2 _ _ R1.wd,R1.ok⟩
  refine⟨A,W,s.at_+1,p,s.names.map (·.1),rfl,R2,zG,?_⟩
  cases e2:GJ W (s.at_+1) (s.names.map (·.1))with
  |error n=>rw[e2]at q;exact(qU.mono q (k1.trans (jG.same s2))).one
  |ok name=>
  rw[e2]at q
  dsimp only at q
  have R3:=R2.put (s.at_+1+1)
  refine⟨sm0,fun bx hb=>?_⟩
  have s4:=zV hb (.lst [])
  have kb: ∀{b:Addr} {o:HO},b≠A.rd->H b=some o->upd (upd (upd (upd H A.rd (DI CR A (s.at_+1))) p (.lst ((s.names.map (·.1)).map V.str))) A.rd (DI CR A (s.at_+1+1))) bx (.lst []) b=some o:=fun{b o} n e=>
   s4 _ _ (by rw[zQ n];exact s2 _ _ (by rw[zQ n];exact e))
  have lv4: ∀b,upd (upd (upd (upd H A.rd (DI CR A (s.at_+1))) p (.lst ((s.names.map (·.1)).map V.str))) A.rd (DI CR A (s.at_+1+1))) bx (.lst []) b=none->H b=none:=fun b e=>np1 (s2.free (wM (fun _ z=>z) R2.rd b (s4.free e)))
  have hbn:H bx=none:=np1 (s2.free (wM (fun _ z=>z) R2.rd bx hb))
  have ap:ZR A H bx:=⟨R.n1,R.n2,R.n3,R.n4,R.n5,R.n6,R.w1,R.w2,R.w3,Ne.symm (zK env hbn),Ne.symm (zK R.hd hbn),Ne.symm (zK R.bd hbn),Ne.symm (zK R.w.wd hbn),Ne.symm (by obtain⟨vs,e,_⟩:=R.cn;exact zK e hbn),hbn⟩
  have tp4:wV H (upd (upd (upd (upd H A.rd (DI CR A (s.at_+1))) p (.lst ((s.names.map (·.1)).map V.str))) A.rd (DI CR A (s.at_+1+1))) bx (.lst [])):=fun b xs e=>kb (fun z=>by rw[z,R.w.rd]at e;cases e) e
  have M:Np CR A H (upd (upd (upd (upd H A.rd (DI CR A (s.at_+1))) p (.lst ((s.names.map (·.1)).map V.str))) A.rd (DI CR A (s.at_+1+1))) bx (.lst [])) W num cnt bx [] (s.at_+2) nv s.heads s.bodies:=
   ⟨⟨s4 _ _ R3.rd,s4 _ _ R3.wd,R.w.ok⟩,kb (R.w.ne env) env,kb (R.w.ne R.hd) R.hd,kb (R.w.ne R.bd) R.bd,kb (fun z=>by have:=R.nu;rw[z,R.w.rd]at this;cases this) R.nu,R.cn.tups (fun xs e=>kb (R.w.ne e) e) tp4,zG,tp4,fun b o nb e=>kb (fun z=>nb (z▸IQ)) e,lv4⟩
  generalize upd (upd (upd (upd H A.rd (DI CR A (s.at_+1))) p (.lst ((s.names.map (·.1)).map V.str))) A.rd (DI CR A (s.at_+1+1))) bx (.lst [])=H4 at M
  clear s4 kb lv4 tp4 s2 R2 R3
  obtain⟨mo,emo⟩: ∃mo:Nat,mo=(if s.names=[]then 0 else 4):=⟨_,rfl⟩
  rw[<-emo]at q
  have hmo:mo<=4:=by rw[emo];split<;>(first|lia|omega)
  have em:(if(!nv.isEmpty)=true then V.int 4 else V.int 0)=V.int (mo:Int):=by
   cases en:s.names with
   |nil=>rw[en]at hnl emo;rw[List.eq_nil_of_length_eq_zero hnl,emo];rfl
   |cons a b=>
    rw[en]at hnl emo
    cases nv with
    |nil=>cases hnl
    |cons x y=>rw[emo];rfl
  refine⟨_,rfl,_,rfl,_,rfl,A.rd,CR,A.dr,_,_,rfl,M.w.rd,T.cls,T.f_names,rfl,_,.inl ⟨nv,.of M.nm,rfl⟩,A,W,s.at_+2,bx,[],mo,"with",by rw[em];rfl,M.w,M.box,ap.b4,yZ _,by(first|lia|omega),?_⟩
  cases e3:vO W mo "with" (W.length+1) (s.at_+2) []with
  |error n=>rw[e3]at q;exact M.fail q hbn
  |ok z=>
  rw[e3]at q
  dsimp only at q
  intro H5 k5 lv5 rd5 bx5
  have M5:=M.boxes ap k5 lv5 rd5 bx5
  obtain⟨zl,_,zg,zw⟩:=BX _ _ _ _ e3 (yZ _)
  have hf:=R.hfew
  have lh:(s.heads.map V.int).length =s.heads.length:=zD ..
  have lz:((z.2.map V.str).length:Int)=(z.2.length:Int):=by rw[zD]
  refine⟨_,rfl,A.rd,CR,A.dr,_,_,rfl,M5.w.rd,T.cls,T.f_heads,rfl,.inl ⟨rfl,_,.of M5.hd⟩,_,rfl,bx,_,rfl,.inl (.of M5.box),A.hd,_,_,rfl,rfl,M5.hd,Ak (by(first|lia|omega)),?_⟩
  rw[lz]
  have M6:=M5.heads ap (s.heads++[(z.2.length:Int)])
  rw[yA]at M6
  refine⟨_,rfl,_,rfl,A,W,z.1,bx,z.2,12,"is",rfl,M6.w,M6.box,ap.b4,by(first|lia|omega),by(first|lia|omega),?_⟩
  cases e4:vO W 12 "is" (W.length+1) z.1 z.2 with
  |error n=>rw[e4]at q;exact M6.fail q hbn
  |ok r=>
  rw[e4]at q
  dsimp only at q
  intro H7 k7 lv7 rd7 bx7
  have M7:=M6.boxes ap k7 lv7 rd7 bx7
  obtain⟨rl,_,rg,rw'⟩:=BX _ _ _ _ e4 (by(first|lia|omega))
  have lr:((r.2.map V.str).length:Int)=(r.2.length:Int):=by rw[zD]
  refine⟨_,rfl,A.rd,CR,A.dr,_,_,rfl,M7.w.rd,T.cls,T.f_heads,rfl,.inl ⟨rfl,_,.of M7.hd⟩,_,rfl,bx,_,rfl,.inl (.of M7.box),A.hd,_,_,rfl,rfl,M7.hd,Ak (by rw[zD,zC];show s.heads.length+1<=_;(first|lia|omega)),?_⟩
  rw[lr]
  have M8:=M7.heads ap (s.heads++[(z.2.length:Int)]++[(r.2.length:Int)])
  rw[yA]at M8
  refine⟨_,rfl,A.rd,CR,A.dr,_,_,rfl,M8.w.rd,T.cls,T.f_names,rfl,.inl ⟨rfl,_,.of M8.nm⟩,_,rfl,_,rfl,bx,_,rfl,.inl ⟨.of M8.box,fun bt hbt=>⟨sm2,fun t ht=>?_⟩⟩⟩
  have sa:=zV hbt (.tup (r.2.map V.str))
  have sb:=zV ht (.tup [.str name,.ref bt])
  have M9:=M8.same (sa.trans sb)
  have et9:=(show upd (upd (upd H7 A.hd (.lst ((s.heads++[(z.2.length:Int)]).map V.int++[V.int (r.2.length:Int)]))) bt (.tup (r.2.map V.str))) t (.tup [.str name,.ref bt]) t=some (.tup [.str name,.ref bt])from zG)
  have eb9:=sb _ _ (show upd (upd H7 A.hd (.lst ((s.heads++[(z.2.length:Int)]).map V.int++[V.int (r.2.length:Int)]))) bt (.tup (r.2.map V.str)) bt=some (.tup (r.2.map V.str))from zG)
  have M9':Np CR A H _ W num cnt bx r.2 r.1 nv (s.heads++[(z.2.length:Int)]++[(r.2.length:Int)]) s.bodies:=M9
  refine⟨A.nm,_,_,rfl,rfl,M9.nm,Ak (by(first|lia|omega)),?_⟩
  have M10:=M9.named ap (nv++[.ref t])
  have tp10: ∀{b:Addr} {xs:List V},upd (upd (upd H7 A.hd (.lst ((s.heads++[(z.2.length:Int)]).map V.int++[V.int (r.2.length:Int)]))) bt (.tup (r.2.map V.str))) t (.tup [.str name,.ref bt]) b=some (.tup xs)->upd (upd (upd (upd H7 A.hd (.lst ((s.heads++[(z.2.length:Int)]).map V.int++[V.int (r.2.length:Int)]))) bt (.tup (r.2.map V.str))) t (.tup [.str name,.ref bt])) A.nm (.lst (nv++[.ref t])) b=some (.tup xs):=fun{b xs} e=>by
   rw[zQ (fun z=>by rw[z,M9.nm]at e;cases e)];exact e
  have et10:=tp10 et9
  have eb10:=tp10 eb9
  generalize upd (upd (upd (upd H7 A.hd (.lst ((s.heads++[(z.2.length:Int)]).map V.int++[V.int (r.2.length:Int)]))) bt (.tup (r.2.map V.str))) t (.tup [.str name,.ref bt])) A.nm (.lst (nv++[.ref t]))=H10 at *
  have fw:=R.few
  refine⟨_,rfl,_,rfl,A,bx,W,r.2,num,cnt,r.1,s.bodies,rfl,by(first|lia|omega),M10.nd ap (by(first|lia|omega)) (by(first|lia|omega)),nok,?_⟩
  cases e5:Bs W num cnt r.2 10 r.1 s.bodies with
  |error n=>
   rw[e5]at q
   exact(qU.mono q M10.keep).sub (fun y hy=>by
    rcases List.mem_cons.mp hy with z|z
    ·exact z▸IQ
    ·exact(List.mem_singleton.mp z)▸Vo)
  |ok y=>
  rw[e5]at q
  dsimp only at q
  intro H11 k11 lv11 N11
  have tp11:wV H10 H11:=fun b xs e=>k11 b _ (fun z=>by
   rcases List.mem_cons.mp z with z|z
   ·rw[z,M10.w.rd]at e;cases e
   ·rw[List.mem_singleton.mp z,M10.bd]at e;cases e) e
  have ls11: ∀{b:Addr} {xs:List V},b≠A.bd->H10 b=some (.lst xs)->H11 b=some (.lst xs):=fun{b xs} n e=>k11 b _ (fun z=>by
   rcases List.mem_cons.mp z with z|z
   ·exact M10.w.ne e z
   ·exact n (List.mem_singleton.mp z)) e
  refine q H11 (M10.keep.trans (fun b o nb e=>k11 b o (fun z=>by
    rcases List.mem_cons.mp z with z|z
    ·exact nb (z▸IQ)
    ·exact nb ((List.mem_singleton.mp z)▸Vo)) e)) (fun b e=>M10.live b (lv11 b e))
   ⟨N11.w,⟨_,ls11 ap.n2 M10.nm,qG (Paired.imp (fun v p z=>BY.tups (BY.tups z M10.tup) tp11) pnv) ⟨t,bt,rfl,tp11 _ _ et10,tp11 _ _ eb10⟩⟩,?_,N11.bd,N11.nu,N11.cn,R.n1,R.n2,R.n3,R.n4,R.n5,R.n6,R.w1,R.w2,R.w3,N11.le,N11.few,?_,?_⟩
  ·have:=ls11 ap.n3 M10.hd
   rw[yP]at this
   exact this
  ·show(s.heads++_).length =2*(s.names++_).length
   rw[zC,zC]
   show s.heads.length+2=2*(s.names.length+1)
   (first|lia|omega)
  ·show(s.names++_).length<=16
   rw[zC]
   show s.names.length+1<=16
   (first|lia|omega)
 ·rw[zW (.inl cx)]at q
  rw[yJ cx]
  exact AX ⟨_,rfl,A.rd,CR,A.dr,_,_,rfl,R.w.rd,T.cls,T.f_at,rfl,sm1,uY (qU.one q)⟩

end
section
variable {P:Program}{w:World}{K:PySem.W.Frag}{mg:Str->Option Value}{base:Heap}{f:Addr}{fd:FuncData}{aP aW aH CT CR CL CN:Addr}
set_option maxHeartbeats 4000000

theorem LD {x:Str}{f:Int}{n:Str}{g:Int}: ∀{acc:List (Str×Int)},wE (acc++[(n,g)]) x=some f->wE acc x=some f\/f=g
 |[],h=>by
  simp only[jM,wE]at h
  split at h
  ·cases h;exact .inr rfl
  ·cases h
 |p::r,h=>by
  rw[qH]at h
  unfold wE at h ⊢
  split at h
  ·rename_i c;rw[zW c];exact .inl h
  ·rename_i c;rw[zL c];exact LD h
theorem Hr: ∀(l:List Str) (g:Int) (acc:List (Str×Int)) (n:Nat) (x:Str) (f:Int),wE (Hs l g acc) x=some f->wE acc x=some f\/g<=f/\f<g+((CB l n).2.length:Int)
 |[],g,acc,n,x,f,h=>.inl h
 |w::r,g,acc,n,x,f,h=>by
  unfold Hs at h
  unfold CB
  dsimp only
  split at h
  ·rename_i c
   rw[zW c,zJ]
   have ih:=Hr r (g+1) _ (n+1) x f h
   rcases ih with ih|ih
   ·split at ih
    ·exact .inl ih
    ·split at ih
     ·exact .inl ih
     ·rcases LD ih with z|z
      ·exact .inl z
      ·exact .inr ⟨by(first|lia|omega),by(first|lia|omega)⟩
   ·exact .inr ⟨by(first|lia|omega),by(first|lia|omega)⟩
  ·rename_i c
   rw[zL c]
   exact Hr r g acc (n+1) x f h
theorem Ma: ∀(l:List Str) (n:Nat),(n:Int)<=(CB l n).1/\(CB l n).1<=n+l.length/\ ∀c∈(CB l n).2,-2<=c/\c<=n+l.length
 |[],n=>⟨Int.le_refl _,by show(n:Int)<=n+((0:Nat):Int);(first|lia|omega),fun c h=>by cases h⟩
 |w::r,n=>by
  obtain⟨i1,i2,i3⟩:=Ma r (n+1)
  have e1:(n:Int)<=(CB (w::r) n).1/\(CB (w::r) n).1<=n+(w::r).length:=by
   unfold CB
   dsimp only
   rw[zJ]
   split<;>(first|lia|omega)
  refine⟨e1.1,e1.2,fun c hc=>?_⟩
  have e2:=e1
  unfold CB at hc e2
  dsimp only at hc e2
  rw[zJ]at e2 ⊢
  split at hc
  ·rcases List.mem_cons.mp hc with z|z
   ·(first|lia|omega)
   ·have:=i3 c z;(first|lia|omega)
  ·have:=i3 c hc;(first|lia|omega)
theorem XV {W:List Str}(h:W.length<=1000000):Qt (Ft W) (EF W):=by
 refine⟨fun x f e=>?_,fun c hc=>?_⟩
 ·rcases Hr W 0 [] 0 x f e with z|⟨z1,z2⟩
  ·cases z
  ·unfold EF;(first|lia|omega)
 ·have:=(Ma W 0).2.2 c hc
  (first|lia|omega)
theorem Sw {W:List Str}{num:List (Str×Int)}{cnt:List Int}{s s':RS}(h:KY W num cnt s=.ok s'):s.at_<s'.at_:=by
 unfold KY at h
 split at h
 ·cases h
 split at h
 ·cases h
 split at h
 ·cases h
 split at h
 ·cases h
 rename_i q e2
 split at h
 ·cases h
 rename_i r e3
 split at h
 ·cases h
 rename_i z e4
 cases h
 obtain⟨_,_,g1,g2⟩:=BX _ _ _ _ e2 (yZ _)
 obtain⟨_,_,g3,g4⟩:=BX _ _ _ _ e3 (yO (BX _ _ _ _ e2 (yZ _)).1 (by split<;>(first|lia|omega)))
 have:=LA 10 r.1 s.bodies z g4 e4
 show s.at_<z.1
 (first|lia|omega)
structure Vs (t:Str):Prop where
 len:t.length<=1000000
 rep:(Txt.replace t "\n" " ").length<=1000000
 spl:(Txt.split (Txt.replace t "\n" " ") " ").length<=2000000
 ok:WOk (wordsT t)
def Yp (H':Hp)(p sp:Addr)(s:RS):Prop:= ∃np vs,H' p=some (.tup [.ref np,.ref sp])/\H' np=some (.tup vs)/\Paired (BY H') vs s.names/\H' sp=some (.lst ((MF s).map V.int))
inductive Mr (CT:Addr) (vs:List V) (H:Hp) (Q:VK) (E:XK):Prop
 |mk (t:Str) (h0:vs=[.str t]) (h1:Vs t) (h2:IX (fun s=> ∀p sp H',wG H H'->Yp H' p sp s->H sp=none->Q (.ref p) H') (fun n=>CC CT H E (n:Int)) (QI (wordsT t))):Mr CT vs H Q E
theorem Uf (T:Txt K mg aP aW aH CT CR)(F:vW K "read_text" "read_text" FW f fd)(CNoText:EK P w K mg base 1 "NoText" CT ["self","at"] (vY CT))(Cwords_of:vV P w K mg base (jX P w) 1 "words_of" ["text"] Ip)
  (CReading:VC P w K mg base (jX P w) 2 "Reading" CR ["self","words"] (Mz CR)) (Cread_function:vV P w K mg base (jX P w) 18 "read_function" ["reading"] (Po CR CT)):jV P w K mg base (jX P w) 19 f fd ["text"] (Mr CT):=by
 refine F.okX HK (fun vs H Q E h=>?_) (fun cdv Ar outer s0 H vs Q E hr h=>?_)
 ·obtain⟨t,rfl,_⟩:=h
  rfl
 obtain⟨t,rfl,ok,q⟩:=h
 refine⟨_,(zF (jB (Ai (uB (xR Al rfl T.n_isinstance kX (zA (pv 0) (zA (Bq (v:=.ty "str") rfl T.n_str KG rfl) zH))))) (zU (qQ CNoText hr rfl (zA zX zH))) yV)
   (zF (yT (i:=1) HK.nd rfl (Or.inl rfl) (NY CReading hr rfl (zA (yF Cwords_of hr rfl (zA (pv 0) zH) kG) zH) kG))
   (zF (xV (yF Cread_function hr rfl (zA (pv 1) zH) kG))
   (zF (HP (Gw rfl rfl) (yL GS (jT (pv 1) rfl) (xR xJ rfl T.n_len qJ (zA (jT (pv 1) rfl) zH)) (yY _)) (zU (xV (yF Cread_function hr rfl (zA (pv 1) zH) kG))))
   (zU (yU (qD (zA (kR vN rfl T.n_tuple Am (zA (jT (pv 1) rfl) zH)) (zA (xS BT (xS BT (jN (zA (xR xJ rfl T.n_len qJ (zA (jT (pv 1) rfl) zH)) zH)) (jT (pv 1) rfl)) (jT (pv 1) rfl)) zH))))))))),?_⟩
 try dsimp only[Cx.nox,Cx.exc,Cx.wish,jC]
 refine⟨_,rfl,.inl ⟨_,_,_,true,rfl,.str t,T.kstr,_,rfl,Bi ?_⟩⟩
 refine⟨_,rfl,t,rfl,ok.len,ok.rep,ok.spl,fun wd H1 hwd s1 e1=>?_⟩
 have hW:=ok.ok
 generalize wordsT t=W at *
 intro rd dr h1 h2 h3
 have nd:wd≠dr:=zK e1 h2
 have nr:wd≠rd:=zK e1 h1
 refine⟨rd,dr,wd,W,rfl,zG,by rw[zQ nr,zQ nd];exact e1,hW.few,fun A H2 er ed ew M=>⟨rfl,?_⟩⟩
 subst er ed ew
 have sH:wG H H2:=fun b o e=>by
  have e':=s1 _ _ e
  have n:b≠A.rd:=zK e' h1
  exact M.keep _ _ n (by rw[zQ n,zQ (zK e' h2)];exact e')
 have wd2:H2 A.wd=some (.lst (W.map V.str)):=M.keep _ _ nr (by rw[zQ nr,zQ nd];exact e1)
 have free: ∀{b:Addr},upd (upd H1 A.dr (.own A.rd)) A.rd (.ins CR A.dr []) b=none->b≠A.wd/\H b=none:=fun{b} e=>by
  have n1:b≠A.rd:=fun z=>by rw[z,zG]at e;cases e
  rw[zQ n1]at e
  have n2:b≠A.dr:=fun z=>by rw[z,zG]at e;cases e
  rw[zQ n2]at e
  exact⟨(fun z=>by rw[z,e1]at e;cases e),s1.free e⟩
 have nok:=XV hW.few
 have R0:FnR CR A H2 W (Ft W) (EF W) ⟨0,[],[],[]⟩:=⟨⟨M.rd,wd2,hW⟩,⟨[],M.nm,.nil⟩,M.hd,M.bd,M.nu,M.cn,M.n1,M.n2,M.n3,M.n4,M.n5,M.n6,Ne.symm (free M.f1).1,Ne.symm (free M.f2).1,Ne.symm (free M.f3).1,yZ _,zS _,rfl,yZ _⟩
 have nc: ∀x∈SO A,H x=none:=fun x hx=>by
  rcases List.mem_cons.mp hx with z|hx
  ·rw[z];exact s1.free h1
  rcases List.mem_cons.mp hx with z|hx
  ·rw[z];exact(free M.f3).2
  rcases List.mem_cons.mp hx with z|hx
  ·rw[z];exact(free M.f1).2
  ·rw[List.mem_singleton.mp hx];exact(free M.f2).2
 have sK: ∀{G:Hp},jG (SO A) H2 G->wG H G:=fun k b o e=>k b o (fun z=>by rw[nc b z]at e;cases e) (sH _ _ e)
 have fl: ∀{n:Nat},CC CT H E (n:Int)->qU CT (SO A) H2 E n:=fun f d H' g e=>f d H' (sK g) e
 unfold QI at q
 refine⟨_,rfl,A,W,Ft W,EF W,_,rfl,R0,nok,?_⟩
 cases e2:KY W (Ft W) (EF W) ⟨0,[],[],[]⟩with
 |error n=>rw[e2]at q;exact fl q
 |ok s=>
 rw[e2]at q
 dsimp only at q
 intro H3 k3 lv3 R3
 generalize er:GW W (Ft W) (EF W) W.length s=res at q
 refine⟨fun m σ' H'=> ∃s',σ'=[some (.str t),some (.ref A.rd)]/\jG (SO A) H2 H'/\FnR CR A H' W (Ft W) (EF W) s'/\GW W (Ft W) (EF W) m s'=res/\W.length<=s'.at_+m,⟨W.length,s,rfl,k3,R3,er,Nat.le_add_left _ _⟩,?_⟩
 rintro m σ' H' ⟨s',rfl,k',R',em,hm⟩
 have lW:((W.map V.str).length:Int)=(W.length:Int):=by rw[zD]
 refine⟨_,rfl,A.rd,CR,A.dr,_,_,rfl,R'.w.rd,T.cls,T.f_at,rfl,_,rfl,A.rd,CR,A.dr,_,_,rfl,R'.w.rd,T.cls,T.f_words,rfl,A.wd,_,rfl,.inl (.of R'.w.wd),_,_,rfl,rfl,_,rfl,kI (fun c=>?_) (fun c=>?_)⟩
 ·have c':=yB c
  obtain⟨m,rfl⟩: ∃m',m=m'+1:=⟨m-1,by(first|lia|omega)⟩
  unfold GW at em
  rw[zW (by(first|lia|omega))]at em
  refine⟨_,fun σ2 H2 z=>z,?_⟩
  refine⟨_,rfl,A,W,Ft W,EF W,s',rfl,R',nok,?_⟩
  cases e3:KY W (Ft W) (EF W) s' with
  |error n=>
   rw[e3]at em
   rw[<-em]at q
   exact qU.mono (fl q) k'
  |ok s2=>
   rw[e3]at em
   dsimp only at em
   have:=Sw e3
   exact fun H4 k4 lv4 R4=>⟨m,wR m,s2,rfl,k'.trans k4,R4,em,by(first|lia|omega)⟩
 ·have c':=df c
  have ee:res=.ok s':=by
   rw[<-em]
   cases m with
   |zero=>rfl
   |succ m=>unfold GW;rw[zL (by(first|lia|omega))]
  rw[ee]at q
  obtain⟨nv,env,pnv⟩:=R'.nm
  have hnl:=Paired.len pnv
  have nf:=R'.nfew
  have hf:=R'.hfew
  have bf:=R'.few
  have le:=R'.le
  have wf:=hW.few
  refine⟨_,rfl,A.rd,CR,A.dr,_,_,rfl,R'.w.rd,T.cls,T.f_names,rfl,A.nm,nv,rfl,.inl ⟨.of env,fun np hnp=>?_⟩⟩
  have g1:=zV hnp (.tup nv)
  refine⟨_,rfl,A.rd,CR,A.dr,_,_,rfl,g1 _ _ R'.w.rd,T.cls,T.f_names,rfl,A.nm,_,rfl,.inl (.of (g1 _ _ env)),sm1,fun l0 h0=>?_⟩
  have g2:=g1.trans (zV h0 (.lst [.int (nv.length:Int)]))
  refine⟨_,rfl,A.rd,CR,A.dr,_,_,rfl,g2 _ _ R'.w.rd,T.cls,T.f_heads,rfl,l0,A.hd,_,_,rfl,rfl,zG,g2 _ _ R'.hd,Ac (by rw[zD];show 1+_<=_;(first|lia|omega)),fun l1 h1=>?_⟩
  have g3:=g2.trans (zV h1 (.lst ([.int (nv.length:Int)]++s'.heads.map V.int)))
  refine⟨_,rfl,A.rd,CR,A.dr,_,_,rfl,g3 _ _ R'.w.rd,T.cls,T.f_bodies,rfl,l1,A.bd,_,_,rfl,rfl,zG,g3 _ _ R'.bd,Ac (by rw[zC,zD,zD];show 1+_+_<=_;(first|lia|omega)),fun l2 h2=>⟨sm2,fun p hp=>?_⟩⟩
  have ZZ:=zV h2 (.lst ([.int (nv.length:Int)]++s'.heads.map V.int++s'.bodies.map V.int))
  have g4:=g3.trans ZZ
  have YV:=zV hp (.tup [.ref np,.ref l2])
  have g5:=g4.trans YV
  have lv2:H l2=none:=(sK k').free (g3.free h2)
  have enp:upd H' np (.tup nv) np=some (.tup nv):=zG
  refine q p l2 _ ((sK k').trans g5) ⟨np,nv,zG,?_,Paired.imp (fun v x z=>BY.tups z fun b xs e=>g5 _ _ e) pnv,?_⟩ lv2
  ·exact YV _ _ (ZZ _ _ ((zV h1 _) _ _ ((zV h0 _) _ _ enp)))
  ·rw[YV _ _ zG]
   unfold MF
   rw[yK,yA,<-hnl]
   rfl

end
section
variable {P:Program}{w:World}{K:PySem.W.Frag}{mg:Str->Option Value}{base:Heap}{f:Addr}{fd:FuncData}{aP aW aH CT CR CL CN:Addr}
set_option maxHeartbeats 4000000

theorem Um (T:Ik K mg aP CL CN)(F:vW K "__init__" "NoSheet.__init__" AV f fd):jV P w K mg base (jX P w) 1 f fd ["self","place","word"] (DL CN):=by
 refine F.okN GI (fun vs H Q E h=>?_) (fun cdv A outer s H vs Q E hr h=>?_)
 ·obtain⟨x,y,z,rfl,_⟩:=h
  rfl
 obtain⟨x,y,z,rfl,hx,q⟩:=h
 refine⟨_,(zF (MJ (pv 0) (pv 1))
   (zU (MJ (pv 0) (pv 2)))),?_⟩
 try dsimp only[Cx.nox,Cx.exc,Cx.wish,jC]
 refine⟨_,rfl,_,rfl,x,CN,none,rfl,hx,T.exc,T.xplace,.inl ⟨rfl,fun d hd=>?_⟩⟩
 have nd:d≠x:=fun e=>by rw[e,hx]at hd;cases hd
 refine⟨_,rfl,_,rfl,x,CN,some d,rfl,zG,T.exc,T.xword,.inr ⟨d,[("place",y)],rfl,by rw[zQ nd];exact zG,(show 1<1000 by decide),?_⟩⟩
 refine q d _ nd hd (fun b o nb e=>?_) ?_ zG
 ·rw[zQ (zK e hd),zQ nb,zQ (zK e hd)];exact e
 ·rw[zQ (Ne.symm nd)];exact zG
theorem Up (T:Ik K mg aP CL CN)(F:vW K "__init__" "Look.__init__" Cz f fd):jV P w K mg base (jX P w) 1 f fd ["self","numbers"] (MA CL):=by
 refine F.okN Ix (fun vs H Q E h=>?_) (fun cdv A outer s H vs Q E hr h=>?_)
 ·obtain⟨x,dx,a,rfl,_⟩:=h
  rfl
 obtain⟨x,dx,a,rfl,hx,q⟩:=h
 refine⟨_,(zF (Fm (pv 0) (pv 1) rfl)
   (zU (Fm (pv 0) zX rfl))),?_⟩
 try dsimp only[Cx.nox,Cx.exc,Cx.wish,jC]
 refine⟨_,rfl,_,rfl,x,CL,dx,_,rfl,hx,T.look,T.lnum,(show 0<1000 by decide),?_⟩
 refine⟨_,rfl,x,CL,dx,_,rfl,zG,T.look,T.lplace,(show 1<1000 by decide),?_⟩
 refine q _ (fun b o nb e=>?_) zG
 rw[zQ nb,zQ nb];exact e
theorem Ue (T:Ik K mg aP CL CN)(F:vW K "is_whole" "is_whole" Hl f fd):jV P w K mg base (jX P w) 1 f fd ["thing"] Mq:=by
 refine F.okN NK (fun vs H Q E h=>?_) (fun cdv A outer s H vs Q E hr h=>?_)
 ·obtain⟨i,rfl,_⟩:=h
  rfl
 obtain⟨i,rfl,q⟩:=h
 refine⟨_,(zU (yU (MN (xR Al rfl T.n_isinstance kX (zA (pv 0) (zA (Bq (v:=.ty "int") rfl T.n_int IS rfl) zH))) (Kd (TQ (xR Al rfl T.n_isinstance kX (zA (pv 0) (zA (Bq (v:=.ty "bool") rfl T.n_bool Ru rfl) zH)))))))),?_⟩
 try dsimp only[Cx.nox,Cx.exc,Cx.wish,jC]
 refine⟨_,rfl,.inl ⟨_,_,_,true,rfl,.int i,T.kint,_,rfl,AX ?_⟩⟩
 exact⟨_,rfl,.inl ⟨_,_,_,false,rfl,.int i,T.kbool,_,rfl,q⟩⟩
theorem Zh (T:Ik K mg aP CL CN)(F:vW K "take" "Look.take" Ga f fd)(Cis_whole:vV P w K mg base (jX P w) 1 "is_whole" ["thing"] Mq)(CNoSheet:EK P w K mg base 1 "NoSheet" CN ["self","place","word"] (DL CN)):
  jV P w K mg base (jX P w) 3 f fd ["self"] (VJ CL CN):=by
 refine F.okX HM (fun vs H Q E h=>?_) (fun cdv A outer s H vs Q E hr h=>?_)
 ·obtain⟨lk,dx,a,p,ns,rfl,_⟩:=h
  rfl
 obtain⟨lk,dx,a,p,ns,rfl,⟨hl,ha⟩,t1,t2⟩:=h
 refine⟨_,(zF (jB (yL Uc (jT (pv 0) rfl) (xR xJ rfl T.n_len qJ (zA (jT (pv 0) rfl) zH)) (yY _)) (zU (qQ CNoSheet hr rfl (zA (jT (pv 0) rfl) (zA kQ zH)))) yV)
   (zF (yT (i:=1) HM.nd rfl (Or.inl rfl) (xZ jH (jT (pv 0) rfl) (jT (pv 0) rfl) (fun _ _=>rfl)))
   (zF (jB (Ai (uB (yF Cis_whole hr rfl (zA (pv 1) zH) kG))) (zU (qQ CNoSheet hr rfl (zA (jT (pv 0) rfl) (zA kQ zH)))) yV)
   (zF (Be (pv 0) zX Gg)
   (zU (yU (pv 1))))))),?_⟩
 try dsimp only[Cx.nox,Cx.exc,Cx.wish,jC]
 refine⟨_,rfl,lk,CL,dx,_,_,rfl,hl,T.look,T.lplace,rfl,_,rfl,lk,CL,dx,_,_,rfl,hl,T.look,T.lnum,rfl,a,_,rfl,.inl (.of ha),_,_,rfl,rfl,_,rfl,?_⟩
 have hz:(ns.map V.int).length =ns.length:=zD ..
 refine kI (fun c=>?_) (fun c=>?_)
 ·have c':=yB c
  have e:GN ns p=.error (p,"end"):=by
   unfold GN
   rw[jS (by(first|lia|omega))]
  exact⟨_,rfl,lk,CL,dx,_,_,rfl,hl,T.look,T.lplace,rfl,sm2,JZ (t2 _ _ e) (kJ.refl _ _)⟩
 ·have hp:p<ns.length:=by
   refine Nat.lt_of_not_le fun z=>c (yE ?_)
   (first|lia|omega)
  have ep:ns[p]? =some ns[p]:=zB hp
  generalize ns[p]=n at ep
  have at_:Fz (ns.map V.int) (p:Int)=some (.int n):=By (by rw[zN,ep];rfl)
  have e:GN ns p=.ok n:=by unfold GN;rw[ep]
  refine⟨_,rfl,lk,CL,dx,_,_,rfl,hl,T.look,T.lnum,rfl,_,rfl,lk,CL,dx,_,_,rfl,hl,T.look,T.lplace,rfl,a,_,_,_,rfl,rfl,.of ha,at_,?_⟩
  refine⟨_,rfl,n,rfl,_,rfl,Bi ?_⟩
  refine⟨_,rfl,lk,CL,dx,_,_,rfl,hl,T.look,T.lplace,rfl,_,_,rfl,rfl,dx,_,hl,(show 2<1000 by decide),?_⟩
  exact⟨_,rfl,t1 n e⟩
theorem RW (T:Ik K mg aP CL CN)(F:vW K "take_within" "Look.take_within" AW f fd)(Mtake:Ld P w K mg base (jX P w) 3 CL "take" ["self"] (VJ CL CN))(CNoSheet:EK P w K mg base 1 "NoSheet" CN ["self","place","word"] (DL CN)):
  jV P w K mg base (jX P w) 4 f fd ["self","least","most"] (Es CL CN):=by
 refine F.okX AE (fun vs H Q E h=>?_) (fun cdv A outer s H vs Q E hr h=>?_)
 ·obtain⟨lk,dx,a,p,ns,lo,hi,rfl,_⟩:=h
  rfl
 obtain⟨lk,dx,a,p,ns,lo,hi,rfl,⟨hl,ha⟩,t1,t2⟩:=h
 refine⟨_,(zF (yT (i:=3) AE.nd rfl (Or.inl rfl) (jT (pv 0) rfl))
   (zF (yT (i:=4) AE.nd rfl (Or.inl rfl) (Lp (pv 0) Mtake hr kG))
   (zF (jB (PW.pt (uZ (yL GS (pv 4) (pv 1) (yY _)) (uA (yL GU (pv 4) (pv 2) (yY _))))) (zU (qQ CNoSheet hr rfl (zA (pv 3) (zA kQ zH)))) yV)
   (zU (yU (pv 4)))))),?_⟩
 try dsimp only[Cx.nox,Cx.exc,Cx.wish,jC]
 refine⟨_,rfl,lk,CL,dx,_,_,rfl,hl,T.look,T.lplace,rfl,?_⟩
 refine⟨_,rfl,lk,dx,_,rfl,hl,rfl,lk,dx,a,p,ns,rfl,⟨hl,ha⟩,fun n e=>?_,fun pl wd e=>?_⟩
 ·have ep:ns[p]? =some n:=by
   unfold GN at e
   cases q:ns[p]? with
   |none=>rw[q]at e;cases e
   |some m=>rw[q]at e;cases e;rfl
  have bad:n<lo\/hi<n->qI ns p lo hi=.error (p,"range"):=fun c=>by unfold qI;rw[ep];exact zW c
  have k1:kJ lk H (upd H lk (Ao CL dx a (p+1))):=kJ.upd
  refine⟨_,rfl,_,rfl,_,_,rfl,rfl,_,rfl,kI (fun c=>?_) (fun c=>?_)⟩
  ·exact AX ⟨_,rfl,sm2,JZ (t2 _ _ (bad (.inl (yB c)))) k1⟩
  ·refine⟨_,rfl,_,rfl,_,_,rfl,rfl,_,rfl,kI (fun c2=>?_) (fun c2=>?_)⟩
   ·exact⟨_,rfl,sm2,JZ (t2 _ _ (bad (.inr (yB c2)))) k1⟩
   ·refine⟨_,rfl,t1 n ?_⟩
    unfold qI;rw[ep]
    exact zL (fun z=>z.elim (fun z=>c (yE z)) fun z=>c2 (yE z))
 ·refine t2 pl wd ?_
  unfold GN at e
  unfold qI
  cases q:ns[p]? with
  |none=>rw[q]at e;exact e
  |some m=>rw[q]at e;cases e
def Vw (lk hd dx a:Addr)(H:Hp)(ns:List Int)(n:Int)(i:Nat)(σ':St)(H':Hp):Prop:= ∃(done:Ct) (rs:List V) (most:Int) (v3 v4:Option V),σ'=[some (.ref lk),some (.ref hd),some (.int most),v3,v4]/\most<=4/\done.length=i/\kJ lk H H'/\
   H' lk=some (Ao CL dx a (1+2*i))/\H' hd=some (.lst rs)/\Paired (IV H') rs done/\AF ns n.toNat 0 1=WU done (AF ns (n.toNat-i) most (1+2*i))
theorem Ur (T:Ik K mg aP CL CN)(F:vW K "take_heads" "take_heads" Ff f fd)(Mtake_within:Ld P w K mg base (jX P w) 4 CL "take_within" ["self","least","most"] (Es CL CN)):
  jV P w K mg base (jX P w) 5 f fd ["look"] (MB CL CN):=by
 refine F.okX uP (fun vs H Q E h=>?_) (fun cdv A outer s H vs Q E hr h=>?_)
 ·obtain⟨lk,dx,a,ns,rfl,_⟩:=h
  rfl
 obtain⟨lk,dx,a,ns,rfl,⟨hl,ha⟩,t1,t2⟩:=h
 refine⟨_,(zF (yT (i:=1) uP.nd rfl (Or.inl rfl) (jN zH))
   (zF (yT (i:=2) uP.nd rfl (Or.inl rfl) zX)
   (zF (vE (Gw rfl rfl) rfl (uQ rfl T.n_range (zA (Cj (pv 0) Mtake_within hr (zA zX (zA (xH rfl T.m_MOST_FUNCTIONS) zH)) kG) zH)) (xG (i:=3) uP.nd rfl (Or.inl rfl)) (zF (yT (i:=4) uP.nd rfl (Or.inl rfl) (Cj (pv 0) Mtake_within hr (zA zX (zA (pv 2) zH)) kG))
   (zF (xV (kK zO zZ zY xY (pv 1) (zA (qD (zA (pv 4) (zA (Cj (pv 0) Mtake_within hr (zA (pv 4) (zA (xH rfl T.m_MOST_BOXES) zH)) kG) zH))) zH)))
   (zU (yT (i:=2) uP.nd rfl (Or.inl rfl) (xH rfl T.m_MOST_PARAMS))))))
   (zU (yU (pv 1)))))),?_⟩
 try dsimp only[Cx.nox,Cx.exc,Cx.wish,jC]
 refine⟨sm0,fun hd hhd=>?_⟩
 have nlh:lk≠hd:=zK hl hhd
 have k1:kJ lk H (upd H hd (.lst [])):=kJ.new _ hhd
 have l1:Looks CL (upd H hd (.lst [])) lk dx a 0 ns:=Looks.go ⟨hl,ha⟩ k1 (by rw[zQ nlh];exact hl)
 refine⟨_,rfl,lk,dx,_,rfl,l1.1,rfl,lk,dx,a,0,ns,1,16,rfl,l1,fun n e=>?_,fun p wd e=>?_⟩
 ·obtain⟨_,n1,n16⟩:=AT e
  have eh:Az ns=AF ns n.toNat 0 1:=by unfold Az;rw[e]
  refine⟨n,rfl,by(first|lia|omega),by(first|lia|omega),uR (lo:=0) (n:=n.toNat) (Vw (CL:=CL) lk hd dx a H ns n) ⟨[],[],0,_,_,rfl,by decide,rfl,k1.trans kJ.upd,zG,?_,.nil,(Ss _).symm⟩ ?_ ?_⟩
  ·rw[zQ (Ne.symm nlh)];exact zG
  ·rintro i σ' H' hi ⟨done,rs,most,v3,v4,rfl,hm,hn,kp,el,eh',pr,eq⟩
   obtain⟨m,em⟩: ∃m,n.toNat-i=m+1:=⟨n.toNat-i-1,by(first|lia|omega)⟩
   have L1:Looks CL H' lk dx a (1+2*i) ns:=Looks.go ⟨hl,ha⟩ kp el
   refine⟨_,rfl,lk,dx,_,rfl,el,rfl,_,rfl,lk,dx,a,_,ns,0,most,rfl,L1,fun x ex=>?_,fun p wd ex=>?_⟩
   ·have L2':Looks CL (upd H' lk (Ao CL dx a (1+2*i+1))) lk dx a (1+2*i+1) ns:=L1.go kJ.upd zG
    have eh2:(upd H' lk (Ao CL dx a (1+2*i+1))) hd=some (.lst rs):=by rw[zQ (Ne.symm nlh)];exact eh'
    refine⟨_,rfl,.inl ⟨rfl,_,.of eh2⟩,_,rfl,_,rfl,lk,dx,_,rfl,zG,rfl,_,rfl,lk,dx,a,_,ns,x,12,rfl,L2',fun y ey=>?_,fun p wd ey=>?_⟩
    ·refine⟨sm2,fun q hq=>?_⟩
     generalize hH2:upd (upd H' lk (Ao CL dx a (1+2*i+1))) lk (Ao CL dx a (1+2*i+1+1))=H2 at hq
     have k2:kJ lk H' H2:=by rw[<-hH2];exact kJ.trans kJ.upd kJ.upd
     have e2:H2 lk=some (Ao CL dx a (1+2*i+1+1)):=by rw[<-hH2];exact zG
     have h2:H2 hd=some (.lst rs):=k2 hd _ (Ne.symm nlh) eh'
     have nq:hd≠q:=zK h2 hq
     have ql:lk≠q:=zK e2 hq
     have h3:upd H2 q (.tup [.int x,.int y]) hd=some (.lst rs):=by rw[zQ nq];exact h2
     have len:rs.length<=16:=by have:=Paired.len pr;(first|lia|omega)
     refine⟨hd,rs,_,rfl,rfl,h3,qY (by(first|lia|omega)),?_⟩
     have tp:wV H' (upd (upd H2 q (.tup [.int x,.int y])) hd (.lst (rs++[.ref q]))):=.trans (.keep el k2) (.trans (.new hq) (.upd h3))
     refine⟨done++[(x,y)],_,4,_,_,rfl,by decide,by simp[hn],(kp.trans (k2.trans (kJ.new _ hq))).fresh hhd,?_,zG,qG (Paired.imp (fun _ _ z=>z.tups tp) pr) ⟨q,rfl,?_⟩,?_⟩
     ·rw[zQ nlh,zQ ql];exact e2
     ·rw[zQ (Ne.symm nq)];exact zG
     ·rw[eq,em,show n.toNat-(i+1)=m by(first|lia|omega),show 1+2*(i+1)=1+2*i+2 by(first|lia|omega)]
      conv=>lhs;unfold AF
      rw[ex];simp only;rw[ey];simp only
      cases AF ns m 4 (1+2*i+2)with
      |error b=>rfl
      |ok r=>show Except.ok _=Except.ok _;rw[yP];rfl
    ·refine(t2 p wd ?_).keep (kp.trans kJ.upd)
     rw[eh,eq,em]
     unfold AF
     rw[ex];simp only;rw[ey];rfl
   ·refine(t2 p wd ?_).keep kp
    rw[eh,eq,em]
    unfold AF
    rw[ex];rfl
  ·rintro σ' H' ⟨done,rs,most,v3,v4,rfl,hm,hn,kp,el,eh',pr,eq⟩
   refine⟨_,rfl,t1 done ?_ hd H' kp (by rw[hn];exact el) ⟨rs,eh',pr⟩⟩
   rw[eh,eq,BG]
   show Except.ok (done++[])=_
   rw[yX]
 ·exact(t2 p wd (by unfold Az;rw[e])).keep k1
theorem vt {i j:Int}(c:decide (V.int i=V.int j)=true):i=j:=by
 have:=yB c
 injection this
theorem vf {i j:Int}(c: ¬decide (V.int i=V.int j)=true):i≠j:=fun z=>c (yE (xT V.int z))
theorem XS (T:Ik K mg aP CL CN)(F:vW K "take_own" "take_own" Bm f fd)(Mtake:Ld P w K mg base (jX P w) 3 CL "take" ["self"] (VJ CL CN))(Mtake_within:Ld P w K mg base (jX P w) 4 CL "take_within" ["self","least","most"] (Es CL CN)):
  jV P w K mg base (jX P w) 5 f fd ["look","kind","heads","boxes"] (QE CL CN):=by
 refine F.okX He (fun vs H Q E h=>?_) (fun cdv A outer s H vs Q E hr h=>?_)
 ·obtain⟨lk,dx,a,p,ns,hd,hs,boxes,k,rfl,_⟩:=h
  rfl
 obtain⟨lk,dx,a,p,ns,hd,hs,boxes,k,rfl,L1,hh,t1,t2⟩:=h
 refine⟨_,(zF (jB (yL kT (pv 1) (xH rfl T.m_NUMBER) (yY _)) (zU (yU (qD (zA (Lp (pv 0) Mtake hr kG) zH)))) yV)
   (zF (jB (PW.pt (uZ (yL kT (pv 1) (xH rfl T.m_GET) (yY _)) (uA (yL kT (pv 1) (xH rfl T.m_SET) (yY _))))) (zU (yU (qD (zA (Cj (pv 0) Mtake_within hr (zA zX (zA (xS vL (pv 3) zX) zH)) kG) zH)))) yV)
   (zF (jB (yL kT (pv 1) (xH rfl T.m_ALL) (yY _)) (zU (yU (qD (zA (Cj (pv 0) Mtake_within hr (zA (xH rfl T.m_LEAST_ALL) (zA (xH rfl T.m_MOST_MANY) zH)) kG) zH)))) yV)
   (zF (jB (yL kT (pv 1) (xH rfl T.m_PICK) (yY _)) (zU (yU (qD (zA (Cj (pv 0) Mtake_within hr (zA (xH rfl T.m_LEAST_PICK) (zA (xH rfl T.m_MOST_MANY) zH)) kG) zH)))) yV)
   (zF (jB (yL kT (pv 1) (xH rfl T.m_CALL) (yY _)) (zU (yU (qD (zA (Cj (pv 0) Mtake_within hr (zA zX (zA (xS vL (xR xJ rfl T.n_len qJ (zA (pv 2) zH)) zX) zH)) kG) zH)))) yV)
   (zU (yU (qD zH)))))))),?_⟩
 try dsimp only[Cx.nox,Cx.exc,Cx.wish,jC]
 have hl:=L1.1
 have fin: ∀n,Hq ns hs boxes k p=.ok [n]->QA [.int n] (upd H lk (Ao CL dx a (p+1))) Q:=fun n e=>by
  refine⟨sm1,fun t ht=>t1 [n] e t _ (kJ.trans kJ.upd (kJ.new _ ht)) ?_ zG⟩
  rw[zQ (zK (zG (H:=H) (a:=lk) (o:=Ao CL dx a (p+1))) ht)]
  exact zG
 refine⟨_,rfl,rfl,_,rfl,kI (fun c=>?_) (fun c0=>?_)⟩
 ·have o:Hq ns hs boxes k p=KR (GN ns p):=zW (vt c)
  exact⟨_,rfl,lk,dx,_,rfl,hl,rfl,lk,dx,a,p,ns,rfl,L1,fun n e=>fin n (by rw[o,e];rfl),fun pl wd e=>t2 _ _ (by rw[o,e];rfl)⟩
 have n0:=vf c0
 have one: ∀lo hi,(∀r,qI ns p lo hi=r->Hq ns hs boxes k p=KR r)->Looks CL H lk dx a p ns/\KL (qI ns p lo hi) (fun n=>QA [.int n] (upd H lk (Ao CL dx a (p+1))) Q) (Gq CN lk H E):=
  fun lo hi o=>⟨L1,fun n e=>fin n (o _ e),fun pl wd e=>t2 _ _ (o _ e)⟩
 have br12:k=1\/k=2-> ∀r,qI ns p 0 (boxes-1)=r->Hq ns hs boxes k p=KR r:=fun z r e=>by unfold Hq;rw[zL n0,zW z,e]
 refine⟨_,rfl,rfl,_,rfl,kI (fun c=>AX ?_) (fun c1=>?_)⟩
 ·have o:=one (0) (boxes-1) ((br12 (.inl (vt c))))
  exact⟨_,rfl,lk,dx,_,rfl,hl,rfl,_,rfl,_,_,rfl,rfl,lk,dx,a,p,ns,0,boxes-1,rfl,o.1,o.2⟩
 refine⟨_,rfl,rfl,_,rfl,kI (fun c=>?_) (fun c2=>?_)⟩
 ·have o:=one (0) (boxes-1) ((br12 (.inr (vt c))))
  exact⟨_,rfl,lk,dx,_,rfl,hl,rfl,_,rfl,_,_,rfl,rfl,lk,dx,a,p,ns,0,boxes-1,rfl,o.1,o.2⟩
 have n12: ¬(k=1\/k=2):=fun z=>z.elim (vf c1) (vf c2)
 refine⟨_,rfl,rfl,_,rfl,kI (fun c=>?_) (fun c3=>?_)⟩
 ·have o:=one (1) (12) (fun r e=>by unfold Hq;rw[zL n0,zL n12,zW (vt c),e])
  exact⟨_,rfl,lk,dx,_,rfl,hl,rfl,lk,dx,a,p,ns,1,12,rfl,o.1,o.2⟩
 refine⟨_,rfl,rfl,_,rfl,kI (fun c=>?_) (fun c4=>?_)⟩
 ·have o:=one (2) (12) (fun r e=>by unfold Hq;rw[zL n0,zL n12,zL (vf c3),zW (vt c),e])
  exact⟨_,rfl,lk,dx,_,rfl,hl,rfl,lk,dx,a,p,ns,2,12,rfl,o.1,o.2⟩
 refine⟨_,rfl,rfl,_,rfl,kI (fun c=>?_) (fun c6=>?_)⟩
 ·obtain⟨rs,eh,pr⟩:=id hh
  have ln:rs.length=hs.length:=Paired.len pr
  have o:=one (0) _ (fun r e=>by unfold Hq;rw[zL n0,zL n12,zL (vf c3),zL (vf c4),zW (vt c),<-ln,e])
  exact⟨_,rfl,lk,dx,_,rfl,hl,rfl,_,rfl,hd,_,rfl,.inl (.of eh),_,_,rfl,rfl,lk,dx,a,p,ns,0,_,rfl,o.1,o.2⟩
 ·refine⟨sm0,fun t ht=>t1 [] ?_ t _ (kJ.new _ ht) ?_ zG⟩
  ·unfold Hq;rw[zL n0,zL n12,zL (vf c3),zL (vf c4),zL (vf c6)]
  ·rw[zQ (zK hl ht)];exact hl
inductive Mt (vs:List V) (H:Hp) (Q:VK) (E:XK):Prop
 |mk (k:Nat) (v:Int) (h0:vs=[.int (7+(k:Int))]) (h1:partsN[k]? =some v) (h2:Q (.int v) H):Mt vs H Q E
theorem Uh (T:Ik K mg aP CL CN)(F:vW K "parts_of" "parts_of" Fh f fd):jV P w K mg base (jX P w) 1 f fd ["kind"] Mt:=by
 refine F.okN Je (fun vs H Q E h=>?_) (fun cdv A outer s H vs Q E hr h=>?_)
 ·obtain⟨k,v,rfl,_⟩:=h
  rfl
 obtain⟨k,v,rfl,hk,q⟩:=h
 refine⟨_,(zU (yU (xZ qL (Fp rfl T.m_PARTS) (xS vL (pv 0) (xH rfl T.m_FAIL)) (fun _ _=>rfl)))),?_⟩
 try dsimp only[Cx.nox,Cx.exc,Cx.wish,jC]
 refine⟨_,rfl,_,_,rfl,rfl,aP,_,_,_,rfl,rfl,T.parts _,?_,q⟩
 rw[show(7:Int)+(k:Int)-7=(k:Int)by(first|lia|omega)]
 exact By (by rw[zN,hk];rfl)
theorem XU (T:Ik K mg aP CL CN)(F:vW K "parts_due" "parts_due" DQ f fd)(Cparts_of:vV P w K mg base (jX P w) 1 "parts_of" ["kind"] Mt):
  jV P w K mg base (jX P w) 2 f fd ["kind","numbers","heads"] QG:=by
 refine F.okN HL (fun vs H Q E h=>?_) (fun cdv A outer s H vs Q E hr h=>?_)
 ·obtain⟨k,t,own,hd,hs,rfl,_⟩:=h
  rfl
 obtain⟨k,t,own,hd,hs,rfl,ht,⟨rs,eh,pr⟩,⟨h0,h1,hk⟩,q⟩:=h
 refine⟨_,(zF (jB (PW.pt (uZ (yL kT (pv 0) (xH rfl T.m_NUMBER) (yY _)) (uA (yL kT (pv 0) (xH rfl T.m_GET) (yY _))))) (zU (yU zX)) yV)
   (zF (jB (yL kT (pv 0) (xH rfl T.m_SET) (yY _)) (zU (yU zX)) yV)
   (zF (jB (yL kT (pv 0) (xH rfl T.m_ALL) (yY _)) (zU (yU (xZ qL (pv 1) zX (fun _ _=>rfl)))) yV)
   (zF (jB (yL kT (pv 0) (xH rfl T.m_PICK) (yY _)) (zU (yU (xS vM zX (xZ qL (pv 1) zX (fun _ _=>rfl))))) yV)
   (zF (jB (yL kT (pv 0) (xH rfl T.m_LOOP) (yY _)) (zU (yU zX)) yV)
   (zF (jB (yL kT (pv 0) (xH rfl T.m_CALL) (yY _)) (zU (yU (xZ qL (xZ jH (pv 2) (xZ qL (pv 1) zX (fun _ _=>rfl)) (fun _ _=>rfl)) zX (fun _ _=>rfl)))) yV)
   (zU (yU (yF Cparts_of hr rfl (zA (pv 0) zH) jZ))))))))),?_⟩
 try dsimp only[Cx.nox,Cx.exc,Cx.wish,jC]
 have due0:k=0\/k=1->FG hs k own=0:=fun z=>zW z
 refine⟨_,rfl,rfl,_,rfl,kI (fun c=>AX ?_) (fun c0=>?_)⟩
 ·rw[due0 (.inl (vt c))]at q;exact q
 refine⟨_,rfl,rfl,_,rfl,kI (fun c=>?_) (fun c1=>?_)⟩
 ·rw[due0 (.inr (vt c))]at q;exact q
 have n01: ¬(k=0\/k=1):=fun z=>z.elim (vf c0) (vf c1)
 unfold FG at q
 rw[zL n01]at q
 refine⟨_,rfl,rfl,_,rfl,kI (fun c=>?_) (fun c2=>?_)⟩
 ·rw[zW (vt c)]at q;exact q
 rw[zL (vf c2)]at q
 refine⟨_,rfl,rfl,_,rfl,kI (fun c=>?_) (fun c3=>?_)⟩
 ·rw[zW (vt c)]at q
  obtain⟨n,rfl,_⟩:=hk (.inl (vt c))
  exact⟨_,rfl,t,_,_,_,rfl,rfl,.of ht,rfl,q⟩
 rw[zL (vf c3)]at q
 refine⟨_,rfl,rfl,_,rfl,kI (fun c=>?_) (fun c4=>?_)⟩
 ·rw[zW (vt c)]at q
  obtain⟨n,rfl,_⟩:=hk (.inr (.inl (vt c)))
  exact⟨_,rfl,t,_,_,_,rfl,rfl,.of ht,rfl,_,_,rfl,rfl,q⟩
 rw[zL (vf c4)]at q
 refine⟨_,rfl,rfl,_,rfl,kI (fun c=>?_) (fun c5=>?_)⟩
 ·rw[zW (vt c)]at q;exact q
 rw[zL (vf c5)]at q
 refine⟨_,rfl,rfl,_,rfl,kI (fun c=>?_) (fun c6=>?_)⟩
 ·rw[zW (vt c)]at q
  obtain⟨n,rfl,n0,n1,_⟩:=hk (.inr (.inr (vt c)))
  have hn:n.toNat<hs.length:=by have:=n1 (vt c);(first|lia|omega)
  have ln:rs.length=hs.length:=Paired.len pr
  have e1:hs[n.toNat]? =some hs[n.toNat]:=zB hn
  have e2:rs[n.toNat]? =some rs[n.toNat]:=zB (by(first|lia|omega))
  obtain⟨tt,er,et⟩:=Paired.get pr _ _ _ e2 e1
  have av:Fz rs n=some (.ref tt):=by
   have:=By (xs:=rs) e2
   rw[show((n.toNat:Nat):Int)=n by(first|lia|omega),er]at this
   exact this
  refine⟨_,rfl,_,rfl,t,_,_,_,rfl,rfl,.of ht,rfl,hd,rs,n,_,rfl,rfl,.of eh,av,tt,_,_,_,rfl,rfl,.of et,rfl,?_⟩
  have:(hs.getD ([n].headD 0).toNat (0,0)).1=hs[n.toNat].1:=by
   show(hs.getD n.toNat (0,0)).1=_
   rw[yS,e1];rfl
  rw[this]at q
  exact q
 ·rw[zL (vf c6)]at q
  have n0:=vf c0;have n1:=vf c1;have n2:=vf c2;have n3:=vf c3;have n4:=vf c4;have n5:=vf c5;have n6:=vf c6
  have hk7:(k-7).toNat <13:=by(first|lia|omega)
  have e1:partsN[(k-7).toNat]? =some (partsN.getD (k-7).toNat 0):=by
   rw[yS,zB (by exact hk7)];rfl
  exact⟨_,rfl,(k-7).toNat,_,(by rw[show(7:Int)+((k-7).toNat:Int)=k by(first|lia|omega)];rfl),e1,q⟩
def Xv (CL CN:Addr):Nat->Sp
 |0=>fun _ _ _ _=>False
 |d+1=>Iu CL CN d
def WG (lk hd dx a t ps:Addr)(boxes k N:Int)(d p:Nat)(own:List Int)(H:Hp)(ns:List Int)(hs:Ct)(i:Nat)(σ':St)(H':Hp):Prop:= ∃(done:List Nd) (vs:List V) (p':Nat) (v8:Option V),σ'=[some (.ref lk),some (.ref hd),some (.int boxes),some (.int (11-((d+1:Nat):Int))),some (.int (p:Int)),some (.int k),some (.ref t),some (.ref ps),v8]/\done.length=i/\kJ lk H H'/\
   H' lk=some (Ao CL dx a p')/\H' t=some (.tup (own.map V.int))/\H' ps=some (.lst vs)/\Paired (vP H' d) vs done/\Dt (CP ns hs boxes d) N.toNat (p+1+own.length)=UK done (Dt (CP ns hs boxes d) (N.toNat-i) p')
theorem QS (d:Nat)(hd10:d<=10)(T:Ik K mg aP CL CN)(F:vW K "take_node" "take_node" DO f fd)(CNoSheet:EK P w K mg base 1 "NoSheet" CN ["self","place","word"] (DL CN))(Mtake_within:Ld P w K mg base (jX P w) 4 CL "take_within" ["self","least","most"] (Es CL CN))
  (Ctake_own_sheets:vV P w K mg base (jX P w) 5 "take_own_sheets" ["look","kind","heads","boxes"] (QE CL CN)) (Cparts_due:vV P w K mg base (jX P w) 2 "parts_due" ["kind","numbers","heads"] QG)
  (Ctake_node:vV P w K mg base (jX P w) (5+d) "take_node" ["look","heads","boxes","deep"] (Xv CL CN d)):jV P w K mg base (jX P w) (5+d+1) f fd ["look","heads","boxes","deep"] (Iu CL CN d):=by
 refine F.okX Av (fun vs H Q E h=>?_) (fun cdv A outer s H vs Q E hr h=>?_)
 ·obtain⟨lk,dx,a,p,ns,hd,hs,boxes,rfl,_⟩:=h
  rfl
 obtain⟨lk,dx,a,p,ns,hd,hs,boxes,rfl,L1,hh,ho,t1,t2⟩:=h
 refine⟨_,(zF (yT (i:=4) Av.nd rfl (Or.inl rfl) (jT (pv 0) rfl))
   (zF (jB (yL GU (pv 3) (xH rfl T.m_MOST_DEEP) (yY _)) (zU (qQ CNoSheet hr rfl (zA (pv 4) (zA kQ zH)))) yV)
   (zF (yT (i:=5) Av.nd rfl (Or.inl rfl) (Cj (pv 0) Mtake_within hr (zA (xH rfl T.m_NUMBER) (zA (xH rfl T.m_NEW) zH)) kG))
   (zF (yT (i:=6) Av.nd rfl (Or.inl rfl) (yF Ctake_own_sheets hr rfl (zA (pv 0) (zA (pv 5) (zA (pv 1) (zA (pv 2) zH)))) kG))
   (zF (yT (i:=7) Av.nd rfl (Or.inl rfl) (jN zH))
   (zF (vE (Gw rfl rfl) rfl (uQ rfl T.n_range (zA (yF Cparts_due hr rfl (zA (pv 5) (zA (pv 6) (zA (pv 1) zH))) kG) zH)) (xG (i:=8) Av.nd rfl (Or.inl rfl)) (zU (xV (kK zO zZ zY xY (pv 7) (zA (yF Ctake_node hr rfl (zA (pv 0) (zA (pv 1) (zA (pv 2) (zA (xS vM (pv 3) zX) zH)))) kG) zH)))))
   (zU (yU (qD (zA (pv 5) (zA (pv 4) (zA (pv 6) (zA (kR vN rfl T.n_tuple Am (zA (pv 7) zH)) zH))))))))))))),?_⟩
 try dsimp only[Cx.nox,Cx.exc,Cx.wish,jC]
 have hl:=L1.1
 refine⟨_,rfl,lk,CL,dx,_,_,rfl,hl,T.look,T.lplace,rfl,?_⟩
 refine⟨_,rfl,_,_,rfl,rfl,_,rfl,kI (fun c=>?_) (fun c=>?_)⟩
 ·have d0:d=0:=by have:=yB c;(first|lia|omega)
  subst d0
  exact⟨_,rfl,sm2,JZ (t2 p "deep" rfl) (kJ.refl _ _)⟩
 cases d with
 |zero=>exact absurd (yE (by decide)) c
 |succ d=>
 refine⟨_,rfl,lk,dx,_,rfl,hl,rfl,lk,dx,a,p,ns,0,19,rfl,L1,fun k ek=>?_,fun pl wd ek=>t2 pl wd (by unfold CP;rw[ek])⟩
 obtain⟨_,k0,k19⟩:=AT ek
 have ka:kJ lk H (upd H lk (Ao CL dx a (p+1))):=kJ.upd
 have La:=L1.go ka zG
 refine⟨_,rfl,_,rfl,_,rfl,_,rfl,lk,dx,a,p+1,ns,hd,hs,boxes,k,rfl,La,hh.keep hl ka,fun own eo t H2 k2 el2 et2=>?_,fun pl wd eo=>?_⟩
 rotate_left
 ·exact(t2 pl wd (by unfold CP;rw[ek];simp only;rw[eo])).keep ka
 have oo:=XM k0 k19 eo
 have kb:=ka.trans k2
 refine⟨sm0,fun ps hps=>?_⟩
 have g3:=zV hps (.lst [])
 have nps:lk≠ps:=zK el2 hps
 have ntp:t≠ps:=zK et2 hps
 have kc:kJ lk H (upd H2 ps (.lst [])):=kb.trans (kJ.same g3)
 have elc:=g3 _ _ el2
 obtain⟨j0,j13⟩:=Yg oo ho
 generalize hN:FG hs k own=N at j0 j13
 have nHp:H ps=none:=by
  cases e:H ps with
  |none=>rfl
  |some o=>rw[kb ps o (Ne.symm nps) e]at hps;cases hps
 refine⟨_,rfl,_,rfl,_,rfl,k,t,own,hd,hs,rfl,g3 _ _ et2,hh.keep hl kc,oo,N,by rw[hN],by(first|lia|omega),by(first|lia|omega),?_⟩
 have en:CP ns hs boxes (d+1) p=match Dt (CP ns hs boxes d) N.toNat (p+1+own.length)with
   | .error b=>.error b
   | .ok r=>.ok (.mk k p own r.1,r.2):=by
  conv=>lhs;unfold CP
  rw[ek];simp only;rw[eo];simp only;rw[hN]<;>rfl
 refine uR (lo:=0) (n:=N.toNat) (WG (CL:=CL) lk hd dx a t ps boxes k N d p own H ns hs)
   ⟨[],[],_,_,rfl,rfl,kc,elc,g3 _ _ et2,zG,.nil,(LJ _).symm⟩ ?_ ?_
 ·rintro i σ' H' hi ⟨done,vs,p',v8,rfl,hn,kp,el,et,ep,pr,eq⟩
  obtain⟨m,em⟩: ∃m,N.toNat-i=m+1:=⟨N.toNat-i-1,by(first|lia|omega)⟩
  have L2':Looks CL H' lk dx a p' ns:=L1.go kp el
  have ed:(11-((d+1:Nat):Int))+1=11-(d:Int):=by(first|lia|omega)
  refine⟨_,rfl,.inl ⟨rfl,_,.of ep⟩,_,rfl,_,rfl,_,rfl,_,rfl,_,_,rfl,rfl,lk,dx,a,p',ns,hd,hs,boxes,xT (fun z=>[V.ref lk,V.ref hd,V.int boxes,V.int z]) ed,L2',hh.keep hl kp,ho,fun r er v H3 k3 el3 nv=>?_,fun pl wd er=>?_⟩
  ·have ep3:H3 ps=some (.lst vs):=k3 ps _ (Ne.symm nps) ep
   have len:vs.length<=13:=by have:=Paired.len pr;(first|lia|omega)
   refine⟨ps,vs,_,rfl,rfl,ep3,qY (by(first|lia|omega)),?_⟩
   have tp:wV H' (upd H3 ps (.lst (vs++[v]))):=.trans (.keep el k3) (.upd ep3)
   have ntl:t≠lk:=fun z=>by rw[z,el]at et;cases et
   refine⟨done++[r.1],_,r.2,_,rfl,by simp[hn],(kp.trans k3).fresh nHp,?_,?_,zG,qG (Paired.imp (fun _ _ z=>z.tups tp) pr) (nv.tups (.upd ep3)),?_⟩
   ·rw[zQ nps];exact el3
   ·rw[zQ ntp];exact k3 t _ ntl et
   ·rw[eq,em,show N.toNat-(i+1)=m by(first|lia|omega)]
    conv=>lhs;unfold Dt
    rw[er];simp only
    cases Dt (CP ns hs boxes d) m r.2 with
    |error b=>rfl
    |ok r=>show Except.ok _=Except.ok _;rw[yP];rfl
  ·refine(t2 pl wd ?_).keep kp
   rw[en,eq,em]
   conv=>lhs;unfold Dt
   rw[er];rfl
 ·rintro σ' H' ⟨done,vs,p',v8,rfl,hn,kp,el,et,ep,pr,eq⟩
  rw[BG]at eq
  have eq':Dt (CP ns hs boxes d) N.toNat (p+1+own.length)=.ok (done,p'):=by rw[eq];show Except.ok (done++[],p')=_;rw[yX]
  refine⟨_,rfl,_,rfl,_,rfl,_,rfl,ps,vs,rfl,.inl ⟨.of ep,fun q hq=>?_⟩⟩
  refine⟨sm4,fun u hu=>?_⟩
  have s1:=zV hq (.tup vs)
  have s2:=zV hu (.tup [.int k,.int (p:Int),.ref t,.ref q])
  refine t1 (.mk k p own done,p') (by rw[en,eq']) (.ref u) _ (kp.trans (kJ.same (s1.trans s2))) (s2 _ _ (s1 _ _ el)) ?_
  exact⟨u,t,q,vs,rfl,zG,s2 _ _ (s1 _ _ et),s2 _ _ zG,Paired.imp (fun _ _ z=>z.tups (.same (s1.trans s2))) pr⟩
theorem Ui (T:Ik K mg aP CL CN)(F:vW K "take_node" "take_node" DO f fd)(CNoSheet:EK P w K mg base 1 "NoSheet" CN ["self","place","word"] (DL CN))(Mtake_within:Ld P w K mg base (jX P w) 4 CL "take_within" ["self","least","most"] (Es CL CN))
  (Ctake_own_sheets:vV P w K mg base (jX P w) 5 "take_own_sheets" ["look","kind","heads","boxes"] (QE CL CN)) (Cparts_due:vV P w K mg base (jX P w) 2 "parts_due" ["kind","numbers","heads"] QG)
  (hm:mg "take_node"=some (.ref f)) (hk:PySem.W.keepIn K (.ref f)=true) (hb:vU K fd ["look","heads","boxes","deep"] []): ∀d,d<=10->jV P w K mg base (jX P w) (5+d+1) f fd ["look","heads","boxes","deep"] (Iu CL CN d):=by
 intro d
 induction d with
 |zero=>exact fun h=>QS 0 h T F CNoSheet Mtake_within Ctake_own_sheets Cparts_due ⟨⟨_,_,UW,hm,hk,hb⟩⟩
 |succ d ih=>exact fun h=>QS (d+1) h T F CNoSheet Mtake_within Ctake_own_sheets Cparts_due ⟨⟨_,_,ih (by(first|lia|omega)),hm,hk,hb⟩⟩
def Yv (a lk hd tl dx:Addr)(rs:List V)(hs:Ct)(ns:List Int)(H1:Hp)(i:Nat)(σ':St)(H':Hp):Prop:= ∃(done:List Nd) (vs:List V) (p':Nat) (v4 v5:Option V),σ'=[some (.ref a),some (.ref lk),some (.ref hd),some (.ref tl),v4,v5]/\i<=rs.length/\done.length=i/\kJ lk H1 H'/\H' lk=some (Ao CL dx a p')/\
   H' hd=some (.lst rs)/\Paired (IV H') rs hs/\H' tl=some (.lst vs)/\Paired (Vz H') vs ((hs.take i).zip done)/\Bx ns hs hs (1+2*hs.length)=UK done (Bx ns hs (hs.drop i) p')
theorem XT (T:Ik K mg aP CL CN)(F:vW K "functions" "functions" FY f fd)(CNoSheet:EK P w K mg base 1 "NoSheet" CN ["self","place","word"] (DL CN))(CLook:VC P w K mg base (jX P w) 1 "Look" CL ["self","numbers"] (MA CL))
  (Ctake_heads:vV P w K mg base (jX P w) 5 "take_heads" ["look"] (MB CL CN)) (Ctake_node:vV P w K mg base (jX P w) 16 "take_node" ["look","heads","boxes","deep"] (Iu CL CN 10)):
  jV P w K mg base (jX P w) 17 f fd ["sheet"] (Ts CN):=by
 refine F.okX Aw (fun vs H Q E h=>?_) (fun cdv A outer s H vs Q E hr h=>?_)
 ·obtain⟨a,ns,rfl,_⟩:=h
  rfl
 obtain⟨a,ns,rfl,ha,t1,t2⟩:=h
 refine⟨_,(zF (yT (i:=1) Aw.nd rfl (Or.inl rfl) (NY CLook hr rfl (zA (pv 0) zH) kG))
   (zF (yT (i:=2) Aw.nd rfl (Or.inl rfl) (yF Ctake_heads hr rfl (zA (pv 1) zH) kG))
   (zF (yT (i:=3) Aw.nd rfl (Or.inl rfl) (jN zH))
   (zF (vE (Gw rfl rfl) rfl (DS (pv 2)) (BS rfl (jA (xG (i:=4) Aw.nd rfl (Or.inl rfl)) (jA (xG (i:=5) Aw.nd rfl (Or.inl rfl)) Aa))) (zU (xV (kK zO zZ zY xY (pv 3) (zA (qD (zA (pv 4) (zA (pv 5) (zA (yF Ctake_node hr rfl (zA (pv 1) (zA (pv 2) (zA (pv 5) (zA zX zH)))) kG) zH)))) zH)))))
   (zF (jB (yL GS (jT (pv 1) rfl) (xR xJ rfl T.n_len qJ (zA (pv 0) zH)) (yY _)) (zU (qQ CNoSheet hr rfl (zA (jT (pv 1) rfl) (zA kQ zH)))) yV)
   (zU (yU (pv 3)))))))),?_⟩
 try dsimp only[Cx.nox,Cx.exc,Cx.wish,jC]
 refine⟨_,rfl,fun lk dx hlk hdx ndx=>⟨lk,dx,a,rfl,zG,fun H1 k1 el1=>⟨rfl,?_⟩⟩⟩
 have nla:a≠lk:=zK ha hlk
 have same0: ∀{H':Hp},kJ lk (upd (upd H dx (.own lk)) lk (.ins CL dx [])) H'->wG H H':=fun{H'} k b o e=>by
  refine k b o (zK e hlk) ?_
  rw[zQ (zK e hlk),zQ (zK e hdx)];exact e
 have L1:Looks CL H1 lk dx a 0 ns:=⟨el1,same0 k1 _ _ ha⟩
 have bad: ∀{H':Hp} {p:Nat} {wd:Str},kJ lk H1 H'->AY ns=.error (p,wd)->Gq CN lk H' E p wd:=fun{H' p wd} k e d H'' k' ed=>t2 p wd e d H'' (same0 (k1.trans (k.trans k'))) ed
 refine⟨_,rfl,lk,dx,a,ns,rfl,L1,fun hs eh hd H2 k2 el2 hh=>?_,fun p wd e=>bad (kJ.refl _ _) (by unfold AY;rw[e])⟩
 obtain⟨ho,_,l1,l16,_⟩:=Na eh
 refine⟨sm0,fun tl htl=>?_⟩
 have g3:=zV htl (.lst [])
 have nlt:lk≠tl:=zK el2 htl
 have kc:kJ lk H1 (upd H2 tl (.lst [])):=k2.trans (kJ.same g3)
 obtain⟨rs,ehd,pr⟩:=id hh
 have nht:hd≠tl:=zK ehd htl
 have nhl:hd≠lk:=fun z=>by rw[z,el2]at ehd;cases ehd
 have lr:rs.length=hs.length:=Paired.len pr
 have ef:AY ns=match Bx ns hs hs (1+2*hs.length)with
   | .error b=>.error b
   | .ok r=>if r.2<ns.length then .error (r.2,"over")else .ok (hs,r.1):=by unfold AY;rw[eh]<;>rfl
 have nHt:H1 tl=none:=by
  cases e:H1 tl with
  |none=>rfl
  |some o=>rw[k2 tl o (Ne.symm nlt) e]at htl;cases htl
 have nH0:H tl=none:=(same0 k1).free nHt
 refine⟨_,rfl,hd,rfl,⟨rs,.of (g3 _ _ ehd)⟩,Ia (xs:=rs) (Yv (CL:=CL) a lk hd tl dx rs hs ns H1)
   ⟨[],[],_,_,_,rfl,yZ _,rfl,kc,g3 _ _ el2,g3 _ _ ehd,Paired.imp (fun _ _ z=>z.tups (.same g3)) pr,zG,.nil,(LJ _).symm⟩ ?_ ?_ ?_⟩
 ·rintro i σ' H' _ ⟨done,vs,p',v4,v5,rfl,hi,hn,kp,el,eh',pr',et,pf,eq⟩
  exact .of eh'
 ·rintro i x σ' H' hx ⟨done,vs,p',v4,v5,rfl,_,hn,kp,el,eh',pr',et,pf,eq⟩
  have hi:i<rs.length:=(List.getElem?_eq_some_iff.mp hx).1
  have e1:hs[i]? =some hs[i]:=zB (by(first|lia|omega))
  generalize hs[i]=hx1 at e1
  obtain⟨u,rfl,eu⟩:=Paired.get pr' i _ _ hx e1
  have dr:hs.drop i=hx1::hs.drop (i+1):=by
   have:=xW (l:=hs) (i:=i) (by(first|lia|omega))
   rw[this];congr 1
   exact xU ((zB (by(first|lia|omega))).symm.trans e1)
  have tk:hs.take (i+1)=hs.take i++[hx1]:=by rw[List.take_add_one,e1];rfl
  refine⟨u,_,rfl,.of eu,rfl,_,_,rfl,_,_,rfl,rfl,?_⟩
  have L2':Looks CL H' lk dx a p' ns:=L1.go kp el
  refine⟨_,rfl,.inl ⟨rfl,_,.of et⟩,_,rfl,_,rfl,_,rfl,_,rfl,_,rfl,lk,dx,a,p',ns,hd,hs,hx1.2,rfl,L2',⟨rs,eh',pr'⟩,ho,fun r er v H3 k3 el3 nv=>?_,fun pl wd er=>?_⟩
  ·refine⟨sm3,fun q hq=>?_⟩
   have s1:=zV hq (.tup [.int hx1.1,.int hx1.2,v])
   have et3:=s1 _ _ (k3 tl _ (Ne.symm nlt) et)
   have len:vs.length<=16:=by
    have:=Paired.len pf
    rw[uN,yM]at this
    (first|lia|omega)
   refine⟨tl,vs,_,rfl,rfl,et3,qY (by(first|lia|omega)),?_⟩
   have tq:wV H3 (upd (upd H3 q (.tup [.int hx1.1,.int hx1.2,v])) tl (.lst (vs++[.ref q]))):=.trans (.same s1) (.upd et3)
   have tp:=wV.trans (.keep el k3) tq
   have ntq:tl≠q:=zK (k3 tl _ (Ne.symm nlt) et) hq
   have nql:lk≠q:=zK el3 hq
   refine⟨done++[r.1],_,r.2,_,_,rfl,hi,by simp[hn],(kp.trans (k3.trans (kJ.same s1))).fresh nHt,?_,?_,Paired.imp (fun _ _ z=>z.tups tp) pr',zG,?_,?_⟩
   ·rw[zQ nlt];exact s1 _ _ el3
   ·rw[zQ nht];exact s1 _ _ (k3 hd _ nhl eh')
   ·rw[tk,List.zip_append (by rw[yM];(first|lia|omega))]
    exact qG (Paired.imp (fun _ _ z=>z.tups tp) pf) ⟨q,v,rfl,by rw[zQ (Ne.symm ntq)];exact zG,nv.tups tq⟩
   ·rw[eq,dr]
    conv=>lhs;unfold Bx
    rw[er];simp only
    cases Bx ns hs (hs.drop (i+1)) r.2 with
    |error b=>rfl
    |ok r=>show Except.ok _=Except.ok _;rw[yP];rfl
  ·refine bad kp ?_
   rw[ef,eq,dr]
   conv=>lhs;unfold Bx
   rw[er];rfl
 ·rintro σ' H' ⟨done,vs,p',v4,v5,rfl,_,hn,kp,el,eh',pr',et,pf,eq⟩
  rw[lr,List.drop_length]at eq
  have eq':Bx ns hs hs (1+2*hs.length)=.ok (done,p'):=by rw[eq];show Except.ok (done++[],p')=_;rw[yX]
  have ea:H' a=some (.lst (ns.map V.int)):=kp a _ nla L1.2
  have hz:(ns.map V.int).length =ns.length:=zD ..
  refine⟨_,rfl,lk,CL,dx,_,_,rfl,el,T.look,T.lplace,rfl,_,rfl,a,_,rfl,.inl (.of ea),_,_,rfl,rfl,_,rfl,kI (fun c=>?_) (fun c=>?_)⟩
  ·have c':p'<ns.length:=by have:=yB c;(first|lia|omega)
   refine⟨_,rfl,lk,CL,dx,_,_,rfl,el,T.look,T.lplace,rfl,sm2,JZ (bad (p:=p') (wd:="over") kp ?_) (kJ.refl _ _)⟩
   rw[ef,eq'];exact zW c'
  ·refine⟨_,rfl,t1 (hs,done) ?_ tl H' (same0 (k1.trans kp)) nH0 ⟨vs,et,by show hs.length=done.length;(first|lia|omega),?_⟩⟩
   ·rw[ef,eq']
    exact zL fun z=>c (yE (by(first|lia|omega)))
   ·rw[lr,wS]at pf;exact pf

end
section
variable {P:Program}{w:World}{K:PySem.W.Frag}{mg:Str->Option Value}{base:Heap}{f:Addr}{fd:FuncData}{aP aW aH CT CR CL CN:Addr}
set_option maxHeartbeats 4000000

def Qw (v:V)(tl wl:Addr)(H:Hp)(nd:Nd)(m:Nat)(σ':St)(H':Hp):Prop:= ∃(done st:List Nd) (us ws:List V) (v3 v4:Option V),σ'=[some v,some (.ref tl),some (.ref wl),v3,v4]/\m=(uV st).length/\wG H H'/\H' tl=some (.lst us)/\H' wl=some (.lst ws)/\Paired (vP H' 10) us done/\Paired (vP H' 10) ws st/\done++uV st.reverse=pre nd
theorem Od (T:Ik K mg aP CL CN)(n_reversed:mg "reversed"=none)(F:vW K "nodes_in" "nodes_in" Hk f fd):jV P w K mg base (jX P w) 1 f fd ["body"] Ir:=by
 refine F.okN Ch (fun vs H Q E h=>?_) (fun cdv A outer s H vs Q E hr h=>?_)
 ·obtain⟨v,nd,rfl,_⟩:=h
  rfl
 obtain⟨v,nd,rfl,hv,hc,q⟩:=h
 refine⟨_,(zF (yT (i:=1) Ch.nd rfl (Or.inl rfl) (jN zH))
   (zF (yT (i:=2) Ch.nd rfl (Or.inl rfl) (jN (zA (pv 0) zH)))
   (zF (HP xO (NS (pv 2) (fun _=>rfl)) (zF (yT (i:=3) Ch.nd rfl (Or.inl rfl) (PB zO PySem.F.slot_list_pop PySem.F.type_list_pop XW (pv 2)))
   (zF (xV (kK zO zZ zY xY (pv 1) (zA (pv 3) zH)))
   (zU (vE xO rfl (XG rfl n_reversed (zA (xZ qL (pv 3) zX (fun _ _=>rfl)) zH)) (xG (i:=4) Ch.nd rfl (Or.inl rfl)) (zU (xV (kK zO zZ zY xY (pv 2) (zA (pv 4) zH)))))))))
   (zU (yU (pv 1)))))),?_⟩
 try dsimp only[Cx.nox,Cx.exc,Cx.wish,jC]
 refine⟨sm0,fun tl htl=>?_⟩
 have s1:=zV htl (.lst [])
 refine⟨_,rfl,sm1,fun wl hwl=>?_⟩
 have s2:=zV hwl (.lst [v])
 have hwl0:H wl=none:=s1.free hwl
 have ntw:tl≠wl:=zK zG hwl
 have sl:sizeLine=16777216:=At
 refine⟨Qw v tl wl H nd,
  ⟨_,[],[nd],[],[v],_,_,rfl,rfl,s1.trans s2,s2 _ _ zG,zG,.nil,.cons (hv.tups (.same (s1.trans s2))) .nil,by simp[uV]⟩,?_⟩
 rintro m σ' H' ⟨done,st,us,ws,v3,v4,rfl,rfl,g,et,ew,pu,pw,eq⟩
 refine⟨_,rfl,!ws.isEmpty,.inl ⟨ws,.of ew,rfl⟩,?_⟩
 rcases BN ws with rfl|⟨ws',x,rfl⟩
 ·cases pw
  refine Bi ⟨_,rfl,q tl us H' g htl et ?_⟩
  have:done=pre nd:=by simpa[uV]using eq
  rw[<-this];exact pu
 rw[BO]at *
 obtain⟨st',n,rfl,pw',nx⟩:=Paired.unsnoc pw
 have ne:(!(ws'++[x]).isEmpty)=true:=by simp
 rw[ne]
 refine AX ⟨fun σ'' H''=> ∃m',m'<(uV (st'++[n])).length/\ ∃(done st:List Nd) (us ws:List V) (v3 v4:Option V),σ''=[some v,some (.ref tl),some (.ref wl),v3,v4]/\m'=(uV st).length/\wG H H''/\H'' tl=some (.lst us)/\H'' wl=some (.lst ws)/\Paired (vP H'' 10) us done/\Paired (vP H'' 10) ws st/\done++uV st.reverse=pre nd,fun _ _ z=>z,?_⟩
 cases n with
 |mk k p own ps=>
 obtain⟨t,o,pq,vs,rfl,etn,eo,ep,pr⟩:=nx
 have eq2:done++(.mk k p own ps::(uV ps++uV st'.reverse))=pre nd:=by
  rw[<-eq];simp[uV,pre,Ci]
 have tot:done.length+1+(uV ps).length +(uV st').length<=1000000:=by
  have:=xT List.length eq2
  rw[<-Fo st']
  simp only[zC,zJ]at this
  (first|lia|omega)
 have lu:us.length=done.length:=Paired.len pu
 have lw:ws'.length<=(uV st').length:=by rw[Paired.len pw'];exact Ka st'
 have lv:vs.length<=(uV ps).length:=by rw[Paired.len pr];exact Ka ps
 refine⟨_,rfl,.inl ⟨rfl,_,.of ew⟩,wl,_,.ref t,rfl,rfl,ew,by simp,?_⟩
 have dl:(ws'++[V.ref t]).dropLast =ws':=by simp
 have et1:upd H' wl (.lst (ws'++[V.ref t]).dropLast) tl=some (.lst us):=by rw[zQ ntw];exact et
 refine⟨_,rfl,.inl ⟨rfl,_,.of et1⟩,_,rfl,tl,us,_,rfl,rfl,et1,by(first|lia|omega),?_⟩
 have tp2:wV H' (upd (upd H' wl (.lst (ws'++[V.ref t]).dropLast)) tl (.lst (us++[V.ref t]))):=.trans (.upd ew) (.upd et1)
 have g2:wG H (upd (upd H' wl (.lst (ws'++[V.ref t]).dropLast)) tl (.lst (us++[V.ref t]))):=(g.fresh hwl0).fresh htl
 refine⟨_,rfl,t,_,_,_,rfl,rfl,.of (tp2 _ _ etn),rfl,pq,vs,rfl,.of (tp2 _ _ ep),Wt (xs:=vs) (fun i σ'' H''=> ∃v4,σ''=[some v,some (.ref tl),some (.ref wl),some (.ref t),v4]/\wG H H''/\H'' tl=some (.lst (us++[.ref t]))/\H'' wl=some (.lst (ws'++vs.reverse.take i))/\wV H' H'')
  ⟨_,rfl,g2,zG,by rw[zQ (Ne.symm ntw),zG,dl];simp,tp2⟩ ?_ ?_ ?_⟩
 ·rintro i σ'' H'' _ ⟨v4,rfl,_,_,_,tp⟩
  exact .of (tp _ _ ep)
 ·rintro i x σ'' H'' hx ⟨v4,rfl,g3,et3,ew3,tp⟩
  have hi:i<vs.length:=by have:=(List.getElem?_eq_some_iff.mp hx).1;simpa using this
  refine⟨_,rfl,.inl ⟨rfl,_,.of ew3⟩,_,rfl,wl,_,_,rfl,rfl,ew3,?_,?_⟩
  ·simp only[zC,yM,AH];(first|lia|omega)
  ·refine⟨_,rfl,g3.fresh hwl0,by rw[zQ ntw];exact et3,?_,.trans tp (.upd ew3)⟩
   rw[zG,List.take_add_one,hx,yP];rfl
 ·rintro σ'' H'' ⟨v4,rfl,g3,et3,ew3,tp⟩
  have tk:vs.reverse.take vs.length=vs.reverse:=by rw[<-AH (as:=vs),wS]
  rw[tk]at ew3
  refine⟨_,?_,done++[.mk k p own ps],st'++ps.reverse,_,_,_,_,rfl,rfl,g3,et3,ew3,qG (Paired.imp (fun _ _ z=>z.tups tp) pu) (vP.tups (d:=10) (n:=.mk k p own ps) tp ⟨t,o,pq,vs,rfl,etn,eo,ep,pr⟩),Paired.append (Paired.imp (fun _ _ z=>z.tups tp) pw') (Paired.imp (fun _ _ z=>(vP.tups tp z).more) (Paired.rev pr)),?_⟩
  ·simp only[Ci,Fo,zC,uV,pre,zJ,wK];(first|lia|omega)
  ·rw[<-eq2];simp[Ci]

end
section
variable {P:Program}{w:World}{K:PySem.W.Frag}{mg:Str->Option Value}{base:Heap}{f:Addr}{fd:FuncData}{aP aW aH CT CR CL CN:Addr}
set_option maxHeartbeats 4000000

structure KK (K:PySem.W.Frag)(mg:Str->Option Value):Prop where
 n_len:mg "len"=none
 n_range:mg "range"=none
 n_int:mg "int"=none
 n_str:mg "str"=none
 n_all:mg "all"=none
 n_list:mg "list"=none
 n_bool:mg "bool"=none
 n_tuple:mg "tuple"=none
 n_isinstance:mg "isinstance"=none
 klist:PySem.W.kitOne K (.type "list") (.type "list")=some true
 ktup:PySem.W.kitOne K (.type "tuple") (.type "tuple")=some true
 kint:PySem.W.kitOne K (.type "int") (.type "int")=some true
 kbool:PySem.W.kitOne K (.type "int") (.type "bool")=some false
inductive Pn (K:PySem.W.Frag) (vs:List V) (H:Hp) (Q:VK) (E:XK):Prop
 |mk (a:Addr) (ns:List Int) (k:Int) (h0:vs=[.ref a,.int k]) (h1:0<=k) (h2:k<1000) (h3:Xf K H a ns) (h4:ns.length<=63) (h5: ∀st H',H st=none->wG H H'->Bz H' st 0->Q (.ref st) H'):Pn K vs H Q E
theorem VW:(0:Int)<2147483629:=by decide
theorem VV:(0:Int)<2147483587:=by decide
theorem Zk (x:Int): -(2^64)<x % 2147483629/\x % 2147483629<2^64:=by
 have a1:=AR x (show(2147483629:Int)≠0 by decide)
 have a2:=uG x VW
 (first|lia|omega)
theorem Zj (x:Int){t:Int}(h0:0<=t)(h1:t<=1000001): -(2^64)<x % 2147483587+7919*t/\x % 2147483587+7919*t<2^64:=by
 have a1:=AR x (show(2147483587:Int)≠0 by decide)
 have a2:=uG x VV
 (first|lia|omega)
theorem Wd (T:KK K mg)(F:vW K "_law_pen" "_law_pen" Hm f fd):jV P w K mg base (jX P w) 1 f fd ["_law_script","_law_k"] (Pn K):=by
 refine F.okN DN (fun vs H Q E h=>?_) (fun cdv A outer s H vs Q E hr h=>?_)
 ·obtain⟨a,ns,k,rfl,_⟩:=h
  rfl
 obtain⟨a,ns,k,rfl,k0,k1,hs,hl,q⟩:=h
 refine⟨_,(zF (yT (i:=2) DN.nd rfl (Or.inl rfl) (xS vM (xS Fs zX (pv 1)) zX))
   (zF (Ek (jB (yL GS (pv 1) (xR xJ rfl T.n_len qJ (zA (pv 0) zH)) (yY _)) (zU (yT (i:=2) DN.nd rfl (Or.inl rfl) (xZ jH (pv 0) (pv 1) (fun _ _=>rfl)))) (zU (jB (yL GU (xR xJ rfl T.n_len qJ (zA (pv 0) zH)) zX (yY _)) (zU (yT (i:=2) DN.nd rfl (Or.inl rfl) (xS vM (xS Em (xZ jH (pv 0) (xS Em (pv 1) (xR xJ rfl T.n_len qJ (zA (pv 0) zH))) (fun _ _=>rfl)) zX) (xS Fs zX (pv 1))))) yV))))
   (zF (jB (yL Uc (pv 2) (xS MO zX zX) (yY _)) (zU (yU (jN (zA (xS vL (pv 2) (xS MO zX zX)) (zA (xS Em (pv 2) zX) (zA zX zH)))))) yV)
   (zU (yU (jN (zA zX (zA (xS Em (pv 2) zX) (zA zX zH))))))))),?_⟩
 try dsimp only[Cx.nox,Cx.exc,Cx.wish,jC]
 refine⟨_,rfl,_,_,rfl,rfl,.inl ⟨by decide,by decide⟩,_,_,rfl,rfl,?_⟩
 have hlen:((ns.map V.int).length:Int)=ns.length:=by rw[zD]
 refine⟨fun σ' H'=>H'=H/\ ∃x:Int,σ'=[some (.ref a),some (.int k),some (.int x)],?_,?_⟩
 ·refine⟨_,rfl,_,rfl,a,_,rfl,.inl hs.sq,_,_,rfl,rfl,_,rfl,kI (fun c=>?_) (fun c=>?_)⟩
  ·have c':=yB c
   obtain⟨v,hv⟩:=Ry (ns:=ns) (k:=k) k0 (by(first|lia|omega))
   exact⟨_,rfl,_,rfl,a,_,_,_,rfl,rfl,hs.sq,hv,rfl,_,rfl⟩
  ·refine⟨_,rfl,a,_,rfl,.inl hs.sq,_,_,rfl,rfl,_,rfl,kI (fun c2=>?_) (fun c2=>⟨rfl,_,rfl⟩)⟩
   have c2':=yB c2
   obtain⟨v,hv⟩:=Ry (ns:=ns) (k:=k % ((ns.map V.int).length:Int)) (AR _ (by(first|lia|omega))) (by rw[<-hlen];exact uG _ (by(first|lia|omega)))
   exact⟨_,rfl,_,rfl,_,rfl,a,_,rfl,.inl hs.sq,_,_,rfl,rfl,by(first|lia|omega),a,_,_,_,rfl,rfl,hs.sq,hv,_,_,rfl,rfl,VW,_,rfl,_,_,rfl,rfl,.inl ⟨by decide,by decide⟩,_,_,rfl,rfl,rfl,_,rfl⟩
 rintro _ _ ⟨rfl,x,rfl⟩
 rename_i H
 refine⟨_,rfl,_,_,rfl,rfl,⟨by decide,by decide,by decide⟩,_,_,rfl,rfl,_,rfl,kI (fun c=>?_) (fun c=>?_)⟩
 ·have c':=yB c
  refine⟨_,rfl,_,_,rfl,rfl,⟨by decide,by decide,by decide⟩,_,_,rfl,rfl,_,rfl,_,_,rfl,rfl,VV,sm3,fun st hst=>?_⟩
  exact q _ _ hst (zV hst _) ⟨_,_,_,zG,by(first|lia|omega),by decide,by decide⟩
 ·refine⟨_,rfl,_,_,rfl,rfl,VV,sm3,fun st hst=>?_⟩
  exact q _ _ hst (zV hst _) ⟨_,_,_,zG,by decide,by decide,by decide⟩
theorem Ut (F:vW K "_law_draw" "_law_draw" FZ f fd):jV P w K mg base (jX P w) 1 f fd ["_law_pen_here","_law_many"] DM:=by
 refine F.okN Bl (fun vs H Q E h=>?_) (fun cdv A outer s H vs Q E hr h=>?_)
 ·obtain⟨st,many,m,rfl,_⟩:=h
  rfl
 obtain⟨st,many,m,rfl,hm0,hm1,mb,⟨c,sd,t,e,c0,t0,tm⟩,q⟩:=h
 refine⟨_,(zF (El (xS vM (xZ jH (pv 0) zX (fun _ _=>rfl)) zX) (ML (pv 0) zX HI))
   (zF (jB (yL GU (xZ jH (pv 0) zX (fun _ _=>rfl)) zX (yY _)) (zF (yT (i:=2) Bl.nd rfl (Or.inl rfl) (xS Em (xZ jH (pv 0) zX (fun _ _=>rfl)) (pv 1)))
   (zF (El (xS NZ (xZ jH (pv 0) zX (fun _ _=>rfl)) (pv 1)) (ML (pv 0) zX HI))
   (zU (yU (pv 2))))) yV)
   (zF (yT (i:=3) Bl.nd rfl (Or.inl rfl) (xS Em (xS vM (xS vM (xZ jH (pv 0) zX (fun _ _=>rfl)) (xS Fs zX (xZ jH (pv 0) zX (fun _ _=>rfl)))) zX) zX))
   (zF (yT (i:=3) Bl.nd rfl (Or.inl rfl) (xS vM (xS Em (xS Fs (pv 3) (pv 3)) zX) (xS Fs zX (xZ jH (pv 0) zX (fun _ _=>rfl)))))
   (zF (yT (i:=3) Bl.nd rfl (Or.inl rfl) (xS Em (xS Fs (pv 3) (pv 3)) zX))
   (zU (yU (xS Em (xS NZ (pv 3) zX) (pv 1))))))))),?_⟩
 try dsimp only[Cx.nox,Cx.exc,Cx.wish,jC]
 refine⟨_,rfl,st,_,_,_,rfl,rfl,.of e,rfl,_,_,rfl,rfl,_,rfl,st,_,_,_,rfl,rfl,e,rfl,?_⟩
 have e1:upd H st (.lst [.int c,.int sd,.int (t+1)]) st=some (.lst [.int c,.int sd,.int (t+1)]):=zG
 have k1:kJ st H (upd H st (.lst [.int c,.int sd,.int (t+1)])):=kJ.upd
 refine⟨_,rfl,st,_,_,_,rfl,rfl,.of e1,rfl,_,_,rfl,rfl,_,rfl,kI (fun c2=>?_) (fun c2=>?_)⟩
 ·refine⟨_,rfl,st,_,_,_,rfl,rfl,.of e1,rfl,_,rfl,_,_,rfl,rfl,hm0,?_⟩
  refine⟨_,rfl,st,_,_,_,rfl,rfl,.of e1,rfl,_,rfl,_,_,rfl,rfl,Zu hm0 (Int.lt_trans hm1 (by decide)),_,rfl,st,_,_,_,rfl,rfl,e1,rfl,?_⟩
  exact⟨_,rfl,q _ _ (AR _ (by(first|lia|omega))) (uG _ hm0) ⟨⟨_,_,_,zG,Int.ediv_nonneg c0 (by(first|lia|omega)),by(first|lia|omega),by(first|lia|omega)⟩,k1.trans kJ.upd⟩⟩
 ·refine⟨_,rfl,st,_,_,_,rfl,rfl,.of e1,rfl,_,rfl,st,_,_,_,rfl,rfl,.of e1,rfl,_,_,rfl,rfl,.inl ⟨by decide,by decide⟩,_,_,rfl,rfl,_,_,rfl,rfl,_,_,rfl,rfl,VW,?_⟩
  refine⟨_,rfl,_,rfl,_,_,rfl,rfl,.inl (Zk _),_,_,rfl,rfl,VV,_,rfl,st,_,_,_,rfl,rfl,.of e1,rfl,_,_,rfl,rfl,.inl ⟨by decide,by decide⟩,_,_,rfl,rfl,?_⟩
  refine⟨_,rfl,_,rfl,_,_,rfl,rfl,.inl (Zj _ (t:=t+1) (by(first|lia|omega)) (by(first|lia|omega))),_,_,rfl,rfl,VW,?_⟩
  refine⟨_,rfl,_,_,rfl,rfl,Zu (by decide) (by decide),_,rfl,_,_,rfl,rfl,hm0,?_⟩
  exact q _ _ (AR _ (by(first|lia|omega))) (uG _ hm0) ⟨⟨_,_,_,e1,c0,by(first|lia|omega),by(first|lia|omega)⟩,k1⟩

end
section
variable {P:Program}{w:World}{K:PySem.W.Frag}{mg:Str->Option Value}{base:Heap}{f:Addr}{fd:FuncData}{aP aW aH CT CR CL CN:Addr}
set_option maxHeartbeats 4000000

def HG:Sp:=fun vs H Q _=>vs=[]/\ ∀p H',H p=none->wG H H'->H' p=some (.lst (kwA.map V.str))->Q (.ref p) H'
theorem RV (F:vW K "_law_words" "_law_words" Fi f fd):jV P w K mg base (jX P w) 1 f fd [] HG:=by
 refine F.okN GO (fun vs H Q E h=>?_) (fun cdv A outer s H vs Q E hr h=>?_)
 ·obtain⟨rfl,_⟩:=h
  rfl
 obtain⟨rfl,q⟩:=h
 refine⟨_,(zF (yT (i:=0) GO.nd rfl (Or.inl rfl) kQ)
   (zU (yU (kK jI PySem.F.slot_str_split PySem.F.type_str_split Oo (pv 0) (zA kQ zH))))),?_⟩
 try dsimp only[Cx.nox,Cx.exc,Cx.wish,jC]
 refine⟨_,rfl,rfl,_," ",rfl,rfl,rfl,Ac (by decide),?_,?_⟩
 ·rw[Jb];exact small (by decide)
 ·rw[Jb]
  exact fun p hp=>q p _ hp (zV hp _) zG
inductive JA (vs:List V) (H:Hp) (Q:VK) (E:XK):Prop
 |mk (st tk:Addr) (ts:List Str) (m:Int) (h0:vs=[.ref st,.ref tk]) (h1:Bz H st m) (h2:m<=200000) (h3:H tk=some (.lst (ts.map V.str))) (h4:tk≠st) (h5:ts.length<=24) (h6: ∀nm H',jF nm=true->nm∉ts->jQ st (m+10) H H'->Q (.str nm) H'):JA vs H Q E
theorem Uj (T:KK K mg)(F:vW K "_law_name" "_law_name" DR f fd)(C_law_draw:vV P w K mg base (jX P w) 1 "_law_draw" ["_law_pen_here","_law_many"] DM)(C_law_words:vV P w K mg base (jX P w) 1 "_law_words" [] HG):
  jV P w K mg base (jX P w) 2 f fd ["_law_pen_here","_law_taken"] JA:=by
 refine F.okN CZ (fun vs H Q E h=>?_) (fun cdv A outer s H vs Q E hr h=>?_)
 ·obtain⟨st,tk,ts,m,rfl,_⟩:=h
  rfl
 obtain⟨st,tk,ts,m,rfl,D,m0,htk,ntk,hts,q⟩:=h
 refine⟨_,(zF (yT (i:=2) CZ.nd rfl (Or.inr rfl) kQ)
   (zF (yT (i:=3) CZ.nd rfl (Or.inl rfl) (xZ jH (jN (zA zX (zA zX (zA zX (zA zX (zA zX (zA (xS vM zX (yF C_law_draw hr rfl (zA (pv 0) (zA zX zH)) jZ)) zH))))))) (yF C_law_draw hr rfl (zA (pv 0) (zA zX zH)) jZ) (fun _ _=>rfl)))
   (zF (Px (i:=4) CZ.nd rfl rfl (own:=["_law_k"]) (ys:=["_law_letters","_law_pen_here"]) rfl (uQ rfl T.n_range (zA (pv 3) zH)) (BW (sc:=yH DR) rfl (by decide+kernel)) (.cons (j:=2) rfl (.cons (j:=0) rfl .nil)) (fun _ _ _ _ _=>(xG (i:=0) (show List.Nodup [("_law_k":Str),("_law_letters":Str),("_law_pen_here":Str)]from(by decide+kernel)) rfl (Or.inl rfl))) (fun _ _ _ _ _=>Gu) (fun _ _ _ _ _=>(xZ Qf (pv 1) (yF C_law_draw hr rfl (zA (pv 2) (zA zX zH)) jZ) (fun _ _=>rfl))))
   (zF (HP xO (yL Do (kK jI qX qW Gz kQ (zA (pv 4) zH)) (xS BT (pv 1) (Lq C_law_words hr rfl jZ)) rfl) (zU (El (xZ Qf (pv 2) (xS Em (xS vM (kK jI PySem.F.slot_str_index PySem.F.type_str_index Si (pv 2) (zA (xZ jH (pv 4) (NW JL zX) (fun _ _=>rfl)) zH)) zX) zX) (fun _ _=>rfl)) (ML (pv 4) (NW JL zX) HI))))
   (zU (yU (kK jI qX qW Gz kQ (zA (pv 4) zH)))))))),?_⟩
 try dsimp only[Cx.nox,Cx.exc,Cx.wish,jC]
 refine⟨_,rfl,st,8,m,rfl,by decide,by decide,by(first|lia|omega),D,fun r8 H1 r0 r1 D1=>⟨_,_,rfl,rfl,sm6,fun o ho=>?_⟩⟩
 have D2:=D1.trans (D1.pen.new ho (.lst [.int 1,.int 1,.int 2,.int 3,.int 8,.int (1+r8)]))
 refine⟨_,rfl,st,6,m+1,rfl,by decide,by decide,by(first|lia|omega),D2.pen,fun r6 H3 p0 p1 D3=>?_⟩
 have eo:H3 o=some (.lst [.int 1,.int 1,.int 2,.int 3,.int 8,.int (1+r8)]):=D3.keep _ _ (Ne.symm (D1.pen.ne ho)) zG
 obtain⟨sz,esz,z1,z8⟩: ∃sz:Int,Fz [V.int 1,.int 1,.int 2,.int 3,.int 8,.int (1+r8)] r6=some (.int sz)/\1<=sz/\sz<=8:=by
  have:r6=0\/r6=1\/r6=2\/r6=3\/r6=4\/r6=5:=by(first|lia|omega)
  rcases this with rfl|rfl|rfl|rfl|rfl|rfl
  ·exact⟨1,rfl,by decide,by decide⟩
  ·exact⟨1,rfl,by decide,by decide⟩
  ·exact⟨2,rfl,by decide,by decide⟩
  ·exact⟨3,rfl,by decide,by decide⟩
  ·exact⟨8,rfl,by decide,by decide⟩
  ·exact⟨1+r8,rfl,by(first|lia|omega),by(first|lia|omega)⟩
 refine⟨o,_,_,_,rfl,rfl,.of eo,esz,?_⟩
 have D13:=D2.trans D3
 refine⟨_,rfl,_,rfl,by(first|lia|omega),by(first|lia|omega),fun p hp=>?_⟩
 have npt:p≠st:=Ne.symm (D3.pen.ne hp)
 refine Vn (lo:=0) (n:=sz.toNat) (fs:=[some (.str lettersS),some (.ref st)]) (fun j ys H'=>jQ st (m+2+j) H3 H'/\ ∃cs:List Nat,H' p=some (.lst ((cs.map HW).map V.str))/\cs.length=j/\ ∀c∈cs,97<=c/\c<=122) ⟨(D3.pen.new hp _).mono (by(first|lia|omega)),[],zG,rfl,fun c hc=>(nomatch hc)⟩ ?_ ?_
 ·rintro j ys H' hj ⟨D',cs,ep,hl,hc⟩
  refine⟨_,rfl,_,rfl,st,26,m+2+j,rfl,by decide,by decide,by(first|lia|omega),D'.pen,fun r H4 q0 q1 D4=>?_⟩
  have hr:r.toNat<26:=by(first|lia|omega)
  have al:Fz lettersS.cps.toList r=some (97+r.toNat):=An q0 (by rw[DT,zN,List.getElem?_range hr];rfl)
  refine⟨lettersS,r,_,rfl,rfl,Ac (by decide),al,_,D4.keep _ _ npt ep,Ak (by rw[zD,zD];(first|lia|omega)),Mj.next (ys:=ys) hj ⟨?_,cs++[97+r.toNat],?_,?_,?_⟩⟩
  ·refine⟨(D4.pen.put npt).mono (by(first|lia|omega)),fun b v nb e=>?_⟩
   have nbp:b≠p:=zK e hp
   rw[zQ nbp]
   exact D4.keep _ _ nb (D'.keep _ _ nb e)
  ·rw[zG,yA,yA];rfl
  ·rw[zC];show cs.length+1=j+1;(first|lia|omega)
  ·intro c hm
   rcases List.mem_append.mp hm with z|z
   ·exact hc c z
   ·rw[List.mem_singleton.mp z];(first|lia|omega)
 rintro ys H4 ⟨D4,cs,ep,hl,hc⟩
 have D14:=D13.trans D4
 obtain⟨pre,last,rfl⟩: ∃pre last,cs=pre++[last]:=by
  have:cs≠[]:=fun z=>by rw[z]at hl;have:([]:List Nat).length =0:=rfl;(first|lia|omega)
  exact⟨cs.dropLast,cs.getLast this,(List.dropLast_concat_getLast this).symm⟩
 have hlast:=hc last (yW _ (List.mem_singleton.mpr rfl))
 obtain⟨j0,rfl⟩: ∃j0,last=97+j0:=⟨last-97,by(first|lia|omega)⟩
 obtain⟨ks,hks,hfree⟩:=SA pre j0 ts hts
 have hp1:pre.length+1=sz.toNat:=by rw[<-hl,zC];rfl
 have tk4:H4 tk=some (.lst (ts.map V.str)):=D14.keep _ _ ntk htk
 have hpc: ∀c∈pre,97<=c/\c<=122:=fun c h=>hc c (kN _ h)
 have hpH:H p=none:=D13.free hp
 refine⟨fun mm σ' H'=> ∃k,k<=ks/\mm=ks-k/\σ'=[some (.ref st),some (.ref tk),some (.str lettersS),some (.int sz),some (.ref p)]/\jQ st (m+10) H H'/\H' p=some (.lst (((pre++[97+(j0+k) % 26]).map HW).map V.str)),⟨ks,0,yZ _,rfl,rfl,D14.mono (by(first|lia|omega)),?_⟩,?_⟩
 ·rw[ep,Nat.add_zero,Nat.mod_eq_of_lt (by(first|lia|omega))]
 rintro mm σ' H' ⟨k,hk,rfl,rfl,D',ep'⟩
 have hlen:(((pre++[97+(j0+k) % 26]).map HW).map (·.length)).sum<=100:=by
  have: ∀l:List Nat,((l.map HW).map (·.length)).sum =l.length:=fun l=>by
   induction l with
   |nil=>rfl
   |cons c l ih=>rw[yK,yK,Er,ih,zJ];show 1+_=_;(first|lia|omega)
  rw[this,zC]
  show pre.length+1<=100
  (first|lia|omega)
 have tk':H' tk=some (.lst (ts.map V.str)):=D'.keep _ _ ntk htk
 have ls:((pre++[97+(j0+k) % 26]).map HW).length<=100:=by rw[zD,zC];show pre.length+1<=100;(first|lia|omega)
 refine⟨rfl,_,rfl,"",p,_,rfl,rfl,.of ep',(show _+_*0<=16777216 by(first|lia|omega)),?_⟩
 rw[NE]
 refine⟨_,rfl,rfl,fun wl H5 hw s5 e5=>⟨tk,wl,_,_,rfl,rfl,s5 _ _ tk',e5,?_,fun c hc2=>⟨c,_,rfl,.inl (.of zG),rfl,?_,_,rfl,?_⟩⟩⟩
 ·rw[zD,zD]
  exact small (show ts.length+21<=1000 by(first|lia|omega))
 ·rw[<-yA];exact uS _
 rw[<-yA,Ck]
 have s6:=s5.trans (zV hc2 (.lst ((ts++kwA).map V.str)))
 have D6:=D'.trans (D'.pen.more s6)
 have ep6:=s6 _ _ ep'
 refine kI (fun c2=>?_) (fun c2=>?_)
 ·have mem:=yB c2
  have hk2:k<ks:=Nat.lt_of_le_of_ne hk (fun z=>hfree (z▸mem))
  refine⟨_,fun σ2 H2 z=>z,?_⟩
  have hj:(j0+k) % 26<26:=DB _ (by decide)
  have hj2:(((j0+k) % 26:Nat)+1:Int) % 26=(((j0+(k+1)) % 26:Nat):Int):=by(first|lia|omega)
  have hj3:(j0+(k+1)) % 26<26:=DB _ (by decide)
  have al:Fz lettersS.cps.toList ((((j0+k) % 26:Nat)+1:Int) % 26)=some (97+(j0+(k+1)) % 26):=by
   rw[hj2]
   exact By (by rw[DT,zN,List.getElem?_range hj3];rfl)
  have el:Fz (((pre++[97+(j0+k) % 26]).map HW).map V.str) (-1)=some (.str (HW (97+(j0+k) % 26))):=by
   rw[yA,yA]
   exact OQ _ _
  refine⟨_,rfl,_,rfl,rfl,_,rfl,_,rfl,p,_,_,_,rfl,rfl,.of ep6,el,lettersS,_,_,_,rfl,rfl,Qi ⟨(j0+k) % 26,hj⟩,_,_,rfl,rfl,_,_,rfl,rfl,(show(0:Int)<26 by decide),lettersS,_,_,rfl,rfl,Ac (by decide),al,?_⟩
  have ei:UL (((pre++[97+(j0+k) % 26]).map HW).map V.str).length (-1)=some pre.length:=by
   rw[zD,zD,zC]
   unfold UL
   rw[zL (by decide),zW (by show-((pre.length+1:Nat):Int)<= -1;(first|lia|omega))]
   congr 1
   show(-1+((pre.length+1:Nat):Int)).toNat =pre.length
   (first|lia|omega)
  refine⟨_,rfl,_,rfl,p,_,_,_,rfl,rfl,ep6,ei,ks-(k+1),by(first|lia|omega),k+1,by(first|lia|omega),rfl,rfl,?_,?_⟩
  ·refine⟨D6.pen.put npt,fun b v nb e=>?_⟩
   rw[zQ (zK e hpH)]
   exact D6.keep _ _ nb e
  ·rw[zG,yA,yA,yA,yA,List.set_append_right _ _ (by rw[zD,zD];exact zS _)]
   rw[zD,zD,BG]
   rfl
 ·have nmem:=kL (Bool.eq_false_iff.mpr c2)
  refine⟨rfl,_,rfl,"",p,(pre++[97+(j0+k) % 26]).map HW,rfl,rfl,.of ep6,(show _+_*0<=16777216 by(first|lia|omega)),?_⟩
  rw[NE]
  refine q _ _ (Sd (fun c h=>?_) ?_ ?_ (fun z=>nmem (yW _ z))) (fun z=>nmem (kN _ z)) ?_
  ·rcases List.mem_append.mp h with z|z
   ·exact hpc c z
   ·rw[List.mem_singleton.mp z];have:=DB (j0+k) (show 0<26 by decide);(first|lia|omega)
  ·rw[zC];exact Nat.le_add_left 1 _
  ·rw[zC];show pre.length+1<=8;(first|lia|omega)
  ·exact D6

end
section
variable {P:Program}{w:World}{K:PySem.W.Frag}{mg:Str->Option Value}{base:Heap}{f:Addr}{fd:FuncData}{aP aW aH CT CR CL CN:Addr}
set_option maxHeartbeats 4000000

def RB (n:Int):Prop:=n.natAbs<10^60
theorem DV {n:Int}(h0: -5000<=n)(h1:n<=5000):RB n:=qB (show n.natAbs<5001 by(first|lia|omega)) (by decide+kernel)
theorem SG {d e:Int}(d0:0<=d)(d1:d<10^6)(e0:0<=e)(e1:e<2):RB ((10^60-1-d)*(1-2*e)):=by
 unfold RB
 have b1:(10:Int)^6<10^60:=by decide+kernel
 have b2:((10:Int)^60)=((10^60:Nat):Int):=by norm_cast
 have:e=0\/e=1:=by(first|lia|omega)
 rcases this with rfl|rfl
 ·rw[show(1-2*0:Int)=1 from rfl,Int.mul_one]
  generalize(10:Int)^60=G at *
  generalize(10:Nat)^60=B at *
  (first|lia|omega)
 ·rw[show(1-2*1:Int)= -1 from rfl,Int.mul_neg,Int.mul_one]
  generalize(10:Int)^60=G at *
  generalize(10:Nat)^60=B at *
  (first|lia|omega)
theorem XR {e:Int}(e0:0<=e)(e1:e<2): -(2^64)<1-2*e/\1-2*e<2^64:=by(first|lia|omega)
inductive Gr (vs:List V) (H:Hp) (Q:VK) (E:XK):Prop
 |mk (st:Addr) (far:Bool) (m:Int) (h0:vs=[.ref st,.bl far]) (h1:m<=500000) (h2:Bz H st m) (h3: ∀(n:Int) (H':Hp),RB n->jQ st (m+3) H H'->Q (.int n) H'):Gr vs H Q E
theorem PF (F:vW K "_law_number" "_law_number" Ej f fd)(C_law_draw:vV P w K mg base (jX P w) 1 "_law_draw" ["_law_pen_here","_law_many"] DM):jV P w K mg base (jX P w) 2 f fd ["_law_pen_here","_law_is_far"] Gr:=by
 refine F.okN FR (fun vs H Q E h=>?_) (fun cdv A outer s H vs Q E hr h=>?_)
 ·obtain⟨st,far,m,rfl,_⟩:=h
  rfl
 obtain⟨st,far,m,rfl,mb,D,q⟩:=h
 refine⟨_,(zF (yT (i:=2) FR.nd rfl (Or.inl rfl) (yF C_law_draw hr rfl (zA (pv 0) (zA zX zH)) jZ))
   (zF (jB (yL GS (pv 2) zX (yY _)) (zU (yU (xS vL (yF C_law_draw hr rfl (zA (pv 0) (zA zX zH)) jZ) zX))) yV)
   (zF (jB (PW.pt (uZ (yL kT (pv 2) zX (yY _)) (uA (Ai (uB (pv 1)))))) (zU (yU (xS vL (yF C_law_draw hr rfl (zA (pv 0) (zA zX zH)) jZ) zX))) yV)
   (zU (yU (xS Fs (xS vL (xS vL (xS MO zX zX) zX) (yF C_law_draw hr rfl (zA (pv 0) (zA (xS MO zX zX) zH)) jZ)) (xS vL zX (xS Fs zX (yF C_law_draw hr rfl (zA (pv 0) (zA zX zH)) jZ))))))))),?_⟩
 try dsimp only[Cx.nox,Cx.exc,Cx.wish,jC]
 refine⟨_,rfl,st,6,m,rfl,by decide,by decide,by(first|lia|omega),D,fun r H1 r0 r1 D1=>?_⟩
 have mid: ∃(e:V),e=.ref st/\DM [e,.int 2001] H1 (fun v H2=> ∃(i j:Int),v=.int i/\V.int 1000=.int j/\Q (.int (i-j)) H2) E:=⟨_,rfl,st,2001,m+1,rfl,by decide,by decide,by(first|lia|omega),D1.pen,fun x H2 x0 x1 D2=>⟨_,_,rfl,rfl,q _ _ (DV (by(first|lia|omega)) (by(first|lia|omega))) ((D1.trans D2).mono (by(first|lia|omega)))⟩⟩
 refine⟨_,rfl,_,_,rfl,rfl,_,rfl,kI (fun c=>?_) (fun c=>?_)⟩
 ·exact⟨_,rfl,st,12,m+1,rfl,by decide,by decide,by(first|lia|omega),D1.pen,fun x H2 x0 x1 D2=>⟨_,_,rfl,rfl,q _ _ (DV (by(first|lia|omega)) (by(first|lia|omega))) ((D1.trans D2).mono (by(first|lia|omega)))⟩⟩
 obtain⟨e,rfl,st',many,m',ev,k1,k2,k3,k4,k5⟩:=mid
 refine⟨_,rfl,rfl,_,rfl,kI (fun c=>AX ?_) (fun c=>?_)⟩
 ·exact⟨_,rfl,st,2001,m+1,rfl,by decide,by decide,by(first|lia|omega),D1.pen,fun x H2 x0 x1 D2=>⟨_,_,rfl,rfl,q _ _ (DV (by(first|lia|omega)) (by(first|lia|omega))) ((D1.trans D2).mono (by(first|lia|omega)))⟩⟩
 refine⟨_,rfl,_,rfl,?_⟩
 cases far with
 |false=>exact AX ⟨_,rfl,st,2001,m+1,rfl,by decide,by decide,by(first|lia|omega),D1.pen,fun x H2 x0 x1 D2=>⟨_,_,rfl,rfl,q _ _ (DV (by(first|lia|omega)) (by(first|lia|omega))) ((D1.trans D2).mono (by(first|lia|omega)))⟩⟩
 |true=>
  refine Bi ?_
  refine⟨_,_,rfl,rfl,⟨by decide,by decide,by decide⟩,_,_,rfl,rfl,_,rfl,_,_,rfl,rfl,⟨by decide,by decide,by decide⟩,st,_,m+1,rfl,by decide,by decide,by(first|lia|omega),D1.pen,fun d H2 d0 d1 D2=>?_⟩
  refine⟨_,_,rfl,rfl,_,rfl,st,2,m+2,rfl,by decide,by decide,by(first|lia|omega),D2.pen.mono (by(first|lia|omega)),fun e H3 e0 e1 D3=>?_⟩
  refine⟨_,_,rfl,rfl,.inl ⟨by decide,by decide⟩,_,_,rfl,rfl,_,_,rfl,rfl,.inr (XR e0 e1),?_⟩
  exact q _ _ (SG d0 d1 e0 e1) ((D1.trans (D2.trans D3)).mono (by(first|lia|omega)))

end
section
variable {P:Program}{w:World}{K:PySem.W.Frag}{mg:Str->Option Value}{base:Heap}{f:Addr}{fd:FuncData}{aP aW aH CT CR CL CN:Addr}
set_option maxHeartbeats 4000000

def Vy (H:Hp)(v:V)(h:FI):Prop:= ∃t b,v=.ref t/\H t=some (.tup [.str h.1,.ref b,.int (h.2.2:Int)])/\H b=some (.tup (h.2.1.map V.str))
theorem Vy.tups {H H':Hp}{v:V}{h:FI}(x:Vy H v h)(g:wV H H'):Vy H' v h:=by
 obtain⟨t,b,rfl,e1,e2⟩:=x
 exact⟨t,b,rfl,g _ _ e1,g _ _ e2⟩
def WH (H:Hp)(l:Addr)(hs:List FI):Prop:= ∃vs,H l=some (.lst vs)/\Paired (Vy H) vs hs
structure ZL (hs:List FI):Prop where
 all: ∀h∈hs,Vx h
 nd:(hs.map (·.1)).Nodup
 ne:hs≠[]
 few:hs.length<=16
 first: ∀h,hs[0]? =some h->h.2.2=0
theorem Kc {st:Addr}{m n:Int}{H H':Hp}(D:Bz H st n)(p:jQ st m H H'):wV H H':=fun b xs e=>p.keep b _ (fun z=>by obtain⟨ys,ey⟩:=D.is;rw[z,ey]at e;cases e) e
inductive Iv (vs:List V) (H:Hp) (Q:VK) (E:XK):Prop
 |mk (st:Addr) (most m:Int) (h0:vs=[.ref st,.int most]) (h1:0<most) (h2:most<=16) (h3:Bz H st m) (h4:m<=10000) (h5: ∀l hs H',jQ st (m+3000) H H'->WH H' l hs->ZL hs->(hs.length:Int)<=most->H l=none->Q (.ref l) H'):Iv vs H Q E
theorem PL (T:KK K mg)(F:vW K "_law_heads" "_law_heads" Fk f fd)(C_law_draw:vV P w K mg base (jX P w) 1 "_law_draw" ["_law_pen_here","_law_many"] DM)(C_law_name:vV P w K mg base (jX P w) 2 "_law_name" ["_law_pen_here","_law_taken"] JA):
  jV P w K mg base (jX P w) 3 f fd ["_law_pen_here","_law_most"] Iv:=by
 refine F.okN wP (fun vs H Q E h=>?_) (fun cdv A outer s H vs Q E hr h=>?_)
 ·obtain⟨st,most,m,rfl,_⟩:=h
  rfl
 obtain⟨st,most,m,rfl,o0,o1,D,m0,q⟩:=h
 refine⟨_,(zF (yT (i:=2) wP.nd rfl (Or.inl rfl) (jN zH))
   (zF (yT (i:=3) wP.nd rfl (Or.inl rfl) (jN zH))
   (zF (vE xO rfl (uQ rfl T.n_range (zA (xS vM zX (yF C_law_draw hr rfl (zA (pv 0) (zA (pv 1) zH)) jZ)) zH)) (xG (i:=4) wP.nd rfl (Or.inl rfl)) (zF (yT (i:=5) wP.nd rfl (Or.inl rfl) (yF C_law_name hr rfl (zA (pv 0) (zA (pv 3) zH)) jZ))
   (zF (xV (kK zO zZ zY xY (pv 3) (zA (pv 5) zH)))
   (zF (yT (i:=6) wP.nd rfl (Or.inl rfl) (xS Fs (yF C_law_draw hr rfl (zA (pv 0) (zA zX zH)) jZ) (kR IR rfl T.n_int IS (zA (Cd GU (pv 4) zX (yY _)) zH))))
   (zF (yT (i:=7) wP.nd rfl (Or.inl rfl) (jN zH))
   (zF (vE xO rfl (uQ rfl T.n_range (zA (xS vM (pv 6) (yF C_law_draw hr rfl (zA (pv 0) (zA (xZ jH (jN (zA zX (zA (xS vL zX (pv 6)) zH))) (kR IR rfl T.n_int IS (zA (Cd kT (yF C_law_draw hr rfl (zA (pv 0) (zA zX zH)) jZ) zX (yY _)) zH)) (fun _ _=>rfl)) zH)) jZ)) zH)) (xG (i:=8) wP.nd rfl (Or.inl rfl)) (zU (xV (kK zO zZ zY xY (pv 7) (zA (yF C_law_name hr rfl (zA (pv 0) (zA (pv 7) zH)) jZ) zH)))))
   (zU (xV (kK zO zZ zY xY (pv 2) (zA (qD (zA (pv 5) (zA (kR vN rfl T.n_tuple Am (zA (pv 7) zH)) (zA (pv 6) zH)))) zH))))))))))
   (zU (yU (pv 2)))))),?_⟩
 try dsimp only[Cx.nox,Cx.exc,Cx.wish,jC]
 refine⟨sm0,fun fo hf=>⟨sm0,fun tk ht=>?_⟩⟩
 have D1:=D.new hf (.lst [])
 have D2:=D1.trans (D1.pen.new ht (.lst []))
 have nft:fo≠tk:=fun z=>by rw[<-z,zG]at ht;cases ht
 have hkt:H tk=none:=(zV hf (.lst [])).free ht
 have nfs:fo≠st:=Ne.symm (D.ne hf)
 have nts:tk≠st:=Ne.symm (D.ne hkt)
 refine⟨_,rfl,_,rfl,st,most,m,rfl,o0,by(first|lia|omega),by(first|lia|omega),D2.pen,fun r H3 r0 r1 D3=>⟨_,_,rfl,rfl,_,rfl,by(first|lia|omega),by(first|lia|omega),?_⟩⟩
 have D23:=D2.trans D3
 refine uR (fun i σ' H'=> ∃(hs:List FI) (vs:List V) (v4 v5 v6 v7 v8:Option V),σ'=[some (.ref st),some (.int most),some (.ref fo),some (.ref tk),v4,v5,v6,v7,v8]/\jQ st (m+1+140*i) H H'/\H' fo=some (.lst vs)/\Paired (Vy H') vs hs/\H' tk=some (.lst ((hs.map (·.1)).map V.str))/\hs.length=i/\
  (∀h∈hs,Vx h)/\(hs.map (·.1)).Nodup/\ ∀h,hs[0]? =some h->h.2.2=0) ⟨[],[],_,_,_,_,_,rfl,D23.mono (by(first|lia|omega)),?_,.nil,?_,rfl,fun h hh=>(nomatch hh),.nil,fun h hh=>(nomatch hh)⟩ ?_ ?_
 ·exact D3.keep _ _ nfs (by rw[zQ nft];exact zG)
 ·exact D3.keep _ _ nts zG
 ·rintro i σ' H' hi ⟨hs,vs,v4,v5,v6,v7,v8,rfl,D',ef,pv,et,hl,hok,hnd,hfst⟩
  have hi16:i<16:=by(first|lia|omega)
  refine⟨_,rfl,_,rfl,st,tk,hs.map (·.1),m+1+140*i,rfl,D'.pen,by(first|lia|omega),et,nts,by rw[zD];(first|lia|omega),fun nm H4 ok nin D4=>?_⟩
  have et4:=D4.keep _ _ nts et
  have ef4:=D4.keep _ _ nfs ef
  refine⟨_,rfl,.inl ⟨rfl,_,.of et4⟩,_,rfl,tk,_,_,rfl,rfl,et4,qY (by rw[zD,zD];(first|lia|omega)),?_⟩
  have D5:jQ st (m+1+140*i+10) H (upd H4 tk (.lst ((hs.map (·.1)).map V.str++[.str nm]))):=⟨(D'.trans D4).pen.put nts,fun b o nb e=>by rw[zQ (zK e hkt)];exact(D'.trans D4).keep _ _ nb e⟩
  have ef5:upd H4 tk (.lst ((hs.map (·.1)).map V.str++[.str nm])) fo=some (.lst vs):=by rw[zQ nft];exact ef4
  have tp5:wV H' (upd H4 tk (.lst ((hs.map (·.1)).map V.str++[.str nm]))):=fun b xs e=>by
   have:=Kc D'.pen D4 b xs e
   rw[zQ (fun z=>by rw[z,et4]at this;cases this)]
   exact this
  have et5:upd H4 tk (.lst ((hs.map (·.1)).map V.str++[.str nm])) tk=some (.lst ((hs.map (·.1)).map V.str++[.str nm])):=zG
  generalize upd H4 tk (.lst ((hs.map (·.1)).map V.str++[.str nm]))=H5 at *
  refine⟨_,rfl,st,5,m+1+140*i+10,rfl,by decide,by decide,by(first|lia|omega),D5.pen,fun r5 H6 a0 a1 D6=>?_⟩
  have ef6:=D6.keep _ _ nfs ef5
  have et6:=D6.keep _ _ nts et5
  have tp6:=Kc D5.pen D6
  refine⟨_,rfl,_,_,rfl,rfl,.inr ⟨_,rfl,_,_,rfl,rfl,.inl (by(first|lia|omega)),?_⟩⟩
  obtain⟨p,ep,p4,pz⟩: ∃p:Nat,r5*(if decide ((0:Int)<0+(i:Int))=true then 1 else 0)=(p:Int)/\p<=4/\(i=0->p=0):=by
   by_cases z:i=0
   ·refine⟨0,?_,by(first|lia|omega),fun _=>rfl⟩
    rw[zL (by rw[DX];(first|lia|omega)),Int.mul_zero]
    rfl
   ·refine⟨r5.toNat,?_,by(first|lia|omega),fun y=>absurd y z⟩
    rw[zW (yE (by(first|lia|omega))),Int.mul_one]
    (first|lia|omega)
  show Rc 6 (V.int (r5* if decide ((0:Int)<0+(i:Int))=true then 1 else 0)) _ _ _
  rw[ep]
  refine⟨sm0,fun bx hbx=>?_⟩
  have D56:=D5.trans D6
  have hbH:H bx=none:=D56.free hbx
  have nbs:bx≠st:=Ne.symm (D56.pen.ne hbx)
  have nbf:fo≠bx:=zK ef6 hbx
  have nbt:tk≠bx:=zK et6 hbx
  have s7:=zV hbx (.lst [])
  have D7:=D56.trans (D56.pen.more s7)
  have eb7:upd H6 bx (.lst []) bx=some (.lst []):=zG
  have ef7:=s7 _ _ ef6
  have et7:=s7 _ _ et6
  have tp7:wV H' (upd H6 bx (.lst [])):=fun b xs e=>s7 _ _ (tp6 _ _ (tp5 _ _ e))
  clear s7
  generalize upd H6 bx (.lst [])=H7 at *
  refine⟨_,rfl,_,rfl,_,rfl,_,_,rfl,rfl,sm2,fun o ho=>?_⟩
  have D8:=D7.trans (D7.pen.new ho (.lst [.int 3,.int (13-(p:Int))]))
  have s8:=zV ho (.lst [.int 3,.int (13-(p:Int))])
  refine⟨_,rfl,st,6,m+1+140*i+11,rfl,by decide,by decide,by(first|lia|omega),D8.pen.mono (by(first|lia|omega)),fun r6 H9 b0 b1 D9=>?_⟩
  have nos:o≠st:=Ne.symm (D7.pen.ne ho)
  have eo:H9 o=some (.lst [.int 3,.int (13-(p:Int))]):=D9.keep _ _ nos zG
  obtain⟨c,ec,c0,c13⟩: ∃c:Int,Fz [V.int 3,.int (13-(p:Int))] (if decide (V.int r6=V.int 0)=true then 1 else 0)=some (.int c)/\0<c/\c<=13-p:=by
   split
   ·exact⟨13-p,rfl,by(first|lia|omega),by(first|lia|omega)⟩
   ·exact⟨3,rfl,by decide,by(first|lia|omega)⟩
  refine⟨rfl,.inr ⟨_,rfl,o,_,_,_,rfl,rfl,.of eo,ec,st,c,m+1+140*i+12,rfl,c0,by(first|lia|omega),by(first|lia|omega),D9.pen.mono (by(first|lia|omega)),fun rc H10 d0 d1 D10=>⟨_,_,rfl,rfl,_,rfl,by(first|lia|omega),by(first|lia|omega),?_⟩⟩⟩
  have D79:jQ st (m+1+140*i+13) H H10:=(D8.trans (D9.trans D10)).mono (by(first|lia|omega))
  have k10: ∀{b:Addr} {o':HO},b≠st->H7 b=some o'->H10 b=some o':=fun n e=>D10.keep _ _ n (D9.keep _ _ n (s8 _ _ e))
  have tp10:wV H' H10:=fun b xs e=>by
   have e7:=tp7 _ _ e
   exact k10 (fun z=>by obtain⟨ys,ey⟩:=D7.pen.is;rw[z,ey]at e7;cases e7) e7
  have cnt12:((p:Int)+rc).toNat<=12:=by(first|lia|omega)
  have cntp:p<=((p:Int)+rc).toNat:=by(first|lia|omega)
  generalize((p:Int)+rc).toNat =nb at cnt12 cntp
  have eb10:=k10 nbs eb7
  refine uR (fun j σ2 H2=> ∃(bs:List Str) (v8:Option V),σ2=[some (.ref st),some (.int most),some (.ref fo),some (.ref tk),some (.int (0+(i:Int))),some (.str nm),some (.int (p:Int)),some (.ref bx),v8]/\jQ st (m+1+140*i+13+10*j) H H2/\(∀(b:Addr) (o':HO),b≠st->b≠bx->H10 b=some o'->H2 b=some o')/\H2 bx=some (.lst (bs.map V.str))/\bs.length=j/\bs.Nodup/\ ∀b∈bs,jF b=true)
   ⟨[],_,rfl,D79.mono (by(first|lia|omega)),fun _ _ _ _ e=>e,eb10,rfl,.nil,fun b hb=>(nomatch hb)⟩ ?_ ?_
  ·rintro j σ2 H2 hj ⟨bs,v8',rfl,Dj,kj,ebj,hlj,ndj,okj⟩
   refine⟨_,rfl,.inl ⟨rfl,_,.of ebj⟩,_,rfl,_,rfl,st,bx,bs,m+1+140*i+13+10*j,rfl,Dj.pen,by(first|lia|omega),ebj,nbs,by(first|lia|omega),fun bn H11 okb nib D11=>?_⟩
   have eb11:=D11.keep _ _ nbs ebj
   refine⟨bx,_,_,rfl,rfl,eb11,qY (by rw[zD];(first|lia|omega)),bs++[bn],_,rfl,?_,?_,?_,?_,?_,?_⟩
   ·refine⟨((Dj.trans D11).pen.put nbs).mono (by(first|lia|omega)),fun b o' nb' e=>?_⟩
    rw[zQ (zK e hbH)]
    exact(Dj.trans D11).keep _ _ nb' e
   ·intro b o' n1 n2 e
    rw[zQ n2]
    exact D11.keep _ _ n1 (kj b o' n1 n2 e)
   ·rw[zG,yA];rfl
   ·rw[zC];show bs.length+1=j+1;(first|lia|omega)
   ·exact List.nodup_append.mpr ⟨ndj,by simp,fun a ha b hb e=>nib (by rw[<-List.mem_singleton.mp hb,<-e];exact ha)⟩
   ·intro b hb
    rcases List.mem_append.mp hb with z|z
    ·exact okj b z
    ·rw[List.mem_singleton.mp z];exact okb
  rintro σ2 H2 ⟨bs,v8',rfl,Dj,kj,ebj,hlj,ndj,okj⟩
  have efj:=kj _ _ nfs nbf (k10 nfs ef7)
  have etj:=kj _ _ nts nbt (k10 nts et7)
  have tpj:wV H' H2:=fun b xs e=>by
   have e10:=tp10 _ _ e
   refine kj _ _ (fun z=>?_) (fun z=>?_) e10
   ·obtain⟨ys,ey⟩:=D79.pen.is;rw[z,ey]at e10;cases e10
   ·rw[z,eb10]at e10;cases e10
  have hlv:=Paired.len pv
  refine⟨_,rfl,.inl ⟨rfl,_,.of efj⟩,_,rfl,_,rfl,bx,_,rfl,.inl ⟨.of ebj,fun bt hbt=>?_⟩⟩
  have sa:=zV hbt (.tup (bs.map V.str))
  refine⟨_,rfl,sm3,fun t ht2=>?_⟩
  have sb:=zV ht2 (.tup [.str nm,.ref bt,.int (p:Int)])
  have sab:=sa.trans sb
  have D12:=Dj.trans (Dj.pen.more sab)
  have ebt:upd (upd H2 bt (.tup (bs.map V.str))) t (.tup [.str nm,.ref bt,.int (p:Int)]) bt=some (.tup (bs.map V.str)):=sb _ _ zG
  have ett:upd (upd H2 bt (.tup (bs.map V.str))) t (.tup [.str nm,.ref bt,.int (p:Int)]) t=some (.tup [.str nm,.ref bt,.int (p:Int)]):=zG
  have ef12:=sab _ _ efj
  have tpf: ∀{b:Addr} {xs:List V} {G:Hp} {o:HO},G fo=some (.lst vs)->G b=some (.tup xs)->upd G fo o b=some (.tup xs):=fun{b xs G o} h e=>by rw[zQ (fun z=>by rw[z,h]at e;cases e)];exact e
  refine⟨fo,_,_,rfl,rfl,ef12,qY (by(first|lia|omega)),hs++[(nm,bs,p)],_,_,_,_,_,_,rfl,?_,zG,?_,?_,?_,?_,?_,?_⟩
  ·refine⟨(D12.pen.put nfs).mono (by(first|lia|omega)),fun b o' nb' e=>?_⟩
   rw[zQ (zK e hf)]
   exact D12.keep _ _ nb' e
  ·refine qG (Paired.imp (fun v h z=>z.tups fun b xs e=>tpf ef12 (sab _ _ (tpj _ _ e))) pv) ⟨t,bt,rfl,tpf ef12 ett,tpf ef12 ebt⟩
  ·rw[zQ (Ne.symm nft),sab _ _ etj,yA,yA];rfl
  ·rw[zC];show hs.length+1=i+1;(first|lia|omega)
  ·intro h hh
   rcases List.mem_append.mp hh with z|z
   ·exact hok h z
   ·rw[List.mem_singleton.mp z];exact⟨ok,⟨ndj,okj,by show bs.length<=12;(first|lia|omega)⟩,p4,by show p<=bs.length;(first|lia|omega)⟩
  ·rw[yA]
   refine List.nodup_append.mpr ⟨hnd,by simp,fun a ha b hb e=>nin ?_⟩
   have eb:b=nm:=by simpa using hb
   rw[<-eb,<-e]
   exact ha
  ·intro h hh
   cases hs with
   |nil=>
    have:h=(nm,bs,p):=by simpa using hh.symm
    rw[this]
    exact pz hl.symm
   |cons a b=>exact hfst h (by simpa using hh)
 ·rintro σ' H' ⟨hs,vs,v4,v5,v6,v7,v8,rfl,D',ef,pv,et,hl,hok,hnd,hfst⟩
  refine⟨_,rfl,q fo hs H' (D'.mono (by(first|lia|omega))) ⟨vs,ef,pv⟩ ⟨hok,hnd,fun z=>?_,by(first|lia|omega),hfst⟩ (by(first|lia|omega)) hf⟩
  rw[z]at hl
  have:([]:List FI).length =0:=rfl
  (first|lia|omega)

end
section
variable {P:Program}{w:World}{K:PySem.W.Frag}{mg:Str->Option Value}{base:Heap}{f:Addr}{fd:FuncData}{aP aW aH CT CR CL CN:Addr}
set_option maxHeartbeats 4000000

structure Co (st hd bx lf:Addr)(hs:List FI)(bs:List Str)(H:Hp)(m l:Int):Prop where
 pen:Bz H st m
 hds:WH H hd hs
 box:H bx=some (.tup (bs.map V.str))
 lft:H lf=some (.lst [.int l])
 n1:lf≠st
 n2:lf≠hd
 n3:hd≠st
section
variable {st hd bx lf:Addr}{hs:List FI}{bs:List Str}{H H':Hp}{m m' l l':Int}
theorem Co.penned (h:Co st hd bx lf hs bs H m l)(D:jQ st m' H H'):Co st hd bx lf hs bs H' m' l:=by
 have tp:=Kc h.pen D
 obtain⟨vs,e,p⟩:=h.hds
 exact⟨D.pen,⟨vs,D.keep _ _ h.n3 e,Paired.imp (fun v x z=>z.tups tp) p⟩,tp _ _ h.box,D.keep _ _ h.n1 h.lft,h.n1,h.n2,h.n3⟩
theorem Co.same (h:Co st hd bx lf hs bs H m l)(g:wG H H'):Co st hd bx lf hs bs H' m l:=h.penned (h.pen.more g)
theorem Co.mono (h:Co st hd bx lf hs bs H m l)(k:m<=m'):Co st hd bx lf hs bs H m' l:=⟨h.pen.mono k,h.hds,h.box,h.lft,h.n1,h.n2,h.n3⟩
theorem Co.put (h:Co st hd bx lf hs bs H m l){x:Addr}{xs ys:List V}(ex:H x=some (.lst xs))(n1:x≠st)(n2:x≠hd)(n3:x≠lf):Co st hd bx lf hs bs (upd H x (.lst ys)) m l:=by
 have tp:wV H (upd H x (.lst ys)):=fun b zs e=>by rw[zQ (fun z=>by rw[z,ex]at e;cases e)];exact e
 obtain⟨vs,e,p⟩:=h.hds
 exact⟨h.pen.put n1,⟨vs,by rw[zQ (Ne.symm n2)];exact e,Paired.imp (fun v x z=>z.tups tp) p⟩,tp _ _ h.box,by rw[zQ (Ne.symm n3)];exact h.lft,h.n1,h.n2,h.n3⟩
theorem Co.left (h:Co st hd bx lf hs bs H m l)(l':Int):Co st hd bx lf hs bs (upd H lf (.lst [.int l'])) m l':=by
 have tp:wV H (upd H lf (.lst [.int l'])):=fun b zs e=>by rw[zQ (fun z=>by rw[z,h.lft]at e;cases e)];exact e
 obtain⟨vs,e,p⟩:=h.hds
 exact⟨h.pen.put h.n1,⟨vs,by rw[zQ (Ne.symm h.n2)];exact e,Paired.imp (fun v x z=>z.tups tp) p⟩,tp _ _ h.box,zG,h.n1,h.n2,h.n3⟩
theorem Co.hne (h:Co st hd bx lf hs bs H m l){x:Addr}(e:H x=none):x≠st/\x≠hd/\x≠lf:=by
 obtain⟨vs,e2,_⟩:=h.hds
 exact⟨Ne.symm (h.pen.ne e),Ne.symm (zK e2 e),Ne.symm (zK h.lft e)⟩
end
theorem Jf {st lf:Addr}{m:Int}{H H':Hp}(D:jQ st m H H'):jG [st,lf] H H':=fun b o nb e=>D.keep b o (fun z=>nb (z▸zP ..)) e
def zBu (st hd bx lf:Addr)(hs:List FI)(bs:List Str)(d:Nat)(H:Hp)(m l:Int)(Q:VK):Prop:= ∀p wa na ws zs l' H',jG [st,lf] H H'->(∀b,H' b=none->H b=none)->Co st hd bx lf hs bs H' (m+10*(ws.length:Int)) l'->l'.toNat<=l.toNat->ws.length+28*l'.toNat<=2+28*l.toNat->zs.length<=2*ws.length->
 H' p=some (.tup [.ref wa,.ref na])->H' wa=some (.lst (ws.map V.str))->H' na=some (.lst (zs.map V.int))->H wa=none->H na=none->Go hs bs d ws zs->(∀w∈ws,FH w)->Q (.ref p) H'
inductive Et (d:Nat) (vs:List V) (H:Hp) (Q:VK) (E:XK):Prop
 |mk (st hd bx lf:Addr) (hs:List FI) (bs:List Str) (m l:Int) (h0:vs=[.ref st,.ref hd,.ref bx,.ref lf,.int (11-(d:Int))]) (h1:1<=d) (h2:d<=10) (h3:Co st hd bx lf hs bs H m l) (h4:ZL hs) (h5:OX bs) (h6:m+280*(l.toNat:Int)<=300000) (h7:l<=100) (h8:zBu st hd bx lf hs bs d H m l Q):Et d vs H Q E
def Tq:Nat->Sp
 |0=>fun _ _ _ _=>False
 |d+1=>Et d
def manyT:List Int:=[1,0,0,2,0,1,2,2,2,2,2,2,2,2,2,3,1,0]
def OU (st hd bx lf:Addr)(hs:List FI)(bs:List Str)(d:Nat)(k:Int)(w:Str)(wa na:Addr)(H:Hp)(m l:Int)(C:Prop)(σ':St)(H':Hp):Prop:= ∃(ow:List Str) (on:List Int) (n:Nat) (v7 v12:Option V),
 σ'=[some (.ref st),some (.ref hd),some (.ref bx),some (.ref lf),some (.int (11-((d+1:Nat):Int))),some (.int k),none,v7,some (.str w),some (.int (n:Int)),some (.ref wa),some (.ref na),v12,none,none,none]/\jG [st,lf] H H'/\(∀b,H' b=none->H b=none)/\Co st hd bx lf hs bs H' m l/\
 H' wa=some (.lst ((w::ow).map V.str))/\H' na=some (.lst ((k::on).map V.int))/\(C->Il hs bs k ow on n)/\(¬C->ow=[]/\on=[]/\manyT[(k-2).toNat]? =some (n:Int))/\ow.length<=1/\on.length=ow.length/\n<=13/\(∀x∈ow,FH x)/\(k=19->n=0)
structure NwS (st hd lf:Addr)(H:Hp)(wa na:Addr):Prop where
 w1:wa≠st
 w2:wa≠hd
 w3:wa≠lf
 a1:na≠st
 a2:na≠hd
 a3:na≠lf
 wn:wa≠na
 f1:H wa=none
 f2:H na=none
theorem OU.app {st hd bx lf:Addr}{hs:List FI}{bs:List Str}{d:Nat}{k:Int}{w:Str}{wa na:Addr}{H H2:Hp}{m l:Int}{C:Prop}(nw:NwS st hd lf H wa na)(kp:jG [st,lf] H H2)(lv: ∀b,H2 b=none->H b=none)(S:Co st hd bx lf hs bs H2 m l)(ew:H2 wa=some (.lst [.str w]))(en:H2 na=some (.lst [.int k]))
  {x:Str} {z:Int} {n:Nat} {v7 v12:Option V} (own:Il hs bs k [x] [z] n) (wd:FH x) (hn:n<=13) (hC:C) (h19:k≠19):
  OU st hd bx lf hs bs d k w wa na H m l C [some (.ref st),some (.ref hd),some (.ref bx),some (.ref lf),some (.int (11-((d+1:Nat):Int))),some (.int k),none,v7,some (.str w),some (.int (n:Int)),some (.ref wa),some (.ref na),v12,none,none,none]
   (upd (upd H2 wa (.lst ([.str w]++[.str x]))) na (.lst ([.int k]++[.int z]))):=by
 have en2:upd H2 wa (.lst ([.str w]++[.str x])) na=some (.lst [.int k]):=by rw[zQ (Ne.symm nw.wn)];exact en
 refine⟨[x],[z],n,v7,v12,rfl,fun b o nb e=>?_,wM (wM lv ew) en2,(S.put ew nw.w1 nw.w2 nw.w3).put en2 nw.a1 nw.a2 nw.a3,?_,zG,fun _=>own,fun z=>absurd hC z,zS _,rfl,hn,(fun y hy=>by rw[List.mem_singleton.mp hy];exact wd),fun z=>absurd z h19⟩
 ·rw[zQ (zK e nw.f2),zQ (zK e nw.f1)]
  exact kp b o nb e
 ·rw[zQ nw.wn];exact zG
theorem Qa: ∀j:Fin 18,∃n:Nat,manyT[j.1]? =some (n:Int)/\n<=13:=by
 intro j
 have: ∀j:Fin 18,(manyT[j.1]?).map Int.toNat=some ((manyT.getD j.1 0).toNat)/\0<=manyT.getD j.1 0/\(manyT.getD j.1 0).toNat<=13:=by decide
 obtain⟨h1,h2,h3⟩:=this j
 refine⟨(manyT.getD j.1 0).toNat,?_,h3⟩
 have hl:j.1<manyT.length:=j.2
 rw[zB hl]
 have:manyT.getD j.1 0=manyT[j.1]:=by rw[yS,zB hl];rfl
 rw[<-this]
 congr 1
 (first|lia|omega)
theorem Wn {k:Int}{n:Nat}(h2:2<=k)(h19:k<=19)(h234: ¬(k=2\/k=3\/k=4))(h6:k≠6)(e:manyT[(k-2).toNat]? =some (n:Int)):(if k=5 then 2 else(partsW[(k-7).toNat]?).getD 0)=(n:Int):=by
 have tab: ∀j:Fin 18,j.1<3\/j.1=4\/manyT[j.1]? =some (if j.1=3 then 2 else(partsW[j.1-5]?).getD 0):=by decide
 rcases tab ⟨(k-2).toNat,by(first|lia|omega)⟩with z|z|z
 ·have z':(k-2).toNat <3:=z
  (first|lia|omega)
 ·have z':(k-2).toNat =4:=z
  (first|lia|omega)
 ·have z':manyT[(k-2).toNat]? =some (if(k-2).toNat =3 then 2 else(partsW[(k-2).toNat -5]?).getD 0):=z
  rw[e]at z'
  injection z' with z'
  rw[z']
  by_cases c:k=5
  ·rw[zW c,zW (by(first|lia|omega))]
  ·rw[zL c,zL (by(first|lia|omega)),show(k-2).toNat -5=(k-7).toNat by(first|lia|omega)]
theorem XX {k:Int}(h2:2<=k)(h19:k<=19): ∃w,kwW[(k-2).toNat]? =some w/\Fz (kwA.map V.str) (k+1)=some (.str w):=by
 have hl:(k-2).toNat <kwW.length:=by show(k-2).toNat <18;(first|lia|omega)
 refine⟨kwW[(k-2).toNat],zB hl,An (by(first|lia|omega)) ?_⟩
 rw[zN,show(k+1).toNat =kwH.length+(k-2).toNat by show _=3+_;(first|lia|omega)]
 unfold kwA
 rw[qO (Nat.le_add_right _ _),Nat.add_sub_cancel_left,zB hl]
 rfl
theorem WR {r:Int}(h0:0<=r)(h1:r<3): ∃k:Int,Fz [V.int 0,.int 1,.int 19] r=some (.int k)/\(k=0\/k=1\/k=19):=by
 have:r=0\/r=1\/r=2:=by(first|lia|omega)
 rcases this with rfl|rfl|rfl
 ·exact⟨0,rfl,.inl rfl⟩
 ·exact⟨1,rfl,.inr (.inl rfl)⟩
 ·exact⟨19,rfl,.inr (.inr rfl)⟩
theorem Lv (d:Nat)(T:KK K mg)(F:vW K "_law_shape" "_law_shape" Db f fd)(C_law_draw:vV P w K mg base (jX P w) 1 "_law_draw" ["_law_pen_here","_law_many"] DM)(C_law_words:vV P w K mg base (jX P w) 1 "_law_words" [] HG)
  (C_law_number:vV P w K mg base (jX P w) 2 "_law_number" ["_law_pen_here","_law_is_far"] Gr) (C_law_shape:vV P w K mg base (jX P w) (2+d) "_law_shape" ["_law_pen_here","_law_heads_here","_law_boxes","_law_left","_law_deep"] (Tq d)):
  jV P w K mg base (jX P w) (2+d+1) f fd ["_law_pen_here","_law_heads_here","_law_boxes","_law_left","_law_deep"] (Et d):=by
 refine F.okN jE (fun vs H Q E h=>?_) (fun cdv A outer s H vs Q E hr h=>?_)
 ·obtain⟨st,hd,bx,lf,hs,bs,m,l,rfl,_⟩:=h
  rfl
 obtain⟨st,hd,bx,lf,hs,bs,m,l,rfl,d1,d10,S,hg,hb,mb,lb,q⟩:=h
 obtain⟨d,rfl⟩: ∃d',d=d'+1:=⟨d-1,by(first|lia|omega)⟩
 refine⟨_,(zF (El (xS vL (xZ jH (pv 3) zX (fun _ _=>rfl)) zX) (ML (pv 3) zX HI))
   (zF (yT (i:=5) jE.nd rfl (Or.inl rfl) (yF C_law_draw hr rfl (zA (pv 0) (zA zX zH)) jZ))
   (zF (Ek (jB (PW.pt (uZ (yL GS (xZ jH (pv 3) zX (fun _ _=>rfl)) zX (yY _)) (uA (yL kT (pv 4) zX (yY _))))) (zU (yT (i:=5) jE.nd rfl (Or.inl rfl) (xZ jH (jN (Bg (.int (.int (.int .nil))))) (yF C_law_draw hr rfl (zA (pv 0) (zA zX zH)) jZ) (fun _ _=>rfl)))) yV))
   (zF (Ek (jB (PW.pt (TB (yL Do (pv 5) (qD (Bg (.int (.int .nil)))) rfl) (QN (yL (RU hr) (pv 2) (qD zH) (yY _))))) (zU (yT (i:=5) jE.nd rfl (Or.inl rfl) zX)) yV))
   (zF (jB (yL kT (pv 5) zX (yY _)) (zF (yT (i:=6) jE.nd rfl (Or.inl rfl) (yF C_law_number hr rfl (zA (pv 0) (zA (Cd GU (xZ jH (pv 3) zX (fun _ _=>rfl)) zX (yY _)) zH)) jZ))
   (zU (yU (qD (zA (jN (zA (kR Fy rfl T.n_str KG (zA (pv 6) zH)) zH)) (zA (jN (zA zX (zA (pv 6) zH))) zH)))))) yV)
   (zF (jB (yL kT (pv 5) zX (yY _)) (zF (yT (i:=7) jE.nd rfl (Or.inl rfl) (yF C_law_draw hr rfl (zA (pv 0) (zA (xR xJ rfl T.n_len qJ (zA (pv 2) zH)) zH)) jZ))
   (zU (yU (qD (zA (jN (zA (xZ qL (pv 2) (pv 7) (fun _ _=>rfl)) zH)) (zA (jN (zA zX (zA (pv 7) zH))) zH)))))) yV)
   (zF (yT (i:=8) jE.nd rfl (Or.inl rfl) (xZ jH (Lq C_law_words hr rfl jZ) (xS vM (pv 5) zX) (fun _ _=>rfl)))
   (zF (yT (i:=9) jE.nd rfl (Or.inl rfl) (xZ jH (jN (Bg (.int (.int (.int (.int (.int (.int (.int (.int (.int (.int (.int (.int (.int (.int (.int (.int (.int (.int .nil)))))))))))))))))))) (xS vL (pv 5) zX) (fun _ _=>rfl)))
   (zF (yT (i:=10) jE.nd rfl (Or.inl rfl) (jN (zA (pv 8) zH)))
   (zF (yT (i:=11) jE.nd rfl (Or.inl rfl) (jN (zA (pv 5) zH)))
   (zF (Ek (jB (yL kT (pv 5) zX (yY _)) (zF (yT (i:=7) jE.nd rfl (Or.inl rfl) (yF C_law_draw hr rfl (zA (pv 0) (zA (xR xJ rfl T.n_len qJ (zA (pv 2) zH)) zH)) jZ))
   (zF (xV (kK zO zZ zY xY (pv 10) (zA (xZ qL (pv 2) (pv 7) (fun _ _=>rfl)) zH)))
   (zU (xV (kK zO zZ zY xY (pv 11) (zA (pv 7) zH)))))) yV))
   (zF (Ek (jB (yL Do (pv 5) (qD (Bg (.int (.int .nil)))) rfl) (zF (yT (i:=12) jE.nd rfl (Or.inl rfl) (xS vM (xS vL (pv 5) zX) (yF C_law_draw hr rfl (zA (pv 0) (zA (xZ jH (jN (zA zX (zA (xS vL zX (pv 5)) zH))) (kR IR rfl T.n_int IS (zA (Cd kT (yF C_law_draw hr rfl (zA (pv 0) (zA zX zH)) jZ) zX (yY _)) zH)) (fun _ _=>rfl)) zH)) jZ)))
   (zF (xV (kK zO zZ zY xY (pv 10) (zA (kR Fy rfl T.n_str KG (zA (pv 12) zH)) zH)))
   (zF (xV (kK zO zZ zY xY (pv 11) (zA (pv 12) zH)))
   (zU (yT (i:=9) jE.nd rfl (Or.inl rfl) (xS vL (xS vM (pv 12) (pv 5)) zX)))))) yV))
   (zF (Ek (jB (yL kT (pv 5) zX (yY _)) (zF (yT (i:=7) jE.nd rfl (Or.inl rfl) (yF C_law_draw hr rfl (zA (pv 0) (zA (xR xJ rfl T.n_len qJ (zA (pv 1) zH)) zH)) jZ))
   (zF (xV (kK zO zZ zY xY (pv 10) (zA (xZ qL (xZ jH (pv 1) (pv 7) (fun _ _=>rfl)) zX (fun _ _=>rfl)) zH)))
   (zF (xV (kK zO zZ zY xY (pv 11) (zA (pv 7) zH)))
   (zU (yT (i:=9) jE.nd rfl (Or.inl rfl) (xZ qL (xZ jH (pv 1) (pv 7) (fun _ _=>rfl)) zX (fun _ _=>rfl))))))) yV))
   (zF (vE xO rfl (uQ rfl T.n_range (zA (pv 9) zH)) (xG (i:=13) jE.nd rfl (Or.inl rfl)) (zF (El (yF C_law_shape hr rfl (zA (pv 0) (zA (pv 1) (zA (pv 2) (zA (pv 3) (zA (xS vM (pv 4) zX) zH))))) jZ) (BS rfl (jA (xG (i:=14) jE.nd rfl (Or.inl rfl)) (jA (xG (i:=15) jE.nd rfl (Or.inl rfl)) Aa))))
   (zF (xV (kK zO qA kZ EA (pv 10) (zA (pv 14) zH)))
   (zU (xV (kK zO qA kZ EA (pv 11) (zA (pv 15) zH)))))))
   (zU (yU (qD (zA (pv 10) (zA (pv 11) zH))))))))))))))))))),?_⟩
 try dsimp only[Cx.nox,Cx.exc,Cx.wish,jC]
 refine⟨_,rfl,lf,_,_,_,rfl,rfl,.of S.lft,rfl,_,_,rfl,rfl,_,rfl,lf,_,_,_,rfl,rfl,S.lft,rfl,?_⟩
 have S1:=S.left (l-1)
 have k1:jG [st,lf] H (upd H lf (.lst [.int (l-1)])):=jG.upd (zT _ (zP ..))
 have lv1: ∀b,upd H lf (.lst [.int (l-1)]) b=none->H b=none:=wM (fun _ z=>z) S.lft
 have eset:[V.int l].set 0 (.int (l-1))=[.int (l-1)]:=rfl
 refine⟨_,rfl,st,20,m,rfl,by decide,by decide,by(first|lia|omega),S1.pen,fun r H2 r0 r1 D2=>?_⟩
 have S2:=S1.penned D2
 have k2:jG [st,lf] H H2:=k1.trans (Jf D2)
 have lv2: ∀b,H2 b=none->H b=none:=fun b e=>lv1 b (D2.free e)
 have nl9: ∀(k:Int),(l-1<1\/d=0->k=0\/k=1\/k=19)->True:=fun _ _=>trivial
 refine⟨fun σ' H'=> ∃k:Int,σ'=[some (.ref st),some (.ref hd),some (.ref bx),some (.ref lf),some (.int (11-((d+1:Nat):Int))),some (.int k),none,none,none,none,none,none,none,none,none,none]/\0<=k/\k<=19/\(l-1<1\/d=0->k=0\/k=1\/k=19)/\jG [st,lf] H H'/\(∀b,H' b=none->H b=none)/\Co st hd bx lf hs bs H' (m+2) (l-1),?_,?_⟩
 ·refine⟨_,rfl,lf,_,_,_,rfl,rfl,.of S2.lft,rfl,_,_,rfl,rfl,_,rfl,kI (fun c=>AX ?_) (fun c=>?_)⟩
  ·refine⟨sm3,fun o ho=>⟨_,rfl,st,3,m+1,rfl,by decide,by decide,by(first|lia|omega),(S2.same (zV ho _)).pen,fun r3 H3 a0 a1 D3=>?_⟩⟩
   obtain⟨k,ek,hk⟩:=WR a0 a1
   have S3:=(S2.same (zV ho (.lst [.int 0,.int 1,.int 19]))).penned D3
   have eo:H3 o=some (.lst [.int 0,.int 1,.int 19]):=D3.keep _ _ (S2.hne ho).1 zG
   exact⟨o,_,_,_,rfl,rfl,.of eo,ek,k,rfl,by(first|lia|omega),by(first|lia|omega),fun _=>hk,k2.trans ((jG.same (zV ho _)).trans (Jf D3)),fun b e=>lv2 b ((zV ho _).free (D3.free e)),S3.mono (by(first|lia|omega))⟩
  have c':=df c
  refine⟨_,rfl,rfl,_,rfl,kI (fun c2=>?_) (fun c2=>?_)⟩
  ·refine⟨sm3,fun o ho=>⟨_,rfl,st,3,m+1,rfl,by decide,by decide,by(first|lia|omega),(S2.same (zV ho _)).pen,fun r3 H3 a0 a1 D3=>?_⟩⟩
   obtain⟨k,ek,hk⟩:=WR a0 a1
   have S3:=(S2.same (zV ho (.lst [.int 0,.int 1,.int 19]))).penned D3
   have eo:H3 o=some (.lst [.int 0,.int 1,.int 19]):=D3.keep _ _ (S2.hne ho).1 zG
   exact⟨o,_,_,_,rfl,rfl,.of eo,ek,k,rfl,by(first|lia|omega),by(first|lia|omega),fun _=>hk,k2.trans ((jG.same (zV ho _)).trans (Jf D3)),fun b e=>lv2 b ((zV ho _).free (D3.free e)),S3.mono (by(first|lia|omega))⟩
  have c2':=vf c2
  exact⟨r,rfl,r0,by(first|lia|omega),fun z=>by(first|lia|omega),k2,lv2,S2.mono (by(first|lia|omega))⟩
 rintro _ _ ⟨k,rfl,k0,k19,hkl,k3,lv3,S3⟩
 rename_i H3
 refine⟨fun σ' H'=> ∃k:Int,σ'=[some (.ref st),some (.ref hd),some (.ref bx),some (.ref lf),some (.int (11-((d+1:Nat):Int))),some (.int k),none,none,none,none,none,none,none,none,none,none]/\0<=k/\k<=19/\(l-1<1\/d=0->k=0\/k=1\/k=19)/\(k=1\/k=2->bs≠[])/\jG [st,lf] H H'/\(∀b,H' b=none->H b=none)/\Co st hd bx lf hs bs H' (m+2) (l-1),?_,?_⟩
 ·refine⟨_,rfl,sm2,fun tp htp=>⟨tp,_,rfl,.inr (.of zG),rfl,rfl,_,rfl,?_⟩⟩
  have k4:=k3.trans (jG.same (zV htp (.tup [.int 1,.int 2])))
  have lv4: ∀b,upd H3 tp (.tup [.int 1,.int 2]) b=none->H b=none:=fun b e=>lv3 b ((zV htp _).free e)
  have S4:=S3.same (zV htp (.tup [.int 1,.int 2]))
  have ei:WV (.int k) [V.int 1,.int 2]=decide (k=1\/k=2):=by
   exact(Kv k [1,2]).trans (decide_eq_decide.mpr (by simp))
  rw[ei]
  refine kI (fun c=>?_) (fun c=>?_)
  ·have c':=yB c
   refine⟨_,rfl,sm0,fun et het=>⟨bx,et,_,rfl,rfl,.of ((zV het _) _ _ S4.box),.of zG,_,rfl,?_⟩⟩
   have k5:=k4.trans (jG.same (zV het (.tup [])))
   have lv5: ∀b,upd (upd H3 tp (.tup [.int 1,.int 2])) et (.tup []) b=none->H b=none:=fun b e=>lv4 b ((zV het _).free e)
   have S5:=S4.same (zV het (.tup []))
   cases eb:bs with
   |nil=>
    subst eb
    exact AX ⟨0,rfl,by decide,by decide,fun _=>.inl rfl,fun z=>by(first|lia|omega),k5,lv5,S5⟩
   |cons x y=>
    rw[<-eb]
    refine Zn (by rw[eb];rfl) ⟨k,rfl,k0,k19,hkl,fun _=>by rw[eb];exact fun z=>(nomatch z),k5,lv5,S5⟩
  ·have c':=kL (Bool.eq_false_iff.mpr c)
   exact⟨k,rfl,k0,k19,hkl,fun z=>absurd z c',k4,lv4,S4⟩
 rintro _ _ ⟨k,rfl,k0,k19,hkl,hkb,k4,lv4,S4⟩
 rename_i H4
 have fin: ∀(H5:Hp) (m5 l5:Int) (ws:List Str) (zs:List Int) (wa na:Addr),jG [st,lf] H H5->(∀b,H5 b=none->H b=none)->Co st hd bx lf hs bs H5 m5 l5->m5<=m+10*(ws.length:Int)->l5.toNat<=l.toNat->ws.length+28*l5.toNat<=2+28*l.toNat->zs.length<=2*ws.length->H5 wa=some (.lst (ws.map V.str))->H5 na=some (.lst (zs.map V.int))->H wa=none->H na=none->
   Go hs bs (d+1) ws zs->(∀w∈ws,FH w)-> ∀p,H5 p=none->Q (.ref p) (upd H5 p (.tup [.ref wa,.ref na])):=fun H5 m5 l5 ws zs wa na k5 lv5 S5 b1 b2 b3 b4 e1 e2 f1 f2 rd wd p hp=>by
  have sm:=zV hp (.tup [.ref wa,.ref na])
  exact q p wa na ws zs l5 _ (k5.trans (jG.same sm)) (fun b e=>lv5 b (sm.free e)) ((S5.same sm).mono b1) b2 b3 b4 zG (sm _ _ e1) (sm _ _ e2) f1 f2 rd wd
 have fin1: ∀(H5:Hp) (m5:Int) (x:Str) (zs:List Int),jQ st m5 H4 H5->m5<=m+10->zs.length<=2->Go hs bs (d+1) [x] zs->FH x-> ∀wa,H5 wa=none-> ∀na,upd H5 wa (.lst [.str x]) na=none-> ∀p,upd (upd H5 wa (.lst [.str x])) na (.lst (zs.map V.int)) p=none->
   Q (.ref p) (upd (upd (upd H5 wa (.lst [.str x])) na (.lst (zs.map V.int))) p (.tup [.ref wa,.ref na])):=fun H5 m5 x zs D5 b1 b4 rd wd wa hwa na hna p hp=>by
  have sa:=zV hwa (.lst [.str x])
  have sb:=zV hna (.lst (zs.map V.int))
  refine fin _ m5 (l-1) [x] zs wa na ((k4.trans (Jf D5)).trans (jG.same (sa.trans sb))) (fun b e=>lv4 b (D5.free ((sa.trans sb).free e))) ((S4.penned D5).same (sa.trans sb)) (by show m5<=m+10*((1:Nat):Int);(first|lia|omega)) (by(first|lia|omega)) (by show 1+_<=_;(first|lia|omega)) b4 (sb _ _ zG) zG (lv4 _ (D5.free hwa)) (lv4 _ (D5.free (sa.free hna))) rd (fun w hw=>by rw[List.mem_singleton.mp hw];exact wd) p hp
 refine⟨_,rfl,rfl,_,rfl,kI (fun c=>?_) (fun c0=>?_)⟩
 ·refine⟨_,rfl,_,rfl,lf,_,_,_,rfl,rfl,.of S4.lft,rfl,_,_,rfl,rfl,st,_,m+2,rfl,by(first|lia|omega),S4.pen,fun n H5 fn D5=>?_⟩
  have lg:n.natAbs.log2<1920:=by
   refine jY (?_:n.natAbs.log2<=200) (by decide)
   by_cases z:n.natAbs=0
   ·rw[z];decide
   ·exact uF ((Nat.log2_lt z).mpr (qB fn (by decide+kernel)))
  refine⟨_,rfl,n,rfl,lg,sm1,fun wa hwa=>⟨_,rfl,sm2,fun na hna=>⟨sm2,fun p hp=>?_⟩⟩⟩
  exact fin1 H5 _ (uL n) [0,n] D5 (by(first|lia|omega)) (zS _) (Ll fn) (PN fn) wa hwa na hna p hp
 refine⟨_,rfl,rfl,_,rfl,kI (fun c=>?_) (fun c1=>?_)⟩
 ·have bne:=hkb (.inl (vt c))
  have b12:=hb.few
  have b0:0<bs.length:=List.length_pos_iff.mpr bne
  have lbs:((bs.map V.str).length:Int)=(bs.length:Int):=by rw[zD]
  refine⟨_,rfl,_,rfl,bx,_,rfl,.inr (.of S4.box),st,_,m+2,rfl,by(first|lia|omega),by(first|lia|omega),by(first|lia|omega),S4.pen,fun r H5 r0' r1' D5=>?_⟩
  have hr':r.toNat<bs.length:=by(first|lia|omega)
  have eb:bs[r.toNat]? =some bs[r.toNat]:=zB hr'
  generalize bs[r.toNat]=b at eb
  have S5:=S4.penned D5
  have ab:Fz (bs.map V.str) r=some (.str b):=An r0' (by rw[zN,eb];rfl)
  refine⟨_,rfl,_,rfl,bx,_,_,_,rfl,rfl,.of S5.box,ab,sm1,fun wa hwa=>⟨_,rfl,sm2,fun na hna=>⟨sm2,fun p hp=>?_⟩⟩⟩
  have rg:=Lm (hs:=hs) (d:=d) hb eb
  rw[show((r.toNat:Nat):Int)=r by(first|lia|omega)]at rg
  exact fin1 H5 _ b [1,r] D5 (by(first|lia|omega)) (zS _) rg (Ay (hb.ok b (zM eb))) wa hwa na hna p hp
 have n0:=vf c0
 have n1:=vf c1
 have k2':2<=k:=by(first|lia|omega)
 obtain⟨w,hw,aw⟩:=XX k2' k19
 obtain⟨n,en,n13⟩:=Qa ⟨(k-2).toNat,by(first|lia|omega)⟩
 dsimp only at en
 have am:Fz (manyT.map V.int) (k-2)=some (.int (n:Int)):=An (by(first|lia|omega)) (by rw[zN,en];rfl)
 refine⟨rfl,fun wl H5 hwl s5 e5=>⟨_,rfl,_,_,rfl,rfl,wl,_,_,_,rfl,rfl,.of e5,aw,?_⟩⟩
 refine⟨sm18,fun o ho=>⟨_,rfl,_,_,rfl,rfl,o,_,_,_,rfl,rfl,.of zG,am,?_⟩⟩
 have s6:=s5.trans (zV ho (.lst (manyT.map V.int)))
 refine⟨_,rfl,sm1,fun wa hwa=>⟨_,rfl,sm1,fun na hna=>?_⟩⟩
 have s7:=s6.trans (zV hwa (.lst [.str w]))
 have s8:=s7.trans (zV hna (.lst [.int k]))
 have nw:NwS st hd lf H wa na:=⟨((S4.same s6).hne hwa).1,((S4.same s6).hne hwa).2.1,((S4.same s6).hne hwa).2.2,((S4.same s7).hne hna).1,((S4.same s7).hne hna).2.1,((S4.same s7).hne hna).2.2,(fun z=>by rw[<-z,zG]at hna;cases hna),lv4 _ (s6.free hwa),lv4 _ (s7.free hna)⟩
 refine⟨OU st hd bx lf hs bs d k w wa na H (m+3) (l-1) (k=2),?_,?_⟩
 ·have S8:=S4.same s8
  have k8:=k4.trans (jG.same s8)
  have lv8: ∀b,upd (upd (upd H5 o (.lst (manyT.map V.int))) wa (.lst [.str w])) na (.lst [.int k]) b=none->H b=none:=fun b e=>lv4 b (s8.free e)
  have ew8:upd (upd (upd H5 o (.lst (manyT.map V.int))) wa (.lst [.str w])) na (.lst [.int k]) wa=some (.lst [.str w]):=by rw[zQ nw.wn];exact zG
  have en8:upd (upd (upd H5 o (.lst (manyT.map V.int))) wa (.lst [.str w])) na (.lst [.int k]) na=some (.lst [.int k]):=zG
  refine⟨_,rfl,rfl,_,rfl,kI (fun c=>?_) (fun c=>?_)⟩
  ·have kk:=vt c
   have bne:=hkb (.inr kk)
   have b12:=hb.few
   have b0:0<bs.length:=List.length_pos_iff.mpr bne
   have lbs:((bs.map V.str).length:Int)=(bs.length:Int):=by rw[zD]
   refine⟨_,rfl,_,rfl,bx,_,rfl,.inr (.of S8.box),st,_,m+2,rfl,by(first|lia|omega),by(first|lia|omega),by(first|lia|omega),S8.pen,fun r H9 r0' r1' D9=>?_⟩
   have hr':r.toNat<bs.length:=by(first|lia|omega)
   have eb:bs[r.toNat]? =some bs[r.toNat]:=zB hr'
   generalize bs[r.toNat]=b at eb
   have S9:=S8.penned D9
   have ab:Fz (bs.map V.str) r=some (.str b):=An r0' (by rw[zN,eb];rfl)
   have ew9:=D9.keep _ _ nw.w1 ew8
   have en9:=D9.keep _ _ nw.a1 en8
   have own:=Kt (hs:=hs) hb eb
   rw[show((r.toNat:Nat):Int)=r by(first|lia|omega)]at own
   have e1:n=1:=by
    rw[kk]at en
    have en':some (1:Int)=some (n:Int):=en
    injection en' with z
    (first|lia|omega)
   refine⟨_,rfl,.inl ⟨rfl,_,.of ew9⟩,_,rfl,_,rfl,bx,_,_,_,rfl,rfl,.of S9.box,ab,wa,_,_,rfl,rfl,ew9,qY (show 1<=1000 by decide),?_⟩
   refine⟨_,rfl,.inl ⟨rfl,_,.of (by rw[zQ (Ne.symm nw.wn)];exact en9)⟩,_,rfl,na,[.int k],_,rfl,rfl,by rw[zQ (Ne.symm nw.wn)];exact en9,qY (show 1<=1000 by decide),?_⟩
   exact OU.app nw (k8.trans (Jf D9)) (fun b e=>lv8 b (D9.free e)) (S9.mono (by(first|lia|omega))) ew9 en9 (by rw[kk,e1];exact own) (Ay (hb.ok b (zM eb))) n13 kk (by(first|lia|omega))
  ·have kk:=vf c
   exact⟨[],[],n,none,none,rfl,k8,lv8,S8.mono (by(first|lia|omega)),ew8,en8,fun z=>absurd z kk,fun _=>⟨rfl,rfl,en⟩,yZ _,rfl,n13,(fun x hx=>(nomatch hx)),fun z=>by
    rw[z]at en
    have en':some (0:Int)=some (n:Int):=en
    injection en' with y
    (first|lia|omega)⟩
 rintro σ9 H9 M9
 refine⟨OU st hd bx lf hs bs d k w wa na H (m+5) (l-1) (k=2\/k=3\/k=4),?_,?_⟩
 ·obtain⟨ow,on,n,v7,v12,rfl,k9,lv9,S9,ew9,en9,own9,no9,l1,l2,n13,wd9,z9⟩:=M9
  refine⟨_,rfl,sm2,fun tp htp=>⟨tp,_,rfl,.inr (.of zG),rfl,rfl,_,rfl,?_⟩⟩
  have st9:=zV htp (.tup [.int 3,.int 4])
  have ei:WV (.int k) [V.int 3,.int 4]=decide (k=3\/k=4):=(Kv k [3,4]).trans (decide_eq_decide.mpr (by simp))
  rw[ei]
  have kt:=k9.trans (jG.same st9)
  have lvt: ∀b,upd H9 tp (.tup [.int 3,.int 4]) b=none->H b=none:=fun b e=>lv9 b (st9.free e)
  have St:=S9.same st9
  have ewt:=st9 _ _ ew9
  have ent:=st9 _ _ en9
  refine kI (fun c=>?_) (fun c=>?_)
  ·have kk:=yB c
   obtain⟨rfl,rfl,en⟩:=no9 (by(first|lia|omega))
   refine⟨_,rfl,_,_,rfl,rfl,_,rfl,_,rfl,_,_,rfl,rfl,sm2,fun o ho=>?_⟩
   have so:=zV ho (.lst [.int 3,.int (15-k)])
   refine⟨_,rfl,st,9,m+3,rfl,by decide,by decide,by(first|lia|omega),(St.same so).pen,fun r9 H10 a0 a1 D10=>?_⟩
   have eo:H10 o=some (.lst [.int 3,.int (15-k)]):=D10.keep _ _ (St.hne ho).1 zG
   obtain⟨c,ec,c0,c13⟩: ∃c:Int,Fz [V.int 3,.int (15-k)] (if decide (V.int r9=V.int 0)=true then 1 else 0)=some (.int c)/\0<c/\c<=15-k:=by
    split
    ·exact⟨15-k,rfl,by(first|lia|omega),by(first|lia|omega)⟩
    ·exact⟨3,rfl,by decide,by(first|lia|omega)⟩
   refine⟨rfl,.inr ⟨_,rfl,o,_,_,_,rfl,rfl,.of eo,ec,st,c,m+4,rfl,c0,by(first|lia|omega),by(first|lia|omega),D10.pen.mono (by(first|lia|omega)),fun rc H11 d0 d1' D11=>⟨_,_,rfl,rfl,?_⟩⟩⟩
   have kE: ∀{b:Addr} {o':HO},b≠st->upd H9 tp (.tup [.int 3,.int 4]) b=some o'->H11 b=some o':=fun n e=>D11.keep _ _ n (D10.keep _ _ n (so _ _ e))
   have S11:=((St.same so).penned D10).penned D11
   have ew11:H11 wa=some (.lst [.str w]):=kE nw.w1 ewt
   have en11:H11 na=some (.lst [.int k]):=kE nw.a1 ent
   have cb1:k-2<=k-2+rc:=by(first|lia|omega)
   have cb2:k-2+rc<=12:=by(first|lia|omega)
   have own:=Gf (hs:=hs) (bs:=bs) kk cb1 cb2
   have wdc:FH (uL (k-2+rc)):=PN (qB (show(k-2+rc).natAbs <100 by(first|lia|omega)) (by decide+kernel))
   have lg:(k-2+rc).natAbs.log2 <1920:=by
    refine jY (?_:(k-2+rc).natAbs.log2<=200) (by decide)
    by_cases z:(k-2+rc).natAbs =0
    ·rw[z];decide
    ·exact uF ((Nat.log2_lt z).mpr (qB (show(k-2+rc).natAbs <100 by(first|lia|omega)) (by decide+kernel)))
   have n13':(k-2+rc+k-3).toNat<=13:=by(first|lia|omega)
   have ecast:(((k-2+rc+k-3).toNat:Nat):Int)=k-2+rc+k-3:=by(first|lia|omega)
   refine⟨_,rfl,.inl ⟨rfl,_,.of ew11⟩,_,rfl,_,rfl,lg,wa,_,_,rfl,rfl,ew11,qY (show 1<=1000 by decide),?_⟩
   refine⟨_,rfl,.inl ⟨rfl,_,.of (by rw[zQ (Ne.symm nw.wn)];exact en11)⟩,_,rfl,na,[.int k],_,rfl,rfl,by rw[zQ (Ne.symm nw.wn)];exact en11,qY (show 1<=1000 by decide),?_⟩
   refine⟨_,rfl,_,rfl,_,_,rfl,rfl,_,_,rfl,rfl,?_⟩
   have ap:=OU.app (d:=d) (C:=k=2\/k=3\/k=4) (v7:=v7) (v12:=some (.int (k-2+rc))) nw ((kt.trans (jG.same so)).trans ((Jf D10).trans (Jf D11))) (fun b e=>lvt b (so.free (D10.free (D11.free e)))) (S11.mono (m':=m+5) (by(first|lia|omega))) ew11 en11 own wdc n13' (.inr kk) (by(first|lia|omega))
   rw[ecast]at ap
   exact ap
  ·have kk:=kL (Bool.eq_false_iff.mpr c)
   exact⟨ow,on,n,v7,v12,rfl,kt,lvt,St.mono (by(first|lia|omega)),ewt,ent,fun z=>own9 (z.resolve_right kk),fun z=>no9 (fun y=>z (.inl y)),l1,l2,n13,wd9,z9⟩
 rintro σ10 H10 M10
 refine⟨OU st hd bx lf hs bs d k w wa na H (m+6) (l-1) True,?_,?_⟩
 ·obtain⟨ow,on,n,v7,v12,rfl,k9,lv9,S9,ew9,en9,own9,no9,l1,l2,n13,wd9,z9⟩:=M10
  refine⟨_,rfl,rfl,_,rfl,kI (fun c=>?_) (fun c=>?_)⟩
  ·have kk:=vt c
   obtain⟨rfl,rfl,en⟩:=no9 (by(first|lia|omega))
   obtain⟨vs,ev,pv⟩:=S9.hds
   have hl:=Paired.len pv
   have h0:0<hs.length:=List.length_pos_iff.mpr hg.ne
   have h16:=hg.few
   refine⟨_,rfl,_,rfl,hd,_,rfl,.inl (.of ev),st,_,m+5,rfl,by(first|lia|omega),by(first|lia|omega),by(first|lia|omega),S9.pen,fun r H11 r0' r1' D11=>?_⟩
   have S11:=S9.penned D11
   obtain⟨vs',ev',pv'⟩:=S11.hds
   have hl':=Paired.len pv'
   have hr':r.toNat<hs.length:=by(first|lia|omega)
   have eh:hs[r.toNat]? =some hs[r.toNat]:=zB hr'
   generalize hs[r.toNat]=h at eh
   have ev2:vs'[r.toNat]? =some vs'[r.toNat]:=zB (by(first|lia|omega))
   obtain⟨t,b,et,e1,e2⟩:=Paired.get pv' _ _ _ ev2 eh
   have av:Fz vs' r=some (.ref t):=An r0' (by rw[ev2,et])
   have ew11:H11 wa=some (.lst [.str w]):=D11.keep _ _ nw.w1 ew9
   have en11:H11 na=some (.lst [.int k]):=D11.keep _ _ nw.a1 en9
   have hok:=hg.all h (zM eh)
   have own:=Jk (bs:=bs) eh
   rw[show((r.toNat:Nat):Int)=r by(first|lia|omega)]at own
   have p4:=hok.p4
   have tw:t≠wa:=fun z=>by rw[z,ew11]at e1;cases e1
   have tn:t≠na:=fun z=>by rw[z,en11]at e1;cases e1
   refine⟨_,rfl,.inl ⟨rfl,_,.of ew11⟩,_,rfl,_,rfl,hd,_,_,_,rfl,rfl,.of ev',av,t,_,_,_,rfl,rfl,.of e1,rfl,wa,_,_,rfl,rfl,ew11,qY (show 1<=1000 by decide),?_⟩
   refine⟨_,rfl,.inl ⟨rfl,_,.of (by rw[zQ (Ne.symm nw.wn)];exact en11)⟩,_,rfl,na,[.int k],_,rfl,rfl,by rw[zQ (Ne.symm nw.wn)];exact en11,qY (show 1<=1000 by decide),?_⟩
   refine⟨_,rfl,_,rfl,hd,vs',_,_,rfl,rfl,.of (by rw[zQ (Ne.symm nw.a2),zQ (Ne.symm nw.w2)];exact ev'),av,t,[.str h.1,.ref b,.int (h.2.2:Int)],_,_,rfl,rfl,.of (by rw[zQ tn,zQ tw];exact e1),rfl,?_⟩
   exact OU.app (d:=d) (C:=True) (v7:=some (.int r)) (v12:=v12) nw (k9.trans (Jf D11)) (fun b e=>lv9 b (D11.free e)) (S11.mono (m':=m+6) (by(first|lia|omega))) ew11 en11 (by rw[kk];exact own) (Ay hok.nm) (by(first|lia|omega)) trivial (by(first|lia|omega))
  ·have kk:=vf c
   refine⟨ow,on,n,v7,v12,rfl,k9,lv9,S9.mono (by(first|lia|omega)),ew9,en9,fun _=>?_,fun z=>absurd trivial z,l1,l2,n13,wd9,z9⟩
   by_cases z:k=2\/k=3\/k=4
   ·exact own9 z
   ·obtain⟨rfl,rfl,en⟩:=no9 z
    exact Jj ⟨by(first|lia|omega),by(first|lia|omega),by(first|lia|omega),by(first|lia|omega),by(first|lia|omega),kk⟩ (Wn k2' k19 (by(first|lia|omega)) kk en)
 rintro σ11 H11 M11
 obtain⟨ow,on,n,v7,v12,rfl,k11,lv11,S11,ew11,en11,own11,no11,l1,l2,n13,wd11,z11⟩:=M11
 have own:=own11 trivial
 have dn:0<n->1<=d/\2<=l:=fun hn=>by
  have: ¬(l-1<1\/d=0):=fun z=>by
   rcases hkl z with y|y|y
   ·(first|lia|omega)
   ·(first|lia|omega)
   ·have:=z11 y;(first|lia|omega)
  (first|lia|omega)
 refine⟨_,rfl,_,rfl,by(first|lia|omega),by(first|lia|omega),uR (fun i σ' H'=> ∃(ws:List Str) (zs:List Int) (l':Int) (v13 v14 v15:Option V),σ'=[some (.ref st),some (.ref hd),some (.ref bx),some (.ref lf),some (.int (11-((d+1:Nat):Int))),some (.int k),none,v7,some (.str w),some (.int (n:Int)),some (.ref wa),some (.ref na),v12,v13,v14,v15]/\
  jG [st,lf] H H'/\(∀b,H' b=none->H b=none)/\Co st hd bx lf hs bs H' (m+6+10*(ws.length:Int)) l'/\l'.toNat<=(l-1).toNat/\ws.length+28*l'.toNat<=2*i+28*(l-1).toNat/\zs.length<=2*ws.length/\H' wa=some (.lst ((w::(ow++ws)).map V.str))/\H' na=some (.lst ((k::(on++zs)).map V.int))/\FA hs bs d i ws zs/\ ∀x∈ws,FH x)
  ⟨[],[],l-1,none,none,none,rfl,k11,lv11,S11.mono (by show m+6<=m+6+10*((0:Nat):Int);(first|lia|omega)),zS _,by show 0+_<=_;(first|lia|omega),yZ _,by rw[yX];exact ew11,by rw[yX];exact en11,.nil,fun x hx=>(nomatch hx)⟩ ?_ ?_⟩
 ·rintro i σ' H' hi ⟨ws,zs,l',v13,v14,v15,rfl,k',lv',S',b1,b2,b3,ew',en',rp,wd'⟩
  have hi':i<n:=by(first|lia|omega)
  obtain⟨hd1,hl2⟩:=dn (by(first|lia|omega))
  refine⟨_,rfl,_,rfl,_,rfl,_,rfl,_,rfl,_,_,rfl,rfl,st,hd,bx,lf,hs,bs,m+6+10*(ws.length:Int),l',?_,hd1,by(first|lia|omega),S',hg,hb,by(first|lia|omega),by(first|lia|omega),fun p wa2 na2 ws2 zs2 l2 H2 k2 lv2 S2 c1 c2 c3 ep ew2 en2 f1 f2 rd2 wd2=>?_⟩
  ·show[V.ref st,.ref hd,.ref bx,.ref lf,.int (11-((d+1:Nat):Int)+1)]=[V.ref st,.ref hd,.ref bx,.ref lf,.int (11-(d:Int))]
   rw[show(11-((d+1:Nat):Int)+1)=11-(d:Int)by(first|lia|omega)]
  have nin: ∀{b:Addr},b≠st->b≠lf->b∉[st,lf]:=fun h1 h2 z=>by
   rcases List.mem_cons.mp z with z|z
   ·exact h1 z
   ·exact h2 (List.mem_singleton.mp z)
  have ewk:=k2 _ _ (nin nw.w1 nw.w3) ew'
  have enk:=k2 _ _ (nin nw.a1 nw.a3) en'
  have w2n:wa2≠wa:=fun z=>by rw[z,ew']at f1;cases f1
  have w2a:wa2≠na:=fun z=>by rw[z,en']at f1;cases f1
  have a2w:na2≠wa:=fun z=>by rw[z,ew']at f2;cases f2
  have lnw:((w::(ow++ws)).map V.str).length =1+ow.length+ws.length:=by rw[zD,zJ,zC];(first|lia|omega)
  have lnz:((k::(on++zs)).map V.int).length =1+on.length+zs.length:=by rw[zD,zJ,zC];(first|lia|omega)
  refine⟨p,_,rfl,.of ep,rfl,_,_,rfl,_,_,rfl,rfl,?_⟩
  refine⟨_,rfl,.inl ⟨rfl,_,.of ewk⟩,_,rfl,wa,wa2,_,_,rfl,rfl,ewk,ew2,?_,?_⟩
  ·rw[lnw,zD];exact Ac (by(first|lia|omega))
  have enu:upd H2 wa (.lst ((w::(ow++ws)).map V.str++ws2.map V.str)) na=some (.lst ((k::(on++zs)).map V.int)):=by rw[zQ (Ne.symm nw.wn)];exact enk
  have en2u:upd H2 wa (.lst ((w::(ow++ws)).map V.str++ws2.map V.str)) na2=some (.lst (zs2.map V.int)):=by rw[zQ a2w];exact en2
  refine⟨_,rfl,.inl ⟨rfl,_,.of enu⟩,_,rfl,na,na2,_,_,rfl,rfl,enu,en2u,?_,?_⟩
  ·rw[lnz,zD];exact Ac (by(first|lia|omega))
  have Sx:=(S2.put (ys:=(w::(ow++ws)).map V.str++ws2.map V.str) ewk nw.w1 nw.w2 nw.w3).put (ys:=(k::(on++zs)).map V.int++zs2.map V.int) enu nw.a1 nw.a2 nw.a3
  refine⟨ws++ws2,zs++zs2,l2,_,_,_,rfl,fun b o nb e=>?_,wM (wM (fun b e=>lv' b (lv2 b e)) ewk) enu,Sx.mono (by rw[zC];(first|lia|omega)),by(first|lia|omega),by rw[zC];(first|lia|omega),by rw[zC,zC];(first|lia|omega),?_,?_,.snoc rp rd2,fun x hx=>?_⟩
  ·rw[zQ (zK e nw.f2),zQ (zK e nw.f1)]
   exact k2 b o nb (k' b o nb e)
  ·rw[zQ nw.wn,zG];simp
  ·rw[zG];simp
  ·rcases List.mem_append.mp hx with z|z
   ·exact wd' x z
   ·exact wd2 x z
 ·rintro σ' H' ⟨ws,zs,l',v13,v14,v15,rfl,k',lv',S',b1,b2,b3,ew',en',rp,wd'⟩
  have nn:((n:Int)).toNat =n:=jR n
  rw[nn]at b2 rp
  have lw:(w::(ow++ws)).length =1+ow.length+ws.length:=by rw[zJ,zC];(first|lia|omega)
  have lz:(k::(on++zs)).length =1+on.length+zs.length:=by rw[zJ,zC];(first|lia|omega)
  have kc:k=2+(((k-2).toNat:Nat):Int):=by(first|lia|omega)
  refine⟨_,rfl,_,rfl,sm2,fun p hp=>fin H' _ l' (w::(ow++ws)) (k::(on++zs)) wa na k' lv' S' (by rw[lw];(first|lia|omega)) (by(first|lia|omega)) ?_ (by rw[lw,lz];(first|lia|omega)) ew' en' nw.f1 nw.f2 ?_ ?_ p hp⟩
  ·rw[lw]
   by_cases hn:0<n
   ·have:=dn hn;(first|lia|omega)
   ·(first|lia|omega)
  ·rw[kc]at own ⊢
   exact JY hb hw own rp
  ·intro x hx
   rcases List.mem_cons.mp hx with z|z
   ·rw[z];exact QX (zM hw)
   ·rcases List.mem_append.mp z with z|z
    ·exact wd11 x z
    ·exact wd' x z

end
section
variable {P:Program}{w:World}{K:PySem.W.Frag}{mg:Str->Option Value}{base:Heap}{f:Addr}{fd:FuncData}{aP aW aH CT CR CL CN:Addr}
set_option maxHeartbeats 4000000

def Bu (hs:List FI):List Int:=(hs.map fun h=>[(h.2.2:Int),(h.2.1.length:Int)]).flatten
theorem LP (pr:List Pg):BU pr=Bu (pr.map (·.1)):=by
 unfold BU Bu
 rw[kS]
 rfl
theorem Ow (hs:List FI)(h:FI):Bu (hs++[h])=Bu hs++[(h.2.2:Int),(h.2.1.length:Int)]:=by
 unfold Bu
 rw[yA,List.flatten_append]
 simp
theorem Ih (pr:List Pg)(x:Pg):wH (pr++[x])=wH pr++x.2.2:=by
 unfold wH
 rw[yA,List.flatten_append]
 simp
theorem Hv (hs:List FI):(Bu hs).length =2*hs.length:=by
 induction hs with
 |nil=>rfl
 |cons h r ih=>
  show([(h.2.2:Int),(h.2.1.length:Int)]++Bu r).length =_
  rw[zC,ih]
  show 2+2*r.length=2*(r.length+1)
  (first|lia|omega)
def Qv (H:Hp)(v:V)(ws:List Str):Prop:= ∃a,v=.ref a/\H a=some (.lst (ws.map V.str))
def Hd (pr:List Pg):List Int:=(pr.length:Int)::(BU pr++wH pr)
structure Yr (H:Hp)(p sh:Addr)(na li:Addr)(pr:List Pg):Prop where
 here:H p=some (.tup [.ref na,.ref sh,.ref li])
 nms: ∃vs,H na=some (.tup vs)/\Paired (BY H) vs (qZ pr)
 sheet:H sh=some (.lst ((Hd pr).map V.int))
 lines: ∃vs,H li=some (.lst vs)/\Paired (Qv H) vs (pr.map xA)
structure PrG (pr:List Pg):Prop where
 ok:GX pr
 few: ∀x∈pr,x.2.1.length<=700
 fewz:(wH pr).length<=100000
inductive Ms (vs:List V) (H:Hp) (Q:VK) (E:XK):Prop
 |mk (st:Addr) (most room m:Int) (h0:vs=[.ref st,.int most,.int room]) (h1:0<most) (h2:most<=16) (h3:0<=room) (h4:room<=24) (h5:Bz H st m) (h6:m<=10000) (h7: ∀p sh na li pr H',jQ st (m+120000) H H'->Yr H' p sh na li pr->PrG pr->(pr.length:Int)<=most->H sh=none->Q (.ref p) H'):Ms vs H Q E
def LnB (sh li st:Addr)(H:Hp)(v:V)(ws:List Str):Prop:= ∃a,v=.ref a/\H a=some (.lst (ws.map V.str))/\a≠sh/\a≠li/\a≠st
structure Yy (st hd na sh li:Addr)(hs:List FI)(H:Hp)(m:Int)(i:Nat)(pr:List Pg)(lvs:List V)(H':Hp):Prop where
 got:pr.map (·.1)=hs.take i
 pen:jQ st m H H'
 hds:WH H' hd hs
 nms: ∃ws,H' na=some (.tup ws)/\Paired (BY H') ws (hs.map fun h=>(h.1,h.2.1))
 sheet:H' sh=some (.lst (((hs.length:Int)::(Bu hs++wH pr)).map V.int))
 lines:H' li=some (.lst lvs)
 ln:Paired (LnB sh li st H') lvs (pr.map xA)
 ok: ∀x∈pr,Lb hs x/\x.2.1.length<=700
 few:(wH pr).length<=2000*i
section
variable {st hd na sh li:Addr}{hs:List FI}{H H' H2:Hp}{m m':Int}{i:Nat}{pr:List Pg}{lvs:List V}
theorem Yy.step (h:Yy st hd na sh li hs H m i pr lvs H')(P:jQ st m' H H2)(nd:hd≠st)(ns:sh≠st)(nl:li≠st)(k: ∀(b:Addr) (o:HO),b≠st->H' b=some o->H2 b=some o):Yy st hd na sh li hs H m' i pr lvs H2:=by
 have tp:wV H' H2:=fun b xs e=>k b _ (fun z=>by obtain⟨ys,ey⟩:=h.pen.pen.is;rw[z,ey]at e;cases e) e
 obtain⟨vs,ev,pv⟩:=h.hds
 obtain⟨ws,ew,pw⟩:=h.nms
 refine⟨h.got,P,⟨vs,k _ _ nd ev,Paired.imp (fun v x z=>z.tups tp) pv⟩,⟨ws,tp _ _ ew,Paired.imp (fun v x z=>z.tups tp) pw⟩,k _ _ ns h.sheet,k _ _ nl h.lines,Paired.imp (fun v x z=>?_) h.ln,h.ok,h.few⟩
 obtain⟨a,rfl,ea,n1,n2,n3⟩:=z
 exact⟨a,rfl,k _ _ n3 ea,n1,n2,n3⟩
end
theorem Ug (T:KK K mg)(F:vW K "_law_program" "_law_program" Bn f fd)(C_law_heads:vV P w K mg base (jX P w) 3 "_law_heads" ["_law_pen_here","_law_most"] Iv)(C_law_shape:vV P w K mg base (jX P w) 13 "_law_shape" ["_law_pen_here","_law_heads_here","_law_boxes","_law_left","_law_deep"] (Et 10)):
  jV P w K mg base (jX P w) 14 f fd ["_law_pen_here","_law_most","_law_room"] Ms:=by
 refine F.okN jL (fun vs H Q E h=>?_) (fun cdv A outer s H vs Q E hr h=>?_)
 ·obtain⟨st,most,room,m,rfl,_⟩:=h
  rfl
 obtain⟨st,most,room,m,rfl,o0,o1,q0,q1,D,m0,q⟩:=h
 refine⟨_,(zF (yT (i:=3) jL.nd rfl (Or.inl rfl) (yF C_law_heads hr rfl (zA (pv 0) (zA (pv 1) zH)) jZ))
   (zF (yT (i:=4) jL.nd rfl (Or.inl rfl) (kR vN rfl T.n_tuple Am (zA (HU (own:=["_law_name_here","_law_boxes","_law_params"]) (ys:=[]) rfl (DS (pv 3)) (BW (sc:=yH Bn) rfl (by decide+kernel)) .nil (fun _ _ _ _ _=>(QO (n:=3) K rfl rfl (jA (xG (i:=0) (show List.Nodup [("_law_name_here":Str),("_law_boxes":Str),("_law_params":Str)]from(by decide+kernel)) rfl (Or.inl rfl)) (jA (xG (i:=1) (show List.Nodup [("_law_name_here":Str),("_law_boxes":Str),("_law_params":Str)]from(by decide+kernel)) rfl (Or.inl rfl)) (jA (xG (i:=2) (show List.Nodup [("_law_name_here":Str),("_law_boxes":Str),("_law_params":Str)]from(by decide+kernel)) rfl (Or.inl rfl)) Aa))))) (fun _ _ _ _ _=>Gu) (fun _ _ _ _ _=>(qD (zA (pv 0) (zA (pv 1) zH))))) zH)))
   (zF (yT (i:=5) jL.nd rfl (Or.inl rfl) (jN (zA (xR xJ rfl T.n_len qJ (zA (pv 3) zH)) zH)))
   (zF (vE xO rfl (DS (pv 3)) (BS rfl (jA (xG (i:=6) jL.nd rfl (Or.inl rfl)) (jA (xG (i:=7) jL.nd rfl (Or.inl rfl)) (jA (xG (i:=8) jL.nd rfl (Or.inl rfl)) Aa)))) (zU (xV (kK zO qA kZ EA (pv 5) (zA (jN (zA (pv 8) (zA (xR xJ rfl T.n_len qJ (zA (pv 7) zH)) zH))) zH)))))
   (zF (yT (i:=9) jL.nd rfl (Or.inl rfl) (jN zH))
   (zF (vE xO rfl (DS (pv 3)) (BS rfl (jA (xG (i:=6) jL.nd rfl (Or.inl rfl)) (jA (xG (i:=7) jL.nd rfl (Or.inl rfl)) (jA (xG (i:=8) jL.nd rfl (Or.inl rfl)) Aa)))) (zF (El (yF C_law_shape hr rfl (zA (pv 0) (zA (pv 3) (zA (pv 7) (zA (jN (zA (pv 2) zH)) (zA zX zH))))) jZ) (BS rfl (jA (xG (i:=10) jL.nd rfl (Or.inl rfl)) (jA (xG (i:=11) jL.nd rfl (Or.inl rfl)) Aa))))
   (zF (yT (i:=12) jL.nd rfl (Or.inl rfl) (xS BT (xS BT (xS BT (xS BT (jN (zA kQ (zA (pv 6) zH))) (kR De rfl T.n_list Ig (zA (Gd JC (pv 7) HS (HR (pv 8))) zH))) (jN (zA kQ zH))) (kR De rfl T.n_list Ig (zA (Gd JC (pv 7) (HR (pv 8)) HS) zH))) (jN (zA kQ zH))))
   (zF (xV (kK zO zZ zY xY (pv 9) (zA (xS BT (pv 12) (pv 10)) zH)))
   (zU (xV (kK zO qA kZ EA (pv 5) (zA (pv 11) zH))))))))
   (zU (yU (qD (zA (pv 4) (zA (pv 5) (zA (pv 9) zH)))))))))))),?_⟩
 try dsimp only[Cx.nox,Cx.exc,Cx.wish,jC]
 refine⟨_,rfl,_,rfl,st,most,m,rfl,o0,o1,D,m0,fun hd hs H1 D1 hr1 hg hmost f1=>?_⟩
 obtain⟨vs,ev,pv⟩:=id hr1
 have hvl:=Paired.len pv
 have h16:=hg.few
 have nhs:hd≠st:=Ne.symm (D.ne f1)
 refine⟨_,rfl,hd,rfl,⟨_,.of ev⟩,fun p hp=>?_⟩
 have npd:hd≠p:=zK ev hp
 refine Gn (xs:=vs) (fun i σ' H'=> ∃us,H' p=some (.lst us)/\Paired (BY H') us ((hs.take i).map fun h=>(h.1,h.2.1))/\wG H1 H'/\us.length=i/\ ∃x y z,σ'=[x,y,z]) ⟨[],zG,.nil,zV hp _,rfl,_,_,_,rfl⟩ ?_ ?_ ?_
 ·rintro i σ' H' hi ⟨us,_,_,sm,_⟩
  exact .of (sm _ _ ev)
 ·rintro i v σ' H' hi hv ⟨us,ep,pu,sm,hlu,x0,y0,z0,rfl⟩
  have hi2:i<hs.length:=by(first|lia|omega)
  obtain⟨t,b,rfl,et,eb⟩:=Paired.get pv _ _ _ hv (zB hi2)
  refine⟨t,_,rfl,.of (sm _ _ et),rfl,_,_,rfl,_,_,rfl,_,_,rfl,rfl,?_⟩
  refine⟨_,rfl,_,rfl,sm2,fun t2 ht2=>?_⟩
  have sm2:=zV ht2 (.tup [.str hs[i].1,.ref b])
  have np:p≠t2:=zK ep ht2
  have tpp: ∀{c:Addr} {xs:List V} {o:HO},upd H' t2 (.tup [.str hs[i].1,.ref b]) c=some (.tup xs)->upd (upd H' t2 (.tup [.str hs[i].1,.ref b])) p o c=some (.tup xs):=fun{c xs o} e=>by
   rw[zQ (fun z=>by rw[z,zQ np,ep]at e;cases e)];exact e
  refine⟨us,by rw[zQ np];exact ep,qY (by(first|lia|omega)),CW.next hi ⟨us++[.ref t2],zG,?_,?_,?_,_,_,_,rfl⟩⟩
  ·rw[kM,zB hi2,yA]
   exact qG (Paired.imp (fun v x z=>z.tups fun c xs e=>tpp (sm2 _ _ e)) pu) ⟨t2,b,rfl,tpp zG,tpp (sm2 _ _ (sm _ _ eb))⟩
  ·intro c o e
   rw[zQ (zK e hp)]
   exact sm2 _ _ (sm _ _ e)
  ·rw[zC];show us.length+1=i+1;(first|lia|omega)
 rintro σ' H2 ⟨us,ep,pu,sm2,hlu,_⟩
 rw[xP (by(first|lia|omega))]at pu
 refine⟨p,_,rfl,.inl ⟨.of ep,fun na hna=>?_⟩⟩
 have s3:=zV hna (.tup us)
 have ev3:=s3 _ _ (sm2 _ _ ev)
 refine⟨_,rfl,hd,_,rfl,.inl (.of ev3),sm1,fun sh hsh=>?_⟩
 have D4:=D1.trans (D1.pen.more ((sm2.trans s3).trans (zV hsh (.lst [.int (vs.length:Int)]))))
 have hr4:WH (upd (upd H2 na (.tup us)) sh (.lst [.int (vs.length:Int)])) hd hs:=⟨vs,(zV hsh _) _ _ ev3,Paired.imp (fun v x z=>z.tups fun c xs e=>(zV hsh _) _ _ (s3 _ _ (sm2 _ _ e))) pv⟩
 have nm4: ∃ws,upd (upd H2 na (.tup us)) sh (.lst [.int (vs.length:Int)]) na=some (.tup ws)/\Paired (BY (upd (upd H2 na (.tup us)) sh (.lst [.int (vs.length:Int)]))) ws (hs.map fun h=>(h.1,h.2.1)):=
  ⟨us,(zV hsh _) _ _ zG,Paired.imp (fun v x z=>z.tups fun c xs e=>(zV hsh _) _ _ (s3 _ _ e)) pu⟩
 have fsh:H sh=none:=D1.free (sm2.free (s3.free hsh))
 have nss:sh≠st:=Ne.symm (D.ne fsh)
 have nsd:sh≠hd:=Ne.symm (zK ev3 hsh)
 have esh4:upd (upd H2 na (.tup us)) sh (.lst [.int (vs.length:Int)]) sh=some (.lst [.int (vs.length:Int)]):=zG
 generalize upd (upd H2 na (.tup us)) sh (.lst [.int (vs.length:Int)])=H4 at *
 clear s3 ev3 sm2 ep hna hsh
 obtain⟨vs4,ev4,pv4⟩:=id hr4
 have hvl4:=Paired.len pv4
 refine⟨_,rfl,hd,rfl,⟨_,.of ev4⟩,Ia (xs:=vs4) (fun i σ' H'=> ∃v6 v7 v8,σ'=[some (.ref st),some (.int most),some (.int room),some (.ref hd),some (.ref na),some (.ref sh),v6,v7,v8,none,none,none,none]/\(∀(b:Addr) (o:HO),b≠sh->H4 b=some o->H' b=some o)/\H' sh=some (.lst (((hs.length:Int)::Bu (hs.take i)).map V.int))/\ ∀b,H' b=none->H4 b=none)
  ⟨_,_,_,rfl,fun _ _ _ e=>e,by rw[esh4,hvl];rfl,fun _ e=>e⟩ (fun i σ' H' hi ⟨_,_,_,_,k',_⟩=>.of (k' _ _ (Ne.symm nsd) ev4)) ?_ ?_⟩
 ·rintro i v σ' H' hv ⟨v6,v7,v8,rfl,k',es',lv'⟩
  have hi2:i<hs.length:=by
   have:=(List.getElem?_eq_some_iff.mp hv).1
   (first|lia|omega)
  obtain⟨t,b,rfl,et,eb⟩:=Paired.get pv4 _ _ _ hv (zB hi2)
  have tk: ∀{c:Addr} {xs:List V},H4 c=some (.tup xs)->H' c=some (.tup xs):=fun{c xs} e=>k' _ _ (fun z=>by rw[z,esh4]at e;cases e) e
  refine⟨t,_,rfl,.of (tk et),rfl,_,_,rfl,_,_,rfl,_,_,rfl,rfl,?_⟩
  refine⟨_,rfl,.inl ⟨rfl,_,.of es'⟩,_,rfl,_,rfl,b,_,rfl,.inr (.of (tk eb)),sm2,fun x hx=>?_⟩
  have nx:sh≠x:=zK es' hx
  have lb:(((hs[i].2.1.map V.str).length:Nat):Int)=(hs[i].2.1.length:Int):=by rw[zD]
  rw[lb]
  refine⟨sh,x,_,_,rfl,rfl,by rw[zQ nx];exact es',zG,?_,_,_,_,rfl,fun c o n e=>?_,?_,fun c e=>?_⟩
  ·rw[zD,zJ,Hv]
   have:=CU i hs
   show 2*_+1+2<=sizeLine
   exact Ac (by(first|lia|omega))
  ·rw[zQ n,zQ (zK (k' _ _ n e) hx)];exact k' _ _ n e
  ·rw[zG,kM,zB hi2]
   show some (HO.lst _)=some (.lst (((hs.length:Int)::Bu (hs.take i++[hs[i]])).map V.int))
   rw[Ow]
   simp
  ·refine lv' c ?_
   by_cases z:c=sh
   ·rw[z,zG]at e;cases e
   ·rw[zQ z]at e
    exact(zV hx _).free e
 rintro σ' H5 ⟨v6,v7,v8,rfl,k5,es5,lv5⟩
 rw[xP (by(first|lia|omega))]at es5
 refine⟨sm0,fun li hli=>?_⟩
 have s6:=zV hli (.lst [])
 have fli:H li=none:=D4.free (lv5 _ hli)
 have nls:li≠st:=Ne.symm (D.ne fli)
 have nlh:sh≠li:=zK es5 hli
 have tp5:wV H4 H5:=fun c xs e=>k5 _ _ (fun z=>by rw[z,esh4]at e;cases e) e
 have D5:jQ st (m+3000) H H5:=by
  obtain⟨⟨c,sd,t,e,z⟩,kp⟩:=D4
  exact⟨⟨c,sd,t,k5 _ _ (Ne.symm nss) e,z⟩,fun b o nb e=>k5 _ _ (zK e fsh) (kp b o nb e)⟩
 have P6:Yy st hd na sh li hs H (m+3000) 0 [] [] (upd H5 li (.lst [])):=by
  obtain⟨ws,ew,pw⟩:=nm4
  exact⟨rfl,D5.trans (D5.pen.more s6),⟨vs4,s6 _ _ (k5 _ _ (Ne.symm nsd) ev4),Paired.imp (fun v x z=>z.tups fun c xs e=>s6 _ _ (tp5 _ _ e)) pv4⟩,⟨ws,s6 _ _ (tp5 _ _ ew),Paired.imp (fun v x z=>z.tups fun c xs e=>s6 _ _ (tp5 _ _ e)) pw⟩,
   by rw[s6 _ _ es5];show some (HO.lst _)=some (.lst (((hs.length:Int)::(Bu hs++[])).map V.int));rw[yX],zG,.nil,(fun x hx=>(nomatch hx)),yZ _⟩
 have ev6:=s6 _ _ (k5 _ _ (Ne.symm nsd) ev4)
 have nld:li≠hd:=fun z=>by rw[z,k5 _ _ (Ne.symm nsd) ev4]at hli;cases hli
 generalize upd H5 li (.lst [])=H6 at *
 clear s6 tp5 D5 lv5 es5 k5
 refine⟨_,rfl,hd,rfl,⟨_,.of ev6⟩,Ia (xs:=vs4) (fun i σ' H'=> ∃pr lvs v6 v7 v8 v10 v11 v12,σ'=[some (.ref st),some (.int most),some (.int room),some (.ref hd),some (.ref na),some (.ref sh),v6,v7,v8,some (.ref li),v10,v11,v12]/\Yy st hd na sh li hs H (m+3000+7000*i) i pr lvs H'/\H' hd=some (.lst vs4))
  ⟨[],[],_,_,_,_,_,_,rfl,P6.step (P6.pen.mono (by(first|lia|omega))) nhs nss nls (fun _ _ _ e=>e),ev6⟩ (fun i σ' H' hi ⟨_,_,_,_,_,_,_,_,_,_,e⟩=>.of e) ?_ ?_⟩
 ·rintro i v σ' H7 hv ⟨pr,lvs,v6,v7,v8,v10,v11,v12,rfl,P7,ev7⟩
  have hi2:i<hs.length:=by
   have:=(List.getElem?_eq_some_iff.mp hv).1
   (first|lia|omega)
  have eh:hs[i]? =some hs[i]:=zB hi2
  have hok:=hg.all hs[i] (Ca hi2)
  obtain⟨vs7,ev7',pv7⟩:=P7.hds
  rw[ev7]at ev7'
  cases ev7'
  obtain⟨t,b,rfl,et,eb⟩:=Paired.get pv7 _ _ _ hv eh
  generalize hs[i]=h at *
  refine⟨t,_,rfl,.of et,rfl,_,_,rfl,_,_,rfl,_,_,rfl,rfl,?_⟩
  refine⟨_,rfl,_,rfl,_,rfl,_,rfl,sm1,fun lf hlf=>?_⟩
  have s8:=zV hlf (.lst [.int room])
  have P8:=P7.step (P7.pen.trans (P7.pen.pen.more s8)) nhs nss nls (fun b o _ e=>s8 _ _ e)
  have nfs:lf≠st:=Ne.symm (P7.pen.pen.ne hlf)
  have nfd:lf≠hd:=Ne.symm (zK ev7 hlf)
  have S8:Co st hd b lf hs h.2.1 (upd H7 lf (.lst [.int room])) (m+3000+7000*i) room:=⟨P8.pen.pen,P8.hds,s8 _ _ eb,zG,nfs,nfd,nhs⟩
  refine⟨st,hd,b,lf,hs,h.2.1,m+3000+7000*i,room,rfl,by decide,by decide,S8,hg,hok.bx,by(first|lia|omega),by(first|lia|omega),fun p2 wa na2 ws zs l' H9 k9 lv9 S9 c1 c2 c3 ep2 ew en f1 f2 rd wd=>?_⟩
  have ws7:ws.length<=674:=by(first|lia|omega)
  have kb: ∀(c:Addr) (o:HO),c≠st->H7 c=some o->H9 c=some o:=fun c o n e=>k9 c o (fun z=>by
   rcases List.mem_cons.mp z with z|z
   ·exact n z
   ·exact zK e hlf (List.mem_singleton.mp z)) (s8 _ _ e)
  have P9:Yy st hd na sh li hs H (m+3000+7000*((i+1:Nat):Int)) i pr lvs H9:=P7.step ⟨S9.pen.mono (by(first|lia|omega)),fun c o n e=>kb c o n (P7.pen.keep c o n e)⟩ nhs nss nls kb
  have lv79: ∀c,H9 c=none->H7 c=none:=fun c e=>s8.free (lv9 c e)
  have eb9:H9 b=some (.tup (h.2.1.map V.str)):=S9.box
  have b12:=hok.bx.few
  have pb:=hok.pb
  refine⟨p2,_,rfl,.of ep2,rfl,_,_,rfl,_,_,rfl,rfl,?_⟩
  refine⟨_,rfl,sm2,fun a1 h1=>?_⟩
  have g1:=zV h1 (.lst [V.str "fun",V.str h.1])
  refine⟨_,rfl,_,rfl,_,rfl,b,_,rfl,g1 _ _ eb9,fun r1 G1 x1 y1=>⟨r1,_,rfl,.inr (.of y1),fun a2 h2=>?_⟩⟩
  rw[LY]
  have dl:((h.2.1.map V.str).drop h.2.2).length<=12:=by rw[jK,zD];(first|lia|omega)
  have p4:=hok.p4
  have n2:=zV h2 (.lst ((h.2.1.map V.str).take h.2.2))
  refine⟨a1,a2,_,_,rfl,rfl,n2 _ _ (x1 _ _ zG),zG,small (show 2+((h.2.1.map V.str).take h.2.2).length<=1000 by rw[yM,zD];(first|lia|omega)),fun a3 h3=>?_⟩
  have n3:=zV h3 (.lst ([V.str "fun",V.str h.1]++(h.2.1.map V.str).take h.2.2))
  refine⟨sm1,fun a4 h4=>?_⟩
  have n4:=zV h4 (.lst [V.str "with"])
  refine⟨a3,a4,_,_,rfl,rfl,n4 _ _ zG,zG,small (show([V.str "fun",V.str h.1]++(h.2.1.map V.str).take h.2.2).length +1<=1000 by rw[zC,yM,zD];show 2+_+1<=_;(first|lia|omega)),fun a5 h5=>?_⟩
  have n5:=zV h5 (.lst ([V.str "fun",V.str h.1]++(h.2.1.map V.str).take h.2.2++[V.str "with"]))
  have z5:=g1.trans (x1.trans (n2.trans (n3.trans (n4.trans n5))))
  refine⟨_,rfl,_,rfl,_,rfl,b,_,rfl,z5 _ _ eb9,fun r2 G2 x2 y2=>⟨r2,_,rfl,.inr (.of y2),fun a6 h6=>?_⟩⟩
  rw[LZ]
  have n6:=zV h6 (.lst ((h.2.1.map V.str).drop h.2.2))
  refine⟨a5,a6,_,_,rfl,rfl,n6 _ _ (x2 _ _ zG),zG,small (show([V.str "fun",V.str h.1]++(h.2.1.map V.str).take h.2.2++[V.str "with"]).length +((h.2.1.map V.str).drop h.2.2).length<=1000 by rw[zC,zC,yM,zD];show 2+_+1+_<=_;(first|lia|omega)),fun a7 h7=>?_⟩
  have n7:=zV h7 (.lst ([V.str "fun",V.str h.1]++(h.2.1.map V.str).take h.2.2++[V.str "with"]++(h.2.1.map V.str).drop h.2.2))
  refine⟨sm1,fun a8 h8=>?_⟩
  have n8:=zV h8 (.lst [V.str "is"])
  have l7:([V.str "fun",V.str h.1]++(h.2.1.map V.str).take h.2.2++[V.str "with"]++(h.2.1.map V.str).drop h.2.2).length<=27:=by
   rw[zC,zC,zC,yM,zD]
   show 2+_+1+_<=_
   (first|lia|omega)
  refine⟨a7,a8,_,_,rfl,rfl,n8 _ _ zG,zG,small (yO (Cr l7 1) (by decide)),fun a9 h9=>?_⟩
  have n9:=zV h9 (.lst ([V.str "fun",V.str h.1]++(h.2.1.map V.str).take h.2.2++[V.str "with"]++(h.2.1.map V.str).drop h.2.2++[V.str "is"]))
  have z9:=z5.trans (x2.trans (n6.trans (n7.trans (n8.trans n9))))
  refine⟨_,rfl,.inl ⟨rfl,_,.of (z9 _ _ P9.lines)⟩,_,rfl,_,rfl,a9,wa,_,_,rfl,rfl,zG,z9 _ _ ew,Ac (by rw[zC,zD];show _+1+_<=_;(first|lia|omega)),fun a10 h10=>?_⟩
  have n10:=zV h10 (.lst ([V.str "fun",V.str h.1]++(h.2.1.map V.str).take h.2.2++[V.str "with"]++(h.2.1.map V.str).drop h.2.2++[V.str "is"]++ws.map V.str))
  have z10:=z9.trans n10
  have P10:=P9.step (P9.pen.trans (P9.pen.pen.more z10)) nhs nss nls (fun c o _ e=>z10 _ _ e)
  have lln:=Paired.len P10.ln
  have lpr:pr.length=i:=by
   have:=xT List.length P7.got
   rw[zD,yM]at this
   (first|lia|omega)
  rw[zD]at lln
  refine⟨li,_,_,rfl,rfl,P10.lines,qY (by(first|lia|omega)),?_⟩
  have li9:=P7.lines
  have a2l:na2≠li:=fun z=>by rw[z,s8 _ _ li9]at f2;cases f2
  have a2s:na2≠sh:=fun z=>by rw[z,s8 _ _ P7.sheet]at f2;cases f2
  have zl:zs.length<=1348:=by(first|lia|omega)
  have lbs:=P7.few
  have ehd:=P10.hds
  obtain⟨vs10,ev10,pv10⟩:=P10.hds
  obtain⟨ws10,ew10,pw10⟩:=P10.nms
  have en10:=z10 _ _ en
  have ea10:=(show ∀{G:Hp} {o:HO},upd G a10 o a10=some o from zG)
  have nal:a10≠li:=Ne.symm (zK (z9 _ _ P9.lines) h10)
  have nas:a10≠sh:=Ne.symm (zK (z9 _ _ P9.sheet) h10)
  have nat:a10≠st:=by
   obtain⟨xs,ex⟩:=P9.pen.pen.is
   exact Ne.symm (zK (z9 _ _ ex) h10)
  have ealn:upd (upd (upd (upd (upd G2 a6 (.lst ((h.2.1.map V.str).drop h.2.2))) a7 (.lst ([V.str "fun",V.str h.1]++(h.2.1.map V.str).take h.2.2++[V.str "with"]++(h.2.1.map V.str).drop h.2.2))) a8 (.lst [V.str "is"])) a9 (.lst ([V.str "fun",V.str h.1]++(h.2.1.map V.str).take h.2.2++[V.str "with"]++(h.2.1.map V.str).drop h.2.2++[V.str "is"]))) a10 (.lst ([V.str "fun",V.str h.1]++(h.2.1.map V.str).take h.2.2++[V.str "with"]++(h.2.1.map V.str).drop h.2.2++[V.str "is"]++ws.map V.str)) a10=some (.lst ((xA (h,ws,zs)).map V.str)):=by
   rw[zG]
   unfold xA
   simp
  generalize upd (upd (upd (upd (upd G2 a6 (.lst ((h.2.1.map V.str).drop h.2.2))) a7 (.lst ([V.str "fun",V.str h.1]++(h.2.1.map V.str).take h.2.2++[V.str "with"]++(h.2.1.map V.str).drop h.2.2))) a8 (.lst [V.str "is"])) a9 (.lst ([V.str "fun",V.str h.1]++(h.2.1.map V.str).take h.2.2++[V.str "with"]++(h.2.1.map V.str).drop h.2.2++[V.str "is"]))) a10 (.lst ([V.str "fun",V.str h.1]++(h.2.1.map V.str).take h.2.2++[V.str "with"]++(h.2.1.map V.str).drop h.2.2++[V.str "is"]++ws.map V.str))=GE at *
  have esl:upd GE li (.lst (lvs++[.ref a10])) sh=some (.lst (((hs.length:Int)::(Bu hs++wH pr)).map V.int)):=by rw[zQ nlh];exact P10.sheet
  refine⟨_,rfl,.inl ⟨rfl,_,.of esl⟩,_,rfl,sh,na2,_,_,rfl,rfl,esl,by rw[zQ a2l];exact en10,?_,?_⟩
  ·rw[zD,zD,zJ,zC,Hv]
   exact Ac (by(first|lia|omega))
  have kF: ∀{c:Addr} {o:HO},c≠li->c≠sh->GE c=some o->upd (upd GE li (.lst (lvs++[.ref a10]))) sh (.lst (((hs.length:Int)::(Bu hs++wH pr)).map V.int++zs.map V.int)) c=some o:=fun n1 n2 e=>by rw[zQ n2,zQ n1];exact e
  have tF: ∀{c:Addr} {xs:List V},GE c=some (.tup xs)->upd (upd GE li (.lst (lvs++[.ref a10]))) sh (.lst (((hs.length:Int)::(Bu hs++wH pr)).map V.int++zs.map V.int)) c=some (.tup xs):=fun{c xs} e=>kF (fun z=>by rw[z,P10.lines]at e;cases e) (fun z=>by rw[z,P10.sheet]at e;cases e) e
  have evF:GE hd=some (.lst vs4):=z10 _ _ (kb _ _ nhs ev7)
  refine⟨pr++[(h,ws,zs)],lvs++[.ref a10],_,_,_,_,_,_,rfl,⟨?_,?_,?_,?_,?_,?_,?_,?_,?_⟩,?_⟩
  ·rw[yA,P7.got,kM,eh];rfl
  ·exact⟨(P10.pen.pen.put nls).put nss,fun c o n e=>by rw[zQ (zK e fsh),zQ (zK e fli)];exact P10.pen.keep c o n e⟩
  ·exact⟨vs10,kF (Ne.symm nld) (Ne.symm nsd) ev10,Paired.imp (fun v x z=>z.tups fun c xs e=>tF e) pv10⟩
  ·exact⟨ws10,tF ew10,Paired.imp (fun v x z=>z.tups fun c xs e=>tF e) pw10⟩
  ·rw[zG,Ih];simp
  ·rw[zQ (Ne.symm nlh)];exact zG
  ·rw[yA]
   refine qG (Paired.imp (fun v x z=>?_) P10.ln) ⟨a10,rfl,kF nal nas ealn,nas,nal,nat⟩
   obtain⟨c,rfl,ec,y1,y2,y3⟩:=z
   exact⟨c,rfl,kF y2 y1 ec,y1,y2,y3⟩
  ·intro x hx
   rcases List.mem_append.mp hx with z|z
   ·exact P7.ok x z
   ·rw[List.mem_singleton.mp z];exact⟨⟨hok,rd,wd⟩,by show ws.length<=700;(first|lia|omega)⟩
  ·rw[Ih,zC];show _+zs.length<=_;(first|lia|omega)
  ·exact kF (Ne.symm nld) (Ne.symm nsd) evF
 ·rintro σ' H7 ⟨pr,lvs,v6,v7,v8,v10,v11,v12,rfl,P7,ev7⟩
  have got:=P7.got
  rw[xP (by(first|lia|omega))]at got
  have lpr:pr.length=hs.length:=by rw[<-got,zD]
  refine⟨_,rfl,_,rfl,_,rfl,sm3,fun p3 hp3=>?_⟩
  have s9:=zV hp3 (.tup [.ref na,.ref sh,.ref li])
  obtain⟨ws10,ew10,pw10⟩:=P7.nms
  have few:=P7.few
  refine q p3 sh na li pr _ ((P7.pen.trans (P7.pen.pen.more s9)).mono (by(first|lia|omega))) ⟨zG,⟨ws10,s9 _ _ ew10,?_⟩,?_,⟨lvs,s9 _ _ P7.lines,Paired.imp (fun v x z=>?_) P7.ln⟩⟩ ⟨⟨fun x hx=>?_,?_,?_,by(first|lia|omega),fun x hx=>?_⟩,fun x hx=>(P7.ok x hx).2,by(first|lia|omega)⟩ (by(first|lia|omega)) fsh
  ·have e:qZ pr=hs.map fun h=>(h.1,h.2.1):=by
    unfold qZ
    rw[<-got,kS]
    rfl
   rw[e]
   exact Paired.imp (fun v x z=>z.tups fun c xs e=>s9 _ _ e) pw10
  ·rw[s9 _ _ P7.sheet]
   unfold Hd
   rw[LP,got,lpr]
  ·obtain⟨c,rfl,ec,_⟩:=z
   exact⟨c,rfl,s9 _ _ ec⟩
  ·rw[got];exact(P7.ok x hx).1
  ·have:(pr.map fun x=>x.1.1)=hs.map (·.1):=by rw[<-got,kS];rfl
   rw[this];exact hg.nd
  ·intro z
   rw[z]at lpr
   exact hg.ne (List.length_eq_zero_iff.mp lpr.symm)
  ·refine hg.first x.1 ?_
   rw[<-got,zN,hx]
   rfl

end
section
variable {P:Program}{w:World}{K:PySem.W.Frag}{mg:Str->Option Value}{base:Heap}{f:Addr}{fd:FuncData}{aP aW aH CT CR CL CN:Addr}
set_option maxHeartbeats 4000000

inductive JQ (vs:List V) (H:Hp) (Q:VK) (E:XK):Prop
 |mk (i:Int) (h0:vs=[.int i]) (h1:Q (.bl true) H):JQ vs H Q E
theorem RX (T:KK K mg)(F:vW K "_law_whole" "_law_whole" Fj f fd):jV P w K mg base (jX P w) 1 f fd ["_law_thing"] JQ:=by
 refine F.okN KQ (fun vs H Q E h=>?_) (fun cdv A outer s H vs Q E hr h=>?_)
 ·obtain⟨i,rfl,_⟩:=h
  rfl
 obtain⟨i,rfl,q⟩:=h
 refine⟨_,(zU (yU (MN (xR Al rfl T.n_isinstance kX (zA (pv 0) (zA (Bq (v:=.ty "int") rfl T.n_int IS rfl) zH))) (Kd (TQ (xR Al rfl T.n_isinstance kX (zA (pv 0) (zA (Bq (v:=.ty "bool") rfl T.n_bool Ru rfl) zH)))))))),?_⟩
 try dsimp only[Cx.nox,Cx.exc,Cx.wish,jC]
 refine⟨_,rfl,.inl ⟨_,_,_,true,rfl,.int i,T.kint,_,rfl,AX ?_⟩⟩
 exact⟨_,rfl,.inl ⟨_,_,_,false,rfl,.int i,T.kbool,_,rfl,q⟩⟩
def GY (H:Hp)(a:Addr)(ns:List (Str×List Str)):Prop:= ∃vs,H a=some (.tup vs)/\Paired (BY H) vs ns
inductive JS (vs:List V) (H:Hp) (Q:VK) (E:XK):Prop
 |mk (p np sp na sh:Addr) (ns:List (Str×List Str)) (zs:List Int) (h0:vs=[.ref p,.ref na,.ref sh]) (h1:H p=some (.tup [.ref np,.ref sp])) (h2:GY H np ns) (h3:H sp=some (.lst (zs.map V.int))) (h4:GY H na ns) (h5:H sh=some (.lst (zs.map V.int))) (h6:zs.length<=1000000) (h7:ns.length<=100) (h8: ∀H',wG H H'->Q (.bl true) H'):JS vs H Q E
theorem OH {K:PySem.W.Frag}{H:Hp}(n:Nat): ∀ss:List Str,Paired (VB K H n) (ss.map V.str) (ss.map V.str)
 |[]=>.nil
 |x::r=>.cons (VB.flat rfl n) (OH n r)
theorem IH {K:PySem.W.Frag}{H:Hp}(n:Nat): ∀ss:List Int,Paired (VB K H n) (ss.map V.int) (ss.map V.int)
 |[]=>.nil
 |x::r=>.cons (VB.flat rfl n) (IH n r)
theorem Rj {K:PySem.W.Frag}{H:Hp}: ∀{ns:List (Str×List Str)} {us vs:List V},Paired (BY H) us ns->Paired (BY H) vs ns->Paired (VB K H 2) us vs
 |[],_,_,.nil,.nil=>.nil
 |x::r,_,_,.cons h1 t1,.cons h2 t2=>by
  refine .cons ?_ (Rj t1 t2)
  obtain⟨t,b,rfl,e1,e2⟩:=h1
  obtain⟨t',b',rfl,e1',e2'⟩:=h2
  refine .inr ⟨t,t',_,_,rfl,rfl,.inr ⟨.of e1,.of e1'⟩,.cons (VB.flat rfl 1) (.cons ?_ .nil)⟩
  exact .inr ⟨b,b',_,_,rfl,rfl,.inr ⟨.of e2,.of e2'⟩,OH 0 _⟩
theorem RZ (T:KK K mg)(F:vW K "_law_right" "_law_right" Dc f fd)(C_law_whole:vV P w K mg base (jX P w) 1 "_law_whole" ["_law_thing"] JQ):jV P w K mg base (jX P w) 2 f fd ["_law_found","_law_names","_law_sheet"] JS:=by
 refine F.okN GP (fun vs H Q E h=>?_) (fun cdv A outer s H vs Q E hr h=>?_)
 ·obtain⟨p,np,sp,na,sh,ns,zs,rfl,_⟩:=h
  rfl
 obtain⟨p,np,sp,na,sh,ns,zs,rfl,ep,⟨us,eu,pu⟩,es,⟨vs,ev,qv⟩,esh,zl,nl,q⟩:=h
 refine⟨_,(zF (jB (PW.pt (uZ (Ai (uB (xR Al rfl T.n_isinstance kX (zA (pv 0) (zA (Bq (v:=.ty "tuple") rfl T.n_tuple Am rfl) zH))))) (uZ (yL HV (xR xJ rfl T.n_len qJ (zA (pv 0) zH)) zX (yY _)) (uA (Ai (uB (xR Al rfl T.n_isinstance kX (zA (xZ qL (pv 0) zX (fun _ _=>rfl)) (zA (Bq (v:=.ty "tuple") rfl T.n_tuple Am rfl) zH))))))))) (zU (yU GR)) yV)
   (zF (vE xO rfl (MK (xZ qL (pv 0) zX (fun _ _=>rfl))) (xG (i:=3) GP.nd rfl (Or.inl rfl)) (zU (jB (PW.pt (uZ (Ai (uB (xR Al rfl T.n_isinstance kX (zA (pv 3) (zA (Bq (v:=.ty "tuple") rfl T.n_tuple Am rfl) zH))))) (uZ (yL HV (xR xJ rfl T.n_len qJ (zA (pv 3) zH)) zX (yY _)) (uA (Ai (uB (xR Al rfl T.n_isinstance kX (zA (xZ qL (pv 3) zX (fun _ _=>rfl)) (zA (Bq (v:=.ty "tuple") rfl T.n_tuple Am rfl) zH))))))))) (zU (yU GR)) yV)))
   (zF (jB (PW.pt (uZ (Ai (uB (xR Al rfl T.n_isinstance kX (zA (xZ qL (pv 0) zX (fun _ _=>rfl)) (zA (Bq (v:=.ty "list") rfl T.n_list Ig rfl) zH))))) (uA (Ai (uB (xR (Vp rfl) rfl T.n_all Yk (zA (HU (own:=["_law_number_here"]) (ys:=[]) rfl (DS (xZ qL (pv 0) zX (fun _ _=>rfl))) (BW (sc:=yH Dc) rfl (by decide+kernel)) .nil (fun _ _ _ _ _=>(xG (i:=0) (show List.Nodup [("_law_number_here":Str)]from(by decide+kernel)) rfl (Or.inl rfl))) (fun _ _ _ _ _=>Gu) (fun _ _ _ _ _=>(yF C_law_whole hr rfl (zA (pv 0) zH) jZ))) zH))))))) (zU (yU GR)) yV)
   (zU (yU (Cd (Ud hr) (pv 0) (qD (zA (pv 1) (zA (pv 2) zH))) (yY _))))))),?_⟩
 try dsimp only[Cx.nox,Cx.exc,Cx.wish,jC]
 refine⟨_,rfl,.inl ⟨_,_,_,true,rfl,.tup ep,T.ktup,_,rfl,Bi ?_⟩⟩
 refine⟨_,rfl,p,_,rfl,.inr (.of ep),rfl,_,rfl,Bi ?_⟩
 refine⟨_,rfl,p,_,_,_,rfl,rfl,.of ep,rfl,.inl ⟨_,_,_,true,rfl,.tup eu,T.ktup,_,rfl,Bi ?_⟩⟩
 refine⟨_,rfl,p,_,_,_,rfl,rfl,.of ep,rfl,np,rfl,⟨_,.of eu⟩,JG (xs:=us) (fun i σ' H'=>H'=H/\ ∃v3,σ'=[some (.ref p),some (.ref na),some (.ref sh),v3]) ⟨rfl,_,rfl⟩ (fun i σ' H' _ ⟨z,_⟩=>by rw[z];exact .of eu) ?_ ?_⟩
 ·rintro i v σ' _ hv ⟨rfl,v3,rfl⟩
  rename_i H
  have hi:=(List.getElem?_eq_some_iff.mp hv).1
  have hl:=Paired.len pu
  obtain⟨t,b,rfl,e1,e2⟩:=Paired.get pu _ _ _ hv (zB (by(first|lia|omega)))
  refine⟨_,rfl,.inl ⟨_,_,_,true,rfl,.tup e1,T.ktup,_,rfl,Bi ?_⟩⟩
  refine⟨_,rfl,t,_,rfl,.inr (.of e1),rfl,_,rfl,Bi ?_⟩
  exact⟨_,rfl,t,_,_,_,rfl,rfl,.of e1,rfl,.inl ⟨_,_,_,true,rfl,.tup e2,T.ktup,_,rfl,Bi ⟨rfl,_,rfl⟩⟩⟩
 rintro σ' _ ⟨rfl,v3,rfl⟩
 rename_i H
 refine⟨_,rfl,p,_,_,_,rfl,rfl,.of ep,rfl,.inl ⟨_,_,_,true,rfl,.lst es,T.klist,_,rfl,Bi ?_⟩⟩
 refine⟨_,rfl,p,_,_,_,rfl,rfl,.of ep,rfl,sp,rfl,⟨_,.of es⟩,fun l hl=>?_⟩
 have s1:=zV hl (.lst [])
 have nsl:sp≠l:=zK es hl
 refine Gn (xs:=zs.map V.int) (fun i σ' H'=>H'=upd H l (.lst ((List.replicate i true).map V.bl))/\ ∃x,σ'=[x]) ⟨rfl,_,rfl⟩ ?_ ?_ ?_
 ·rintro i σ' H' _ ⟨rfl,_⟩
  exact .of (by rw[zQ nsl];exact es)
 ·rintro i v σ' H' hi hv ⟨rfl,x,rfl⟩
  rw[zN]at hv
  obtain⟨k,-,rfl⟩:=Option.map_eq_some_iff.mp hv
  rw[zD]at hi
  refine⟨_,rfl,k,rfl,_,zG,Ak (by rw[zD,uX];(first|lia|omega)),CW.next (by rw[zD];exact hi) ⟨?_,_,rfl⟩⟩
  rw[EZ,List.replicate_succ',yA]
  rfl
 ·rintro σ' H' ⟨rfl,_⟩
  refine⟨l,List.replicate (zs.map V.int).length true,rfl,.of zG,_,rfl,?_⟩
  have ea:(List.replicate (zs.map V.int).length true).all id=true:=by simp
  rw[ea]
  have s2:wG H (upd H l (.lst ((List.replicate (zs.map V.int).length true).map V.bl))):=zV hl _
  refine Bi ⟨_,rfl,_,rfl,_,rfl,sm2,fun t ht=>?_⟩
  have s3:=s2.trans (zV ht (.tup [.ref na,.ref sh]))
  refine⟨p,t,_,_,3,rfl,rfl,.inr ⟨.of (s3 _ _ ep),.of zG⟩,.cons ?_ (.cons ?_ .nil),by decide,q _ s3⟩
  ·exact .inr ⟨np,na,_,_,rfl,rfl,.inr ⟨.of (s3 _ _ eu),.of (s3 _ _ ev)⟩,Rj (Paired.imp (fun v x z=>z.tups fun c xs e=>s3 _ _ e) pu) (Paired.imp (fun v x z=>z.tups fun c xs e=>s3 _ _ e) qv)⟩
  ·exact .inr ⟨sp,sh,_,_,rfl,rfl,.inl ⟨.of (s3 _ _ es),.of (s3 _ _ esh)⟩,IH 2 _⟩

end
section
variable {P:Program}{w:World}{K:PySem.W.Frag}{mg:Str->Option Value}{base:Heap}{f:Addr}{fd:FuncData}{aP aW aH CT CR CL CN:Addr}
set_option maxHeartbeats 4000000

structure Vr (K:PySem.W.Frag)(mg:Str->Option Value)(aW:Addr):Prop where
 n_str:mg "str"=none
 n_zip:mg "zip"=none
 n_list:mg "list"=none
 m_NUMBER:uE mg "NUMBER" 0
 m_GET:uE mg "GET" 1
 m_SET:uE mg "SET" 2
 m_CALL:uE mg "CALL" 6
 m_WORDS:mg "WORDS"=some (.ref aW)
 words: ∀H,EH K H aW (kwW.map V.str)
inductive JP (vs:List V) (H:Hp) (Q:VK) (E:XK):Prop
 |mk (k:Int) (h0:vs=[.int k]) (h1:2<=k) (h2:k<=19) (h3:Q (.str (kwW.getD (k-2).toNat "")) H):JP vs H Q E
theorem PD (T:Vr K mg aW)(F:vW K "word_of" "word_of" Iy f fd):jV P w K mg base (jX P w) 1 f fd ["kind"] JP:=by
 refine F.okN Pr (fun vs H Q E h=>?_) (fun cdv A outer s H vs Q E hr h=>?_)
 ·obtain⟨k,rfl,_⟩:=h
  rfl
 obtain⟨k,rfl,h2,h19,q⟩:=h
 refine⟨_,(zU (yU (xZ qL (Fp rfl T.m_WORDS) (xS vL (pv 0) (xH rfl T.m_SET)) (fun _ _=>rfl)))),?_⟩
 try dsimp only[Cx.nox,Cx.exc,Cx.wish,jC]
 refine⟨_,rfl,_,_,rfl,rfl,aW,_,_,_,rfl,rfl,T.words _,?_,q⟩
 exact An (by(first|lia|omega)) (by rw[zN,UH h2 h19];rfl)
theorem Zl {n:Int}(h:n.natAbs<10^60):n.natAbs.log2<1920:=by
 refine jY (?_:n.natAbs.log2<=200) (by decide)
 by_cases z:n.natAbs=0
 ·rw[z];decide
 ·exact uF ((Nat.log2_lt z).mpr (qB h (by decide+kernel)))
inductive Iq (vs:List V) (H:Hp) (Q:VK) (E:XK):Prop
 |mk (k n:Int) (bx na:Addr) (bs:List Str) (ns:List Jy) (us:List V) (h0:vs=[.int k,.int n,.ref bx,.ref na]) (h1:H bx=some (.tup (bs.map V.str))) (h2:H na=some (.tup us)) (h3:Paired (BY H) us ns) (h4:(k=1\/k=2->0<=n/\n.toNat<bs.length)) (h5:(k=6->0<=n/\n.toNat<ns.length)) (h6:n.natAbs<10^60) (h7:Q (.str (CA (ns.map (·.1)) bs k n)) H):Iq vs H Q E
theorem Ob (T:Vr K mg aW)(F:vW K "show_own" "show_own" Hh f fd):jV P w K mg base (jX P w) 1 f fd ["kind","number","boxes","names"] Iq:=by
 refine F.okN NJ (fun vs H Q E h=>?_) (fun cdv A outer s H vs Q E hr h=>?_)
 ·obtain⟨k,n,bx,na,bs,ns,us,rfl,_⟩:=h
  rfl
 obtain⟨k,n,bx,na,bs,ns,us,rfl,eb,en,pn,h12,h6,hn,q⟩:=h
 refine⟨_,(zF (jB (PW.pt (uZ (yL kT (pv 0) (xH rfl T.m_GET) (yY _)) (uA (yL kT (pv 0) (xH rfl T.m_SET) (yY _))))) (zU (yU (xZ qL (pv 2) (pv 1) (fun _ _=>rfl)))) yV)
   (zF (jB (yL kT (pv 0) (xH rfl T.m_CALL) (yY _)) (zU (yU (xZ qL (xZ qL (pv 3) (pv 1) (fun _ _=>rfl)) zX (fun _ _=>rfl)))) yV)
   (zU (yU (kR Fy rfl T.n_str KG (zA (pv 1) zH)))))),?_⟩
 try dsimp only[Cx.nox,Cx.exc,Cx.wish,jC]
 unfold CA at q
 have gb:k=1\/k=2-> ∃v,Fz (bs.map V.str) n=some v/\Q v H:=fun c=>by
  rw[zW c]at q
  obtain⟨n0,n1⟩:=h12 c
  exact⟨_,An n0 (by rw[zN,Dd n1];rfl),q⟩
 refine⟨_,rfl,rfl,_,rfl,kI (fun c=>?_) (fun c=>⟨_,rfl,rfl,_,rfl,kI (fun c2=>?_) (fun c2=>?_)⟩)⟩
 ·obtain⟨v,e1,q1⟩:=gb (.inl (vt c))
  exact⟨_,rfl,_,rfl,bx,_,_,_,rfl,rfl,.of eb,e1,q1⟩
 ·obtain⟨v,e1,q1⟩:=gb (.inr (vt c2))
  exact⟨_,rfl,_,rfl,bx,_,_,_,rfl,rfl,.of eb,e1,q1⟩
 rw[zL (fun z=>z.elim (vf c) (vf c2))]at q
 refine⟨_,rfl,rfl,_,rfl,kI (fun c3=>?_) (fun c3=>?_)⟩
 ·rw[zW (vt c3)]at q
  obtain⟨n0,n1⟩:=h6 (vt c3)
  have lu:=Paired.len pn
  have hi:n.toNat<us.length:=by(first|lia|omega)
  have e1:us[n.toNat]? =some us[n.toNat]:=zB hi
  have e2:ns[n.toNat]? =some ns[n.toNat]:=zB n1
  obtain⟨t,b,ev,h1,h2⟩:=Paired.get pn _ _ _ e1 e2
  have eg:(ns.map (fun x:Jy=>x.1)).getD n.toNat ("":Str)=ns[n.toNat].1:=getD_some (by rw[zN,e2];rfl)
  rw[eg]at q
  refine⟨_,rfl,_,rfl,na,_,_,_,rfl,rfl,.of en,An n0 (by rw[e1,ev]),t,_,_,_,rfl,rfl,.of h1,rfl,q⟩
 ·rw[zL (vf c3)]at q
  exact⟨_,rfl,n,rfl,Zl hn,q⟩
def OT (hs:Ct)(b:Int)(nd:Nd):Prop:= ∃k p own ps,nd=.mk k p own ps/\0<=k/\k<=19/\FB hs b k own/\ ∀v∈own,v.natAbs<10^60
mutual
theorem Rg {hs:Ct}{b:Int}: ∀(nd:Nd) (d:Nat),Ba hs b d (bare nd)->OS (bare nd)-> ∀x∈pre nd,OT hs b x
 | .mk k p own ps,0,f,_,x,hx=>by unfold Ba at f;exact f.elim
 | .mk k p own ps,d+1,f,s,x,hx=>by
  rw[L2.bare]at f s
  unfold Ba at f
  unfold OS at s
  obtain⟨k0,k1,of,_,_,fp⟩:=f
  rw[pre]at hx
  rcases List.mem_cons.mp hx with z|z
  ·exact⟨k,p,own,ps,z,k0,k1,of,s.1⟩
  ·exact OC ps d fp s.2 x z
theorem OC {hs:Ct}{b:Int}: ∀(nds:List Nd) (d:Nat),Cp hs b d (AK nds)->IT (AK nds)-> ∀x∈uV nds,OT hs b x
 |[],d,f,_,x,hx=>by rw[uV]at hx;cases hx
 |a::r,d,f,s,x,hx=>by
  rw[AK]at f s
  unfold Cp at f
  unfold IT at s
  rw[uV]at hx
  rcases List.mem_append.mp hx with z|z
  ·exact Rg a d f.1 s.1 x z
  ·exact OC r d f.2 s.2 x z
end
def Pa (nm bs:List Str):Nd->List Str
 | .mk k _ own _=>FK nm bs k own
mutual
theorem Qz (nm bs:List Str): ∀nd:Nd,vD nm bs (bare nd)=(pre nd).flatMap (Pa nm bs)
 | .mk k p own ps=>by
  rw[L2.bare,pre,Ed,<-Nr nm bs ps,vD]
  rfl
theorem Nr (nm bs:List Str): ∀nds:List Nd,uI nm bs (AK nds)=(uV nds).flatMap (Pa nm bs)
 |[]=>by rw[AK,uV];rfl
 |a::r=>by
  rw[AK,uV,List.flatMap_append,<-Qz nm bs a,<-Nr nm bs r,uI]
end
theorem Nv {hs:Ct}{b:Int}{nd:Nd}(h:OT hs b nd)(nm bs:List Str):(Pa nm bs nd).length<=2:=by
 obtain⟨k,p,own,ps,rfl,k0,k1,of,_⟩:=h
 show(FK nm bs k own).length<=2
 unfold FK
 rw[zC,zD]
 have l1:(if k=0\/k=1 then[]else[kwW.getD (k-2).toNat ""]:List Str).length<=1:=by split<;>simp
 have l2:own.length<=1:=by
  rcases of with⟨rfl,n,rfl⟩|⟨hk,n,rfl,a,b⟩|⟨rfl,n,rfl,a,b⟩|⟨rfl,n,rfl,a,b⟩|⟨rfl,n,rfl,a,b⟩|⟨hk,rfl⟩<;>simp
 (first|lia|omega)
theorem Nq {hs:Ct}{b:Int}(nm bs:List Str): ∀nds:List Nd,(∀x∈nds,OT hs b x)->(nds.flatMap (Pa nm bs)).length<=2*nds.length
 |[],_=>zS _
 |a::r,h=>by
  rw[Ed,zC,zJ]
  have h1:=Nv (h a (zP ..)) nm bs
  have h2:=Nq nm bs r (fun x hx=>h x (zT _ hx))
  (first|lia|omega)
theorem nvt {i j:Int}(c:(!decide (V.int i=V.int j))=true):i≠j:=fun z=>by
 rw[z]at c
 simp at c
theorem nvf {i j:Int}(c: ¬(!decide (V.int i=V.int j))=true):i=j:=by
 by_cases h:i=j
 ·exact h
 ·refine absurd ?_ c
  have: ¬V.int i=V.int j:=fun z=>h (by injection z)
  rw[yJ this]
  rfl
inductive Hb (vs:List V) (H:Hp) (Q:VK) (E:XK):Prop
 |mk (v:V) (nd:Nd) (bx na:Addr) (bs:List Str) (ns:List Jy) (us:List V) (hs:Ct) (h0:vs=[v,.ref bx,.ref na]) (h1:vP H 10 v nd) (h2:(pre nd).length<=100000) (h3:H bx=some (.tup (bs.map V.str))) (h4:H na=some (.tup us)) (h5:Paired (BY H) us ns) (h6:(∀x∈pre nd,OT hs (bs.length:Int) x)) (h7:ns.length=hs.length) (h8: ∀l H',wG H H'->H l=none->H' l=some (.lst ((vD (ns.map (·.1)) bs (bare nd)).map V.str))->Q (.ref l) H'):Hb vs H Q E
theorem MT (T:Vr K mg aW)(F:vW K "show_body" "show_body" FV f fd)(Cnodes_in:vV P w K mg base (jX P w) 1 "nodes_in" ["body"] Ir)(Cword_of:vV P w K mg base (jX P w) 1 "word_of" ["kind"] JP)(Cshow_own:vV P w K mg base (jX P w) 1 "show_own" ["kind","number","boxes","names"] Iq):jV P w K mg base (jX P w) 2 f fd ["body","boxes","names"] Hb:=by
 refine F.okN vZ (fun vs H Q E h=>?_) (fun cdv A outer s H vs Q E hr h=>?_)
 ·obtain⟨v,nd,bx,na,bs,ns,us,hs,rfl,_⟩:=h
  rfl
 obtain⟨v,nd,bx,na,bs,ns,us,hs,rfl,hv,hc,eb,en,pn,ft,hl,q⟩:=h
 refine⟨_,(zF (yT (i:=3) vZ.nd rfl (Or.inl rfl) (jN zH))
   (zF (vE xO rfl (DS (yF Cnodes_in hr rfl (zA (pv 0) zH) jZ)) (BS rfl (jA (xG (i:=4) vZ.nd rfl (Or.inl rfl)) (jA (xG (i:=5) vZ.nd rfl (Or.inl rfl)) (jA (xG (i:=6) vZ.nd rfl (Or.inl rfl)) (jA (xG (i:=7) vZ.nd rfl (Or.inl rfl)) Aa))))) (zF (Ek (jB (PW.pt (TB (yL HV (pv 4) (xH rfl T.m_NUMBER) (yY _)) (QN (yL HV (pv 4) (xH rfl T.m_GET) (yY _))))) (zU (xV (kK zO zZ zY xY (pv 3) (zA (yF Cword_of hr rfl (zA (pv 4) zH) jZ) zH)))) yV))
   (zU (vE xO rfl (MK (pv 6)) (xG (i:=8) vZ.nd rfl (Or.inl rfl)) (zU (xV (kK zO zZ zY xY (pv 3) (zA (yF Cshow_own hr rfl (zA (pv 4) (zA (pv 8) (zA (pv 1) (zA (pv 2) zH)))) jZ) zH))))))))
   (zU (yU (pv 3))))),?_⟩
 try dsimp only[Cx.nox,Cx.exc,Cx.wish,jC]
 refine⟨sm0,fun l hl0=>?_⟩
 have s1:=zV hl0 (.lst [])
 refine⟨_,rfl,v,nd,rfl,hv.tups (.same s1),by(first|lia|omega),fun ll vs H1 s2 hll el pv=>?_⟩
 rw[Qz]at q
 have lv:=Paired.len pv
 have nll:ll≠l:=fun z=>by rw[z,zG]at hll;cases hll
 have el0:H1 l=some (.lst []):=s2 _ _ zG
 have sl:sizeLine=16777216:=At
 refine⟨ll,rfl,⟨_,.of el⟩,Ia (xs:=vs) (fun i σ' H'=> ∃v4 v5 v6 v7 v8,σ'=[some v,some (.ref bx),some (.ref na),some (.ref l),v4,v5,v6,v7,v8]/\H' l=some (.lst ((((pre nd).take i).flatMap (Pa (ns.map (·.1)) bs)).map V.str))/\(∀b o,b≠l->H1 b=some o->H' b=some o)) ⟨_,_,_,_,_,rfl,el0,fun b o _ e=>e⟩ ?_ ?_ ?_⟩
 ·rintro i σ' H' _ ⟨v4,v5,v6,v7,v8,rfl,_,kp⟩
  exact .of (kp _ _ nll el)
 ·rintro i x σ' H' hx ⟨v4,v5,v6,v7,v8,rfl,ew,kp⟩
  have hi:i<(pre nd).length:=by have:=(List.getElem?_eq_some_iff.mp hx).1;(first|lia|omega)
  have ex:(pre nd)[i]? =some (pre nd)[i]:=zB hi
  have fx:=ft _ (zM ex)
  have nx:=Paired.get pv _ _ _ hx ex
  have et:(pre nd).take (i+1)=(pre nd).take i++[(pre nd)[i]]:=by rw[kM,ex];rfl
  generalize(pre nd)[i]=nd1 at *
  have wl:=Nq (ns.map (·.1)) bs ((pre nd).take i) (fun x hx=>ft x (wF hx))
  have tl:((pre nd).take i).length<=100000:=by rw[yM];(first|lia|omega)
  have wl1:=Nv fx (ns.map (·.1)) bs
  obtain⟨k,p,own,ps,rfl,k0,k1,of,sm⟩:=fx
  obtain⟨t,o,pq,vs2,rfl,etn,eo,ep,pr⟩:=nx
  have tp: ∀{b:Addr} {xs:List V} {G:Hp},(∀b o,b≠l->H1 b=some o->G b=some o)->H1 b=some (.tup xs)->G b=some (.tup xs):=fun h e=>h _ _ (fun z=>by rw[z,el0]at e;cases e) e
  refine⟨t,_,rfl,.of (tp kp etn),rfl,_,_,rfl,_,_,rfl,_,_,rfl,_,_,rfl,rfl,?_⟩
  have sz: ∀{xs:List Str},xs.length<=200010->(xs.map V.str).length +1<=sizeLine:=fun h=>by rw[zD];(first|lia|omega)
  have e2:Pa (ns.map (·.1)) bs (.mk k p own ps)=(if k=0\/k=1 then[]else[kwW.getD (k-2).toNat ""])++own.map (CA (ns.map (·.1)) bs k):=rfl
  rw[et,List.flatMap_append,List.flatMap_singleton]
  generalize((pre nd).take i).flatMap (Pa (ns.map (·.1)) bs)=W0 at *
  refine⟨fun σ' H'=>σ'=[some v,some (.ref bx),some (.ref na),some (.ref l),some (.int k),some (.int (p:Int)),some (.ref o),some (.ref pq),v8]/\H' l=some (.lst ((W0++(if k=0\/k=1 then[]else[kwW.getD (k-2).toNat ""])).map V.str))/\(∀b o,b≠l->H1 b=some o->H' b=some o),?_,?_⟩
  ·have no:(k=0\/k=1)->H' l=some (.lst ((W0++(if k=0\/k=1 then[]else[kwW.getD (k-2).toNat ""])).map V.str)):=fun c=>by
    rw[zW c,yX];exact ew
   refine⟨_,rfl,rfl,_,rfl,kI (fun c=>⟨_,rfl,rfl,_,rfl,kI (fun c2=>?_) (fun c2=>?_)⟩) (fun c=>?_)⟩
   ·have h2: ¬(k=0\/k=1):=by
     have a:=nvt c
     have b:=nvt c2
     (first|lia|omega)
    refine⟨_,rfl,.inl ⟨rfl,_,.of ew⟩,_,rfl,k,rfl,by(first|lia|omega),k1,l,_,_,rfl,rfl,ew,sz (by(first|lia|omega)),rfl,?_,fun b o nb e=>by rw[zQ nb];exact kp b o nb e⟩
    rw[zG,zL h2,yA]
    rfl
   ·have h2:k=1:=nvf c2
    exact⟨rfl,no (.inr h2),kp⟩
   ·have h2:k=0:=nvf c
    exact⟨rfl,no (.inl h2),kp⟩
  ·rintro σ' H2 ⟨rfl,ew2,kp2⟩
   have lk:(W0++(if k=0\/k=1 then[]else[kwW.getD (k-2).toNat ""])).length<=200001:=by
    rw[zC]
    have:(if k=0\/k=1 then[]else[kwW.getD (k-2).toNat ""]:List Str).length<=1:=by split<;>simp
    (first|lia|omega)
   have lo:own.length<=1:=by
    rcases of with⟨rfl,n,rfl⟩|⟨hk,n,rfl,a,b⟩|⟨rfl,n,rfl,a,b⟩|⟨rfl,n,rfl,a,b⟩|⟨rfl,n,rfl,a,b⟩|⟨hk,rfl⟩<;>simp
   rw[e2,<-yP]
   generalize W0++(if k=0\/k=1 then[]else[kwW.getD (k-2).toNat ""])=W1 at *
   refine⟨_,rfl,o,rfl,⟨_,.of (tp kp2 eo)⟩,JG (xs:=own.map V.int) (fun j σ' H'=> ∃v8,σ'=[some v,some (.ref bx),some (.ref na),some (.ref l),some (.int k),some (.int (p:Int)),some (.ref o),some (.ref pq),v8]/\H' l=some (.lst ((W1++(own.take j).map (CA (ns.map (·.1)) bs k)).map V.str))/\(∀b o,b≠l->H1 b=some o->H' b=some o)) ⟨_,rfl,by rw[wY,List.map_nil,yX];exact ew2,kp2⟩ ?_ ?_ ?_⟩
   ·rintro j σ' H' _ ⟨v8,rfl,_,kp3⟩
    exact .of (tp kp3 eo)
   ·rintro j x σ' H' hx ⟨v8,rfl,ew3,kp3⟩
    rw[zN]at hx
    obtain⟨n,hn,rfl⟩:=Option.map_eq_some_iff.mp hx
    have nm:=zM hn
    have k3: ∀{b:Addr} {o:HO},H b=some o->H' b=some o:=fun{b o} e=>kp3 _ _ (zK e hl0) (s2 _ _ (s1 _ _ e))
    refine⟨_,rfl,.inl ⟨rfl,_,.of ew3⟩,_,rfl,_,rfl,_,rfl,_,rfl,k,n,bx,na,bs,ns,us,rfl,k3 eb,k3 en,Paired.imp (fun v x ⟨t,b,h1,h2,h3⟩=>⟨t,b,h1,k3 h2,k3 h3⟩) pn,?_,?_,sm n nm,l,_,_,rfl,rfl,ew3,sz ?_,_,rfl,?_,fun b o nb e=>by rw[zQ nb];exact kp3 b o nb e⟩
    ·rintro c
     rcases of with⟨rfl,_⟩|⟨hk,n',rfl,a,b⟩|⟨rfl,_⟩|⟨rfl,_⟩|⟨rfl,_⟩|⟨hk,rfl⟩
     ·(first|lia|omega)
     ·rw[List.mem_singleton.mp nm];(first|lia|omega)
     ·(first|lia|omega)
     ·(first|lia|omega)
     ·(first|lia|omega)
     ·cases nm
    ·rintro rfl
     rcases of with⟨z,_⟩|⟨hk,_⟩|⟨z,_⟩|⟨z,_⟩|⟨_,n',rfl,a,b⟩|⟨hk,rfl⟩
     ·(first|lia|omega)
     ·(first|lia|omega)
     ·(first|lia|omega)
     ·(first|lia|omega)
     ·rw[List.mem_singleton.mp nm];(first|lia|omega)
     ·cases nm
    ·rw[zC,zD,yM];(first|lia|omega)
    ·rw[zG,kM,hn]
     simp
   ·rintro σ' H' ⟨v8,rfl,ew3,kp3⟩
    rw[zD,wS]at ew3
    exact⟨_,_,_,_,_,rfl,ew3,kp3⟩
 ·rintro σ' H' ⟨v4,v5,v6,v7,v8,rfl,ew,kp⟩
  rw[lv,wS]at ew
  exact⟨_,rfl,q l H' (fun b o e=>kp _ _ (zK e hl0) (s2 _ _ (s1 _ _ e))) hl0 ew⟩

end
section
variable {P:Program}{w:World}{K:PySem.W.Frag}{mg:Str->Option Value}{base:Heap}{f:Addr}{fd:FuncData}{aP aW aH CT CR CL CN:Addr}
set_option maxHeartbeats 4000000

def Jc (pr:List Pg):Str:=Txt.join "\n" (pr.map fun x=>Txt.join " " (xA x))
theorem OP: ∀(nds:List Nd) (i:Nat),(AK nds)[i]? =nds[i]?.map bare
 |[],i=>by rw[AK];rfl
 |a::r,0=>by rw[AK];rfl
 |a::r,i+1=>by rw[AK,EW,EW];exact OP r i
mutual
theorem HQ: ∀nd:Nd,(pre nd).length<=(Br (bare nd)).length
 | .mk k p own ps=>by
  rw[pre,L2.bare,Br,zJ,zJ,zC]
  have:=Lo ps
  (first|lia|omega)
theorem Lo: ∀nds:List Nd,(uV nds).length<=(Aj (AK nds)).length
 |[]=>by rw[uV];exact yZ _
 |a::r=>by
  rw[uV,AK,Aj,zC,zC]
  have:=HQ a
  have:=Lo r
  (first|lia|omega)
end
theorem JM {α:Type}(g:α->Nat)(k:Nat): ∀l:List α,(∀x∈l,g x<=k)->(l.map g).sum<=k*l.length
 |[],_=>yZ _
 |x::l,h=>by
  rw[yK,Er,zJ,Nat.mul_add]
  have h1:=h x (zP ..)
  have h2:=JM g k l (fun y hy=>h y (zT _ hy))
  (first|lia|omega)
theorem Dp (c:Nat): ∀qs:List (List Nat),(vS c qs).length<=(qs.map fun q=>q.length+1).sum
 |[]=>zS _
 |[q]=>by show q.length<=_;simp
 |q::q2::r=>by
  have:=Dp c (q2::r)
  show(q++c::vS c (q2::r)).length<=q.length+1+((q2::r).map fun q=>q.length+1).sum
  rw[zC,zJ]
  (first|lia|omega)
theorem LG {ws:List Str}(h: ∀w∈ws,w.length<=61):(Txt.join " " ws).length<=62*ws.length:=by
 have e:(Txt.join " " ws).cps.toList =vS 32 (ws.map fun x=>x.cps.toList):=by
  have:=AJ 32 ws
  rw[show Txt.join " " ws=Str.join ⟨#[32]⟩ ws from qV _ _]
  exact this
 have hl:(Txt.join " " ws).cps.toList.length =(Txt.join " " ws).length:=yQ
 have:=Dp 32 (ws.map fun x=>x.cps.toList)
 rw[<-e,hl,kS]at this
 refine yO this (JM _ 62 ws fun w hw=>?_)
 have h1:=h w hw
 have h2:w.cps.toList.length=w.length:=yQ
 show w.cps.toList.length+1<=62
 (first|lia|omega)
def KM (fs:List Fn):Prop:= ∀f∈fs,(Br f.2).length<=3000
mutual
theorem Nu (nm bs:List Str): ∀t:Tr,(vD nm bs t).length<=(Br t).length
 | .mk k own ps=>by
  rw[vD,Br,zC,zJ,zC]
  have h1:(FK nm bs k own).length<=1+own.length:=by
   unfold FK
   rw[zC,zD]
   have:(if k=0\/k=1 then[]else[kwW.getD (k-2).toNat ""]:List Str).length<=1:=by split<;>simp
   (first|lia|omega)
  have:=Le nm bs ps
  (first|lia|omega)
theorem Le (nm bs:List Str): ∀ts:List Tr,(uI nm bs ts).length<=(Aj ts).length
 |[]=>zS _
 |a::r=>by
  rw[uI,Aj,zC,zC]
  have:=Nu nm bs a
  have:=Le nm bs r
  (first|lia|omega)
end
theorem GA {hs:List FI}{x:Pg}(h:Lb hs x)(hl:x.2.1.length<=3000):(xA x).length<=3016:=by
 unfold xA
 simp only[zJ,zC,yM,jK]
 have:=h.hd.pb
 have:=h.hd.bx.few
 (first|lia|omega)
theorem Gv {ns:List Jy}{fs:List Fn}(h:KM fs): ∀x∈Bh ns fs,x.2.1.length<=3000:=fun x hx=>by
 obtain⟨i,e⟩:=kO hx
 obtain⟨n,f,e1,e2,rfl⟩:=Mn e
 exact yO (Nu _ _ f.2) (h f (zM e2))
inductive Ha (vs:List V) (H:Hp) (Q:VK) (E:XK):Prop
 |mk (na sh:Addr) (ns:List Jy) (fs:List Fn) (us:List V) (h0:vs=[.ref na,.ref sh]) (h1:H na=some (.tup us)) (h2:Paired (BY H) us ns) (h3:H sh=some (.lst ((wr fs).map V.int))) (h4:ST ns fs) (h5:KM fs) (h6: ∀H',wG H H'->Q (.str (Jc (Bh ns fs))) H'):Ha vs H Q E
theorem MR (T:Vr K mg aW)(F:vW K "show_text" "show_text" FU f fd)(Cfunctions:vV P w K mg base (jX P w) 17 "functions" ["sheet"] (Ts CN))(Cshow_body:vV P w K mg base (jX P w) 2 "show_body" ["body","boxes","names"] Hb):jV P w K mg base (jX P w) 18 f fd ["names","sheet"] Ha:=by
 refine F.okN wD (fun vs H Q E h=>?_) (fun cdv A outer s H vs Q E hr h=>?_)
 ·obtain⟨na,sh,ns,fs,us,rfl,_⟩:=h
  rfl
 obtain⟨na,sh,ns,fs,us,rfl,en,pn,es,wf,shrt,q⟩:=h
 refine⟨_,(zF (yT (i:=2) wD.nd rfl (Or.inl rfl) (jN zH))
   (zF (vE xO rfl (TJ true false rfl T.n_zip (zA (pv 0) (zA (yF Cfunctions hr rfl (zA (pv 1) zH) jZ) zH))) (BS rfl (jA (xG (i:=3) wD.nd rfl (Or.inl rfl)) (jA (xG (i:=4) wD.nd rfl (Or.inl rfl)) Aa))) (zF (El (pv 3) (BS rfl (jA (xG (i:=5) wD.nd rfl (Or.inl rfl)) (jA (xG (i:=6) wD.nd rfl (Or.inl rfl)) Aa))))
   (zF (El (pv 4) (BS rfl (jA (xG (i:=7) wD.nd rfl (Or.inl rfl)) (jA (xG (i:=8) wD.nd rfl (Or.inl rfl)) (jA (xG (i:=9) wD.nd rfl (Or.inl rfl)) Aa)))))
   (zF (yT (i:=10) wD.nd rfl (Or.inl rfl) (xS BT (xS BT (xS BT (xS BT (jN (zA kQ (zA (pv 5) zH))) (kR De rfl T.n_list Ig (zA (Gd JC (pv 6) HS (HR (pv 7))) zH))) (jN (zA kQ zH))) (kR De rfl T.n_list Ig (zA (Gd JC (pv 6) (HR (pv 7)) HS) zH))) (jN (zA kQ zH))))
   (zU (xV (kK zO zZ zY xY (pv 2) (zA (kK jI qX qW Gz kQ (zA (xS BT (pv 10) (yF Cshow_body hr rfl (zA (pv 9) (zA (pv 6) (zA (pv 0) zH))) jZ)) zH)) zH))))))))
   (zU (yU (kK jI qX qW Gz kQ (zA (pv 2) zH)))))),?_⟩
 try dsimp only[Cx.nox,Cx.exc,Cx.wish,jC]
 refine⟨sm0,fun l hl=>?_⟩
 have s1:=zV hl (.lst [])
 obtain⟨nds,em,ef⟩:=Ye wf.good wf.fit
 refine⟨_,rfl,_,rfl,sh,wr fs,rfl,s1 _ _ es,⟨fun r er=>?_,fun p x er=>?_⟩⟩
 ·rw[em]at er
  cases er
  rintro fl H1 s2 hfl ⟨rs,efl,elen,pr⟩
  have k1:=s1.trans s2
  have en1:=k1 _ _ en
  have el1:H1 l=some (.lst []):=s2 _ _ zG
  have nfl:fl≠l:=fun z=>by rw[z,zG]at hfl;cases hfl
  have nna:na≠l:=zK en hl
  have lu:=Paired.len pn
  have lr:=Paired.len pr
  have ln:=wf.len
  have lnd:nds.length=fs.length:=by
   have:=elen
   rw[zD]at this
   exact this.symm
  have lz:rs.length=fs.length:=by rw[lr];show((fs.map Prod.fst).zip nds).length =_;rw[uN,zD];(first|lia|omega)
  have pgl:=Cc wf.len
  have f16:fs.length<=16:=by have:=wf.good.hi;rwa [zD]at this
  have pok:=wf.prog
  have sl:sizeLine=16777216:=At
  refine⟨na,fl,us,rs,rfl,.of en1,.of efl,Wr (b1:=true) (b2:=false) (xs:=us) (ys:=rs) (fun i σ' H'=> ∃v3 v4 v5 v6 v7 v8 v9 v10,σ'=[some (.ref na),some (.ref sh),some (.ref l),v3,v4,v5,v6,v7,v8,v9,v10]/\H' l=some (.lst ((((Bh ns fs).take i).map fun x=>Txt.join " " (xA x)).map V.str))/\(∀b o,b≠l->H1 b=some o->H' b=some o)) ⟨_,_,_,_,_,_,_,_,rfl,el1,fun b o _ e=>e⟩ (by(first|lia|omega)) ?_ ?_ ?_⟩
  ·rintro i σ' H' _ ⟨v3,v4,v5,v6,v7,v8,v9,v10,rfl,_,kp⟩
   exact⟨.of (kp _ _ nna en1),.of (kp _ _ nfl efl)⟩
  ·rintro i x y σ' H' t hx hy ⟨v3,v4,v5,v6,v7,v8,v9,v10,rfl,ew,kp⟩ ht
   have hi:i<fs.length:=by have:=(List.getElem?_eq_some_iff.mp hx).1;(first|lia|omega)
   have e1:ns[i]? =some (ns[i]'(by(first|lia|omega))):=zB _
   have e2:fs[i]? =some fs[i]:=zB hi
   have e3:nds[i]? =some (nds[i]'(by(first|lia|omega))):=zB _
   have epg:(Bh ns fs)[i]? =some (Bp (ns.map (·.1)) (ns[i]'(by(first|lia|omega))) fs[i]):=by
    unfold Bh
    rw[kC,e1,e2]
   have ez:((fs.map Prod.fst).zip nds)[i]? =some (fs[i].1,nds[i]'(by(first|lia|omega))):=by
    rw[AC,zN,e2]
    exact⟨rfl,e3⟩
   have ebr:bare (nds[i]'(by(first|lia|omega)))=fs[i].2:=by
    have:=xT (fun l:List Fn=>l[i]?) ef
    have t1:(Re (fs.map Prod.fst,nds))[i]? =some (fs[i].1,bare (nds[i]'(by(first|lia|omega)))):=by
     unfold Re
     rw[AC,zN,e2,OP,e3]
     exact⟨rfl,rfl⟩
    have this:(Re (fs.map Prod.fst,nds))[i]? =fs[i]?:=this
    rw[t1,e2]at this
    injection this with this
    rw[<-this]
   have bxl:=wf.bx i _ _ e1 e2
   have gd:=wf.good.all i fs[i].1 (by rw[zN,e2];rfl)
   have hft:=wf.fit _ (zM e2)
   have hsm:=wf.sm _ (zM e2)
   have hsh:=shrt _ (zM e2)
   have nok:=(wf.nm _ (zM e1)).2.few
   obtain⟨tn,tb,rfl,en2,eb2⟩:=Paired.get pn _ _ _ hx e1
   obtain⟨tf,vb,rfl,ef2,nf2⟩:=Paired.get pr _ _ _ hy ez
   have et:(Bh ns fs).take (i+1)=(Bh ns fs).take i++[Bp (ns.map (·.1)) (ns[i]'(by(first|lia|omega))) fs[i]]:=by rw[kM,epg];rfl
   have okl:=pok.all _ (zM epg)
   have wl:=GA okl (Gv shrt _ (zM epg))
   have wd:=EC okl
   generalize hn:(ns[i]'(by(first|lia|omega)))=n at *
   generalize hfi:fs[i]=fi at *
   generalize hnd:(nds[i]'(by(first|lia|omega)))=nd at *
   obtain⟨nm,bs⟩:=n
   obtain⟨⟨pm,bm⟩,tr⟩:=fi
   dsimp only at *
   have k0: ∀{b:Addr} {o:HO},H b=some o->H' b=some o:=fun{b o} e=>kp _ _ (zK e hl) (k1 _ _ e)
   have tp1: ∀{b:Addr} {xs:List V},H1 b=some (.tup xs)->H' b=some (.tup xs):=fun e=>kp _ _ (fun z=>by rw[z,el1]at e;cases e) e
   have g0:=zV ht (.tup [.ref tn,.ref tf])
   refine⟨t,_,rfl,.of zG,rfl,_,_,rfl,_,_,rfl,rfl,?_⟩
   refine⟨_,rfl,tn,_,rfl,.of (g0 _ _ (k0 en2)),rfl,_,_,rfl,_,_,rfl,rfl,?_⟩
   refine⟨_,rfl,tf,_,rfl,.of (g0 _ _ (tp1 ef2)),rfl,_,_,rfl,_,_,rfl,_,_,rfl,rfl,?_⟩
   obtain⟨pp,rfl⟩: ∃pp:Nat,pm=(pp:Int):=⟨pm.toNat,by(first|lia|omega)⟩
   have pb:pp<=bs.length:=by(first|lia|omega)
   have p4:pp<=4:=by(first|lia|omega)
   have eb9:=g0 _ _ (k0 eb2)
   refine⟨_,rfl,sm2,fun a1 h1=>?_⟩
   have g1:=zV h1 (.lst [V.str "fun",V.str nm])
   refine⟨_,rfl,_,rfl,_,rfl,tb,_,rfl,g1 _ _ eb9,fun r1 G1 x1 y1=>⟨r1,_,rfl,.inr (.of y1),fun a2 h2=>?_⟩⟩
   rw[LY]
   have dl:((bs.map V.str).drop pp).length<=12:=by rw[jK,zD];(first|lia|omega)
   have n2:=zV h2 (.lst ((bs.map V.str).take pp))
   refine⟨a1,a2,_,_,rfl,rfl,n2 _ _ (x1 _ _ zG),zG,small (show 2+((bs.map V.str).take pp).length<=1000 by rw[yM,zD];(first|lia|omega)),fun a3 h3=>?_⟩
   have n3:=zV h3 (.lst ([V.str "fun",V.str nm]++(bs.map V.str).take pp))
   refine⟨sm1,fun a4 h4=>?_⟩
   have n4:=zV h4 (.lst [V.str "with"])
   refine⟨a3,a4,_,_,rfl,rfl,n4 _ _ zG,zG,small (show([V.str "fun",V.str nm]++(bs.map V.str).take pp).length +1<=1000 by rw[zC,yM,zD];show 2+_+1<=_;(first|lia|omega)),fun a5 h5=>?_⟩
   have n5:=zV h5 (.lst ([V.str "fun",V.str nm]++(bs.map V.str).take pp++[V.str "with"]))
   have z5:=g1.trans (x1.trans (n2.trans (n3.trans (n4.trans n5))))
   refine⟨_,rfl,_,rfl,_,rfl,tb,_,rfl,z5 _ _ eb9,fun r2 G2 x2 y2=>⟨r2,_,rfl,.inr (.of y2),fun a6 h6=>?_⟩⟩
   rw[LZ]
   have n6:=zV h6 (.lst ((bs.map V.str).drop pp))
   refine⟨a5,a6,_,_,rfl,rfl,n6 _ _ (x2 _ _ zG),zG,small (show([V.str "fun",V.str nm]++(bs.map V.str).take pp++[V.str "with"]).length +((bs.map V.str).drop pp).length<=1000 by rw[zC,zC,yM,zD];show 2+_+1+_<=_;(first|lia|omega)),fun a7 h7=>?_⟩
   have n7:=zV h7 (.lst ([V.str "fun",V.str nm]++(bs.map V.str).take pp++[V.str "with"]++(bs.map V.str).drop pp))
   refine⟨sm1,fun a8 h8=>?_⟩
   have n8:=zV h8 (.lst [V.str "is"])
   have l7:([V.str "fun",V.str nm]++(bs.map V.str).take pp++[V.str "with"]++(bs.map V.str).drop pp).length<=27:=by
    rw[zC,zC,zC,yM,zD]
    show 2+_+1+_<=_
    (first|lia|omega)
   refine⟨a7,a8,_,_,rfl,rfl,n8 _ _ zG,zG,small (yO (Cr l7 1) (by decide)),fun a9 h9=>?_⟩
   have n9:=zV h9 (.lst ([V.str "fun",V.str nm]++(bs.map V.str).take pp++[V.str "with"]++(bs.map V.str).drop pp++[V.str "is"]))
   have z9:=g0.trans (z5.trans (x2.trans (n6.trans (n7.trans (n8.trans n9)))))
   have kz: ∀{b:Addr} {o:HO},H b=some o->_:=fun{b o} e=>z9 _ _ (k0 e)
   refine⟨_,rfl,.inl ⟨rfl,_,.of (z9 _ _ ew)⟩,rfl,_,rfl,_,rfl,_,rfl,_,rfl,vb,nd,tb,na,bs,ns,us,fs.map Prod.fst,rfl,nf2.tups (fun b xs e=>z9 _ _ (tp1 e)),?_,kz eb2,kz en,Paired.imp (fun v x ⟨t,b,h1,h2,h3⟩=>⟨t,b,h1,kz h2,kz h3⟩) pn,?_,by rw[zD];exact ln,fun lb HB sb hlb elb=>?_⟩
   ·have:=HQ nd
    rw[ebr]at this
    (first|lia|omega)
   ·refine Rg nd 10 ?_ ?_
    ·rw[ebr,<-bxl];exact hft
    ·rw[ebr];exact hsm
   rw[ebr]at elb
   have key:[V.str "fun",V.str nm]++(bs.map V.str).take pp++[V.str "with"]++(bs.map V.str).drop pp++[V.str "is"]++(vD (ns.map (·.1)) bs tr).map V.str=(xA (Bp (ns.map (·.1)) (nm,bs) (((pp:Int),bm),tr))).map V.str:=by
    show _=(("fun":Str)::nm::(bs.take pp++("with":Str)::(bs.drop pp++("is":Str)::vD (ns.map (·.1)) bs tr))).map V.str
    simp
   have lk:=xT List.length key
   rw[zD,zC]at lk
   refine⟨a9,lb,_,_,rfl,rfl,sb _ _ zG,elb,by(first|lia|omega),fun a10 h10=>?_⟩
   have z10:=z9.trans (sb.trans (zV h10 (.lst ([V.str "fun",V.str nm]++(bs.map V.str).take pp++[V.str "with"]++(bs.map V.str).drop pp++[V.str "is"]++(vD (ns.map (·.1)) bs tr).map V.str))))
   have sw:((xA (Bp (ns.map (·.1)) (nm,bs) (((pp:Int),bm),tr))).map (·.length)).sum<=61*(xA (Bp (ns.map (·.1)) (nm,bs) (((pp:Int),bm),tr))).length:=JM _ 61 _ fun w hw=>(wd w hw).sh
   refine⟨" ",a10,xA (Bp (ns.map (·.1)) (nm,bs) (((pp:Int),bm),tr)),rfl,rfl,.of (by rw[zG,key]),?_,l,_,_,rfl,rfl,z10 _ _ ew,?_,_,_,_,_,_,_,_,_,rfl,?_,fun b o nb e=>by rw[zQ nb];exact z10 _ _ (kp b o nb e)⟩
   ·show _+_*1<=_
    (first|lia|omega)
   ·rw[zD,zD,yM];(first|lia|omega)
   ·rw[zG,et,yA,yA]
    rfl
  ·rintro σ' H' ⟨v3,v4,v5,v6,v7,v8,v9,v10,rfl,ew,kp⟩
   rw[xP (by(first|lia|omega))]at ew
   refine⟨rfl,_,rfl,_,l,_,rfl,rfl,.of ew,?_,q H' fun b o e=>kp _ _ (zK e hl) (k1 _ _ e)⟩
   have bd: ∀x∈Bh ns fs,(Txt.join " " (xA x)).length<=190000:=fun x hx=>by
    have okl:=pok.all x hx
    have wl:=GA okl (Gv shrt x hx)
    have:=LG (ws:=xA x) fun w hw=>(EC okl w hw).sh
    (first|lia|omega)
   have:=JM (fun x=>(Txt.join " " (xA x)).length) 190000 _ bd
   rw[kS,zD]
   show(_:List Nat).sum +_*1<=_
   have e0:((Bh ns fs).map ((fun x:Str=>x.length)∘fun x=>Txt.join " " (xA x))).sum =((Bh ns fs).map (fun x=>(Txt.join " " (xA x)).length)).sum:=rfl
   (first|lia|omega)
 ·rw[em]at er
  cases er

end
section
variable {P:Program}{w:World}{K:PySem.W.Frag}{mg:Str->Option Value}{base:Heap}{f:Addr}{fd:FuncData}{aP aW aH CT CR CL CN:Addr}
set_option maxHeartbeats 4000000

structure Zx (K:PySem.W.Frag)(mg:Str->Option Value):Prop where
 n_len:mg "len"=none
 n_range:mg "range"=none
 n_tuple:mg "tuple"=none
 n_zip:mg "zip"=none
 n_dict:mg "dict"=none
def Mg (H:Hp)(li:Addr)(ls:List (List Str)):Prop:= ∃lv,H li=some (.lst lv)/\Paired (Qv H) lv ls
inductive MC (vs:List V) (H:Hp) (Q:VK) (E:XK):Prop
 |mk (st na li:Addr) (m:Int) (ns:List Jy) (fs:List Fn) (h0:vs=[.ref st,.ref na,.ref li]) (h1:Bz H st m) (h2:m<=150000) (h3:GY H na ns) (h4:Mg H li ((Bh ns fs).map xA)) (h5:ST ns fs) (h6:KM fs) (h7: ∀p na' li' ns' H',jQ st (m+3000) H H'->H' p=some (.tup [.ref na',.ref li'])->GY H' na' ns'->Mg H' li' ((Bh ns' fs).map xA)->ST ns' fs->Q (.ref p) H'):MC vs H Q E
structure XIn (st tk fl:Addr)(ns:List Jy)(H:Hp)(m:Int)(i:Nat)(nd:List Jy)(fv:List V)(H':Hp):Prop where
 pen:jQ st (m+130*(i:Int)) H H'
 tk:H' tk=some (.lst ((nd.map (·.1)).map V.str))
 fl:H' fl=some (.lst fv)
 pr:Paired (BY H') fv nd
 len:nd.length=i
 ok: ∀n∈nd,jF n.1=true/\OX n.2
 nod:(nd.map (·.1)).Nodup
 bl: ∀(j:Nat) (n n':Jy),ns[j]? =some n->nd[j]? =some n'->n'.2.length=n.2.length
theorem BY.ups {H H':Hp}{v:V}{n:Jy}(h:BY H v n)(g:wV H H'):BY H' v n:=by
 obtain⟨t,b,e,h1,h2⟩:=h
 exact⟨t,b,e,g _ _ h1,g _ _ h2⟩
theorem XIn.same {st tk fl:Addr}{ns:List Jy}{H:Hp}{m:Int}{i:Nat}{nd:List Jy}{fv:List V}{H1 H2:Hp}(X:XIn st tk fl ns H m i nd fv H1)(g:wG H1 H2):XIn st tk fl ns H m i nd fv H2:=
 ⟨X.pen.trans (X.pen.pen.more g),g _ _ X.tk,g _ _ X.fl,Paired.imp (fun v x z=>z.ups (.same g)) X.pr,X.len,X.ok,X.nod,X.bl⟩
theorem Kf {H:Hp}: ∀{as:List Addr} {ks vs:List Str},ks.length=vs.length->Paired (fun a (p:Str×Str)=>H a=some (.tup [.str p.1,.str p.2])) as (ks.zip vs)->Paired (fun a (kv:Bj×V)=>H a=some (.tup [kV kv.1,kv.2])) as (dS ks vs)
 |_,[],[],_,.nil=>.nil
 |_,k::ks,v::vs,l,.cons h t=>.cons h (Kf (by simpa using l) t)
theorem JD {H H2:Hp}(h2: ∀{a:Addr} {x:Str} {xs:List V},H a=some (.lst (.str x::xs))->H2 a=some (.lst (.str x::xs))): ∀{lv:List V} {pr:List Pg},Paired (Qv H) lv (pr.map xA)->Paired (Qv H2) lv (pr.map xA)
 |_,[],.nil=>.nil
 |_,x::r,.cons ⟨a,e,h⟩ t=>.cons ⟨a,e,h2 h⟩ (JD h2 t)
theorem Us (T:Zx K mg)(F:vW K "_law_exchanged" "_law_exchanged" Ax f fd)(C_law_name:vV P w K mg base (jX P w) 2 "_law_name" ["_law_pen_here","_law_taken"] JA):jV P w K mg base (jX P w) 3 f fd ["_law_pen_here","_law_names","_law_lines"] MC:=by
 refine F.okN xX (fun vs H Q E h=>?_) (fun cdv A outer s H vs Q E hr h=>?_)
 ·obtain⟨st,na,li,m,ns,fs,rfl,_⟩:=h
  rfl
 obtain⟨st,na,li,m,ns,fs,rfl,D,hm,hn,hli,wf,shrt,q⟩:=h
 refine⟨_,(zF (yT (i:=3) xX.nd rfl (Or.inl rfl) (jN zH))
   (zF (yT (i:=4) xX.nd rfl (Or.inl rfl) (jN zH))
   (zF (vE xO rfl (MK (pv 1)) (BS rfl (jA (xG (i:=5) xX.nd rfl (Or.inl rfl)) (jA (xG (i:=6) xX.nd rfl (Or.inl rfl)) Aa))) (zF (xV (kK zO zZ zY xY (pv 3) (zA (yF C_law_name hr rfl (zA (pv 0) (zA (pv 3) zH)) jZ) zH)))
   (zF (yT (i:=7) xX.nd rfl (Or.inl rfl) (jN zH))
   (zF (vE xO rfl (MK (pv 6)) (xG (i:=8) xX.nd rfl (Or.inl rfl)) (zU (xV (kK zO zZ zY xY (pv 7) (zA (yF C_law_name hr rfl (zA (pv 0) (zA (pv 7) zH)) jZ) zH)))))
   (zU (xV (kK zO zZ zY xY (pv 4) (zA (qD (zA (xZ jH (pv 3) (NW JL zX) (fun _ _=>rfl)) (zA (kR vN rfl T.n_tuple Am (zA (pv 7) zH)) zH))) zH))))))))
   (zF (Ek (yT (i:=9) xX.nd rfl (Or.inl rfl) (kR (Qq rfl) rfl T.n_dict Rt (zA (HU (own:=["_law_one","_law_other"]) (ys:=[]) rfl (TJ true false rfl T.n_zip (zA (pv 1) (zA (pv 4) zH))) (BW (sc:=yH Ax) rfl (by decide+kernel)) .nil (fun _ _ _ _ _=>(QO (n:=2) K rfl rfl (jA (xG (i:=0) (show List.Nodup [("_law_one":Str),("_law_other":Str)]from(by decide+kernel)) rfl (Or.inl rfl)) (jA (xG (i:=1) (show List.Nodup [("_law_one":Str),("_law_other":Str)]from(by decide+kernel)) rfl (Or.inl rfl)) Aa)))) (fun _ _ _ _ _=>Gu) (fun _ _ _ _ _=>(qD (zA (xZ (MW K rfl) (pv 0) zX (fun _ _=>rfl)) (zA (xZ (MW K rfl) (pv 1) zX (fun _ _=>rfl)) zH))))) zH))))
   (zF (yT (i:=10) xX.nd rfl (Or.inl rfl) (jN zH))
   (zF (vE xO rfl (uQ rfl T.n_range (zA (xR xJ rfl T.n_len qJ (zA (pv 2) zH)) zH)) (xG (i:=11) xX.nd rfl (Or.inl rfl)) (zF (yT (i:=12) xX.nd rfl (Or.inl rfl) (jN (zA kQ (zA (xZ qL (xZ jH (pv 4) (pv 11) (fun _ _=>rfl)) zX (fun _ _=>rfl)) zH))))
   (zF (yT (i:=6) xX.nd rfl (Or.inl rfl) (Pz true true rfl rfl T.n_dict rfl T.n_zip (zA (xZ qL (xZ qL (pv 1) (pv 11) (fun _ _=>rfl)) zX (fun _ _=>rfl)) (zA (xZ qL (xZ jH (pv 4) (pv 11) (fun _ _=>rfl)) zX (fun _ _=>rfl)) zH))))
   (zF (vE xO rfl (RM rfl T.n_range (zA zX (zA (xR xJ rfl T.n_len qJ (zA (xZ jH (pv 2) (pv 11) (fun _ _=>rfl)) zH)) zH))) (xG (i:=13) xX.nd rfl (Or.inl rfl)) (zF (yT (i:=14) xX.nd rfl (Or.inl rfl) (xZ jH (xZ jH (pv 2) (pv 11) (fun _ _=>rfl)) (pv 13) (fun _ _=>rfl)))
   (zU (jB (yL kT (xZ jH (xZ jH (pv 2) (pv 11) (fun _ _=>rfl)) (xS vL (pv 13) zX) (fun _ _=>rfl)) kQ (yY _)) (zU (xV (kK zO zZ zY xY (pv 12) (zA (QQ (Rb hr) (pv 9) (pv 14) (fun _ _=>rfl)) zH)))) (zU (xV (kK zO zZ zY xY (pv 12) (zA (TZ (Rb hr) (pv 6) (pv 14) (pv 14) ⟨rfl,rfl,rfl,rfl⟩) zH))))))))
   (zU (xV (kK zO zZ zY xY (pv 10) (zA (pv 12) zH))))))))
   (zU (yU (qD (zA (kR vN rfl T.n_tuple Am (zA (pv 4) zH)) (zA (pv 10) zH))))))))))),?_⟩
 try dsimp only[Cx.nox,Cx.exc,Cx.wish,jC]
 obtain⟨us,en,pn⟩:=hn
 have lu:=Paired.len pn
 have n16:ns.length<=16:=by have:=wf.good.hi;rw[zD]at this;rw[wf.len];exact this
 refine⟨sm0,fun tk htk=>⟨sm0,fun fl hfl=>?_⟩⟩
 have s1:=zV htk (.lst [])
 have s2:=zV hfl (.lst [])
 have ntf:tk≠fl:=zK zG hfl
 have ntst:tk≠st:=Ne.symm (D.ne htk)
 have nfst:fl≠st:=Ne.symm (D.ne (s1.free hfl))
 have hfl0:H fl=none:=s1.free hfl
 refine⟨_,rfl,na,rfl,⟨_,.of (s2 _ _ (s1 _ _ en))⟩,JG (xs:=us) (fun i σ' H'=> ∃nd fv v5 v6 v7 v8,σ'=[some (.ref st),some (.ref na),some (.ref li),some (.ref tk),some (.ref fl),v5,v6,v7,v8,none,none,none,none,none,none]/\XIn st tk fl ns H m i nd fv H')
  ⟨[],[],_,_,_,_,rfl,⟨(D.more (s1.trans s2)).mono (by(first|lia|omega)),s2 _ _ zG,zG,.nil,rfl,(fun n hn=>(nomatch hn)),List.nodup_nil,fun j n n' _ z=>by simp at z⟩⟩ ?_ ?_ ?_⟩
 ·rintro i σ' H' _ ⟨nd,fv,v5,v6,v7,v8,rfl,X⟩
  exact .of (X.pen.keep _ _ (fun z=>by obtain⟨xs,ex⟩:=D.is;rw[z,ex]at en;cases en) en)
 ·rintro i x σ' H1 hx ⟨nd,fv,v5,v6,v7,v8,rfl,X⟩
  have hi:i<us.length:=(List.getElem?_eq_some_iff.mp hx).1
  have e1:ns[i]? =some (ns[i]'(by(first|lia|omega))):=zB _
  obtain⟨tn,tb,rfl,en2,eb2⟩:=Paired.get pn _ _ _ hx e1
  have nok:=(wf.nm _ (zM e1)).2.few
  generalize(ns[i]'(by(first|lia|omega)))=n at *
  obtain⟨nm,bs⟩:=n
  dsimp only at *
  have tst: ∀{b:Addr} {xs:List V},H b=some (.tup xs)->b≠st:=fun e z=>by obtain⟨ys,ey⟩:=D.is;rw[z,ey]at e;cases e
  refine⟨tn,_,rfl,.of (X.pen.keep _ _ (tst en2) en2),rfl,_,_,rfl,_,_,rfl,rfl,?_⟩
  have lt:(nd.map (·.1)).length<=16:=by rw[zD,X.len];(first|lia|omega)
  refine⟨_,rfl,.inl ⟨rfl,_,.of X.tk⟩,_,rfl,_,rfl,st,tk,_,_,rfl,X.pen.pen,by(first|lia|omega),X.tk,ntst,by(first|lia|omega),fun nn H2 ok2 ni2 D2=>?_⟩
  have etk2:=D2.keep _ _ ntst X.tk
  refine⟨tk,_,_,rfl,rfl,etk2,by rw[zD];exact yO (Cr lt 1) (by decide),?_⟩
  refine⟨sm0,fun fr hfr=>?_⟩
  have D3:jQ st (m+130*(i:Int)+10) H (upd H2 tk (.lst ((nd.map (·.1)).map V.str++[.str nn]))):=(X.pen.trans D2).putNew htk ntst
  have efl3:upd H2 tk (.lst ((nd.map (·.1)).map V.str++[.str nn])) fl=some (.lst fv):=by rw[zQ (Ne.symm ntf)];exact D2.keep _ _ nfst X.fl
  have tp12:wV H1 (upd H2 tk (.lst ((nd.map (·.1)).map V.str++[.str nn]))):=fun b xs e=>by
   rw[zQ (fun z=>by rw[z,X.tk]at e;cases e)]
   exact D2.keep _ _ (fun z=>by obtain⟨ys,ey⟩:=X.pen.pen.is;rw[z,ey]at e;cases e) e
  have etk3:upd H2 tk (.lst ((nd.map (·.1)).map V.str++[.str nn])) tk=some _:=zG
  generalize upd H2 tk (.lst ((nd.map (·.1)).map V.str++[.str nn]))=H3 at *
  have s4:=zV hfr (.lst [])
  have nfr:fr≠st:=Ne.symm (D3.pen.ne hfr)
  have D4:=D3.trans (D3.pen.more s4)
  have efr4:upd H3 fr (.lst []) fr=some (.lst []):=zG
  have etk4:=s4 _ _ etk3
  have efl4:=s4 _ _ efl3
  have tp4:wV H1 (upd H3 fr (.lst [])):=tp12.trans (.same s4)
  have fr0:H fr=none:=D3.free hfr
  generalize upd H3 fr (.lst [])=H4 at *
  have nkf:tk≠fr:=zK etk3 hfr
  have nff:fl≠fr:=zK efl3 hfr
  have eb4:H4 tb=some (.tup (bs.map V.str)):=D4.keep _ _ (tst eb2) eb2
  have tne: ∀{b:Addr} {xs:List V},H4 b=some (.tup xs)->b≠st/\b≠fr:=fun e=>⟨(fun z=>by obtain⟨ys,ey⟩:=D4.pen.is;rw[z,ey]at e;cases e),(fun z=>by rw[z,efr4]at e;cases e)⟩
  refine⟨_,rfl,tb,rfl,⟨_,.of eb4⟩,JG (xs:=bs.map V.str) (fun j σ' H'=> ∃(cs:List Str) (v8:Option V),σ'=[some (.ref st),some (.ref na),some (.ref li),some (.ref tk),some (.ref fl),some (.str nm),some (.ref tb),some (.ref fr),v8,none,none,none,none,none,none]/\Bz H' st (m+130*(i:Int)+10+10*(j:Int))/\(∀b o,b≠st->b≠fr->H4 b=some o->H' b=some o)/\H' fr=some (.lst (cs.map V.str))/\cs.length=j/\cs.Nodup/\ ∀c∈cs,jF c=true)
   ⟨[],_,rfl,D4.pen.mono (by(first|lia|omega)),fun b o _ _ e=>e,efr4,rfl,List.nodup_nil,fun c hc=>(nomatch hc)⟩ ?_ ?_ ?_⟩
  ·rintro j σ' H' _ ⟨cs,v8,rfl,_,kp,_⟩
   exact .of (kp _ _ (tne eb4).1 (tne eb4).2 eb4)
  ·rintro j y σ' H5 hy ⟨cs,v8,rfl,D5,kp,ecs,lc,ncs,ocs⟩
   have hj:j<bs.length:=by have:=(List.getElem?_eq_some_iff.mp hy).1;rwa [zD]at this
   refine⟨_,rfl,.inl ⟨rfl,_,.of ecs⟩,_,rfl,_,rfl,st,fr,cs,_,rfl,D5,by(first|lia|omega),ecs,nfr,by(first|lia|omega),fun cn H6 ok6 ni6 D6=>?_⟩
   refine⟨fr,_,_,rfl,rfl,D6.keep _ _ nfr ecs,by rw[zD,lc];exact yO (Nat.succ_le_of_lt (yR hj nok)) (by decide),cs++[cn],_,rfl,(D6.pen.put nfr).mono (by(first|lia|omega)),fun b o n1 n2 e=>by rw[zQ n2];exact D6.keep _ _ n1 (kp b o n1 n2 e),by rw[zG,yA];rfl,by rw[zC,lc];rfl,?_,fun c hc=>?_⟩
   ·rw[Af]
    exact⟨ncs,by simp,fun a ha b hb=>by rw[List.mem_singleton.mp hb];exact fun z=>ni6 (z▸ha)⟩
   ·rcases List.mem_append.mp hc with z|z
    ·exact ocs c z
    ·rw[List.mem_singleton.mp z];exact ok6
  ·rintro σ' H5 ⟨cs,v8,rfl,D5,kp,ecs,lc,ncs,ocs⟩
   rw[zD]at lc D5
   have etk5:=kp _ _ ntst nkf etk4
   have efl5:=kp _ _ nfst nff efl4
   refine⟨_,rfl,.inl ⟨rfl,_,.of efl5⟩,_,rfl,1,rfl,tk,_,_,_,rfl,rfl,.of etk5,OQ _ _,_,rfl,fr,_,rfl,.inl ⟨.of ecs,fun tt htt=>⟨sm2,fun pp hpp=>?_⟩⟩⟩
   have s6:=(zV htt (.tup (cs.map V.str))).trans (zV hpp (.tup [.str nn,.ref tt]))
   have ett:=(zV hpp (.tup [.str nn,.ref tt])) _ _ (show upd H5 tt (.tup (cs.map V.str)) tt=_ from zG)
   have epp:upd (upd H5 tt (.tup (cs.map V.str))) pp (.tup [.str nn,.ref tt]) pp=_:=zG
   generalize upd (upd H5 tt (.tup (cs.map V.str))) pp (.tup [.str nn,.ref tt])=H6 at *
   have lf:fv.length=i:=by rw[Paired.len X.pr];exact X.len
   have efl6:=s6 _ _ efl5
   refine⟨fl,_,_,rfl,rfl,efl6,by rw[lf];exact yO (show i+1<=16 by(first|lia|omega)) (by decide),nd++[(nn,cs)],fv++[.ref pp],_,_,_,_,rfl,?_⟩
   have tp6:wV H1 (upd H6 fl (.lst (fv++[.ref pp]))):=fun b xs e=>by
    have e4:=tp4 _ _ e
    rw[zQ (fun z=>by rw[z,X.fl]at e;cases e)]
    exact s6 _ _ (kp _ _ (tne e4).1 (tne e4).2 e4)
   refine⟨⟨(D5.same s6).put nfst |>.mono (by push_cast;(first|lia|omega)),fun b o nb e=>?_⟩,?_,zG,?_,?_,fun n hn=>?_,?_,fun j n n' e1' e2'=>?_⟩
   ·rw[zQ (zK e hfl0)]
    exact s6 _ _ (kp _ _ nb (zK e fr0) (D4.keep _ _ nb e))
   ·rw[zQ ntf,yA,yA]
    exact s6 _ _ etk5
   ·refine qG (Paired.imp (fun v x z=>z.ups tp6) X.pr) ⟨pp,tt,rfl,?_,?_⟩
    ·rw[zQ (fun z=>by rw[z,efl6]at epp;cases epp)];exact epp
    ·rw[zQ (fun z=>by rw[z,efl6]at ett;cases ett)];exact ett
   ·rw[zC,X.len];rfl
   ·rcases List.mem_append.mp hn with z|z
    ·exact X.ok n z
    ·rw[List.mem_singleton.mp z]
     exact⟨ok2,⟨ncs,ocs,by show cs.length<=12;(first|lia|omega)⟩⟩
   ·rw[yA,Af]
    exact⟨X.nod,by simp,fun a ha b hb=>by rw[List.mem_singleton.mp hb];exact fun z=>ni2 ((show a=nn from z)▸ha)⟩
   ·by_cases c:j<nd.length
    ·rw[vF c]at e2'
     exact X.bl j n n' e1' e2'
    ·have hj:=(List.getElem?_eq_some_iff.mp e2').1
     rw[zC]at hj
     have hj':j=i:=by have:=X.len;have:[(nn,cs)].length =1:=rfl;(first|lia|omega)
     subst hj'
     rw[qO (by(first|lia|omega)),X.len,BG]at e2'
     rw[e1]at e1'
     cases e1'
     have:(nn,cs)=n':=by simpa using e2'
     rw[<-this]
     exact lc
 rintro σ' H1 ⟨nd,fv,v5,v6,v7,v8,rfl,X⟩
 rw[lu]at X
 have lf:fv.length=ns.length:=by rw[Paired.len X.pr];exact X.len
 refine⟨fun σ' H'=> ∃cl,σ'=[some (.ref st),some (.ref na),some (.ref li),some (.ref tk),some (.ref fl),v5,v6,v7,v8,some (.ref cl),none,none,none,none,none]/\wG H1 H'/\H' cl=some (.dK (dS (ns.map (·.1)) (nd.map (·.1)))),?_,?_⟩
 ·have en1:=X.pen.keep _ _ (fun z=>by obtain⟨xs,ex⟩:=D.is;rw[z,ex]at en;cases en) en
  refine⟨_,rfl,_,rfl,na,fl,us,fv,rfl,.of en1,.of X.fl,fun l hl=>?_⟩
  have s1':=zV hl (.lst [])
  refine Vm (b1:=true) (b2:=false) (xs:=us) (ys:=fv) (fun i σ' H'=> ∃as:List Addr,H' l=some (.lst (as.map V.ref))/\(∀b o,b≠l->H1 b=some o->H' b=some o)/\Paired (fun a (p:Str×Str)=>H' a=some (.tup [.str p.1,.str p.2])/\a≠l) as (((ns.map (·.1)).zip (nd.map (·.1))).take i)/\ ∃x y,σ'=[x,y]) ?_ (by(first|lia|omega)) ?_ ?_ ?_
  ·exact⟨[],zG,fun b o nb e=>by rw[zQ nb];exact e,by rw[wY];exact .nil,_,_,rfl⟩
  ·rintro i σ' H' _ ⟨as,_,kp,_⟩
   exact⟨.of (kp _ _ (zK en1 hl) en1),.of (kp _ _ (zK X.fl hl) X.fl)⟩
  ·rintro i x y σ' H' t hi hx hy ⟨as,el,kp,pa,x0,y0,rfl⟩ ht
   have e1:ns[i]? =some (ns[i]'(by(first|lia|omega))):=zB _
   have e2:nd[i]? =some (nd[i]'(by have:=X.len;(first|lia|omega))):=zB _
   obtain⟨tn,tb,rfl,en2,eb2⟩:=Paired.get pn _ _ _ hx e1
   obtain⟨tn',tb',rfl,en2',eb2'⟩:=Paired.get X.pr _ _ _ hy e2
   have ezi:((ns.map (·.1)).zip (nd.map (·.1)))[i]? =some ((ns[i]'(by(first|lia|omega))).1,(nd[i]'(by have:=X.len;(first|lia|omega))).1):=by
    rw[AC,zN,zN,e1,e2]
    exact⟨rfl,rfl⟩
   generalize(ns[i]'(by(first|lia|omega)))=n at *
   generalize(nd[i]'(by have:=X.len;(first|lia|omega)))=n' at *
   have en3:=X.pen.keep _ _ (fun z=>by obtain⟨xs,ex⟩:=D.is;rw[z,ex]at en2;cases en2) en2
   have g0:=zV ht (.tup [.ref tn,.ref tn'])
   refine⟨t,_,rfl,.of zG,rfl,_,_,rfl,_,_,rfl,rfl,?_⟩
   refine⟨_,rfl,tn,_,_,_,rfl,rfl,.of (g0 _ _ (kp _ _ (zK en3 hl) en3)),rfl,_,rfl,tn',_,_,_,rfl,rfl,.of (g0 _ _ (kp _ _ (zK en2' hl) en2')),rfl,sm2,fun p hp=>?_⟩
   have g1:=g0.trans (zV hp (.tup [.str n.1,.str n'.1]))
   have la:=Paired.len pa
   have el1:=g1 _ _ el
   have ep:upd (upd H' t (.tup [.ref tn,.ref tn'])) p (.tup [.str n.1,.str n'.1]) p=_:=zG
   have npl:p≠l:=fun z=>by rw[z]at hp;rw[g0 _ _ el]at hp;cases hp
   generalize upd (upd H' t (.tup [.ref tn,.ref tn'])) p (.tup [.str n.1,.str n'.1])=H'' at *
   refine⟨_,el1,?_,CW.next hi ⟨as++[p],?_,fun b o nb e=>by rw[zQ nb];exact g1 _ _ (kp b o nb e),?_,_,_,rfl⟩⟩
   ·rw[zD,la,yM]
    exact yR (show min i _<17 by(first|lia|omega)) (by decide)
   ·rw[zG,yA];rfl
   ·rw[kM,ezi]
    refine qG (Paired.imp (fun a x ⟨z1,z2⟩=>⟨by rw[zQ z2];exact g1 _ _ z1,z2⟩) pa) ⟨by rw[zQ npl];exact ep,npl⟩
  ·rintro σ' H' ⟨as,el,kp,pa,_⟩
   rw[xP (by rw[uN,zD];(first|lia|omega))]at pa
   refine⟨l,as,dS (ns.map (·.1)) (nd.map (·.1)),rfl,el,Kf (by rw[zD,zD];exact X.len.symm) (Paired.imp (fun a x z=>z.1) pa),fun c hc=>⟨c,rfl,fun b o e=>?_,?_⟩⟩
   ·rw[zQ (fun z=>by rw[z]at e;have:=kp _ _ (zK e hl) e;rw[this]at hc;cases hc)]
    exact kp _ _ (zK e hl) e
   ·rw[zG,Vk wf.nd (by rw[zD,zD];exact X.len.symm)]
 ·rintro σ' H2 ⟨cl,rfl,s3,ecl⟩
  have X2:=X.same s3
  have wf':ST nd fs:=by
   refine⟨by rw[X.len];exact wf.len,X.ok,X.nod,fun j n f e1 e2=>?_,wf.good,wf.fit,wf.sm⟩
   have hj:=(List.getElem?_eq_some_iff.mp e1).1
   have e3:ns[j]? =some (ns[j]'(by have:=X.len;(first|lia|omega))):=zB _
   rw[X.bl j _ n e3 e1]
   exact wf.bx j _ f e3 e2
  obtain⟨lv,eli,pl⟩:=hli
  have ll:=Paired.len pl
  rw[zD,Cc wf.len]at ll
  have l1:1<=fs.length:=by have:=wf.good.lo;rwa [zD]at this
  have nl:=wf.len
  have lnd:=X.len
  have nst: ∀{b:Addr} {x:V} {xs:List V},H b=some (.lst (x::xs))->(∀i,x≠ .int i)->b≠st:=fun{b x xs} e h z=>by
   obtain⟨c,s',t,e',_⟩:=D
   rw[z,e']at e
   injection e with e
   injection e with e
   injection e with e _
   exact h c e.symm
  have kH2: ∀{b:Addr} {o:HO},b≠st->H b=some o->H2 b=some o:=fun n e=>s3 _ _ (X.pen.keep _ _ n e)
  have nli:li≠st:=by
   have h0:0<lv.length:=by(first|lia|omega)
   have e0:lv[0]? =some lv[0]:=zB h0
   obtain⟨a,ea,_⟩:=Paired.get pl _ _ _ e0 (zB (by rw[zD,Cc wf.len];exact l1))
   have el0:lv=lv[0]::lv.tail:=by
    cases lv with
    |nil=>exact absurd h0 (jO _)
    |cons x xs=>rfl
   rw[el0]at eli
   exact nst eli fun i z=>by rw[ea]at z;cases z
  have lnH2:Paired (Qv H2) lv ((Bh ns fs).map xA):=JD (fun e=>kH2 (nst e fun i z=>by cases z) e) pl
  have eli2:=kH2 nli eli
  have tst: ∀{b:Addr} {xs:List V},H b=some (.tup xs)->b≠st:=fun e z=>by obtain⟨ys,ey⟩:=D.is;rw[z,ey]at e;cases e
  have en2:=kH2 (tst en) en
  have pn2:Paired (BY H2) us ns:=Paired.imp (fun v x ⟨t,b,h1,h2,h3⟩=>⟨t,b,h1,kH2 (tst h2) h2,kH2 (tst h3) h3⟩) pn
  refine⟨sm0,fun fu hfu=>?_⟩
  have s4:=zV hfu (.lst [])
  refine⟨_,rfl,li,_,rfl,.inl (.of (s4 _ _ eli2)),(lv.length:Int),rfl,by(first|lia|omega),by(first|lia|omega),?_⟩
  rw[jR]
  have efu:upd H2 fu (.lst []) fu=_:=zG
  have X4:=X2.same s4
  have lnH4:Paired (Qv (upd H2 fu (.lst []))) lv ((Bh ns fs).map xA):=Paired.imp (fun v x ⟨a,e,h⟩=>⟨a,e,s4 _ _ h⟩) lnH2
  have eli4:=s4 _ _ eli2
  have en4:=s4 _ _ en2
  have ecl4:=s4 _ _ ecl
  have pn4:Paired (BY (upd H2 fu (.lst []))) us ns:=Paired.imp (fun v x z=>z.ups (.same s4)) pn2
  have fu0:H fu=none:=X.pen.free (s3.free hfu)
  have nlf:li≠fu:=zK eli2 hfu
  have nff:fl≠fu:=zK X2.fl hfu
  have nnf:na≠fu:=zK en2 hfu
  have ncf:cl≠fu:=zK ecl hfu
  have lnf: ∀{a:Addr} {ws:List Str},H2 a=some (.lst (ws.map V.str))->a≠fu:=fun e=>zK e hfu
  generalize upd H2 fu (.lst [])=H4 at *
  refine uR (lo:=0) (n:=lv.length) (fun i σ' H'=> ∃fvs v6 v11 v12 v13 v14,σ'=[some (.ref st),some (.ref na),some (.ref li),some (.ref tk),some (.ref fl),v5,v6,v7,v8,some (.ref cl),some (.ref fu),v11,v12,v13,v14]/\H' fu=some (.lst fvs)/\Paired (fun v ws=> ∃a,v=.ref a/\H' a=some (.lst (ws.map V.str))/\a≠fu) fvs (((Bh nd fs).take i).map xA)/\(∀b o,b≠fu->H4 b=some o->H' b=some o))
   ⟨[],_,_,_,_,_,rfl,efu,by rw[wY];exact .nil,fun b o _ e=>e⟩ ?_ ?_
  ·rintro i σ' H5 hi ⟨fvs,v6,v11,v12,v13,v14,rfl,ef5,pf5,kp⟩
   have i1:i<fs.length:=by(first|lia|omega)
   have e1:ns[i]? =some (ns[i]'(by(first|lia|omega))):=zB _
   have e2:nd[i]? =some (nd[i]'(by(first|lia|omega))):=zB _
   have e3:fs[i]? =some fs[i]:=zB i1
   have hu:us[i]? =some (us[i]'(by(first|lia|omega))):=zB _
   have hv:fv[i]? =some (fv[i]'(by(first|lia|omega))):=zB _
   have hlv:lv[i]? =some lv[i]:=zB hi
   have epg:(Bh ns fs)[i]? =some (Bp (ns.map (·.1)) (ns[i]'(by(first|lia|omega))) fs[i]):=by
    unfold Bh
    rw[kC,e1,e3]
   have epg':(Bh nd fs)[i]? =some (Bp (nd.map (·.1)) (nd[i]'(by(first|lia|omega))) fs[i]):=by
    unfold Bh
    rw[kC,e2,e3]
   obtain⟨tn,tb,hun,en5,eb5⟩:=Paired.get pn4 _ _ _ hu e1
   obtain⟨tn',tb',hvn,en5',eb5'⟩:=Paired.get X4.pr _ _ _ hv e2
   obtain⟨la,hla,ela⟩:=Paired.get lnH4 _ _ _ hlv (by rw[zN,epg];rfl)
   have okn:=wf.nm _ (zM e1)
   have okn':=X.ok _ (zM e2)
   have bl:=X.bl i _ _ e1 e2
   have bxl:=wf.bx i _ _ e1 e3
   have gd:=wf.good.all i fs[i].1 (by rw[zN,e3];rfl)
   have hft:=wf.fit _ (zM e3)
   have hsm:=wf.sm _ (zM e3)
   rw[hun]at hu
   rw[hvn]at hv
   rw[hla]at hlv
   generalize(ns[i]'(by(first|lia|omega)))=n at *
   generalize(nd[i]'(by(first|lia|omega)))=n' at *
   generalize fs[i]=fi at *
   have exl:SJ (Bt (ns.map (·.1)) (nd.map (·.1))) (fun x=>some ((Bt n.2 n'.2 x).getD x)) n.1 ((xA (Bp (ns.map (·.1)) n fi)).drop 2)=((xA (Bp (nd.map (·.1)) n' fi)).drop 2).map some:=by
    refine Wu (hs:=fs.map Prod.fst) (Wv wf.nd (by rw[zD,zD];(first|lia|omega)) okn.2.nd (by(first|lia|omega)) okn.2.ok) (by rw[zD,zD];(first|lia|omega)) okn.2.ok ?_ (by(first|lia|omega)) hft bxl hsm (by(first|lia|omega)) okn.1
    intro b hb
    obtain⟨x,hx,rfl⟩:=List.mem_map.mp hb
    exact(wf.nm x hx).1
   have aF:Fz fv (0+(i:Int))=some (.ref tn'):=An (by(first|lia|omega)) (by rw[show(0+(i:Int)).toNat =i by(first|lia|omega)];exact hv)
   have aU:Fz us (0+(i:Int))=some (.ref tn):=An (by(first|lia|omega)) (by rw[show(0+(i:Int)).toNat =i by(first|lia|omega)];exact hu)
   have aL:Fz lv (0+(i:Int))=some (.ref la):=An (by(first|lia|omega)) (by rw[show(0+(i:Int)).toNat =i by(first|lia|omega)];exact hlv)
   have tne: ∀{b:Addr} {xs:List V},H4 b=some (.tup xs)->b≠fu:=fun e z=>by rw[z,efu]at e;cases e
   have nla:la≠fu:=fun z=>by rw[z,efu]at ela;cases ela
   have k5: ∀{b:Addr} {o:HO},b≠fu->H4 b=some o->H5 b=some o:=fun n e=>kp _ _ n e
   refine⟨_,rfl,_,rfl,fl,_,_,_,rfl,rfl,.of (k5 nff X4.fl),aF,tn',_,_,_,rfl,rfl,.of (k5 (tne en5') en5'),rfl,sm2,fun ln hln=>?_⟩
   have s6:=zV hln (.lst [.str "fun",.str n'.1])
   have lbx:n.2.length=n'.2.length:=by(first|lia|omega)
   refine⟨_,rfl,_,rfl,na,_,_,_,rfl,rfl,.of (s6 _ _ (k5 nnf en4)),aU,tn,_,_,_,rfl,rfl,.of (s6 _ _ (k5 (tne en5) en5)),rfl,_,rfl,_,rfl,fl,_,_,_,rfl,rfl,.of (s6 _ _ (k5 nff X4.fl)),aF,tn',_,_,_,rfl,rfl,.of (s6 _ _ (k5 (tne en5') en5')),rfl,tb,tb',dS n.2 n'.2,rfl,?_,?_,fun bx hbx=>?_⟩
   ·rw[Nh lbx,kS]
    exact .of (s6 _ _ (k5 (tne eb5) eb5))
   ·rw[Rp lbx]
    exact .of (s6 _ _ (k5 (tne eb5') eb5'))
   rw[Vk okn.2.nd lbx]
   have s7:=zV hbx (.dK (dS n.2 n'.2))
   have eln7:=s7 _ _ (show upd H5 ln (.lst [.str "fun",.str n'.1]) ln=_ from zG)
   have ebx7:upd (upd H5 ln (.lst [.str "fun",.str n'.1])) bx (.dK (dS n.2 n'.2)) bx=_:=zG
   have WO:=s6.trans s7
   have nlx:bx≠ln:=fun z=>by rw[z,zG]at hbx;cases hbx
   generalize upd (upd H5 ln (.lst [.str "fun",.str n'.1])) bx (.dK (dS n.2 n'.2))=H7 at *
   have eli7:=WO _ _ (k5 nlf eli4)
   have ela7:=WO _ _ (k5 nla ela)
   have ecl7:=WO _ _ (k5 ncf ecl4)
   refine⟨_,rfl,_,rfl,li,_,_,_,rfl,rfl,.of eli7,aL,la,_,rfl,.inl (.of ela7),2,_,rfl,?_,?_⟩
   ·have wl:=GA (wf.prog.all _ (zM epg)) (Gv shrt _ (zM epg))
    rw[zD]
    exact⟨by decide,by decide,by(first|lia|omega),by(first|lia|omega)⟩
   have wl:=GA (wf.prog.all _ (zM epg)) (Gv shrt _ (zM epg))
   have eL:xA (Bp (ns.map (·.1)) n fi)=("fun":Str)::n.1::(xA (Bp (ns.map (·.1)) n fi)).drop 2:=rfl
   have eL':xA (Bp (nd.map (·.1)) n' fi)=("fun":Str)::n'.1::(xA (Bp (nd.map (·.1)) n' fi)).drop 2:=rfl
   have lR:((xA (Bp (ns.map (·.1)) n fi)).drop 2).length =((xA (Bp (nd.map (·.1)) n' fi)).drop 2).length:=by
    have:=xT List.length exl
    rw[Ri,zD]at this
    exact this
   rw[eL]at ela7
   generalize(xA (Bp (nd.map (·.1)) n' fi)).drop 2=R' at *
   rw[zD]
   rw[eL,zJ,zJ]at wl
   have e00:(((xA (Bp (ns.map (·.1)) n fi)).length:Int)-2).toNat =((xA (Bp (ns.map (·.1)) n fi)).drop 2).length:=by
    rw[jK];(first|lia|omega)
   rw[e00]
   generalize(xA (Bp (ns.map (·.1)) n fi)).drop 2=R at *
   have neln: ∀{b:Addr} {o:HO},H5 b=some o->b≠ln:=fun e=>zK e hln
   have sl:sizeLine=16777216:=At
   refine uR (lo:=2) (n:=R.length) (fun j σ' H'=> ∃v13 v14,σ'=[some (.ref st),some (.ref na),some (.ref li),some (.ref tk),some (.ref fl),v5,some (.ref bx),v7,v8,some (.ref cl),some (.ref fu),some (.int (0+(i:Int))),some (.ref ln),v13,v14]/\H' ln=some (.lst ([.str "fun",.str n'.1]++(R'.take j).map V.str))/\(∀b o,b≠ln->H7 b=some o->H' b=some o))
    ⟨_,_,rfl,by rw[wY];exact eln7,fun b o _ e=>e⟩ ?_ ?_
   ·rintro j σ' H8 hj ⟨v13,v14,rfl,e8,kp8⟩
    have eli8:=kp8 _ _ (neln (k5 nlf eli4)) eli7
    have ela8:=kp8 _ _ (neln (k5 nla ela)) ela7
    have ecl8:=kp8 _ _ (neln (k5 ncf ecl4)) ecl7
    have ebx8:=kp8 _ _ nlx ebx7
    have w1:R[j]? =some R[j]:=zB hj
    have q1:(n.1::R)[j]? =some ((n.1::R)[j]'(by rw[zJ];(first|lia|omega))):=zB _
    have x1:=Ve (cal:=Bt (ns.map (·.1)) (nd.map (·.1))) (bx:=fun x=>some ((Bt n.2 n'.2 x).getD x)) R n.1 j _ _ q1 w1
    have r1:R'[j]? =some (R'[j]'(by(first|lia|omega))):=zB _
    rw[exl,zN,r1]at x1
    have x2:=xU x1
    have aW:Fz ((("fun":Str)::n.1::R).map V.str) (2+(j:Int))=some (.str R[j]):=An (by(first|lia|omega)) (by
     rw[show(2+(j:Int)).toNat =j+2 by(first|lia|omega),zN]
     show(R[j]?).map V.str=_
     rw[w1];rfl)
    have aP':Fz ((("fun":Str)::n.1::R).map V.str) (2+(j:Int)-1)=some (.str ((n.1::R)[j]'(by rw[zJ];(first|lia|omega)))):=An (by(first|lia|omega)) (by
     rw[show(2+(j:Int)-1).toNat =j+1 by(first|lia|omega),zN]
     show((n.1::R)[j]?).map V.str=_
     rw[q1];rfl)
    generalize(n.1::R)[j]'(by rw[zJ];(first|lia|omega))=pv at *
    generalize R[j]=wv at *
    have nx: ∀v:V,v=.str (R'[j]'(by(first|lia|omega)))->(([V.str "fun",.str n'.1]++(R'.take j).map V.str)++[v])=[.str "fun",.str n'.1]++(R'.take (j+1)).map V.str:=fun v e=>by
     rw[e,kM,r1,yP,yA];rfl
    generalize(R'[j]'(by(first|lia|omega)))=rv at *
    have lb:([V.str "fun",.str n'.1]++(R'.take j).map V.str).length +1<=sizeLine:=by
     rw[zC,zD,yM]
     show 2+_+1<=_
     (first|lia|omega)
    refine⟨_,rfl,_,rfl,li,_,_,_,rfl,rfl,.of eli8,aL,_,rfl,la,_,_,_,rfl,rfl,.of ela8,aW,?_⟩
    refine⟨_,rfl,_,rfl,li,_,_,_,rfl,rfl,.of eli8,aL,_,rfl,_,_,rfl,rfl,la,_,_,_,rfl,rfl,.of ela8,aP',rfl,_,rfl,kI (fun c=>?_) (fun c=>?_)⟩
    ·have c':pv="call":=by have:=yB c;injection this
     rw[zW c']at x2
     refine⟨_,rfl,.inl ⟨rfl,_,.of e8⟩,_,rfl,_,rfl,cl,.str rv,rfl,.inl ⟨_,.inr wv,.of ecl8,rfl,by rw[Qm,<-x2];rfl⟩,ln,_,_,rfl,rfl,e8,lb,_,_,rfl,?_,fun b o nb e=>by rw[zQ nb];exact kp8 b o nb e⟩
     rw[zG,nx _ rfl]
    ·have c':pv≠"call":=fun z=>c (by rw[z];exact yE rfl)
     rw[zL c']at x2
     have x3:rv=(Bt n.2 n'.2 wv).getD wv:=xU x2
     refine⟨_,rfl,.inl ⟨rfl,_,.of e8⟩,_,rfl,bx,rfl,.inl ⟨_,.of ebx8⟩,_,rfl,_,rfl,_,.inl ⟨_,.inr wv,.of ebx8,rfl,rfl⟩,ln,_,_,rfl,rfl,e8,lb,_,_,rfl,?_,fun b o nb e=>by rw[zQ nb];exact kp8 b o nb e⟩
     rw[zG,nx _ ?_]
     rw[Qm,x3]
     cases Bt n.2 n'.2 wv<;>rfl
   ·rintro σ' H8 ⟨v13,v14,rfl,e8,kp8⟩
    have efu8:=kp8 _ _ (neln ef5) (WO _ _ ef5)
    have nlf2:ln≠fu:=Ne.symm (neln ef5)
    have lf5:fvs.length=i:=by rw[Paired.len pf5,zD,yM,Cc wf'.len];(first|lia|omega)
    refine⟨_,rfl,.inl ⟨rfl,_,.of efu8⟩,_,rfl,fu,_,_,rfl,rfl,efu8,by rw[lf5];(first|lia|omega),fvs++[.ref ln],_,_,_,_,_,rfl,zG,?_,fun b o nb e=>?_⟩
    ·rw[kM,epg',yA]
     refine qG (Paired.imp (fun v x ⟨a,ea,ha,na'⟩=>⟨a,ea,by rw[zQ na'];exact kp8 _ _ (neln ha) (WO _ _ ha),na'⟩) pf5) ⟨ln,rfl,?_,nlf2⟩
     rw[zQ nlf2,e8,lR,wS,eL']
     rfl
    ·rw[zQ nb]
     have e5:=kp _ _ nb e
     exact kp8 _ _ (neln e5) (WO _ _ e5)
  ·rintro σ' H5 ⟨fvs,v6,v11,v12,v13,v14,rfl,ef5,pf5,kp⟩
   rw[xP (by rw[Cc wf'.len];(first|lia|omega))]at pf5
   have efl5:=kp _ _ nff X4.fl
   refine⟨_,rfl,fl,_,rfl,.inl ⟨.of efl5,fun tt htt=>⟨_,rfl,sm2,fun pp hpp=>?_⟩⟩⟩
   have s6:=(zV htt (.tup fv)).trans (zV hpp (.tup [.ref tt,.ref fu]))
   have ett:=(zV hpp (.tup [.ref tt,.ref fu])) _ _ (show upd H5 tt (.tup fv) tt=_ from zG)
   have pen5:Bz H5 st (m+3000):=by
    obtain⟨c,s',t,e,r⟩:=X4.pen.pen.mono (show m+130*(ns.length:Int)<=m+3000 by(first|lia|omega))
    exact⟨c,s',t,kp _ _ (D.ne fu0) e,r⟩
   refine q pp tt fu nd _ ⟨pen5.same s6,fun b o nb e=>s6 _ _ (kp _ _ (zK e fu0) (X4.pen.keep _ _ nb e))⟩ zG ⟨fv,ett,Paired.imp (fun v x ⟨t,b,h1,h2,h3⟩=>⟨t,b,h1,s6 _ _ (kp _ _ (fun z=>by rw[z,efu]at h2;cases h2) h2),s6 _ _ (kp _ _ (fun z=>by rw[z,efu]at h3;cases h3) h3)⟩) X4.pr⟩ ⟨fvs,s6 _ _ ef5,Paired.imp (fun v x ⟨a,ea,ha,_⟩=>⟨a,ea,s6 _ _ ha⟩) pf5⟩ wf'

end
section
variable {P:Program}{w:World}{K:PySem.W.Frag}{mg:Str->Option Value}{base:Heap}{f:Addr}{fd:FuncData}{aP aW aH CT CR CL CN:Addr}
set_option maxHeartbeats 4000000

theorem KO (pr:List Pg)(n:Nat):MF ⟨n,qZ pr,BU pr,wH pr⟩=Hd pr:=by
 unfold MF Hd qZ
 rw[zD]
theorem NT {hs:List FI}: ∀pr:List Pg,(∀x∈pr,Lb hs x)->(∀x∈pr,x.2.1.length<=700)->(kU pr).length<=720*pr.length
 |[],_,_=>zS _
 |x::r,h,f=>by
  have ih:=NT r (fun y hy=>h y (zT _ hy)) (fun y hy=>f y (zT _ hy))
  have hx:=h x (zP ..)
  have fx:=f x (zP ..)
  have b12:=hx.hd.bx.few
  have pb:=hx.hd.pb
  show(xA x++kU r).length<=_
  have ll:(xA x).length<=x.1.2.1.length+4+x.2.1.length:=by
   unfold xA
   simp only[zJ,zC,yM,jK]
   (first|lia|omega)
  rw[zC,zJ]
  (first|lia|omega)
theorem Uz {H H':Hp}{a:Addr}{ns:List (Str×List Str)}(h:GY H a ns)(g:wV H H'):GY H' a ns:=by
 obtain⟨vs,e,p⟩:=h
 exact⟨vs,g _ _ e,Paired.imp (fun v x z=>z.tups g) p⟩
theorem Sr {z:Str}{c:Nat}(hz:z=⟨#[c]⟩)(ws:List Str):(Txt.join z ws).length<=(ws.map fun w=>w.length+1).sum:=by
 have e:(Txt.join z ws).cps.toList =vS c (ws.map fun x=>x.cps.toList):=by
  rw[hz,<-AJ c ws]
  exact xT (fun t:Str=>t.cps.toList) (qV _ _)
 have l:(Txt.join z ws).cps.toList.length =(Txt.join z ws).length:=yQ
 rw[<-l,e]
 have h:=Dp c (ws.map fun x=>x.cps.toList)
 rw[kS]at h
 have:(ws.map ((fun q:List Nat=>q.length+1)∘fun x=>x.cps.toList))=ws.map fun w=>w.length+1:=List.map_congr_left fun w _=>by
  show w.cps.toList.length+1=w.length+1
  have:w.cps.toList.length=w.length:=yQ
  (first|lia|omega)
 rw[this]at h
 exact h
theorem Kp {hs:List FI}: ∀pr:List Pg,(∀x∈pr,Lb hs x)->((pr.map fun x=>Txt.join " " (xA x)).map fun w=>w.length+1).sum<=62*(kU pr).length +pr.length
 |[],_=>zS _
 |x::r,h=>by
  have ih:=Kp r (fun y hy=>h y (zT _ hy))
  have h1:=LG (ws:=xA x) fun w hw=>(EC (h x (zP ..)) w hw).sh
  show(Txt.join " " (xA x)).length +1+((r.map fun x=>Txt.join " " (xA x)).map fun w=>w.length+1).sum<=62*(xA x++kU r).length +(r.length+1)
  rw[zC]
  (first|lia|omega)
theorem NF {pr:List Pg}(p:GX pr)(few: ∀x∈pr,x.2.1.length<=700):wordsT (Jc pr)=kU pr/\Vs (Jc pr)/\(∀x∈pr,((xA x).map (·.length)).sum +(xA x).length *(" ":Str).length<=16777216)/\((pr.map fun x=>Txt.join " " (xA x)).map (·.length)).sum +(pr.map fun x=>Txt.join " " (xA x)).length *("\n":Str).length<=16777216:=by
 have fw:=NT pr p.all few
 have p16:=p.few
 have ew:wordsT (Jc pr)=kU pr:=by
  have:=Qe (lss:=pr.map xA) fun ls hls w hw=>by
   obtain⟨x,hx,rfl⟩:=List.mem_map.mp hls
   exact EC (p.all x hx) w hw
  rw[kS]at this
  exact this
 have sz:=Kp pr p.all
 have js:=Sr (z:="\n") (c:=10) rfl (pr.map fun x=>Txt.join " " (xA x))
 have tl:(Jc pr).length<=1000000:=by
  show(Txt.join "\n" _).length<=_
  (first|lia|omega)
 have wd: ∀w∈kU pr,Xd w:=fun w hw=>by
  obtain⟨l,hl,hw'⟩:=List.mem_flatten.mp hw
  obtain⟨x,hx,rfl⟩:=List.mem_map.mp hl
  exact EC (p.all x hx) w hw'
 refine⟨ew,?_,fun x hx=>?_,?_⟩
 ·rw[<-ew]at wd fw
  obtain⟨r1,r2⟩:=Ny tl wd (by(first|lia|omega))
  exact⟨tl,r1,r2,⟨by(first|lia|omega),fun w z=>yO (wd w z).sh (by decide)⟩⟩
 ·have h3:=JM (fun w:Str=>w.length) 61 (xA x) fun w hw=>(EC (p.all x hx) w hw).sh
  have h4:(xA x).length<=720:=by
   have ok:=p.all x hx
   have:=few x hx
   unfold xA
   simp only[zJ,zC,yM,jK]
   have:=ok.hd.pb
   have:=ok.hd.bx.few
   (first|lia|omega)
  show _+_*1<=_
  (first|lia|omega)
 ·show _+_*1<=_
  have e: ∀l:List Str,(l.map (·.length)).sum +l.length=(l.map fun w=>w.length+1).sum:=fun l=>by
   induction l with
   |nil=>rfl
   |cons a r ih=>rw[yK,yK,Er,Er,zJ,<-ih];(first|lia|omega)
  rw[Nat.mul_one,e]
  (first|lia|omega)
def SX (ns:List Jy)(fs:List Fn):Prop:= ∀x∈Bh ns fs,x.2.1.length<=700
inductive JR (vs:List V) (H:Hp) (Q:VK) (E:XK):Prop
 |mk (na sh li ha:Addr) (ns:List Jy) (fs:List Fn) (xs:List Int) (h0:vs=[.ref na,.ref sh,.ref li,.ref ha]) (h1:GY H na ns) (h2:H sh=some (.lst ((wr fs).map V.int))) (h3:Mg H li ((Bh ns fs).map xA)) (h4:H ha=some (.lst (xs.map V.int))) (h5:sh≠ha) (h6:ST ns fs) (h7:KM fs) (h8:SX ns fs) (h9:(wr fs).length<=200000) (h10: ∀H' zs,(∀b o,b≠ha->H b=some o->H' b=some o)->H' ha=some (.lst ((zs:List Int).map V.int))->Q (.bl true) H'):JR vs H Q E
theorem RY (T:KK K mg)(kstr:PySem.W.kitOne K (.type "str") (.type "str")=some true)(F:vW K "_law_shown" "_law_shown" Da f fd)(Cshow_text:vV P w K mg base (jX P w) 18 "show_text" ["names","sheet"] Ha)(Cread_text:vV P w K mg base (jX P w) 19 "read_text" ["text"] (Mr CT))(C_law_right:vV P w K mg base (jX P w) 2 "_law_right" ["_law_found","_law_names","_law_sheet"] JS):jV P w K mg base (jX P w) 20 f fd ["_law_names","_law_sheet","_law_lines","_law_handed"] JR:=by
 refine F.okN Eg (fun vs H Q E h=>?_) (fun cdv A outer s H vs Q E hr h=>?_)
 ·obtain⟨na,sh,li,ha,ns,fs,xs,rfl,_⟩:=h
  rfl
 obtain⟨na,sh,li,ha,ns,fs,xs,rfl,hn,esh,⟨lv,eli,pl⟩,eha,nsh,wf,shrt,few,wl,q⟩:=h
 refine⟨_,(zF (xV (PB zO PySem.F.slot_list_clear PySem.F.type_list_clear UB (pv 3)))
   (zF (xV (kK zO qA kZ EA (pv 3) (zA (pv 1) zH)))
   (zF (yT (i:=4) Eg.nd rfl (Or.inl rfl) (kK jI qX qW Gz kQ (zA (HU (own:=["_law_line"]) (ys:=[]) rfl (DS (pv 2)) (BW (sc:=yH Da) rfl (by decide+kernel)) .nil (fun _ _ _ _ _=>(xG (i:=0) (show List.Nodup [("_law_line":Str)]from(by decide+kernel)) rfl (Or.inl rfl))) (fun _ _ _ _ _=>Gu) (fun _ _ _ _ _=>(XL K rfl jI qX qW (UA K rfl) kQ (zA (pv 0) zH)))) zH)))
   (zF (yT (i:=5) Eg.nd rfl (Or.inl rfl) (yF Cshow_text hr rfl (zA (pv 0) (zA (pv 3) zH)) jZ))
   (zF (jB (PW.pt (uZ (Ai (uB (xR Al rfl T.n_isinstance kX (zA (pv 5) (zA (Bq (v:=.ty "str") rfl T.n_str KG rfl) zH))))) (uZ (yL HV (pv 5) (pv 4) (yY _)) (uA (yL (XN hr) (pv 3) (pv 1) (yY _)))))) (zU (yU GR)) yV)
   (zU (yU (MN (yF C_law_right hr rfl (zA (yF Cread_text hr rfl (zA (pv 5) zH) jZ) (zA (pv 0) (zA (pv 1) zH))) jZ) (Kd (Cd kT (yF Cshow_text hr rfl (zA (pv 0) (zA (pv 1) zH)) jZ) (pv 4) (yY _))))))))))),?_⟩
 try dsimp only[Cx.nox,Cx.exc,Cx.wish,jC]
 have wfp:=wf.prog
 obtain⟨ew,tok,sz1,sz2⟩:=NF wfp few
 have pl16:=wfp.few
 have ll:=Paired.len pl
 rw[zD]at ll
 refine⟨_,rfl,.inl ⟨rfl,_,.of eha⟩,ha,_,rfl,rfl,eha,?_⟩
 have e1:upd H ha (.lst []) sh=some (.lst ((wr fs).map V.int)):=by rw[zQ nsh];exact esh
 refine⟨_,rfl,.inl ⟨rfl,_,.of zG⟩,_,rfl,ha,sh,_,_,rfl,rfl,zG,e1,by rw[zD];show 0+_<=_;exact yO (by(first|lia|omega)) (show 200000<=sizeLine by decide),?_⟩
 have eh:upd (upd H ha (.lst [])) ha (.lst ([]++(wr fs).map V.int)) ha=some (.lst ((wr fs).map V.int)):=by rw[zG];rfl
 have kp: ∀b o,b≠ha->H b=some o->upd (upd H ha (.lst [])) ha (.lst ([]++(wr fs).map V.int)) b=some o:=fun b o n e=>by rw[zQ n,zQ n];exact e
 generalize upd (upd H ha (.lst [])) ha (.lst ([]++(wr fs).map V.int))=H1 at *
 have tha: ∀{b:Addr} {xs:List V},H b=some (.tup xs)->b≠ha:=fun e z=>by rw[z,eha]at e;cases e
 have lha: ∀{b:Addr} {x:V} {ys:List V},H b=some (.lst (x::ys))->(∀i,x≠ .int i)->b≠ha:=fun{b x ys} e h z=>by
  rw[z,eha]at e
  injection e with e
  injection e with e
  cases xs with
  |nil=>cases e
  |cons y r=>
   injection e with e _
   exact h y e.symm
 have nli:li≠ha:=by
  have h0:0<lv.length:=by have:=List.length_pos_iff.mpr wfp.ne;(first|lia|omega)
  have e0:lv[0]? =some lv[0]:=zB h0
  obtain⟨a,ea,_⟩:=Paired.get pl _ _ _ e0 (zB (by rw[zD];exact List.length_pos_iff.mpr wfp.ne))
  have el0:lv=lv[0]::lv.tail:=by
   cases lv with
   |nil=>exact absurd h0 (jO _)
   |cons x xs=>rfl
  rw[el0]at eli
  exact lha eli fun i z=>by rw[ea]at z;cases z
 have pl1:Paired (Qv H1) lv ((Bh ns fs).map xA):=JD (fun e=>kp _ _ (lha e fun i z=>by cases z) e) pl
 have eli1:=kp _ _ nli eli
 refine⟨rfl,_,rfl,li,rfl,⟨_,.of eli1⟩,fun l hl=>?_⟩
 refine Gn (xs:=lv) (fun i σ' H'=>H'=upd H1 l (.lst ((((Bh ns fs).take i).map fun x=>Txt.join " " (xA x)).map V.str))/\ ∃x,σ'=[x]) ⟨by rw[wY];rfl,_,rfl⟩ ?_ ?_ ?_
 ·rintro i σ' H' _ ⟨rfl,_⟩
  exact .of (by rw[zQ (zK eli1 hl)];exact eli1)
 ·rintro i v σ' H' hi hv ⟨rfl,x,rfl⟩
  have e2:(Bh ns fs)[i]? =some ((Bh ns fs)[i]'(by(first|lia|omega))):=zB _
  obtain⟨a,rfl,ea⟩:=Paired.get pl1 _ _ _ hv (by rw[zN,e2];rfl)
  have mx:=zM e2
  generalize((Bh ns fs)[i]'(by(first|lia|omega)))=x at *
  refine⟨rfl,_,rfl," ",a,xA x,rfl,rfl,.of (by rw[zQ (zK ea hl)];exact ea),sz1 x mx,_,zG,?_,CW.next hi ⟨?_,_,rfl⟩⟩
  ·rw[zD,zD,yM]
   exact yR (show min i _<17 by(first|lia|omega)) (by decide)
  ·rw[EZ,kM,e2,yA,yA]
   rfl
 rintro σ' H' ⟨rfl,_⟩
 rw[xP (by(first|lia|omega))]
 have s2:=zV hl (.lst (((Bh ns fs).map fun x=>Txt.join " " (xA x)).map V.str))
 refine⟨"\n",l,(Bh ns fs).map fun x=>Txt.join " " (xA x),rfl,rfl,.of zG,sz2,?_⟩
 generalize upd H1 l (.lst (((Bh ns fs).map fun x=>Txt.join " " (xA x)).map V.str))=H2 at *
 obtain⟨us,en,pn⟩:=hn
 have k2: ∀{b:Addr} {o:HO},b≠ha->H b=some o->H2 b=some o:=fun n e=>s2 _ _ (kp _ _ n e)
 have en2:=k2 (tha en) en
 have pn2:Paired (BY H2) us ns:=Paired.imp (fun v x ⟨t,b,h1,h2,h3⟩=>⟨t,b,h1,k2 (tha h2) h2,k2 (tha h3) h3⟩) pn
 have eh2:=s2 _ _ eh
 have esh2:=k2 nsh esh
 refine⟨_,rfl,_,rfl,na,ha,ns,fs,us,rfl,en2,pn2,eh2,wf,shrt,fun H3 s3=>?_⟩
 refine⟨_,rfl,.inl ⟨_,_,_,true,rfl,.str _,kstr,_,rfl,Bi ?_⟩⟩
 refine⟨_,rfl,_,rfl,rfl,_,rfl,Zn (by unfold Jc;simp) ?_⟩
 have eh3:=s3 _ _ eh2
 have esh3:=s3 _ _ esh2
 have en3:=s3 _ _ en2
 have pn3:Paired (BY H3) us ns:=Paired.imp (fun v x z=>z.ups (.same s3)) pn2
 refine⟨_,rfl,_,rfl,ha,sh,_,_,0,rfl,rfl,.inl ⟨.of eh3,.of esh3⟩,IH 0 _,by decide,_,rfl,Bi ?_⟩
 refine⟨_,rfl,_,rfl,tok,?_⟩
 rw[ew,RJ wfp]
 rintro p6 sp H6 s6 ⟨np,nvs,ep6,enp,pnp,esp⟩ fsp
 rw[KO]at esp
 have es:Hd (Bh ns fs)=wr fs:=(Td wf).symm
 rw[es]at esp
 have pnp':Paired (BY H6) nvs ns:=by
  have:=pnp
  rw[show(RS.mk (kU (Bh ns fs)).length (qZ (Bh ns fs)) (BU (Bh ns fs)) (wH (Bh ns fs))).names =ns from RN wf.len]at this
  exact this
 have nl16:ns.length<=100:=by have:=wf.len;rw[Cc wf.len]at pl16;(first|lia|omega)
 refine⟨_,rfl,_,rfl,p6,np,sp,na,sh,ns,wr fs,rfl,ep6,⟨nvs,enp,pnp'⟩,esp,⟨us,s6 _ _ en3,Paired.imp (fun v x z=>z.ups (.same s6)) pn3⟩,s6 _ _ esh3,by(first|lia|omega),nl16,fun H7 s7=>⟨true,rfl,AX ?_⟩⟩
 have s37:=s6.trans s7
 refine⟨_,rfl,_,rfl,na,sh,ns,fs,us,rfl,s37 _ _ en3,Paired.imp (fun v x z=>z.ups (.same s37)) pn3,s37 _ _ esh3,wf,shrt,fun H8 s8=>?_⟩
 have ZY:=s37.trans s8
 have e9:decide (V.str (Jc (Bh ns fs))=V.str (Txt.join "\n" ((Bh ns fs).map fun x=>Txt.join " " (xA x))))=true:=yE rfl
 refine⟨_,rfl,rfl,?_⟩
 show Q (.bl (decide (V.str (Jc (Bh ns fs))=V.str (Txt.join "\n" ((Bh ns fs).map fun x=>Txt.join " " (xA x)))))) H8
 rw[e9]
 exact q H8 (wr fs) (fun b o n e=>ZY _ _ (s3 _ _ (k2 n e))) (ZY _ _ eh3)

end
section
variable {P:Program}{w:World}{K:PySem.W.Frag}{mg:Str->Option Value}{base:Heap}{f:Addr}{fd:FuncData}{aP aW aH CT CR CL CN:Addr}
set_option maxHeartbeats 4000000

mutual
theorem Lf (nm bs nm' bs':List Str): ∀t:Tr,(vD nm bs t).length =(vD nm' bs' t).length
 | .mk k own ps=>by
  rw[vD,vD,zC,zC,JK nm bs nm' bs' ps]
  unfold FK
  rw[zC,zC,zD,zD]
theorem JK (nm bs nm' bs':List Str): ∀ts:List Tr,(uI nm bs ts).length =(uI nm' bs' ts).length
 |[]=>rfl
 |a::r=>by rw[uI,uI,zC,zC,Lf nm bs nm' bs' a,JK nm bs nm' bs' r]
end
theorem Of {hs:Ct}{b:Int}{nm bs:List Str}{d:Nat}(ih: ∀t,Ba hs b d t->(Br t).length<=2*(vD nm bs t).length): ∀ts:List Tr,Cp hs b d ts->(Aj ts).length<=2*(uI nm bs ts).length
 |[],_=>zS _
 |t::ts,f=>by
  unfold Cp at f
  rw[Aj,uI,zC,zC]
  have h1:=ih t f.1
  have h2:=Of ih ts f.2
  (first|lia|omega)
theorem QU {hs:Ct}{b:Int}(nm bs:List Str): ∀(d:Nat) (t:Tr),Ba hs b d t->(Br t).length<=2*(vD nm bs t).length
 |0,t,f=>by unfold Ba at f;exact f.elim
 |d+1,.mk k own ps,f=>by
  unfold Ba at f
  obtain⟨k0,k1,of,_,_,fp⟩:=f
  have h1:=Of (QU nm bs d) ps fp
  rw[Br,vD,zJ,zC,zC]
  have h2:1+own.length<=2*(FK nm bs k own).length:=by
   unfold FK
   rw[zC,zD]
   by_cases c:k=0\/k=1
   ·rw[zW c]
    have:own.length=1:=by
     rcases of with⟨rfl,n,rfl⟩|⟨hk,n,rfl,a,b⟩|⟨rfl,n,rfl,a,b⟩|⟨rfl,n,rfl,a,b⟩|⟨rfl,n,rfl,a,b⟩|⟨hk,rfl⟩
     ·rfl
     ·rfl
     ·rfl
     ·rfl
     ·rfl
     ·(first|lia|omega)
    show 1+own.length<=2*(0+own.length)
    (first|lia|omega)
   ·rw[zL c]
    show 1+own.length<=2*(1+own.length)
    (first|lia|omega)
  (first|lia|omega)
theorem Va {ns ns':List Jy}{fs:List Fn}(h:SX ns fs)(l:ns.length=fs.length):SX ns' fs:=fun x hx=>by
 obtain⟨i,e⟩:=kO hx
 obtain⟨n,f,e1,e2,rfl⟩:=Mn e
 have hi:=(List.getElem?_eq_some_iff.mp e2).1
 have e3:ns[i]? =some (ns[i]'(by(first|lia|omega))):=zB _
 have e4:(Bh ns fs)[i]? =some (Bp (ns.map (·.1)) (ns[i]'(by(first|lia|omega))) f):=by
  unfold Bh
  rw[kC,e3,e2]
 have:=h _ (zM e4)
 show(vD _ _ f.2).length<=700
 rw[Lf _ _ (ns.map (·.1)) ((ns[i]'(by(first|lia|omega))).2) f.2]
 exact this
theorem SE {ns:List Jy}{fs:List Fn}(wf:ST ns fs)(h:SX ns fs):KM fs:=fun f hf=>by
 obtain⟨i,e⟩:=kO hf
 have hi:=(List.getElem?_eq_some_iff.mp e).1
 have e3:ns[i]? =some (ns[i]'(by have:=wf.len;(first|lia|omega))):=zB _
 have e4:(Bh ns fs)[i]? =some (Bp (ns.map (·.1)) (ns[i]'(by have:=wf.len;(first|lia|omega))) f):=by
  unfold Bh
  rw[kC,e3,e]
 have h1:(vD (ns.map (·.1)) (ns[i]'(by have:=wf.len;(first|lia|omega))).2 f.2).length<=700:=h _ (zM e4)
 have h2:=QU (ns.map (·.1)) (ns[i]'(by have:=wf.len;(first|lia|omega))).2 10 f.2 (wf.fit f hf)
 (first|lia|omega)
theorem QT {H:Hp}{st b:Addr}{zs:List Int}(h:H st=some (.lst (zs.map V.int))){x:V}{ys:List V}(e:H b=some (.lst (x::ys)))(hx: ∀i,x≠ .int i):b≠st:=fun z=>by
 rw[z,h]at e
 injection e with e
 injection e with e
 cases zs with
 |nil=>cases e
 |cons y r=>
  injection e with e _
  exact hx y e.symm
theorem Ot {H H2:Hp}{st li:Addr}{zs:List Int}{pr:List Pg}(h:H st=some (.lst (zs.map V.int)))(k: ∀b o,b≠st->H b=some o->H2 b=some o)(ne:pr≠[])(hl:Mg H li (pr.map xA)):Mg H2 li (pr.map xA):=by
 obtain⟨lv,eli,pl⟩:=hl
 have ll:=Paired.len pl
 rw[zD]at ll
 have nli:li≠st:=by
  have h0:0<lv.length:=by have:=List.length_pos_iff.mpr ne;(first|lia|omega)
  have e0:lv[0]? =some lv[0]:=zB h0
  obtain⟨a,ea,_⟩:=Paired.get pl _ _ _ e0 (zB (by rw[zD];exact List.length_pos_iff.mpr ne))
  have el0:lv=lv[0]::lv.tail:=by
   cases lv with
   |nil=>exact absurd h0 (jO _)
   |cons x xs=>rfl
  rw[el0]at eli
  exact QT h eli fun i z=>by rw[ea]at z;cases z
 exact⟨lv,k _ _ nli eli,JD (fun e=>k _ _ (QT h e fun i z=>by cases z) e) pl⟩
theorem Om {H H2:Hp}{st na:Addr}{xs:List V}{ns:List Jy}(h:H st=some (.lst xs))(k: ∀b o,b≠st->H b=some o->H2 b=some o)(hn:GY H na ns):GY H2 na ns:=Uz hn fun b ys e=>k _ _ (fun z=>by rw[z,h]at e;cases e) e
theorem Wh (T:KK K mg)(F:vW K "law" "law" Tt f fd)(C_law_pen:vV P w K mg base (jX P w) 1 "_law_pen" ["_law_script","_law_k"] (Pn K))(C_law_program:vV P w K mg base (jX P w) 14 "_law_program" ["_law_pen_here","_law_most","_law_room"] Ms)(C_law_exchanged:vV P w K mg base (jX P w) 3 "_law_exchanged" ["_law_pen_here","_law_names","_law_lines"] MC)
  (C_law_shown:vV P w K mg base (jX P w) 20 "_law_shown" ["_law_names","_law_sheet","_law_lines","_law_handed"] JR):jV P w K mg base (jX P w) 21 f fd ["_law_script"] (NH K):=by
 refine F.okN Fd (fun vs H Q E h=>?_) (fun cdv A outer s H vs Q E hr h=>?_)
 ·obtain⟨a,ns,rfl,_⟩:=h
  rfl
 obtain⟨a,ns,rfl,hs,hl,q⟩:=h
 refine⟨_,(zF (yT (i:=1) Fd.nd rfl (Or.inl rfl) (jN zH))
   (zF (vE xO rfl (uQ rfl T.n_range (zA zX zH)) (xG (i:=2) Fd.nd rfl (Or.inl rfl)) (zF (yT (i:=3) Fd.nd rfl (Or.inl rfl) (yF C_law_pen hr rfl (zA (pv 0) (zA (pv 2) zH)) jZ))
   (zF (El (yF C_law_program hr rfl (zA (pv 3) (zA (xZ jH (jN (Bg (.int (.int (.int .nil))))) (pv 2) (fun _ _=>rfl)) (zA (xZ jH (jN (Bg (.int (.int (.int .nil))))) (pv 2) (fun _ _=>rfl)) zH))) jZ) (BS rfl (jA (xG (i:=4) Fd.nd rfl (Or.inl rfl)) (jA (xG (i:=5) Fd.nd rfl (Or.inl rfl)) (jA (xG (i:=6) Fd.nd rfl (Or.inl rfl)) Aa)))))
   (zF (El (yF C_law_exchanged hr rfl (zA (pv 3) (zA (pv 4) (zA (pv 6) zH))) jZ) (BS rfl (jA (xG (i:=7) Fd.nd rfl (Or.inl rfl)) (jA (xG (i:=8) Fd.nd rfl (Or.inl rfl)) Aa))))
   (zU (jB (PW.pt (uZ (Ai (uB (yF C_law_shown hr rfl (zA (pv 4) (zA (pv 5) (zA (pv 6) (zA (pv 1) zH)))) jZ))) (uA (Ai (uB (yF C_law_shown hr rfl (zA (pv 7) (zA (pv 5) (zA (pv 8) (zA (pv 1) zH)))) jZ)))))) (zU (yU GR)) yV))))))
   (zU (yU GR)))),?_⟩
 try dsimp only[Cx.nox,Cx.exc,Cx.wish,jC]
 refine⟨sm0,fun ha hha=>?_⟩
 have s0:=zV hha (.lst [])
 refine⟨3,rfl,by decide,by decide,uR (lo:=0) (n:=3) (fun i σ' H'=>(∃v2 v3 v4 v5 v6 v7 v8,σ'=[some (.ref a),some (.ref ha),v2,v3,v4,v5,v6,v7,v8])/\wG H H'/\ ∃zs:List Int,H' ha=some (.lst (zs.map V.int))) ⟨⟨_,_,_,_,_,_,_,rfl⟩,s0,[],zG⟩ ?_ ?_⟩
 ·rintro i σ' H1 hi ⟨⟨v2,v3,v4,v5,v6,v7,v8,rfl⟩,s1,zs,eha⟩
  refine⟨_,rfl,_,rfl,a,ns,_,rfl,by(first|lia|omega),by(first|lia|omega),hs.imp (fun⟨o,z⟩=>⟨o,s1 _ _ z⟩) id,hl,fun st H2 hst s2 D2=>?_⟩
  obtain⟨w1,m1,hw1⟩:=Rx (ns:=[4,2,16]) (k:=0+(i:Int)) (by(first|lia|omega)) (show 0+(i:Int)<3 by(first|lia|omega))
  obtain⟨w2,m2,hw2⟩:=Rx (ns:=[12,24,2]) (k:=0+(i:Int)) (by(first|lia|omega)) (show 0+(i:Int)<3 by(first|lia|omega))
  have k1:=mem3.mp m1
  have k2:=mem3.mp m2
  refine⟨_,rfl,sm3,fun o1 ho1=>⟨_,rfl,o1,_,_,_,rfl,rfl,.of zG,hw1,sm3,fun o2 ho2=>⟨_,rfl,o2,_,_,_,rfl,rfl,.of zG,hw2,?_⟩⟩⟩
  have s3:=(zV ho1 (.lst ([(4:Int),2,16].map V.int))).trans (zV ho2 (.lst ([(12:Int),24,2].map V.int)))
  refine⟨st,w1,w2,0,rfl,by(first|lia|omega),by(first|lia|omega),by(first|lia|omega),by(first|lia|omega),D2.same s3,by decide,fun p sh na li pr H4 D4 pa pg _ fsh=>?_⟩
  have hstH:H st=none:=s1.free hst
  have s4:wG H H4:=fun b o e=>D4.keep b o (fun z=>by rw[z,hstH]at e;cases e) (s3 _ _ (s2 _ _ (s1 _ _ e)))
  have nha:ha≠st:=fun z=>by rw[z,hst]at eha;cases eha
  have eha4:H4 ha=some (.lst (zs.map V.int)):=D4.keep _ _ nha (s3 _ _ (s2 _ _ eha))
  have nsha:sh≠ha:=fun z=>by
   rw[z]at fsh
   have:=(s3 _ _ (s2 _ _ eha)).symm.trans fsh
   cases this
  have nsh:sh≠st:=fun z=>by
   rw[z]at fsh
   obtain⟨xs,ex⟩:=D2.is
   exact absurd (s3 _ _ ex) (fun e=>by have:=e.symm.trans fsh;cases this)
  obtain⟨pa1,⟨nv,en,pn⟩,esh,⟨lv,el,pl⟩⟩:=pa
  obtain⟨fs,wf,epr⟩:=VT pg.ok
  have few:SX (qZ pr) fs:=fun x hx=>by rw[epr]at hx;exact pg.few x hx
  have shrt:=SE wf few
  have ewr:Hd pr=wr fs:=by
   rw[Td wf,epr];rfl
  have zl:(wr fs).length<=200000:=by
   rw[<-ewr]
   unfold Hd
   rw[LP,zJ,zC,Hv,zD]
   have:=pg.fewz
   have:=pg.ok.few
   (first|lia|omega)
  rw[ewr]at esh
  rw[<-epr]at pl
  rw[epr]at pl
  refine⟨p,_,rfl,.of pa1,rfl,_,_,rfl,_,_,rfl,_,_,rfl,rfl,?_⟩
  refine⟨_,rfl,_,rfl,_,rfl,st,na,li,0+120000,qZ pr,fs,rfl,D4.pen,by decide,⟨nv,en,pn⟩,⟨lv,el,by rw[epr];exact pl⟩,wf,shrt,fun p2 na' li' ns' H5 D5 ep5 hn5 hl5 wf5=>?_⟩
  refine⟨p2,_,rfl,.of ep5,rfl,_,_,rfl,_,_,rfl,rfl,?_⟩
  obtain⟨c0,c1,c2,est,_⟩:=D4.pen
  have est':H4 st=some (.lst ([c0,c1,c2].map V.int)):=est
  have hn5':GY H5 na (qZ pr):=Om est D5.keep ⟨nv,en,pn⟩
  have hl5':Mg H5 li ((Bh (qZ pr) fs).map xA):=Ot est' D5.keep wf.prog.ne ⟨lv,el,by rw[epr];exact pl⟩
  have esh5:=D5.keep _ _ nsh esh
  have eha5:=D5.keep _ _ nha eha4
  have few5:SX ns' fs:=Va few wf.len
  refine⟨_,rfl,_,rfl,_,rfl,_,rfl,na,sh,li,ha,qZ pr,fs,zs,rfl,hn5',esh5,hl5',eha5,nsha,wf,shrt,few,zl,fun H6 zs6 k6 eha6=>⟨_,rfl,Bi ?_⟩⟩
  refine⟨_,rfl,_,rfl,_,rfl,_,rfl,na',sh,li',ha,ns',fs,zs6,rfl,Om eha5 k6 hn5,k6 _ _ nsha esh5,Ot eha5 k6 wf5.prog.ne hl5,eha6,nsha,wf5,shrt,few5,zl,fun H7 zs7 k7 eha7=>⟨_,rfl,Bi ?_⟩⟩
  refine⟨⟨_,_,_,_,_,_,_,rfl⟩,fun b o e=>?_,zs7,eha7⟩
  have nb:b≠ha:=zK e hha
  exact k7 _ _ nb (k6 _ _ nb (D5.keep _ _ (zK e hstH) (s4 _ _ e)))
 ·rintro σ' H1 ⟨_,s1,_⟩
  exact q H1

end
section
variable {P:Program}{w:World}{K:PySem.W.Frag}{mg:Str->Option Value}{base:Heap}{f:Addr}{fd:FuncData}{aP aW aH CT CR CL CN:Addr}
set_option maxHeartbeats 4000000

theorem OA {k:Nat}{ps:List Str}{CX:Jr}:jV P w K mg base CX k f fd ps (fun _ _ _ _=>False):=
 ⟨fun _ _ _ _ h=>h.elim,fun _ _ _ _ _ _ _ _ _ _ _ _ _ h=>h.elim⟩
theorem Lw (T:Txt K mg aP aW aH CT CR)(F:vW K "read_node" "read_node" DP f fd)(CNoText:EK P w K mg base 1 "NoText" CT ["self","at"] (vY CT))(Ctake_kind:vV P w K mg base (jX P w) 4 "take_kind" ["reading","boxes"] (JB CR CT))
  (Ctake_own_texts:vV P w K mg base (jX P w) 6 "take_own_texts" ["reading","kind","boxes"] (Mu CR CT)) (Cparts_due:vV P w K mg base (jX P w) 2 "parts_due" ["kind","numbers","heads"] MD) (hm:mg "read_node"=some (.ref f)) (hk:PySem.W.keepIn K (.ref f)=true) (hb:vU K fd ["reading","boxes","deep"] []):
  ∀d,d<=10->jV P w K mg base (jX P w) (6+d+1) f fd ["reading","boxes","deep"] (Gs CR CT d)
 |0,h=>Oe 0 h T F CNoText Ctake_kind Ctake_own_texts Cparts_due ⟨⟨_,_,OA,hm,hk,hb⟩⟩
 |d+1,h=>Oe (d+1) h T F CNoText Ctake_kind Ctake_own_texts Cparts_due ⟨⟨_,_,Lw T F CNoText Ctake_kind Ctake_own_texts Cparts_due hm hk hb d (by(first|lia|omega)),hm,hk,hb⟩⟩
theorem Kg (T:KK K mg)(F:vW K "_law_shape" "_law_shape" Db f fd)(C_law_draw:vV P w K mg base (jX P w) 1 "_law_draw" ["_law_pen_here","_law_many"] DM)(C_law_words:vV P w K mg base (jX P w) 1 "_law_words" [] HG)
  (C_law_number:vV P w K mg base (jX P w) 2 "_law_number" ["_law_pen_here","_law_is_far"] Gr) (hm:mg "_law_shape"=some (.ref f)) (hk:PySem.W.keepIn K (.ref f)=true) (hb:vU K fd ["_law_pen_here","_law_heads_here","_law_boxes","_law_left","_law_deep"] []):
  ∀d,jV P w K mg base (jX P w) (2+d+1) f fd ["_law_pen_here","_law_heads_here","_law_boxes","_law_left","_law_deep"] (Et d)
 |0=>Lv 0 T F C_law_draw C_law_words C_law_number ⟨⟨_,_,OA,hm,hk,hb⟩⟩
 |d+1=>Lv (d+1) T F C_law_draw C_law_words C_law_number ⟨⟨_,_,Kg T F C_law_draw C_law_words C_law_number hm hk hb d,hm,hk,hb⟩⟩

end
set_option maxHeartbeats 4000000


open PySem.W in
theorem all_mk {l:OpenLaw}{w:World}{K:Frag}{h:Heap}{mg:Str->Option Value}{fa f0 f1 f2 f3 f4 f5 f6 f7 f8 f9 qm wx um uq ng vk si oj rn vm qz vq qk qi lx ma ly md wg mw vx uk vj ms re vv vz uo oq rj mr vw qh om uw ve tz uv nh qq wq:Addr}{ur qN oh qC:Str}{NN cz ke:Addr}{pj km mq jt ko:List Value}{wk mv:List Str}{rb wt wm kx:Bool}{kg kr:Option Bool}{uc qf uu:Option Addr}{qo ph we mi py:Option Value}{mn uz:Value}{wu tj:Array (Option Value)}{lq:Array DictEntry}{nD:Nat}{ae ac aP aW aH:Addr}{gn kf jw jz jj jo jn ji bc bz cf cw cp cv cm bo bj gg dv:Tok}{ie gq ig gy gr iu ib im gp ii dk fb dt ff fe gc dy gm:Tok}{jf:Nat}{jd:Array (Option Value)}{bv ca bw:Tok}{cj:Nat}{cg:Array (Option Value)}{iw gw ir gv il ic io ik gu ix fk fh fm:Tok}{je:Nat}{jb:Array (Option Value)}{wb qM:Str}{NM:Addr}{sj jy:List Value}{ra:List Str}{su:Bool}{ku:Option Bool}{pk:Option Addr}{mz ud qp ue wj:Option Value}{aa af:Addr}{ky:Tok}(X:K.In h)(G:h.Ns mainGlobals mg)(mh:mg "law"=some (.ref fa))
  (gf:nsIn K mainGlobals "NoText"=some (some (.ref ae)))
  (dh:nsIn K mainGlobals "Reading"=some (some (.ref ac)))
  (bq:nsIn K mainGlobals "NoSheet"=some (some (.ref aa)))
  (jc:nsIn K mainGlobals "Look"=some (some (.ref af)))
  (d0:Dm K ae "__init__" "NoText.__init__" Bo f0)
  (d1:Dg K "parts_of" "parts_of" "parts_of" Fh f1)
  (d2:Dg K "kind_of" "kind_of" "kind_of" Iz f2)
  (d3:Dg K "parts_due" "parts_due" "parts_due" DQ f3)
  (d4:Dg K "words_of" "words_of" "words_of" Fe f4)
  (d5:Dg K "is_written_in" "is_written_in" "is_written_in" Cy f5)
  (d6:Dg K "is_name" "is_name" "is_name" IA f6)
  (d7:Dg K "is_number_of" "is_number_of" "is_number_of" Dr f7)
  (d8:Dg K "is_number" "is_number" "is_number" FX f8)
  (d9:Dm K ac "__init__" "Reading.__init__" AU f9)
  (nj:Dg K "number_names" "number_names" "number_names" Dq qm)
  (rm:Dg K "count_params" "count_params" "count_params" Ds wx)
  (mt:Dg K "due" "due" "due" Tu um)
  (vg:Dg K "take_new_name" "take_new_name" "take_new_name" Cw uq)
  (qd:Dg K "take_boxes" "take_boxes" "take_boxes" Fg ng)
  (og:Dg K "take_box" "take_box" "take_box" Hg vk)
  (vo:Dg K "take_number" "take_number" "take_number" Eh si)
  (rk:Dg K "take_many" "take_many" "take_many" FS oj)
  (ub:Dg K "take_called" "take_called" "take_called" Ei rn)
  (oy:Dg K "take_own_texts" "take_own" "take_own" BR vm)
  (sf:Dg K "take_kind" "take_kind" "take_kind" FT qz)
  (qg:Dg K "read_node" "read_node" "read_node" DP vq)
  (vi:Dg K "read_function" "read_function" "read_function" AO qk)
  (me:Dg K "read_text" "read_text" "read_text" FW qi)
  (ou:Dm K aa "__init__" "NoSheet.__init__" AV lx)
  (mf:Dm K af "__init__" "Look.__init__" Cz ma)
  (sv:Dm K af "take" "Look.take" Ga ly)
  (uy:Dm K af "take_within" "Look.take_within" AW md)
  (ug:Dg K "is_whole" "is_whole" "is_whole" Hl wg)
  (qj:Dg K "take_heads" "take_heads" "take_heads" Ff mw)
  (vh:Dg K "take_own_sheets" "take_own" "take_own" Bm vx)
  (oz:Dg K "take_node" "take_node" "take_node" DO uk)
  (qt:Dg K "functions" "functions" "functions" FY vj)
  (ux:Dg K "nodes_in" "nodes_in" "nodes_in" Hk ms)
  (ua:Dg K "word_of" "word_of" "word_of" Iy re)
  (rf:Dg K "show_own" "show_own" "show_own" Hh vv)
  (pe:Dg K "show_body" "show_body" "show_body" FV vz)
  (sx:Dg K "show_text" "show_text" "show_text" FU uo)
  (ww:Dg K "_law_pen" "_law_pen" "_law_pen" Hm oq)
  (qu:Dg K "_law_draw" "_law_draw" "_law_draw" FZ rj)
  (ui:Dg K "_law_words" "_law_words" "_law_words" Fi mr)
  (qw:Dg K "_law_name" "_law_name" "_law_name" DR vw)
  (vd:Dg K "_law_heads" "_law_heads" "_law_heads" Fk qh)
  (uj:Dg K "_law_number" "_law_number" "_law_number" Ej om)
  (se:Dg K "_law_shape" "_law_shape" "_law_shape" Db uw)
  (wo:Dg K "_law_program" "_law_program" "_law_program" Bn ve)
  (px:Dg K "_law_whole" "_law_whole" "_law_whole" Fj tz)
  (mj:Dg K "_law_right" "_law_right" "_law_right" Dc uv)
  (ml:Dg K "_law_exchanged" "_law_exchanged" "_law_exchanged" Ax nh)
  (vc:Dg K "_law_shown" "_law_shown" "_law_shown" Da qq)
  (vn:Dg K "law" "law" "law" Tt wq)
  (ck:nsIn K mainGlobals "len"=some none)
  (be:nsIn K mainGlobals "range"=some none)
  (dq:nsIn K mainGlobals "int"=some none)
  (bg:nsIn K mainGlobals "tuple"=some none)
  (fg:nsIn K mainGlobals "str"=some none)
  (ai:nsIn K mainGlobals "isinstance"=some none)
  (jl:nsIn K mainGlobals "all"=some none)
  (cq:nsIn K mainGlobals "list"=some none)
  (dw:nsIn K mainGlobals "bool"=some none)
  (jm:nsIn K mainGlobals "abs"=some none)
  (iy:nsIn K mainGlobals "zip"=some none)
  (cy:nsIn K mainGlobals "reversed"=some none)
  (ja:nsIn K mainGlobals "dict"=some none)
  (bh:nsIn K mainGlobals "NUMBER"=some (some (.int 0 gn)))
  (gj:nsIn K mainGlobals "GET"=some (some (.int 1 kf)))
  (fj:nsIn K mainGlobals "SET"=some (some (.int 2 jw)))
  (iz:nsIn K mainGlobals "ALL"=some (some (.int 3 jz)))
  (du:nsIn K mainGlobals "PICK"=some (some (.int 4 jj)))
  (dj:nsIn K mainGlobals "LOOP"=some (some (.int 5 jo)))
  (cr:nsIn K mainGlobals "CALL"=some (some (.int 6 jn)))
  (fc:nsIn K mainGlobals "FAIL"=some (some (.int 7 ji)))
  (ah:nsIn K mainGlobals "MOST_FUNCTIONS"=some (some (.int 16 bc)))
  (aq:nsIn K mainGlobals "MOST_PARAMS"=some (some (.int 4 bz)))
  (au:nsIn K mainGlobals "MOST_BOXES"=some (some (.int 12 cf)))
  (ba:nsIn K mainGlobals "MOST_DEEP"=some (some (.int 10 cw)))
  (az:nsIn K mainGlobals "MOST_MANY"=some (some (.int 12 cp)))
  (ay:nsIn K mainGlobals "LEAST_ALL"=some (some (.int 1 cv)))
  (ar:nsIn K mainGlobals "LEAST_PICK"=some (some (.int 2 cm)))
  (bi:nsIn K mainGlobals "MOST_LETTERS"=some (some (.int 8 bo)))
  (aj:nsIn K mainGlobals "MOST_FIGURES"=some (some (.int 60 bj)))
  (de:nsIn K mainGlobals "LETTERS"=some (some (.str "abcdefghijklmnopqrstuvwxyz" gg)))
  (bp:nsIn K mainGlobals "FIGURES"=some (some (.str "0123456789" dv)))
  (dc:nsIn K mainGlobals "WORDS"=some (some (.ref aW)))
  (da:K.lookup aW=some ⟨.type "tuple",none,.seq #[.str "set" ie,.str "all" gq,.str "pick" ig,.str "loop" gy,.str "call" gr,.str "fail" iu,.str "add" ib,.str "sub" im,.str "mul" gp,.str "quo" ii,.str "rest" dk,.str "less" fb,.str "same" dt,.str "push" ff,.str "at" fe,.str "put" gc,.str "size" dy,.str "new" gm] jf,jd⟩)
  (ce:nsIn K mainGlobals "HEAD_WORDS"=some (some (.ref aH)))
  (bu:K.lookup aH=some ⟨.type "tuple",none,.seq #[.str "fun" bv,.str "with" ca,.str "is" bw] cj,cg⟩)
  (db:nsIn K mainGlobals "PARTS"=some (some (.ref aP)))
  (gz:K.lookup aP=some ⟨.type "tuple",none,.seq #[.int 1 iw,.int 2 gw,.int 2 ir,.int 2 gv,.int 2 il,.int 2 ic,.int 2 io,.int 2 ik,.int 2 gu,.int 2 ix,.int 3 fk,.int 1 fh,.int 0 fm] je,jb⟩)
  (gh:subIn K (.type "int") (.type "bool")=some false)
  (ak:isFn K (.ref f9)=true)
  (gt:makesIn K ac=true)
  (jq:keepIn K (.ref ac)=true)
  (jr:plainGet K ac Str.empty=true)
  (jx:hasDictIn K ac=true)
  (ju:plainOver K ac=true)
  (kn:findIn K (.ref ac) "__setattr__"=some (some (.builtin "object.__setattr__")))
  (iq:findIn K (.ref ac) "words"=some none)
  (jv:findIn K (.ref ac) "at"=some none)
  (ij:findIn K (.ref ac) "names"=some none)
  (ip:findIn K (.ref ac) "heads"=some none)
  (fq:findIn K (.ref ac) "bodies"=some none)
  (cu:findIn K (.ref ac) "numbered"=some none)
  (di:findIn K (.ref ac) "counted"=some none)
  (xN:K.lookup ae=some (excClassObj ur qN ae NN pj (.ref cz::DW) true wk km rb kg uc qo ph we mi py "ValueError.__new__"))
  (xC:K.lookup cz=some ⟨mn,qf,.cls ⟨oh,mq,jt,ke,qC,wt,mv,ko,wm,kr,kx⟩,wu⟩)
  (xD:K.lookup ke=some ⟨uz,uu,.dict lq nD,tj⟩)
  (xF:nsIn K ke "__init__"=some none)
  (qx:keepIn K (.ref ae)=true)
  (pd:typeIn K (.ref f0)=some (.type "function"))
  (ki:mroIn K ae (.type "object")=some true)
  (jg:mroIn K ae (.type "BaseException")=some true)
  (nk:findIn K (.ref ae) "__setattr__"=some (some (.builtin "object.__setattr__")))
  (qr:findIn K (.ref ae) "__getattribute__"=some (some (.builtin "BaseException.__getattribute__")))
  (oi:findIn K (.ref ae) "__getattr__"=some none)
  (ut:findIn K (.ref ae) "at"=some none)
  (xE:(lq.toList.all fun e=>match e.key with| .str _ _=>true|_=>false)=true)
  (jh:nsIn K mainGlobals "NEW"=some (some (.int 19 ky)))
  (ax:isFn K (.ref ma)=true)
  (cb:isFn K (.ref ly)=true)
  (ao:isFn K (.ref md)=true)
  (jk:makesIn K af=true)
  (rh:keepIn K (.ref af)=true)
  (pg:plainGet K af Str.empty=true)
  (hd:hasDictIn K af=true)
  (po:plainOver K af=true)
  (sa:findIn K (.ref af) "__setattr__"=some (some (.builtin "object.__setattr__")))
  (kl:findIn K (.ref af) "numbers"=some none)
  (qy:findIn K (.ref af) "place"=some none)
  (yN:K.lookup aa=some (excClassObj wb qM aa NM sj (.ref cz::DW) true ra jy su ku pk mz ud qp ue wj "ValueError.__new__"))
  (rq:keepIn K (.ref aa)=true)
  (ul:typeIn K (.ref lx)=some (.type "function"))
  (lj:mroIn K aa (.type "object")=some true)
  (jp:mroIn K aa (.type "BaseException")=some true)
  (qc:findIn K (.ref aa) "__setattr__"=some (some (.builtin "object.__setattr__")))
  (vy:findIn K (.ref aa) "__getattribute__"=some (some (.builtin "BaseException.__getattribute__")))
  (sy:findIn K (.ref aa) "__getattr__"=some none)
  (wc:findIn K (.ref aa) "place"=some none)
  (sr:findIn K (.ref aa) "word"=some none)
  (vp:subIn K (.ref aa) (.ref aa)=some true)
  (uf:typeIn K (.ref aa)=some (.type "type"))
  (sk:isClsIn K aa=true)
  (pi:subIn K (.ref aa) (.type "BaseException")=some true)
  : ∃fd:FuncData,(∀(s:Shared) (v:Value),BindsTo s fd ⟨[v],[]⟩ [("_law_script",v)])/\ ∀base:Heap,K.In base->base.Ns mainGlobals mg->jV l.prog w K mg base (jX l.prog w) 21 fa fd ["_law_script"] (NH K):=by
 obtain⟨a0,_,F0⟩:=d0
 have b0:=F0.b2 "self" "at" fun _ _ _ _ _ _ _ _=>rfl
 obtain⟨a1,_,F1⟩:=d1
 have b1:=F1.b1 "kind" fun _ _ _ _ _ _ _=>rfl
 have m1:=mg_of X G a1
 have k1:=F1.kp
 obtain⟨a2,_,F2⟩:=d2
 have b2:=F2.b1 "word" fun _ _ _ _ _ _ _=>rfl
 obtain⟨a3,_,F3⟩:=d3
 have b3:=F3.b3 "kind" "numbers" "heads" fun _ _ _ _ _ _ _ _ _=>rfl
 have m3:=mg_of X G a3
 have k3:=F3.kp
 obtain⟨a4,_,F4⟩:=d4
 have b4:=F4.b1 "text" fun _ _ _ _ _ _ _=>rfl
 obtain⟨a5,_,F5⟩:=d5
 have b5:=F5.b2 "word" "signs" fun _ _ _ _ _ _ _ _=>rfl
 obtain⟨a6,_,F6⟩:=d6
 have b6:=F6.b1 "word" fun _ _ _ _ _ _ _=>rfl
 obtain⟨a7,_,F7⟩:=d7
 have b7:=F7.b2 "word" "most_figures" fun _ _ _ _ _ _ _ _=>rfl
 obtain⟨a8,_,F8⟩:=d8
 have b8:=F8.b1 "word" fun _ _ _ _ _ _ _=>rfl
 obtain⟨a9,_,F9⟩:=d9
 have b9:=F9.b2 "self" "words" fun _ _ _ _ _ _ _ _=>rfl
 obtain⟨a10,_,F10⟩:=nj
 have b10:=F10.b1 "words" fun _ _ _ _ _ _ _=>rfl
 obtain⟨a11,_,F11⟩:=rm
 have b11:=F11.b1 "words" fun _ _ _ _ _ _ _=>rfl
 obtain⟨a12,_,F12⟩:=mt
 have b12:=F12.b1 "reading" fun _ _ _ _ _ _ _=>rfl
 obtain⟨a13,_,F13⟩:=vg
 have b13:=F13.b2 "reading" "there" fun _ _ _ _ _ _ _ _=>rfl
 obtain⟨a14,_,F14⟩:=qd
 have b14:=F14.b4 "reading" "boxes" "most" "last" fun _ _ _ _ _ _ _ _ _ _=>rfl
 obtain⟨a15,_,F15⟩:=og
 have b15:=F15.b2 "reading" "boxes" fun _ _ _ _ _ _ _ _=>rfl
 obtain⟨a16,_,F16⟩:=vo
 have b16:=F16.b1 "reading" fun _ _ _ _ _ _ _=>rfl
 obtain⟨a17,_,F17⟩:=rk
 have b17:=F17.b2 "reading" "least" fun _ _ _ _ _ _ _ _=>rfl
 obtain⟨a18,_,F18⟩:=ub
 have b18:=F18.b1 "reading" fun _ _ _ _ _ _ _=>rfl
 obtain⟨a19,_,F19⟩:=oy
 have b19:=F19.b3 "reading" "kind" "boxes" fun _ _ _ _ _ _ _ _ _=>rfl
 obtain⟨a20,_,F20⟩:=sf
 have b20:=F20.b2 "reading" "boxes" fun _ _ _ _ _ _ _ _=>rfl
 obtain⟨a21,_,F21⟩:=qg
 have b21:=F21.b3 "reading" "boxes" "deep" fun _ _ _ _ _ _ _ _ _=>rfl
 have m21:=mg_of X G a21
 have k21:=F21.kp
 obtain⟨a22,_,F22⟩:=vi
 have b22:=F22.b1 "reading" fun _ _ _ _ _ _ _=>rfl
 obtain⟨a23,_,F23⟩:=me
 have b23:=F23.b1 "text" fun _ _ _ _ _ _ _=>rfl
 obtain⟨a24,_,F24⟩:=ou
 have b24:=F24.b3 "self" "place" "word" fun _ _ _ _ _ _ _ _ _=>rfl
 obtain⟨a25,_,F25⟩:=mf
 have b25:=F25.b2 "self" "numbers" fun _ _ _ _ _ _ _ _=>rfl
 obtain⟨a26,_,F26⟩:=sv
 have b26:=F26.b1 "self" fun _ _ _ _ _ _ _=>rfl
 have k26:=F26.kp
 obtain⟨a27,_,F27⟩:=uy
 have b27:=F27.b3 "self" "least" "most" fun _ _ _ _ _ _ _ _ _=>rfl
 have k27:=F27.kp
 obtain⟨a28,_,F28⟩:=ug
 have b28:=F28.b1 "thing" fun _ _ _ _ _ _ _=>rfl
 obtain⟨a29,_,F29⟩:=qj
 have b29:=F29.b1 "look" fun _ _ _ _ _ _ _=>rfl
 obtain⟨a30,_,F30⟩:=vh
 have b30:=F30.b4 "look" "kind" "heads" "boxes" fun _ _ _ _ _ _ _ _ _ _=>rfl
 obtain⟨a31,_,F31⟩:=oz
 have b31:=F31.b4 "look" "heads" "boxes" "deep" fun _ _ _ _ _ _ _ _ _ _=>rfl
 have m31:=mg_of X G a31
 have k31:=F31.kp
 obtain⟨a32,_,F32⟩:=qt
 have b32:=F32.b1 "sheet" fun _ _ _ _ _ _ _=>rfl
 obtain⟨a33,_,F33⟩:=ux
 have b33:=F33.b1 "body" fun _ _ _ _ _ _ _=>rfl
 obtain⟨a34,_,F34⟩:=ua
 have b34:=F34.b1 "kind" fun _ _ _ _ _ _ _=>rfl
 obtain⟨a35,_,F35⟩:=rf
 have b35:=F35.b4 "kind" "number" "boxes" "names" fun _ _ _ _ _ _ _ _ _ _=>rfl
 obtain⟨a36,_,F36⟩:=pe
 have b36:=F36.b3 "body" "boxes" "names" fun _ _ _ _ _ _ _ _ _=>rfl
 obtain⟨a37,_,F37⟩:=sx
 have b37:=F37.b2 "names" "sheet" fun _ _ _ _ _ _ _ _=>rfl
 obtain⟨a38,_,F38⟩:=ww
 have b38:=F38.b2 "_law_script" "_law_k" fun _ _ _ _ _ _ _ _=>rfl
 obtain⟨a39,_,F39⟩:=qu
 have b39:=F39.b2 "_law_pen_here" "_law_many" fun _ _ _ _ _ _ _ _=>rfl
 obtain⟨a40,_,F40⟩:=ui
 have b40:=F40.b0 fun _ _ _ _ _ _=>rfl
 obtain⟨a41,_,F41⟩:=qw
 have b41:=F41.b2 "_law_pen_here" "_law_taken" fun _ _ _ _ _ _ _ _=>rfl
 obtain⟨a42,_,F42⟩:=vd
 have b42:=F42.b2 "_law_pen_here" "_law_most" fun _ _ _ _ _ _ _ _=>rfl
 obtain⟨a43,_,F43⟩:=uj
 have b43:=F43.b2 "_law_pen_here" "_law_is_far" fun _ _ _ _ _ _ _ _=>rfl
 obtain⟨a44,_,F44⟩:=se
 have b44:=F44.b5 "_law_pen_here" "_law_heads_here" "_law_boxes" "_law_left" "_law_deep" fun _ _ _ _ _ _ _ _ _ _ _=>rfl
 have m44:=mg_of X G a44
 have k44:=F44.kp
 obtain⟨a45,_,F45⟩:=wo
 have b45:=F45.b3 "_law_pen_here" "_law_most" "_law_room" fun _ _ _ _ _ _ _ _ _=>rfl
 obtain⟨a46,_,F46⟩:=px
 have b46:=F46.b1 "_law_thing" fun _ _ _ _ _ _ _=>rfl
 obtain⟨a47,_,F47⟩:=mj
 have b47:=F47.b3 "_law_found" "_law_names" "_law_sheet" fun _ _ _ _ _ _ _ _ _=>rfl
 obtain⟨a48,_,F48⟩:=ml
 have b48:=F48.b3 "_law_pen_here" "_law_names" "_law_lines" fun _ _ _ _ _ _ _ _ _=>rfl
 obtain⟨a49,_,F49⟩:=vc
 have b49:=F49.b4 "_law_names" "_law_sheet" "_law_lines" "_law_handed" fun _ _ _ _ _ _ _ _ _ _=>rfl
 obtain⟨a50,_,F50⟩:=vn
 have e:=mh.symm.trans (mg_of X G a50)
 cases e
 refine⟨_,F50.law "_law_script" fun _ _ _ _ _ _ _=>rfl,fun base _ _=>?_⟩
 have cl: ∀{x q g:Str} {st:Stmt} {f:Addr} {fd:FuncData} {k:Nat} {ps:List Str} {sp:Sp},nsIn K mainGlobals g=some (some (.ref f))->vW K x q st f fd->vU K fd ps []->jV l.prog w K mg base (jX l.prog w) k f fd ps sp->vV l.prog w K mg base (jX l.prog w) k g ps sp:=fun a F b o=>Cl X G a F b o
 have TS:Ym K mg:=⟨xL X G ck,⟨_,mg_of X G bp⟩,⟨_,mg_of X G aj⟩⟩
 have T:Txt K mg aP aW aH ae ac:=⟨xL X G ck,xL X G be,xL X G dq,xL X G bg,xL X G fg,xL X G ai,⟨_,mg_of X G bh⟩,⟨_,mg_of X G gj⟩,⟨_,mg_of X G fj⟩,⟨_,mg_of X G iz⟩,⟨_,mg_of X G du⟩,⟨_,mg_of X G dj⟩,⟨_,mg_of X G cr⟩,⟨_,mg_of X G fc⟩,⟨_,mg_of X G ah⟩,⟨_,mg_of X G aq⟩,⟨_,mg_of X G au⟩,⟨_,mg_of X G ba⟩,⟨_,mg_of X G az⟩,⟨_,mg_of X G ay⟩,⟨_,mg_of X G ar⟩,⟨_,mg_of X G bi⟩,⟨_,mg_of X G aj⟩,⟨_,mg_of X G de⟩,⟨_,mg_of X G bp⟩,mg_of X G dc,mg_of X G ce,mg_of X G db,fun H=>Pm (xs:=[V.str "set",V.str "all",V.str "pick",V.str "loop",V.str "call",V.str "fail",V.str "add",V.str "sub",V.str "mul",V.str "quo",V.str "rest",V.str "less",V.str "same",V.str "push",V.str "at",V.str "put",V.str "size",V.str "new"]) da sm18 (.cons ⟨_,rfl⟩ (.cons ⟨_,rfl⟩ (.cons ⟨_,rfl⟩ (.cons ⟨_,rfl⟩ (.cons ⟨_,rfl⟩ (.cons ⟨_,rfl⟩ (.cons ⟨_,rfl⟩ (.cons ⟨_,rfl⟩ (.cons ⟨_,rfl⟩ (.cons ⟨_,rfl⟩ (.cons ⟨_,rfl⟩ (.cons ⟨_,rfl⟩ (.cons ⟨_,rfl⟩ (.cons ⟨_,rfl⟩ (.cons ⟨_,rfl⟩ (.cons ⟨_,rfl⟩ (.cons ⟨_,rfl⟩ (.cons ⟨_,rfl⟩ (.nil))))))))))))))))))) H,⟨_,da,rfl,rfl⟩,fun H=>Pm (xs:=[V.str "fun",V.str "with",V.str "is"]) bu sm3 (.cons ⟨_,rfl⟩ (.cons ⟨_,rfl⟩ (.cons ⟨_,rfl⟩ (.nil)))) H,fun H=>Pm (xs:=[V.int 1,V.int 2,V.int 2,V.int 2,V.int 2,V.int 2,V.int 2,V.int 2,V.int 2,V.int 2,V.int 3,V.int 1,V.int 0]) gz sm13 (.cons ⟨_,rfl⟩ (.cons ⟨_,rfl⟩ (.cons ⟨_,rfl⟩ (.cons ⟨_,rfl⟩ (.cons ⟨_,rfl⟩ (.cons ⟨_,rfl⟩ (.cons ⟨_,rfl⟩ (.cons ⟨_,rfl⟩ (.cons ⟨_,rfl⟩ (.cons ⟨_,rfl⟩ (.cons ⟨_,rfl⟩ (.cons ⟨_,rfl⟩ (.cons ⟨_,rfl⟩ (.nil)))))))))))))) H,Dv,⟨Vd xN,ki,jg,nk,qr,oi⟩,ut,⟨jr,jx,ju,kn⟩,iq,jv,ij,ip,fq,cu,di⟩
 have TN:Ik K mg aP af aa:=⟨xL X G ck,xL X G jm,xL X G be,xL X G ai,xL X G dq,xL X G dw,xL X G cq,xL X G bg,⟨_,mg_of X G bh⟩,⟨_,mg_of X G gj⟩,⟨_,mg_of X G fj⟩,⟨_,mg_of X G iz⟩,⟨_,mg_of X G du⟩,⟨_,mg_of X G dj⟩,⟨_,mg_of X G cr⟩,⟨_,mg_of X G fc⟩,⟨_,mg_of X G jh⟩,⟨_,mg_of X G ah⟩,⟨_,mg_of X G aq⟩,⟨_,mg_of X G au⟩,⟨_,mg_of X G ba⟩,⟨_,mg_of X G az⟩,⟨_,mg_of X G ay⟩,⟨_,mg_of X G ar⟩,mg_of X G db,mg_of X G bq,T.parts,Dv,UI gh,Dv,Dv,⟨pg,hd,po,sa⟩,kl,qy,⟨Vd yN,lj,jp,qc,vy,sy⟩,wc,sr,⟨vp,uf,sk,pi⟩⟩
 have TV:Vr K mg aW:=⟨xL X G fg,xL X G iy,xL X G cq,⟨_,mg_of X G bh⟩,⟨_,mg_of X G gj⟩,⟨_,mg_of X G fj⟩,⟨_,mg_of X G cr⟩,mg_of X G dc,T.words⟩
 have n_reversed:=xL X G cy
 have TL:KK K mg:=⟨xL X G ck,xL X G be,xL X G dq,xL X G fg,xL X G jl,xL X G cq,xL X G dw,xL X G bg,xL X G ai,Dv,Dv,Dv,UI gh⟩
 have TE:Zx K mg:=⟨xL X G ck,xL X G be,xL X G bg,xL X G iy,xL X G ja⟩
 have X0:EK l.prog w K mg base 1 "NoText" ae _ _:=⟨⟨_,_,OW.ofValue ⟨_,_,_,_,_,_,_,_,_,_,_,_,_,_,_,_,xN,OD xC rfl (WS xD xE) xF⟩ a0 pd qx T.exc,Uq T F0,mg_of X G gf,b0⟩⟩
 have C1:=cl a1 F1 b1 (Sa T F1)
 have C2:=cl a2 F2 b2 (PH T F2)
 have C3:=cl a3 F3 b3 (Wj T F3 C1)
 have C4:=cl a4 F4 b4 (Oa F4)
 have C5:=cl a5 F5 b5 (KS F5)
 have C6:=cl a6 F6 b6 (PJ T F6 C5)
 have C7:=cl a7 F7 b7 (MU TS F7 C5)
 have C8:=cl a8 F8 b8 (Sb TS F8 C7)
 have C10:=cl a10 F10 b10 (Oc T F10)
 have C11:=cl a11 F11 b11 (Uu T F11)
 have D9:VC l.prog w K mg base (jX l.prog w) 2 "Reading" ac _ _:=⟨⟨_,_,⟨gt,a9,ak,jq⟩,Uo T F9 C10 C11,mg_of X G dh,b9⟩⟩
 have C12:=cl a12 F12 b12 (Wk T F12 X0)
 have C13:=cl a13 F13 b13 (Wg T F13 X0 C12 C6)
 have C14:=cl a14 F14 b14 (Sc T F14 X0 C12 C13)
 have C15:=cl a15 F15 b15 (Wl T F15 X0 C12)
 have C16:=cl a16 F16 b16 (Wf T F16 X0 C12 C8)
 have C17:=cl a17 F17 b17 (Uk T F17 X0 C16)
 have C18:=cl a18 F18 b18 (PM T F18 X0 C12 C6)
 have C19:=cl a19 F19 b19 (We T F19 C15 C16 C17 C18)
 have C20:=cl a20 F20 b20 (Ul T F20 X0 C12 C8 C2)
 have C21:vV l.prog w K mg base (jX l.prog w) 17 "read_node" _ (Gs ac ae 10):=⟨⟨_,_,Lw T F21 X0 C20 C19 C3 m21 k21 b21 10 (zS _),m21,k21,b21⟩⟩
 have C22:=cl a22 F22 b22 (Wi T F22 X0 C12 C13 C14 C21)
 have C23:=cl a23 F23 b23 (Uf T F23 X0 C4 D9 C22)
 have X24:EK l.prog w K mg base 1 "NoSheet" aa _ _:=⟨⟨_,_,OW.ofValue ⟨_,_,_,_,_,_,_,_,_,_,_,_,_,_,_,_,yN,OD xC rfl (WS xD xE) xF⟩ a24 ul rq TN.exc,Um TN F24,mg_of X G bq,b24⟩⟩
 have K25:VC l.prog w K mg base (jX l.prog w) 1 "Look" af _ _:=⟨⟨_,_,⟨jk,a25,ax,rh⟩,Up TN F25,mg_of X G jc,b25⟩⟩
 have C28:=cl a28 F28 b28 (Ue TN F28)
 have M26:Ld l.prog w K mg base (jX l.prog w) 3 af "take" _ _:=⟨⟨_,_,Zh TN F26 C28 X24,TN.look,⟨a26,cb,k26⟩,b26⟩⟩
 have M27:Ld l.prog w K mg base (jX l.prog w) 4 af "take_within" _ _:=⟨⟨_,_,RW TN F27 M26 X24,TN.look,⟨a27,ao,k27⟩,b27⟩⟩
 have C29:=cl a29 F29 b29 (Ur TN F29 M27)
 have C30:=cl a30 F30 b30 (XS TN F30 M26 M27)
 have S1:vV l.prog w K mg base (jX l.prog w) 1 "parts_of" _ _:=⟨⟨_,_,Uh TN F1,m1,k1,b1⟩⟩
 have S3:vV l.prog w K mg base (jX l.prog w) 2 "parts_due" _ _:=⟨⟨_,_,XU TN F3 S1,m3,k3,b3⟩⟩
 have N31:=Ui TN F31 X24 M27 C30 S3 m31 k31 b31
 have C31:vV l.prog w K mg base (jX l.prog w) 16 "take_node" _ (Iu af aa 10):=⟨⟨_,_,N31 10 (zS _),m31,k31,b31⟩⟩
 have C32:=cl a32 F32 b32 (XT TN F32 X24 K25 C29 C31)
 have C33:=cl a33 F33 b33 (Od TN n_reversed F33)
 have C34:=cl a34 F34 b34 (PD TV F34)
 have C35:=cl a35 F35 b35 (Ob TV F35)
 have C36:=cl a36 F36 b36 (MT TV F36 C33 C34 C35)
 have C37:=cl a37 F37 b37 (MR TV F37 C32 C36)
 have C38:=cl a38 F38 b38 (Wd TL F38)
 have C39:=cl a39 F39 b39 (Ut F39)
 have C40:=cl a40 F40 b40 (RV F40)
 have C41:=cl a41 F41 b41 (Uj TL F41 C39 C40)
 have C42:=cl a42 F42 b42 (PL TL F42 C39 C41)
 have C43:=cl a43 F43 b43 (PF F43 C39)
 have C44:vV l.prog w K mg base (jX l.prog w) 13 "_law_shape" _ (Et 10):=⟨⟨_,_,Kg TL F44 C39 C40 C43 m44 k44 b44 10,m44,k44,b44⟩⟩
 have C45:=cl a45 F45 b45 (Ug TL F45 C42 C44)
 have C46:=cl a46 F46 b46 (RX TL F46)
 have C47:=cl a47 F47 b47 (RZ TL F47 C46)
 have C48:=cl a48 F48 b48 (Us TE F48 C41)
 have C49:=cl a49 F49 b49 (RY TL T.kstr F49 C37 C23 C47)
 exact Wh TL F50 C38 C45 C48 C49
theorem walk {l:PySem.W.OpenLaw}{q:Program}{loose:List Str}{XP:(Str->Option Value)->Heap->Prop}{YP:World->Heap->Prop}{d:DefRec}{K:Params->PySem.W.Frag}(hn:l.most=some 63)(hdf:d.params.defaults=[])
  (hY: ∀(w:World) (h:Heap),YP w h->(K w.params).In h)
  (F: ∀(w:World) (mg:Str->Option Value) (fa:Addr) (h:Heap),(K w.params).In h->h.Ns mainGlobals mg->mg d.name=some (.ref fa)->
   ∃fd:FuncData,(∀(s:Shared) (u:Value),BindsTo s fd ⟨[u],[]⟩ [("_law_script",u)])/\ ∀base:Heap,(K w.params).In base->base.Ns mainGlobals mg->jV l.prog w (K w.params) mg base (jX l.prog w) 21 fa fd ["_law_script"] (NH (K w.params))):
  PySem.W.WalkO q loose XP YP l.row.toRowW d [] (fun f vs=>PySem.call f vs):=
 L2.walk_of (n:=63) (k:=21) (x:="_law_script") (CX:=fun w=>(jX l.prog w)) (sp:=fun w=>NH (K w.params)) hn (by decide) hdf ⟨rfl,by decide,by decide⟩ hY F (fun _ _ a ns hl hO hS=>⟨a,ns,rfl,Xf.of hO hS,hl,fun _=>rfl⟩) (fun _ _ _ _ _=>OL)
end OcL
namespace OcP
open PySem
set_option compiler.extract_closed false
def B:=PySem.Challenge.pw_ownchain_k09_programs_shown.main.body
def s0:Stmt:=let_mvar% ?s:=(_:Stmt);let_mvar% ?f:=(fun(_:B[0]? =some ?s)=>?s);?f rfl
def s1:Stmt:=let_mvar% ?s:=(_:Stmt);let_mvar% ?f:=(fun(_:B[1]? =some ?s)=>?s);?f rfl
def s2:Stmt:=let_mvar% ?s:=(_:Stmt);let_mvar% ?f:=(fun(_:B[2]? =some ?s)=>?s);?f rfl
def s3:Stmt:=let_mvar% ?s:=(_:Stmt);let_mvar% ?f:=(fun(_:B[3]? =some ?s)=>?s);?f rfl
def s4:Stmt:=let_mvar% ?s:=(_:Stmt);let_mvar% ?f:=(fun(_:B[4]? =some ?s)=>?s);?f rfl
def s5:Stmt:=let_mvar% ?s:=(_:Stmt);let_mvar% ?f:=(fun(_:B[5]? =some ?s)=>?s);?f rfl
def s6:Stmt:=let_mvar% ?s:=(_:Stmt);let_mvar% ?f:=(fun(_:B[6]? =some ?s)=>?s);?f rfl
def s7:Stmt:=let_mvar% ?s:=(_:Stmt);let_mvar% ?f:=(fun(_:B[7]? =some ?s)=>?s);?f rfl
def s8:Stmt:=let_mvar% ?s:=(_:Stmt);let_mvar% ?f:=(fun(_:B[8]? =some ?s)=>?s);?f rfl
def s9:Stmt:=let_mvar% ?s:=(_:Stmt);let_mvar% ?f:=(fun(_:B[9]? =some ?s)=>?s);?f rfl
def s10:Stmt:=let_mvar% ?s:=(_:Stmt);let_mvar% ?f:=(fun(_:B[10]? =some ?s)=>?s);?f rfl
def s11:Stmt:=let_mvar% ?s:=(_:Stmt);let_mvar% ?f:=(fun(_:B[11]? =some ?s)=>?s);?f rfl
def s12:Stmt:=let_mvar% ?s:=(_:Stmt);let_mvar% ?f:=(fun(_:B[12]? =some ?s)=>?s);?f rfl
def s13:Stmt:=let_mvar% ?s:=(_:Stmt);let_mvar% ?f:=(fun(_:B[13]? =some ?s)=>?s);?f rfl
def s14:Stmt:=let_mvar% ?s:=(_:Stmt);let_mvar% ?f:=(fun(_:B[14]? =some ?s)=>?s);?f rfl
def s15:Stmt:=let_mvar% ?s:=(_:Stmt);let_mvar% ?f:=(fun(_:B[15]? =some ?s)=>?s);?f rfl
def s16:Stmt:=let_mvar% ?s:=(_:Stmt);let_mvar% ?f:=(fun(_:B[16]? =some ?s)=>?s);?f rfl
def s17:Stmt:=let_mvar% ?s:=(_:Stmt);let_mvar% ?f:=(fun(_:B[17]? =some ?s)=>?s);?f rfl
def s18:Stmt:=let_mvar% ?s:=(_:Stmt);let_mvar% ?f:=(fun(_:B[18]? =some ?s)=>?s);?f rfl
def s19:Stmt:=let_mvar% ?s:=(_:Stmt);let_mvar% ?f:=(fun(_:B[19]? =some ?s)=>?s);?f rfl
def s20:Stmt:=let_mvar% ?s:=(_:Stmt);let_mvar% ?f:=(fun(_:B[20]? =some ?s)=>?s);?f rfl
def s21:Stmt:=let_mvar% ?s:=(_:Stmt);let_mvar% ?f:=(fun(_:B[21]? =some ?s)=>?s);?f rfl
def s22:Stmt:=let_mvar% ?s:=(_:Stmt);let_mvar% ?f:=(fun(_:B[22]? =some ?s)=>?s);?f rfl
def s23:Stmt:=let_mvar% ?s:=(_:Stmt);let_mvar% ?f:=(fun(_:B[23]? =some ?s)=>?s);?f rfl
def s24:Stmt:=let_mvar% ?s:=(_:Stmt);let_mvar% ?f:=(fun(_:B[24]? =some ?s)=>?s);?f rfl
def s25:Stmt:=let_mvar% ?s:=(_:Stmt);let_mvar% ?f:=(fun(_:B[25]? =some ?s)=>?s);?f rfl
def s26:Stmt:=let_mvar% ?s:=(_:Stmt);let_mvar% ?f:=(fun(_:B[26]? =some ?s)=>?s);?f rfl
def s27:Stmt:=let_mvar% ?s:=(_:Stmt);let_mvar% ?f:=(fun(_:B[27]? =some ?s)=>?s);?f rfl
def s28:Stmt:=let_mvar% ?s:=(_:Stmt);let_mvar% ?f:=(fun(_:B[28]? =some ?s)=>?s);?f rfl
def s29:Stmt:=let_mvar% ?s:=(_:Stmt);let_mvar% ?f:=(fun(_:B[29]? =some ?s)=>?s);?f rfl
def s30:Stmt:=let_mvar% ?s:=(_:Stmt);let_mvar% ?f:=(fun(_:B[30]? =some ?s)=>?s);?f rfl
def s31:Stmt:=let_mvar% ?s:=(_:Stmt);let_mvar% ?f:=(fun(_:B[31]? =some ?s)=>?s);?f rfl
def s32:Stmt:=let_mvar% ?s:=(_:Stmt);let_mvar% ?f:=(fun(_:B[32]? =some ?s)=>?s);?f rfl
def s33:Stmt:=let_mvar% ?s:=(_:Stmt);let_mvar% ?f:=(fun(_:B[33]? =some ?s)=>?s);?f rfl
def ZZ:Stmt:=let_mvar% ?s:=(_:Stmt);let_mvar% ?f:=(fun(_:B[34]? =some ?s)=>?s);?f rfl
def s35:Stmt:=let_mvar% ?s:=(_:Stmt);let_mvar% ?f:=(fun(_:B[35]? =some ?s)=>?s);?f rfl
def s36:Stmt:=let_mvar% ?s:=(_:Stmt);let_mvar% ?f:=(fun(_:B[36]? =some ?s)=>?s);?f rfl
def s37:Stmt:=let_mvar% ?s:=(_:Stmt);let_mvar% ?f:=(fun(_:B[37]? =some ?s)=>?s);?f rfl
def ZY:Stmt:=let_mvar% ?s:=(_:Stmt);let_mvar% ?f:=(fun(_:B[38]? =some ?s)=>?s);?f rfl
def s39:Stmt:=let_mvar% ?s:=(_:Stmt);let_mvar% ?f:=(fun(_:B[39]? =some ?s)=>?s);?f rfl
def s40:Stmt:=let_mvar% ?s:=(_:Stmt);let_mvar% ?f:=(fun(_:B[40]? =some ?s)=>?s);?f rfl
def s41:Stmt:=let_mvar% ?s:=(_:Stmt);let_mvar% ?f:=(fun(_:B[41]? =some ?s)=>?s);?f rfl
def s42:Stmt:=let_mvar% ?s:=(_:Stmt);let_mvar% ?f:=(fun(_:B[42]? =some ?s)=>?s);?f rfl
def s43:Stmt:=let_mvar% ?s:=(_:Stmt);let_mvar% ?f:=(fun(_:B[43]? =some ?s)=>?s);?f rfl
def s44:Stmt:=let_mvar% ?s:=(_:Stmt);let_mvar% ?f:=(fun(_:B[44]? =some ?s)=>?s);?f rfl
def YV:Stmt:=let_mvar% ?s:=(_:Stmt);let_mvar% ?f:=(fun(_:B[45]? =some ?s)=>?s);?f rfl
def s46:Stmt:=let_mvar% ?s:=(_:Stmt);let_mvar% ?f:=(fun(_:B[46]? =some ?s)=>?s);?f rfl
def s47:Stmt:=let_mvar% ?s:=(_:Stmt);let_mvar% ?f:=(fun(_:B[47]? =some ?s)=>?s);?f rfl
def s48:Stmt:=let_mvar% ?s:=(_:Stmt);let_mvar% ?f:=(fun(_:B[48]? =some ?s)=>?s);?f rfl
def s49:Stmt:=let_mvar% ?s:=(_:Stmt);let_mvar% ?f:=(fun(_:B[49]? =some ?s)=>?s);?f rfl
def s50:Stmt:=let_mvar% ?s:=(_:Stmt);let_mvar% ?f:=(fun(_:B[50]? =some ?s)=>?s);?f rfl
def s51:Stmt:=let_mvar% ?s:=(_:Stmt);let_mvar% ?f:=(fun(_:B[51]? =some ?s)=>?s);?f rfl
def s52:Stmt:=let_mvar% ?s:=(_:Stmt);let_mvar% ?f:=(fun(_:B[52]? =some ?s)=>?s);?f rfl
def s53:Stmt:=let_mvar% ?s:=(_:Stmt);let_mvar% ?f:=(fun(_:B[53]? =some ?s)=>?s);?f rfl
def s54:Stmt:=let_mvar% ?s:=(_:Stmt);let_mvar% ?f:=(fun(_:B[54]? =some ?s)=>?s);?f rfl
def s55:Stmt:=let_mvar% ?s:=(_:Stmt);let_mvar% ?f:=(fun(_:B[55]? =some ?s)=>?s);?f rfl
def s56:Stmt:=let_mvar% ?s:=(_:Stmt);let_mvar% ?f:=(fun(_:B[56]? =some ?s)=>?s);?f rfl
def s57:Stmt:=let_mvar% ?s:=(_:Stmt);let_mvar% ?f:=(fun(_:B[57]? =some ?s)=>?s);?f rfl
def s58:Stmt:=let_mvar% ?s:=(_:Stmt);let_mvar% ?f:=(fun(_:B[58]? =some ?s)=>?s);?f rfl
def s59:Stmt:=let_mvar% ?s:=(_:Stmt);let_mvar% ?f:=(fun(_:B[59]? =some ?s)=>?s);?f rfl
def s60:Stmt:=let_mvar% ?s:=(_:Stmt);let_mvar% ?f:=(fun(_:B[60]? =some ?s)=>?s);?f rfl
def s61:Stmt:=let_mvar% ?s:=(_:Stmt);let_mvar% ?f:=(fun(_:B[61]? =some ?s)=>?s);?f rfl
def s62:Stmt:=let_mvar% ?s:=(_:Stmt);let_mvar% ?f:=(fun(_:B[62]? =some ?s)=>?s);?f rfl
def s63:Stmt:=let_mvar% ?s:=(_:Stmt);let_mvar% ?f:=(fun(_:B[63]? =some ?s)=>?s);?f rfl
def s64:Stmt:=let_mvar% ?s:=(_:Stmt);let_mvar% ?f:=(fun(_:B[64]? =some ?s)=>?s);?f rfl
def s65:Stmt:=let_mvar% ?s:=(_:Stmt);let_mvar% ?f:=(fun(_:B[65]? =some ?s)=>?s);?f rfl
def s66:Stmt:=let_mvar% ?s:=(_:Stmt);let_mvar% ?f:=(fun(_:B[66]? =some ?s)=>?s);?f rfl
def WO:Stmt:=let_mvar% ?s:=(_:Stmt);let_mvar% ?f:=(fun(_:B[67]? =some ?s)=>?s);?f rfl
def s68:Stmt:=let_mvar% ?s:=(_:Stmt);let_mvar% ?f:=(fun(_:B[68]? =some ?s)=>?s);?f rfl
def s69:Stmt:=let_mvar% ?s:=(_:Stmt);let_mvar% ?f:=(fun(_:B[69]? =some ?s)=>?s);?f rfl
def s70:Stmt:=let_mvar% ?s:=(_:Stmt);let_mvar% ?f:=(fun(_:B[70]? =some ?s)=>?s);?f rfl
def s71:Stmt:=let_mvar% ?s:=(_:Stmt);let_mvar% ?f:=(fun(_:B[71]? =some ?s)=>?s);?f rfl
def s72:Stmt:=let_mvar% ?s:=(_:Stmt);let_mvar% ?f:=(fun(_:B[72]? =some ?s)=>?s);?f rfl
def s73:Stmt:=let_mvar% ?s:=(_:Stmt);let_mvar% ?f:=(fun(_:B[73]? =some ?s)=>?s);?f rfl
def s74:Stmt:=let_mvar% ?s:=(_:Stmt);let_mvar% ?f:=(fun(_:B[74]? =some ?s)=>?s);?f rfl
def s75:Stmt:=let_mvar% ?s:=(_:Stmt);let_mvar% ?f:=(fun(_:B[75]? =some ?s)=>?s);?f rfl
def s76:Stmt:=let_mvar% ?s:=(_:Stmt);let_mvar% ?f:=(fun(_:B[76]? =some ?s)=>?s);?f rfl
def s77:Stmt:=let_mvar% ?s:=(_:Stmt);let_mvar% ?f:=(fun(_:B[77]? =some ?s)=>?s);?f rfl
def s78:Stmt:=let_mvar% ?s:=(_:Stmt);let_mvar% ?f:=(fun(_:B[78]? =some ?s)=>?s);?f rfl
def s79:Stmt:=let_mvar% ?s:=(_:Stmt);let_mvar% ?f:=(fun(_:B[79]? =some ?s)=>?s);?f rfl
def sc:Scope:={kind:=ScopeKind.module,names:=[(Str.ofString "__name__",NameKind.local),(Str.ofString "ChainError",NameKind.local),(Str.ofString "ValueError",NameKind.globalImplicit),(Str.ofString "NoSheet",NameKind.local),(Str.ofString "NoText",NameKind.local),(Str.ofString "NUMBER",NameKind.local),(Str.ofString "GET",NameKind.local),(Str.ofString "SET",NameKind.local),(Str.ofString "ALL",NameKind.local),(Str.ofString "PICK",NameKind.local),(Str.ofString "LOOP",NameKind.local),(Str.ofString "CALL",NameKind.local),(Str.ofString "FAIL",NameKind.local),(Str.ofString "NEW",NameKind.local),(Str.ofString "WORDS",NameKind.local),(Str.ofString "PARTS",NameKind.local),(Str.ofString "parts_of",NameKind.local),(Str.ofString "word_of",NameKind.local),(Str.ofString "kind_of",NameKind.local),(Str.ofString "MOST_FUNCTIONS",NameKind.local),(Str.ofString "MOST_PARAMS",NameKind.local),(Str.ofString "MOST_BOXES",NameKind.local),(Str.ofString "MOST_DEEP",NameKind.local),(Str.ofString "MOST_MANY",NameKind.local),(Str.ofString "LEAST_ALL",NameKind.local),(Str.ofString "LEAST_PICK",NameKind.local),(Str.ofString "is_whole",NameKind.local),(Str.ofString "Look",NameKind.local),(Str.ofString "take_heads",NameKind.local),(Str.ofString "take_own",NameKind.local),(Str.ofString "take_own_sheets",NameKind.local),(Str.ofString "parts_due",NameKind.local),(Str.ofString "take_node",NameKind.local),(Str.ofString "functions",NameKind.local),(Str.ofString "nodes_in",NameKind.local),(Str.ofString "LETTERS",NameKind.local),(Str.ofString "FIGURES",NameKind.local),(Str.ofString "MOST_LETTERS",NameKind.local),(Str.ofString "MOST_FIGURES",NameKind.local),(Str.ofString "HEAD_WORDS",NameKind.local),(Str.ofString "words_of",NameKind.local),(Str.ofString "is_written_in",NameKind.local),(Str.ofString "is_name",NameKind.local),(Str.ofString "is_number_of",NameKind.local),(Str.ofString "is_number",NameKind.local),(Str.ofString "Reading",NameKind.local),(Str.ofString "number_names",NameKind.local),(Str.ofString "count_params",NameKind.local),(Str.ofString "due",NameKind.local),(Str.ofString "take_new_name",NameKind.local),(Str.ofString "take_boxes",NameKind.local),(Str.ofString "take_box",NameKind.local),(Str.ofString "take_number",NameKind.local),(Str.ofString "take_many",NameKind.local),(Str.ofString "take_called",NameKind.local),(Str.ofString "take_own_texts",NameKind.local),(Str.ofString "take_kind",NameKind.local),(Str.ofString "read_node",NameKind.local),(Str.ofString "read_function",NameKind.local),(Str.ofString "read_text",NameKind.local),(Str.ofString "show_own",NameKind.local),(Str.ofString "show_body",NameKind.local),(Str.ofString "show_text",NameKind.local),(Str.ofString "_law_pen",NameKind.local),(Str.ofString "_law_draw",NameKind.local),(Str.ofString "_law_words",NameKind.local),(Str.ofString "_law_name",NameKind.local),(Str.ofString "_law_heads",NameKind.local),(Str.ofString "_law_number",NameKind.local),(Str.ofString "_law_shape",NameKind.local),(Str.ofString "_law_program",NameKind.local),(Str.ofString "_law_whole",NameKind.local),(Str.ofString "_law_right",NameKind.local),(Str.ofString "_law_exchanged",NameKind.local),(Str.ofString "_law_shown",NameKind.local),(Str.ofString "law",NameKind.local)],isGenerator:=false,isCoroutine:=false,more:=[]:Scope}
def gi:Given:={argv:=[],stdin:=[],environ:=(some [([76,67,95,65,76,76],[67,46,85,84,70,45,56])]):PySem.Given}
def fi:Str:="/claim/cut.py"
def pw:Program:={main:={body:=[s0,s1,s2,s3,s4,s5,s6,s7,s8,s9,s10,s11,s12,s13,s14,s15,s16,s17,s18,s19,s20,s21,s22,s23,s24,s25,s26,s27,s28,s29,s30,s31,s32,s33,ZZ,s35,s36,s37,ZY,s39,s40,s41,s42,s43,s44,YV,s46,s47,s48,s49,s50,s51,s52,s53,s54,s55,s56,s57,s58,s59,s60,s61,s62,s63,s64,s65,s66,WO,s68,s69,s70,s71,s72,s73,s74,s75,s76,s77,s78,s79],scope:=sc,futureAnnotations:=false,file:=fi,more:=[]},modules:=[],parses:=[],absent:=[],harvested:=[],given:=gi}
def rw:PySem.W.OpenLaw:={prog:=pw,name:=(PySem.Str.ofString "law"),about:=[(PySem.Str.ofString "show_text")],foot:=13,most:=some 63,bound:=none,writes:=false}
theorem rw_eq:PySem.Challenge.rw_ownchain_k09_programs_shown=rw:=rfl
end OcP

namespace PySem.W.Fast
 def tw14586976254991714150:=() def tw16912608918851983121:=() def tw10353478150069661882:=() def tw591995522850516616:=() def tw3807638692393921983:=() def tw17110888150443535971:=() def tw9711093968040813372:=() def tw14400525883289741378:=()
 def tw2496811473171432124:=() def tw16600445156252283938:=() def tw9659482690054214494:=() def tw17168343552543397904:=() def tw7803076079655043255:=() def tw10424257031304021135:=() def tw12871098122075085568:=() def tw12531119209362042642:=()
 def tw5249774745710350746:=() def tw2569975212258567832:=() def tw5059213479466393911:=() def tw5945208667309763579:=() def tw15669411583668557894:=() def tw8478837773599539351:=() def tw2871541595671383833:=() def tw9601149329427835322:=()
 def tw17536461188183211013:=() def tw4518901857144806162:=() def tw14785579079082628965:=() def tw12630532641977871067:=() def tw5355112784826554156:=() def tw12806393315216048207:=() def tw8525323177271155061:=() def tw3317904440086267129:=()
 def tw6755021911430846878:=() def tw10316999441247124488:=() def tw8375644359516454500:=() def tw17417931430356549088:=() def tw7489132980519644151:=() def tw14905221620827674430:=() def tw12830323438856933638:=() def tw12412031692694409659:=()
 def tw18411353246434648761:=() def tw16486839500070516715:=() def tw2446850884753519102:=() def tw14334431667509422031:=() def tw13136457788258823392:=() def tw17217868389691630163:=() def tw13043045253276247969:=() def tw5271636037853003285:=()
 def tw13300121361538208857:=() def tw5610051642842714276:=() def tw18234796596700592413:=() def tw14782308365983748550:=() def tw13593662274069317499:=() def tw9876788809795322013:=() def tw5264760505235332195:=() def tw16041834358258040610:=()
 def tw9907232063531588527:=() def tw15615382020289544941:=() def tw6156050525410643715:=() def tw11929432646882883345:=() def tw17233663746807275575:=() def tw8374081398937554177:=() def tw14765761183629795688:=() def tw15984526746550738776:=()
 def tw9185690325308129447:=() def tw11773196049508294400:=() def tw10758198329611467775:=() def tw4806294354975150768:=() def tw3328609959281524993:=() def tw16233224033389275631:=() def tw5169707776910452040:=() def tw18007143002299174619:=()
 def tw5642653887933182463:=() def tw11333899284557778719:=() def tw10721452039723406329:=() def tw3649912552056882896:=() def tw6415619216836948991:=() def tw11403020443906139534:=() def tw718570920739220675:=() def tw11011011105164744193:=()
 def tw7153378779896213230:=() def tw12870564739969778679:=() def tw6610025843712683435:=() def tw12216711679403032456:=() def tw1264494914948611615:=() def tw6096533634086804096:=() def tw1544939547197166023:=() def tw7610963869618180862:=()
 def tw9273221632436542107:=() def tw6691682783106126610:=() def tw2614179495541769529:=() def tw16312305491353809408:=() def tw11086750778050364472:=() def tw15455551554378297055:=() def tw15403394826079350287:=() def tw4672852272863400993:=()
 def tw3842325280992998173:=() def tw1179507146538420395:=() def tw15323032280287192024:=() def tw5477426163241322394:=() def tw7749281930175556861:=() def tw15074671122677391579:=() def tw11059652972004039230:=() def tw6282809062954518337:=()
 def tw5802177039774915803:=() def tw9029847936843234474:=() def tw7479311595714035639:=() def tw11745554589643320549:=() def tw661884492162556881:=() def tw16279880189771115023:=() def tw13456794144532260562:=() def tw17671261048941736856:=()
 def tw12165085583210829824:=() def tw15339518363417724313:=() def tw16657012164380502413:=() def tw13833827611975128230:=() def tw7053114122338721798:=() def tw4546298768218910368:=() def tw10878672988082526358:=() def tw5584572885511265571:=()
 def tw660250720311377547:=() def tw7055071886894767139:=() def tw17584561540554265347:=() def tw7467797924889641407:=() def tw15262401112991952688:=() def tw15510694917209587017:=() def tw13998021802856798053:=() def tw2070908368033387544:=()
 def tw7325315173543102664:=() def tw9574354194315281511:=() def tw12915894377410997605:=() def tw17407681808960829540:=() def tw5419116535238025421:=() def tw17793613051674833951:=() def tw902763812788208766:=() def tw5356492958128867451:=()
 def tw3533065846807809246:=() def tw15337488329504849058:=() def tw17609625848181010297:=() def tw6901384003254432016:=() def tw17257821447875716402:=() def tw721094097363561533:=() def tw9054740759207671452:=() def tw4740457339273398148:=()
 def tw5286039295083284079:=() def tw16388359326045462014:=() def tw13396143007932559695:=() def tw11967643121510440349:=() def tw18000316353282026701:=() def tw7758678817176142109:=() def tw15737096303121227085:=() def tw4252834251041580688:=()
 def tw8981165324276982981:=() def tw1686560707695119924:=() def tw5294783833274508234:=() def tw5335465639748731692:=() def tw15444146279248144176:=() def tw9352270294156916539:=() def tw1016929530489072271:=() def tw6775377563654700508:=()
 def tw10140392306895822456:=() def tw7906680715400007415:=() def tw15670247099614308581:=() def tw13751575437889013921:=() def tw5177639424369559741:=() def tw7372271322688305783:=() def tw5437459048347411478:=() def tw641390149523826355:=()
 def tw17738171857721103635:=() def tw9857204300730277719:=() def tw7093340590308060392:=() def tw1356883471794450808:=() def tw17705671659245106473:=() def tw14372550859776534385:=() def tw9236649905471470134:=() def tw1301092384048684525:=()
 def tw16031436403509129681:=() def tw2394417974119007086:=() def tw12482934700220345972:=() def tw5927222130980826241:=() def tw5363317314804807269:=() def tw5280035297067138276:=() def tw4284475415450369414:=() def tw18356949245786001704:=()
 def tw6925902751008196458:=() def tw2582737546075142697:=() def tw15589224972922437902:=() def tw2360893878184267963:=() def tw5930750256609638833:=() def tw3124985540608780306:=() def tw2757670948753568100:=() def tw18074339788733936901:=()
 def tw15746781336438589876:=() def tw16026159124430815774:=() def tw4991451914642715959:=() def tw15259449354301651530:=() def tw17323310703642530157:=() def tw9415455478086748786:=() def tw13212685614930154747:=() def tw17913020151548268550:=()
 def tw12370329301767502109:=() def tw2424707637487467166:=() def tw1515695309152298871:=() def tw4947479660277263617:=() def tw15848328172564371784:=() def tw6552213366408208144:=() def tw601974773472622618:=() def tw3655613496162195792:=()
 def tw18432873550887443317:=() def tw9890650146698522599:=() def tw11945306767911102294:=() def tw15379166540040829996:=() def tw3204707957913099109:=() def tw14077396243564483177:=() def tw14825283953737175065:=() def tw1366506195327754128:=()
 def tw13131478548146530217:=() def tw285218259053769831:=() def tw3945829318303772785:=() def tw10019735965750559917:=() def tw4950390638226713273:=() def tw4159321844753346727:=() def tw15125743872727800844:=() def tw17742853979360537470:=()
 def tw12491284183196005475:=() def tw334182108301584214:=() def tw15099210500410584216:=() def tw3394563492141797160:=() def tw8295240321539907784:=() def tw7649776903842589878:=() def tw12461478888221924720:=() def tw16405757991710707047:=()
 def tw11052890851791572140:=() def tw641493204791194770:=() def tw17837692715955387539:=() def tw8125328501691853134:=() def tw3631851772588647036:=() def tw1325355163681684251:=() def tw6496377120855955179:=() def tw13343519197902035174:=()
 def tw13801197350344565161:=() def tw484497952226245387:=() def tw4396300286924655557:=() def tw2715678733010215745:=() def tw14709079356097423704:=() def tw1618270224962170222:=() def tw9214585753845193347:=() def tw15931473083678230316:=()
 def tw12766738309061725127:=() def tw4242872636179890537:=() def tw782054709708727110:=() def tw9253970336136731590:=() def tw94702970735115377:=() def tw3690952627050461729:=() def tw9618209462466698660:=() def tw9175161283114347784:=()
 def tw7722327881689916785:=() def tw11502978980331361782:=() def tw12542519516986781408:=() def tw12788100581931781111:=() def tw8289615069213447656:=() def tw7715773058413767723:=() def tw7224162556694697574:=() def tw3940762630302163976:=()
 def tw13138464148256445758:=() def tw11193099655863318539:=() def tw2371561938389741748:=() def tw3636948228043452465:=() def tw4758722456670914353:=() def tw15824819237726949567:=() def tw7874116716197181054:=() def tw2684068150130488980:=()
 def tw3174824158383365627:=() def tw11502530024867930524:=() def tw8465599749357860552:=() def tw7543028643864809761:=() def tw9086610862706159282:=() def tw9875343997145035923:=() def tw15337597392803463986:=() def tw16176451774400863003:=()
 def tw16429283795182451388:=() def tw17325904311601227996:=() def tw5318091910639454876:=() def tw17450142090117002287:=() def tw2178533729697411655:=() def tw8254322373435165302:=() def tw15687764383199537499:=() def tw2194703482109775887:=()
 def tw577761650254425405:=() def tw15340802037937582568:=() def tw1394914580685940751:=() def tw15398020475209956892:=() def tw5904070231611531896:=() def tw13340487080666546598:=() def tw3293083607987725174:=() def tw13275010694164596750:=()
 def tw3456147363370163783:=() def tw5221724708667392696:=() def tw6098320808717836767:=() def tw3903169671335657874:=() def tw6072862414348182187:=() def tw228983530327300022:=() def tw10455598632995024084:=() def tw4017644229225464311:=()
 def tw12436468826765026863:=() def tw12197529399320153939:=() def tw3845240366709992396:=() def tw15741069343636792048:=() def tw11405717527296994736:=() def tw15792446013662522154:=() def tw11829779859844049663:=() def tw15847775772358097056:=()
 def tw17293209603656288058:=() def tw5606939097434224907:=() def tw8798756214359157300:=() def tw15386365136580733584:=() def tw4879745387879573947:=() def tw16368006890205403232:=() def tw8232456032960646384:=() def tw12608204605763576008:=()
 def tw13872238996493219531:=() def tw17013391964262543063:=() def tw4230315834412545557:=() def tw16228597357348644159:=() def tw6317930708925450279:=() def tw5186304940326205734:=() def tw18187802646425492115:=() def tw8798380397958072214:=()
 def tw17399879607929985583:=() def tw8290450462167327341:=() def tw15218366723730789380:=() def tw16548252364140125205:=() def tw11363454648340439328:=() def tw1563254845432098539:=() def tw16113897439051162505:=() def tw8902882990474635465:=()
 def tw13260446161582277129:=() def tw16350583620600823161:=() def tw15715378240702654863:=() def tw4682333445264468890:=() def tw11273613451446612390:=() def tw14694007676105667146:=() def tw858223492148617479:=() def tw12548636588045015906:=()
 def tw10817336820782913559:=() def tw9449030824907828362:=() def tw7939622123738614708:=() def tw10512950790757029788:=() def tw9966427931035191977:=() def tw14920485753899961666:=() def tw3967204622282025452:=() def tw5405178894864489932:=()
 def tw8020386197702675605:=() def tw9601807380793465393:=() def tw8084596839447015986:=() def tw14058445105796599910:=() def tw245711646215126549:=() def tw13064012536853008907:=() def tw10574919113726363270:=() def tw13960346281421423400:=()
 def tw7165309941988494120:=() def tw1007922104782663034:=() def tw2312865453983672931:=() def tw16782214412216597529:=() def tw11002450589913987557:=() def tw6068538911530487776:=() def tw854077776190563250:=() def tw13964541124929042042:=()
 def tw2915892662812185145:=() def tw4122180667758038900:=() def tw2699503712091209896:=() def tw14810631546461905685:=() def tw15500151465961076756:=() def tw3288823362792072946:=() def tw4829185948961687930:=() def tw782043159906897517:=()
 def tw801638899225349976:=() def tw9072934748041248804:=() def tw5461584971073018503:=() def tw2428445986968020694:=() def tw3262826373544252128:=() def tw5995057186627140197:=() def tw5645583639456312886:=()
end PySem.W.Fast
open PySem PySem.W PyProof.Rows
set_option maxRecDepth 100000 in
set_option maxHeartbeats 0 in
theorem PySem.Challenge.cw_ownchain_k09_programs_shown_holds : PySem.Challenge.rw_ownchain_k09_programs_shown.Holds := by
 rw[OcP.rw_eq]
 w_on;o_law;z_head;(case hw=>w_witness2)
 k_fill
 refine L2.walkX_of (fun P=>rfl) ?_
 refine OcL.walk (l:=OcP.rw) rfl rfl (fun w h Y=>Y) ?F
 case F=>
  intro w mg fa h KX G hmg
  refine' OcL.all_mk KX G hmg ?_ ?_ ?_ ?_ ?_ ?_ ?_ ?_ ?_ ?_ ?_ ?_ ?_ ?_ ?_ ?_ ?_ ?_ ?_ ?_ ?_ ?_ ?_ ?_ ?_ ?_ ?_ ?_ ?_ ?_ ?_ ?_ ?_ ?_ ?_ ?_ ?_ ?_ ?_ ?_ ?_ ?_ ?_ ?_ ?_ ?_ ?_ ?_ ?_ ?_ ?_ ?_ ?_ ?_ ?_ ?_ ?_ ?_ ?_ ?_ ?_ ?_ ?_ ?_ ?_ ?_ ?_ ?_ ?_ ?_ ?_ ?_ ?_ ?_ ?_ ?_ ?_ ?_ ?_ ?_ ?_ ?_ ?_ ?_ ?_ ?_ ?_ ?_ ?_ ?_ ?_ ?_ ?_ ?_ ?_ ?_ ?_ ?_ ?_ ?_ ?_ ?_ ?_ ?_ ?_ ?_ ?_ ?_ ?_ ?_ ?_ ?_ ?_ ?_ ?_ ?_ ?_ ?_ ?_ ?_ ?_ ?_ ?_ ?_ ?_ ?_ ?_ ?_ ?_ ?_ ?_ ?_ ?_ ?_ ?_ ?_ ?_ ?_ ?_ ?_ ?_ ?_ ?_ ?_ ?_ ?_ ?_
  all_goals first|k_is|rfl|(refine' L2.dg_mk ?a ?b ?c ?d;(case a=>k_is);(case b=>k_is);(case c=>k_is);(case d=>k_is))|(refine' L2.dm_mk ?a ?b ?c ?d;(case a=>k_is);(case b=>k_is);(case c=>k_is);(case d=>k_is))|skip
