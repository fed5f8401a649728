import PyProof.Rows.All
import PyProof.CallFns
import PyProof.ReprLen
import PyProof.ReprRoads
import PyProof.ExcClass2
import PyProof.DictList
import PyProof.AttrMissHeap
import PyProof.ZipIter
import PyProof.TupleIter
import PyProof.Draws
import PyProof.Rows.TupAdd
import PyProof.Rows.SortRunsK
import KE.KSortTup
import PyProof.SumAny
import PyProof.AutoSeq1
import PyProof.LayNew
import PyProof.EnumFor
import PyProof.EnumStmt
import PyProof.EnumMake
import PyProof.ConsumeWalk
import KE.KRevSl
import KE.KRevIter
import Wide.All
import OpenK.AllK
import Wide.FinOn
import Lean
import PyProof.EqAt
import PyProof.EqKinds
import PyProof.TupleCall
import PyProof.NeKinds
import PySem.Challenge.RW_ownchain_k36_what_is_no_paper
set_option maxHeartbeats 4000000
set_option genInjectivity false
set_option genSizeOfSpec false
set_option Elab.async false
set_option linter.all false
set_option maxRecDepth 100000
namespace L2
open PySem PySem.Spec PyProof.Rows
abbrev zA:=@PySem.wpAny_bind
abbrev zC:=@PySem.Heap.get?_push_of_some
abbrev zD:=@List.length_append
abbrev zF:=@List.length_map
abbrev zG:=@List.getElem?_eq_getElem
abbrev zI:=@List.length_cons
abbrev zL:=@PySem.wpAny_pure
abbrev zN:=@if_neg
abbrev zO:=@of_decide_eq_true
abbrev zP:=@Nat.le_refl
abbrev zQ:=@if_pos
abbrev zS:=@PySem.Heap.lt_size
abbrev zT:=@PySem.Heap.get?_push_size
abbrev zU:=@List.size_toArray
abbrev zY:=@PySem.F.plainAttrs_list
abbrev yA:=@List.append_assoc
abbrev yB:=@Bool.false_ne_true
abbrev yF:=@PySem.F.type_list_append
abbrev yH:=@PySem.F.slot_list_append
abbrev yJ:=@Nat.lt_of_lt_of_le
abbrev yL:=@List.length_take
abbrev yO:=@Nat.le_trans
abbrev yP:=@List.map_append
abbrev yQ:=@List.getElem?_map
abbrev yT:=@List.mem_cons_self
abbrev yV:=@List.append_nil
abbrev yW:=@List.mem_cons_of_mem
abbrev yY:=@List.cons_append
abbrev xA:=@Nat.ne_of_lt
abbrev xB:=@Nat.lt_of_le_of_lt
abbrev xG:=@List.map_cons
abbrev xH:=@Nat.zero_le
abbrev xI:=@decide_eq_true
abbrev xJ:=@List.take_of_length_le
abbrev xL:=@List.mem_of_getElem?
abbrev xM:=@PySem.wpAny_field
abbrev xO:=@List.drop_eq_getElem_cons
abbrev xP:=@PySem.PassesOwn.never
abbrev xT:=@PySem.Heap.get?_update_other
abbrev xU:=@Option.some.inj
abbrev xV:=@List.getD_eq_getElem?_getD
abbrev xX:=@PySem.W.mg_none_of
abbrev xY:=@PySem.wpAny_callSpecial?_slot
abbrev xZ:=@List.take_length
abbrev jA:=@List.mem_append_right
abbrev jC:=@PyProof.Rows.callWith_type1
abbrev jD:=@PySem.wpAny_holding
abbrev jG:=@PySem.wpAny_newObj_type
abbrev jH:=@decide_eq_false
abbrev jI:=@List.nil_append
abbrev jJ:=@PySem.F.slot_tuple_iterator_next
abbrev jQ:=@PySem.wpAny_call_entry
abbrev jS:=@Nat.lt_irrefl
abbrev jT:=@List.take_add_one
abbrev jU:=@Bool.true_and
abbrev jW:=@Bool.and_eq_true_iff
abbrev jY:=@PySem.Obj.data_mapFields
abbrev kD:=@beq_self_eq_true
abbrev kE:=@List.length_drop
abbrev kJ:=@List.take_append_drop
abbrev kK:=@PySem.Heap.get?_update_self
abbrev kL:=@Int.toNat_natCast
abbrev kU:=@PySem.W.kia_one
abbrev kY:=@List.getElem_mem
abbrev qE:=@PySem.wpAny_seqItems
abbrev qI:=@congrArg
abbrev qJ:=@Int.eq_ofNat_of_zero_le
abbrev qK:=@Bool.and_eq_true
abbrev qS:=@PySem.wpAny_setField
abbrev qU:=@PySem.Obj.isFreed_of_fields
abbrev qX:=@PySem.wpAny_mono
abbrev qZ:=@PySem.wpAny_Call_Name_kw
abbrev wB:=@PySem.AutoSeq1.wpAny_loadPart'
abbrev wF:=@List.take_succ
abbrev wG:=@List.mem_append_left
abbrev wJ:=@PySem.wpAny_truthy_bool
abbrev wM:=@List.length_zip
abbrev wN:=@PySem.F.args_tuple_iterator_next_1
abbrev wO:=@PySem.mem_of_lookup
abbrev wP:=@List.mem_map_of_mem
abbrev wR:=@List.drop_of_length_le
abbrev wS:=@PySem.F.entry_tuple_iterator_next
abbrev wT:=@PySem.wpAny_attempt
abbrev wU:=@PySem.sizeLine_eq
abbrev wZ:=@PySem.wpAny_setField_rec
abbrev vA:=@PySem.Heap.size_push
abbrev vC:=@List.lookup_cons_self
abbrev vD:=@List.length_replicate
abbrev vE:=@List.getElem?_eq_none
abbrev vK:=@PySem.wpAny_passesOwn
abbrev vL:=@Bool.eq_iff_iff
abbrev vS:=@PySem.wpAny_pyIter_list
abbrev vT:=@PySem.wpAny_of_eq
abbrev vU:=@Nat.ne_of_gt
abbrev vV:=@Nat.le_succ
abbrev vZ:=@List.Pairwise.imp_of_mem
abbrev uF:=@List.map_congr_left
abbrev uG:=@PySem.Heap.SameBut.update
abbrev uH:=@Array.length_toList
abbrev uK:=@List.take_zero
abbrev uU:=@PySem.wpAny_pyIter_tuple
abbrev uV:=@PySem.W.callWith_K
abbrev uW:=@Int.emod_lt_of_pos
abbrev uY:=@PySem.wpAny_execs_nil
abbrev uZ:=@Nat.min_eq_left
abbrev Aa:=@List.find?_cons
abbrev Ab:=@Int.emod_nonneg
abbrev Ad:=@List.map_take
abbrev Ae:=@List.map_drop
abbrev Aj:=@PySem.builtinLookup_eq_fast
abbrev Ao:=@List.pairwise_map
abbrev Ax:=@List.getElem?_append_right
abbrev Ay:=@Bool.or_eq_false_iff
abbrev AK:=@PySem.codeAny_mono
abbrev AL:=@List.map_map
abbrev AM:=@List.lookup_cons
abbrev AN:=@List.drop_length
abbrev AU:=@List.getElem?_range
abbrev AV:=@Int.toNat_of_nonneg
abbrev Bd:=@PySem.wpAny_standAt
abbrev Be:=@List.any_cons
abbrev Bl:=@PySem.wpAny_specialOf
abbrev Bm:=@if_true
abbrev Bn:=@List.forIn_cons
abbrev Bw:=@PySem.wpAny_call
abbrev Bx:=@PySem.tupleKind_room_in1
abbrev By:=@decide_eq_true_iff
abbrev Bz:=@PySem.call_meets
abbrev BA:=@List.zip_cons_cons
abbrev BB:=@Bool.false_eq_true
abbrev BS:=@PySem.wpAny_pyNext_list_item
abbrev BT:=@PySem.wpAny_pyIter_enum
abbrev BU:=@PySem.wpAny_loadPart_at
abbrev BW:=@PySem.W.looks_findIn
abbrev BX:=@PySem.isSubtype_type
abbrev BY:=@PySem.Obj.cls_mapFields
abbrev BZ:=@Nat.le_of_lt
abbrev CA:=@List.getElem?_set_self
abbrev CB:=@List.drop_zero
abbrev CF:=@PySem.plainObj_wpAny_Assign_Attribute
abbrev CG:=@PyProof.Rows.slot_tuple_getitem
abbrev CI:=@PySem.wpAny_pyNext_list_end
abbrev CJ:=@List.getElem?_reverse
abbrev Da:=@PySem.wpAny_isInstance
abbrev Db:=@Nat.min_eq_right
abbrev Dc:=@Nat.lt_succ_self
abbrev Dd:=@List.not_mem_nil
abbrev De:=@List.all_eq_true
abbrev Df:=@Array.toList_zip
abbrev Dh:=@Array.toList_map
abbrev Dw:=@PySem.wpAny_updateSeq_pair
abbrev Dx:=@PySem.codeAny_call_builtin
abbrev Dy:=@PySem.Paired.snoc
abbrev Dz:=@List.take_append_of_le_length
abbrev DA:=@List.getElem?_set_ne
abbrev DB:=@PySem.Heap.get?_push_cases
abbrev DC:=@PySem.Around.under_plainId
abbrev DR:=@PySem.typeLookup_type
abbrev DS:=@Option.map_some
abbrev DT:=@Nat.not_lt_zero
abbrev DU:=@Nat.min_le_left
abbrev DV:=@List.nodup_cons
abbrev DW:=@List.length_nil
abbrev DX:=@List.foldl_cons
abbrev DY:=@PySem.F.slot_zip_next
abbrev Ed:=@PySem.W.plainGet_of
abbrev Ee:=@List.length_reverse
abbrev Ef:=@List.filterMap_cons
abbrev El:=@Nat.sub_self
abbrev Em:=@Nat.lt_trans
abbrev EG:=@PySem.wpAny_rule
abbrev EH:=@PySem.wpAny_loadPart
abbrev EI:=@List.perm_append_singleton
abbrev EL:=@List.getElem?_append_left
abbrev EM:=@Decidable.byContradiction
abbrev Fb:=@PySem.Within.cons
abbrev Fc:=@PySem.W.kitx_list
abbrev Fd:=@Option.isSome_map
abbrev Fe:=@List.length_range
abbrev Fp:=@PySem.wpAny_onRaise
abbrev Fq:=@PySem.F.type_list_extend
abbrev Fs:=@PySem.F.slot_list_extend
abbrev Ft:=@PySem.F.args_tuple_add_2
abbrev Fu:=@PySem.Paired.length
abbrev Fv:=@List.mem_cons
abbrev Fw:=@List.all_cons
abbrev FV:=@PySem.wpAny_lookBehind
abbrev FW:=@PySem.pastItsLine_dict
abbrev FX:=@if_false
abbrev FY:=@decide_eq_false_iff_not
abbrev FZ:=@PySem.F.entry_tuple_add
abbrev Ga:=@PyProof.Rows.intBits_le
abbrev Gb:=@Option.bind_some
abbrev Gc:=@Nat.succ_le_succ
abbrev Gd:=@Nat.add_sub_cancel_left
abbrev Ge:=@List.getElem?_replicate
abbrev Gf:=@PyProof.Rows.IsTup.new
abbrev uT:=Sum Int Str
def Nc:uT->Value->Bool
 | .inl k,v=>Value.isInt k v
 | .inr x,v=>Value.isStrOf x v
def zHw (w:World):uT->Int
 | .inl k=>hashInt k
 | .inr x=>hashStr w x
theorem vR: ∀{k:uT} {v:Value},Nc k v=true->(∃i t,k=Sum.inl i/\v=Value.int i t)\/(∃x t,k=Sum.inr x/\v=Value.str x t)
 | .inl i,v,h=>by
  obtain⟨t,e⟩:=Value.isInt_shape (k:=i) (v:=v) h;exact .inl ⟨i,t,rfl,e⟩
 | .inr x,v,h=>by
  obtain⟨t,e⟩:=Value.isStrOf_shape (x:=x) (v:=v) h;exact .inr ⟨x,t,rfl,e⟩
theorem Uw (i:Int)(t:Tok):Nc (.inl i) (.int i t)=true:=by simp[Nc,Value.isInt]
theorem Uv (x:Str)(t:Tok):Nc (.inr x) (.str x t)=true:=by simp[Nc,Value.isStrOf]
theorem zBo (a b:Int):decide ((Sum.inl a:uT)=Sum.inl b)=(a==b):=by
 by_cases e:a=b
 ·subst e;simp
 ·have h: ¬(Sum.inl a:uT)=Sum.inl b:=λq=>e (Sum.inl.inj q);rw[jH h];exact(beq_eq_false_iff_ne.mpr e).symm
theorem zBl (a b:Str):decide ((Sum.inr a:uT)=Sum.inr b)=decide (a=b):=by
 by_cases e:a=b
 ·subst e;simp
 ·have h: ¬(Sum.inr a:uT)=Sum.inr b:=λq=>e (Sum.inr.inj q);rw[jH h,jH e]
theorem zBn (a:Int)(b:Str):decide ((Sum.inl a:uT)=Sum.inr b)=false:=jH (λq=>nomatch q)
theorem zBm (a:Str)(b:Int):decide ((Sum.inr a:uT)=Sum.inl b)=false:=jH (λq=>nomatch q)
def wI (prog:Program)(w:World):PySem.KeyKind prog w uT where
 is:=Nc
 hash:=zHw w
 inj:=λv a b ha hb=>by
  rcases vR ha with⟨i,t,rfl,rfl⟩|⟨x,t,rfl,rfl⟩
  ·rcases vR hb with⟨j,u,rfl,e⟩|⟨y,u,rfl,e⟩
   ·injection e with e1 _;rw[e1]
   ·exact nomatch e
  ·rcases vR hb with⟨j,u,rfl,e⟩|⟨y,u,rfl,e⟩
   ·exact nomatch e
   ·injection e with e1 _;rw[e1]
 byValue:=λk v h=>by
  rcases vR h with⟨i,t,rfl,rfl⟩|⟨x,t,rfl,rfl⟩<;>rfl
 pyHash:=λhv h=>by
  rcases vR hv with⟨i,t,rfl,rfl⟩|⟨x,t,rfl,rfl⟩
  ·exact wpAny_pyHash_int h
  ·exact wpAny_pyHash_str h
 eqBool:=λhu hv h=>by
  rcases vR hu with⟨i,t,rfl,rfl⟩|⟨x,t,rfl,rfl⟩
  ·rcases vR hv with⟨j,u,rfl,rfl⟩|⟨y,u,rfl,rfl⟩
   ·rw[zBo]at h;exact wpAny_eqBool_int h
   ·rw[zBn]at h;exact SeqAt.EqAt.int_str i t y u _ _ _ _ h
  ·rcases vR hv with⟨j,u,rfl,rfl⟩|⟨y,u,rfl,rfl⟩
   ·rw[zBm]at h;exact SeqAt.EqAt.str_int x t j u _ _ _ _ h
   ·rw[zBl]at h;exact wpAny_eqBool_str h
 «strs»:=λk x t v h=>by
  rcases vR h with⟨i,u,rfl,e⟩|⟨y,u,rfl,e⟩
  ·exact nomatch e
  ·injection e with e1 _
   subst e1;cases v<;>rfl
theorem Qf (prog:Program)(w:World)(i:Int)(t:Tok):(wI prog w).is (.inl i) (.int i t)=true:=Uw i t
theorem Qe (prog:Program)(w:World)(x:Str)(t:Tok):(wI prog w).is (.inr x) (.str x t)=true:=Uv x t
inductive V where
 |non|bl (b:Bool)|int (i:Int)|str (x:Str)|byt (b:Array UInt8)|flt (b:UInt64)|ref (a:Addr)|ty (n:String)
 deriving DecidableEq
def kI:V->Value->Prop
 | .non,u=>u=Value.none
 | .bl b,u=>u=Value.bool b
 | .int i,u=> ∃t,u=Value.int i t
 | .str x,u=> ∃t,u=Value.str x t
 | .byt b,u=> ∃t,u=Value.bytes b t
 | .flt b,u=> ∃t,u=Value.float b t
 | .ref a,u=>u=Value.ref a
 | .ty n,u=>u=Value.type n
abbrev jK:List V->List Value->Prop:=Paired kI
theorem jK.length {xs:List V}{us:List Value}(r:jK xs us):xs.length=us.length:=Fu r
theorem jK.get: ∀{xs:List V} {us:List Value} {i:Nat} {x:V},jK xs us->xs[i]? =some x-> ∃u,us[i]? =some u/\kI x u
 |_,_,_,_,.nil,e=>by simp at e
 |_,_,0,_,.cons r _,e=>by simp at e;subst e;exact⟨_,rfl,r⟩
 |_,_,i+1,x,.cons _ t,e=>by
  obtain⟨u,h1,h2⟩:=jK.get (i:=i) (x:=x) t (by simpa using e);exact⟨u,by simpa using h1,h2⟩
theorem jK.set {x:V}{u:Value}(r:kI x u): ∀{xs:List V} {us:List Value} (i:Nat),jK xs us->jK (xs.set i x) (us.set i u)
 |_,_,_,.nil=>.nil
 |_,_,0,.cons _ t=>.cons r t
 |_,_,i+1,.cons q t=>.cons q (jK.set r i t)
theorem jK.append: ∀{xs ys:List V} {us ws:List Value},jK xs us->jK ys ws->jK (xs++ys) (us++ws)
 |_,_,_,_,.nil,s=>s
 |_,_,_,_,.cons r t,s=>.cons r (jK.append t s)
theorem jK.take: ∀{xs:List V} {us:List Value} (n:Nat),jK xs us->jK (xs.take n) (us.take n)
 |_,_,0,_=>.nil
 |_,_,_+1,.nil=>.nil
 |_,_,n+1,.cons r t=>.cons r (jK.take n t)
theorem jK.drop: ∀{xs:List V} {us:List Value} (n:Nat),jK xs us->jK (xs.drop n) (us.drop n)
 |_,_,0,r=>r
 |_,_,_+1,.nil=>.nil
 |_,_,n+1,.cons _ t=>jK.drop n t
def EK:Option V->Option Value->Prop
 |some v,some u=>kI v u
 |none,none=>True
 |_,_=>False
def KV {κ:Type}:List (κ×V)->List (κ×Value)->Prop:=Paired fun(p:κ×V) (q:κ×Value)=>p.1=q.1/\kI p.2 q.2
def kV:uT->V
 | .inl i=>.int i
 | .inr x=>.str x
inductive HO where
 |lst (xs:List V)
 |tup (xs:List V)
 |dK (kvs:List (uT×V))|dT (kvs:List (List uT×V))
 |set (S:Int->Bool) (n:Nat)
 |ins (C dx:Addr) (fs:List (Str×V))
 |own (x:Addr)
 |xd (fs:List (Str×V))
 |met (f x:Addr)
 |rng (lo hi:Int)
 |frz (o:Obj) (u:HO)
 |tbl (ps:Array Value)
 |ext (φ:Heap->Prop)
abbrev Hp:=Addr->Option HO
def upd (H:Hp)(a:Addr)(o:HO):Hp:=λb=>if b=a then some o else H b
theorem zH {H:Hp}{a:Addr}{o:HO}:upd H a o a=some o:=by unfold upd;rw[zQ rfl]
theorem zW {H:Hp}{a b:Addr}{o:HO}(h:b≠a):upd H a o b=H b:=by unfold upd;rw[zN h]
theorem Kw {H:Hp}{a:Addr}{o u:HO}:upd (upd H a o) a u=upd H a u:=by
 funext b;unfold upd;split<;>rfl
theorem zEa {H:Hp}{a b:Addr}{o u:HO}(h:H a=some o)(h':H b=some u)(d:o≠u):a≠b:=by
 intro e;subst e;rw[h]at h';exact d (xU h')
theorem zZ {H:Hp}{a b:Addr}{o:HO}(h:H a=some o)(h':H b=none):a≠b:=by
 intro e;subst e;rw[h]at h';cases h'
section
variable (P:Program)(w:World)
def qR (H:Hp)(h:Heap)(a:Addr):HO->Prop
 | .lst xs=>xs.length<=sizeLine/\ ∃(its:List Value) (n:Nat),jK xs its/\h.get? a=some {cls:=.type "list",data:=.seq its.toArray n}
 | .tup xs=>xs.length<=sizeLine/\ ∃its:List Value,jK xs its/\IsTup h a its.toArray
 | .dK kvs=>kvs.length<=sizeLine/\(a==sysModules)=false/\ ∃vs,KV kvs vs/\h.DictOf (wI P w) a vs
 | .dT kvs=>kvs.length<=sizeLine/\(a==sysModules)=false/\ ∃xs:List (List uT×Addr×Value),
   Paired (fun(p:List uT×V) (q:List uT×Addr×Value)=>p.1=q.1/\H q.2.1=some (.tup (p.1.map kV))/\kI p.2 q.2.2) kvs xs/\
   ∃o es ep,h.get? a=some o/\o.ExactDict/\o.data=.dict es ep/\es.toList=xs.map (entryOfKey (tupleKind (wI P w)))/\(xs.map (·.1)).Nodup
 | .set S n=>h.SetOf (intKind P w) a S n
 | .ins C dx fs=>H dx=some (.own a)/\fs.length<=1000/\dx≠a/\h.get? a=some (PySem.W.instObj C dx)/\
   ∃mA,h.Ns1 dx mA/\(∀f,EK (fs.lookup f) (mA f))/\PySem.Within mA (fs.map (·.1))
 | .own _=> ∃o,h.get? a=some o
 | .xd fs=> ∃mA,h.Ns1 a mA/\ ∀f,EK (fs.lookup f) (mA f)
 | .rng lo hi=> ∃t u v,h.get? a=some {cls:=.type "range",data:=.fields #[.int lo t,.int hi u,.int 1 v]}
 | .frz o u=>h.get? a=some o/\qR H h a u
 | .tbl ps=>h.get? a=some {cls:=.none,data:=.fields ps}
 | .met f x=>h.get? a=some (PySem.W.methodObj (.ref f) (.ref x))
 | .ext φ=>φ h/\(∃o,h.get? a=some o)/\ ∀h1 h2:Heap,φ h1->(∀o,h1.get? a=some o->h2.get? a=some o)->φ h2
def HL (H:Hp)(h:Heap):Prop:= ∀a o,H a=some o->qR P w H h a o
end
section
variable {P:Program}{w:World}{H H':Hp}{h h':Heap}{a:Addr}{o:HO}
theorem qR.lt (x:qR P w H h a o):a<h.objs.size:=by
 cases o with
 |lst xs=>obtain⟨_,_,_,_,e⟩:=x;exact zS e
 |tup xs=>obtain⟨_,_,_,p⟩:=x;exact p.lt
 |dK kvs=>obtain⟨_,_,_,_,o,_,_,e,_⟩:=x;exact zS e
 |dT kvs=>obtain⟨_,_,_,_,o,_,_,e,_⟩:=x;exact zS e
 |set S n=>obtain⟨o,_,_,_,e,_⟩:=x;exact zS e
 |ins C dx fs=>obtain⟨_,_,_,e,_⟩:=x;exact zS e
 |own y=>obtain⟨_,e⟩:=x;exact zS e
 |xd fs=>obtain⟨_,⟨_,_,_,e,_⟩,_⟩:=x;exact zS e
 |rng lo hi=>obtain⟨_,_,_,e⟩:=x;exact zS e
 |frz ob u=>obtain⟨e,_⟩:=x;exact zS e
 |tbl ps=>exact zS (show h.get? a=some _ from x)
 |met f y=>exact zS (show h.get? a=some _ from x)
 |ext φ=>obtain⟨_,⟨_,e⟩,_⟩:=x;exact zS e
theorem Paired.mapP {α β:Type}{F G:α->β->Prop}: ∀{l₁:List α} {l₂:List β},Paired F l₁ l₂->(∀a b,F a b->G a b)->Paired G l₁ l₂
 |_,_,.nil,_=>.nil
 |_,_,.cons r t,f=>.cons (f _ _ r) (Paired.mapP t f)
theorem qR.stay (x:qR P w H h a o)(k: ∀b u,(b=a\/H b=some (.own a))->h.get? b=some u->h'.get? b=some u)
  (ho: ∀b,H b=some (.own a)->H' b=some (.own a)) (ht: ∀b xs,H b=some (.tup xs)->H' b=some (.tup xs)):qR P w H' h' a o:=by
 induction o with
 |lst xs=>obtain⟨z,its,n,r,e⟩:=x;exact⟨z,its,n,r,k _ _ (.inl rfl) e⟩
 |tup xs=>obtain⟨z,its,r,ob,e,c⟩:=x;exact⟨z,its,r,ob,k _ _ (.inl rfl) e,c⟩
 |dK kvs=>obtain⟨z,y,vs,r,ob,es,ep,e,c⟩:=x;exact⟨z,y,vs,r,ob,es,ep,k _ _ (.inl rfl) e,c⟩
 |dT kvs=>
  obtain⟨z,y,xs,r,ob,es,ep,e,c⟩:=x;exact⟨z,y,xs,Paired.mapP r λp q z=>⟨z.1,ht _ _ z.2.1,z.2.2⟩,ob,es,ep,k _ _ (.inl rfl) e,c⟩
 |set S n=>obtain⟨ob,es,ep,t,e,c⟩:=x;exact⟨ob,es,ep,t,k _ _ (.inl rfl) e,c⟩
 |ins C dx fs=>
  obtain⟨d,z,ne,e,mA,⟨od,es,ep,e2,c⟩,r⟩:=x;exact⟨ho _ d,z,ne,k _ _ (.inl rfl) e,mA,⟨od,es,ep,k _ _ (.inr d) e2,c⟩,r⟩
 |own y=>obtain⟨ob,e⟩:=x;exact⟨ob,k _ _ (.inl rfl) e⟩
 |xd fs=>obtain⟨mA,⟨od,es,ep,e,c⟩,r⟩:=x;exact⟨mA,⟨od,es,ep,k _ _ (.inl rfl) e,c⟩,r⟩
 |rng lo hi=>obtain⟨t,u,v,e⟩:=x;exact⟨t,u,v,k _ _ (.inl rfl) e⟩
 |frz ob u ih=>obtain⟨e,q⟩:=x;exact⟨k _ _ (.inl rfl) e,ih q⟩
 |tbl ps=>
  have e:h.get? a=some {cls:=.none,data:=.fields ps}:=x;show h'.get? a=some {cls:=.none,data:=.fields ps};exact k a _ (.inl rfl) e
 |met f y=>
  have e:h.get? a=some (PySem.W.methodObj (.ref f) (.ref y)):=x;show h'.get? a=some (PySem.W.methodObj (.ref f) (.ref y));exact k a _ (.inl rfl) e
 |ext φ=>obtain⟨p,⟨o,e⟩,st⟩:=x;exact⟨st _ _ p λo q=>k _ _ (.inl rfl) q,⟨o,k _ _ (.inl rfl) e⟩,st⟩
theorem HL.lt (x:HL P w H h)(e:H a=some o):a<h.objs.size:=(x a o e).lt
theorem HL.fresh (x:HL P w H h)(e:h.objs.size<=a):H a=none:=by
 cases q:H a with
 |none=>rfl
 |some u=>exact absurd (yJ (x.lt q) e) (jS _)
theorem HL.kept (x:HL P w H h)(k: ∀b u,h.get? b=some u->h'.get? b=some u):HL P w H h':=λa o e=>
 (x a o e).stay (λb u _ q=>k b u q) (λ_ q=>q) λ_ _ q=>q
theorem HL.laid (x:HL P w H h)(k: ∀b u,h.get? b=some u->h'.get? b=some u)(hp:h.objs.size<=a)(new:qR P w (upd H a o) h' a o):HL P w (upd H a o) h':=λb u e=>by
 have hn:=x.fresh hp
 by_cases hb:b=a
 ·subst hb;rw[zH]at e;cases e;exact new
 ·rw[zW hb]at e;exact(x b u e).stay (λc v _ q=>k c v q) (λc q=>by rw[zW (zZ q hn)];exact q) λc xs q=>by rw[zW (zZ q hn)];exact q
end
def Rd (H:Hp)(a:Addr)(u:HO):Prop:=H a=some u\/ ∃o,H a=some (.frz o u)
theorem Rd.ok {P:Program}{w:World}{H:Hp}{h:Heap}{a:Addr}{u:HO}(r:Rd H a u)(x:HL P w H h):qR P w H h a u:=by
 rcases r with r|⟨o,r⟩
 ·exact x a u r
 ·obtain⟨_,q⟩:=x a _ r;exact q
def Mut:Option HO->Prop
 |some (.lst _)=>True
 |some (.dK _)=>True
 |some (.dT _)=>True
 |some (.set _ _)=>True
 |some (.ins _ _ _)=>True
 |some (.ext _)=>True
 |_=>False
section
variable {P:Program}{w:World}{H:Hp}{h h':Heap}{x e:Addr}{o':HO}
theorem HL.write (ok:HL P w H h)(mu:Mut (H x))(he:e=x\/H e=some (.own x))(k: ∀b u,b≠e->h.get? b=some u->h'.get? b=some u)(heo: ∃u,h'.get? e=some u)
  (new:qR P w (upd H x o') h' x o'):HL P w (upd H x o') h':=λb u q=>by
 have nown: ∀c y,H c=some (.own y)->c≠x:=λc y r z=>by subst z;rw[r]at mu;exact mu
 have ntup: ∀c xs,H c=some (.tup xs)->c≠x:=λc xs r z=>by subst z;rw[r]at mu;exact mu
 by_cases hb:b=x
 ·subst hb;rw[zH]at q;cases q;exact new
 ·rw[zW hb]at q
  by_cases hbe:b=e
  ·have q':H b=some (.own x):=by
    rcases he with z|z
    ·exact absurd (hbe.trans z) hb
    ·rw[hbe];exact z
   rw[q]at q';cases q';obtain⟨v,hv⟩:=heo;exact⟨v,by rw[hbe];exact hv⟩
  ·refine(ok b u q).stay (λc v hc r=>k c v ?_ r) (λc r=>by rw[zW (nown c b r)];exact r) λc xs r=>by rw[zW (ntup c xs r)];exact r
   rcases hc with rfl|hc
   ·exact hbe
   ·rintro rfl
    rcases he with z|z
    ·exact nown c b hc z
    ·rw[hc]at z;cases z;exact hb rfl
end
structure Un (fs ex:List Addr)(H H':Hp)(h h':Heap):Prop where
 keep: ∀b o,h.get? b=some o->H b=none->b∉fs->b∉ex->h'.get? b=some o
 slot: ∀b o,h.get? b=some o->H b=none->b∈fs->b∉ex-> ∃sl,h'.get? b=some {o with slots:=sl}
 free: ∀b o,h.get? b=some o->H b=none->b∉ex->H' b=none
 there: ∀b o,h.get? b=some o->b∉ex-> ∃o',h'.get? b=some o'
 tups: ∀b xs,H b=some (.tup xs)->H' b=some (.tup xs)
 frzs: ∀b o u,H b=some (.frz o u)->H' b=some (.frz o u)
 tbls: ∀b ps,H b=some (.tbl ps)-> ∃more,H' b=some (.tbl (ps++more))
section
variable {fs fs' ex ex':List Addr}{H H1 H2:Hp}{h h1 h2 h':Heap}{a x e:Addr}{o:HO}
theorem Un.any (u:Un fs ex H H1 h h1){b:Addr}{ob:Obj}(q:h.get? b=some ob)(n:H b=none)(hx:b∉ex): ∃sl,h1.get? b=some {ob with slots:=sl}:=by
 by_cases hb:b∈fs
 ·exact u.slot b ob q n hb hx
 ·exact⟨ob.slots,u.keep b ob q n hb hx⟩
theorem Un.kept (k: ∀b u,h.get? b=some u->h'.get? b=some u):Un fs ex H H h h':=
 ⟨λb ob q _ _ _=>k b ob q,λb ob q _ _ _=>⟨ob.slots,k b ob q⟩,λ_ _ _ n _=>n,λb ob q _=>⟨ob,k b ob q⟩,λ_ _ q=>q,λ_ _ _ q=>q,λ_ ps q=>⟨#[],by rw[q];simp⟩⟩
theorem Un.refl:Un fs ex H H h h:=Un.kept λ_ _ q=>q
theorem Un.laid (k: ∀b u,h.get? b=some u->h'.get? b=some u)(hp:h.objs.size<=a)(hn:H a=none):Un fs ex H (upd H a o) h h' where
 keep:=λb u q _ _ _=>k b u q
 slot:=λb u q _ _ _=>⟨u.slots,k b u q⟩
 free:=λb u q n _=>by rw[zW (xA (yJ (zS q) hp))];exact n
 there:=λb u q _=>⟨u,k b u q⟩
 tups:=λb xs q=>by rw[zW (zZ q hn)];exact q
 frzs:=λb u xs q=>by rw[zW (zZ q hn)];exact q
 tbls:=λb ps q=>⟨#[],by rw[zW (zZ q hn),q];simp⟩
theorem Un.write (mu:Mut (H x))(he:e=x\/H e=some (.own x))(k: ∀b u,b≠e->h.get? b=some u->h'.get? b=some u)(heo: ∃u,h'.get? e=some u):Un fs ex H (upd H x o) h h':=by
 have hx: ∀b,H b=none->b≠x:=λb n z=>by subst z;rw[n]at mu;exact mu
 have hb: ∀b,H b=none->b≠e:=λb n z=>by
  subst z
  rcases he with r|r
  ·exact hx b n r
  ·rw[n]at r;cases r
 have hm: ∀b u,H b=some u-> ¬Mut (some u)->b≠x:=λb u q nm z=>by subst z;rw[q]at mu;exact nm mu
 refine⟨λb u q n _ _=>k b u (hb b n) q,λb u q n _ _=>⟨u.slots,k b u (hb b n) q⟩,λb u q n _=>by rw[zW (hx b n)];exact n,λb u q _=>?_,
  λb xs q=>by rw[zW (hm b _ q λz=>z)];exact q,λb u xs q=>by rw[zW (hm b _ q λz=>z)];exact q,λb ps q=>⟨#[],by rw[zW (hm b _ q λz=>z),q];simp⟩⟩
 by_cases hbe:b=e
 ·subst hbe;exact heo
 ·exact⟨u,k b u hbe q⟩
end
def trk (h:Heap)(H:Hp):List Addr:=(List.range h.objs.size).filter λa=>(H a).isSome
def OI (h:Heap)(H:Hp):Heap:=PySem.W.hideAll h (trk h H)
theorem Uz (h:Heap)(H:Hp):(OI h H).objs.size =h.objs.size:=PySem.W.hideAll_size _ _
theorem WS {h:Heap}{H:Hp}{b:Addr}{o:Obj}(e:h.get? b=some o)(n:H b=none):(OI h H).get? b=some o:=
 PySem.W.hideAll_get _ e λhm=>by
  have q:(H b).isSome =true:=(List.mem_filter.mp hm).2;rw[n]at q;simp at q
theorem Yu {h:Heap}{H:Hp}{b:Addr}{o:Obj}(e:(OI h H).get? b=some o):h.get? b=some o/\H b=none:=by
 have e':h.get? b=some o:=PySem.W.of_hideAll (trk h H) e;refine⟨e',?_⟩;cases q:H b with
 |none=>rfl
 |some x=>
  have hm:b∈trk h H:=List.mem_filter.mpr ⟨List.mem_range.mpr (zS e'),by simp[q]⟩;have z:(OI h H).get? b=none:=PySem.W.hideAll_none (trk h H) hm;rw[z]at e;cases e
def YW (g h:Heap)(L:Addr):List (Addr×Obj):=(List.range h.objs.size).filterMap λa=>if a=L\/(g.get? a).isSome =true then none else(h.get? a).map λo=>(a,o)
def rest (g h:Heap)(L d:Addr):List (Addr×Obj):=(YW g h L).filter λp=>decide (p.1≠d)
structure Mod (K:PySem.W.Frag)(mg:Str->Option Value)(base:Heap):Prop where
 kin:K.In base
 glob:base.Ns mainGlobals mg
 blt: ∃mb,base.Ns builtinsNs mb/\ ∀x:Str,x≠"__name__"->mb x=bootBuiltins x
 nolimit:base.NoLimit
structure Cx where
 prog:Program
 w:World
 K:PySem.W.Frag
 mg:Str->Option Value
 base:Heap
 A:Around
 N:List Str
 s₀:Shared
 H₀:Hp
 env:Env
 outer:List Env
 stack:List Env
 ex:List Addr
 fn:Str->Bool
 calm:Bool
 pn:List (Addr×Obj)
 xe:Value->Shared->Prop
def frs (l:List Env):List Addr:=l.filterMap (·.frame)
abbrev Cx.fs (X:Cx):List Addr:=frs X.outer
def Vis (sc:Scope)(x:Str):Prop:=sc.names.lookup x=some .local\/sc.names.lookup x=some .cell\/sc.names.lookup x=some .free
def Loc (sc:Scope)(x:Str):Prop:=sc.names.lookup x=some .local\/sc.names.lookup x=some .cell
def zIk (env:Env)(h:Heap)(m:Str->Option Value)(x:Str)(u:Value):Prop:=
 (env.kindOf x=some .local/\m x=some u)\/((env.kindOf x=some .cell\/env.kindOf x=some .free)/\ ∃c,env.cells.lookup x=some c/\h.IsCell c (some u))
structure Cx.Ok (X:Cx):Prop where
 mod:Mod X.K X.mg X.base
 kind:X.env.scope.kind=.function
 glob:X.env.globals=mainGlobals
 blt:X.env.builtins=builtinsNs
 above:X.s₀.heap.objs.size<=X.env.locals
 inj: ∀x y c,X.env.cells.lookup x=some c->X.env.cells.lookup y=some c->x=y
 has: ∀x,(X.env.kindOf x=some .cell\/X.env.kindOf x=some .free)-> ∃c,X.env.cells.lookup x=some c
 cab: ∀x c,X.fn x=true->X.env.cells.lookup x=some c->X.s₀.heap.objs.size<=c
 hd:X.calm=true->X.A.handled=none
 frames:X.A.frames=some X.stack
 stk:X.stack=X.outer\/(X.stack=X.env::X.outer/\X.env.frame=some X.env.locals)
 exf: ∀b∈X.ex,b≠X.env.locals/\ ∀x c,X.env.cells.lookup x=some c->c≠b
 bs: ∀b o,X.base.get? b=some o->X.s₀.heap.get? b=some o/\X.H₀ b=none
 bsz:X.base.objs.size<=X.s₀.heap.objs.size
 noex: ∀b o,X.base.get? b=some o->b∉X.ex
 exfs: ∀b∈X.ex,b∉X.fs
 funs:X.s₀.heap.FunFrames X.base X.outer
 frf: ∀b∈X.fs,X.H₀ b=none
structure xK (X:Cx)(pins:List (Addr×Obj))(σ:List (Option V))(H:Hp)(s:Shared):Prop where
 ok:X.Ok
 os:s.os=X.s₀.os
 bare:AllBare s.gens
 base:Un X.fs X.ex X.H₀ H X.s₀.heap s.heap
 loc: ∃m,s.heap.Ns X.env.locals m/\ ∀(i:Nat) (x:Str) (v:V),X.N[i]? =some x->σ[i]? =some (some v)->Vis X.env.scope x-> ∃u,kI v u/\zIk X.env s.heap m x u
 cell: ∀x c,X.env.cells.lookup x=some c-> ∃v,s.heap.IsCell c v
 free:H X.env.locals=none
 freeC: ∀x c,X.env.cells.lookup x=some c->H c=none
 pin: ∀p∈X.pn++pins,s.heap.get? p.1=some p.2/\H p.1=none/\p.1≠X.env.locals/\p.1∉X.fs/\ ∀v,p.2.data≠ .cell v
 hok:HL X.prog X.w H s.heap
 len:σ.length=X.N.length
section
variable {X:Cx}{pins:List (Addr×Obj)}{σ:List (Option V)}{H H':Hp}{s:Shared}{h':Heap}
theorem Cx.Ok.nofr (ok:X.Ok){b:Addr}{o:Obj}(e:X.base.get? b=some o):b∉X.fs:=λhb=>by
 have:=(ok.funs.mem hb).1;rw[e]at this;cases this
theorem xK.bs (I:xK X pins σ H s): ∀b o,X.base.get? b=some o->s.heap.get? b=some o/\H b=none:=λb o e=>
 ⟨I.base.keep b o (I.ok.bs b o e).1 (I.ok.bs b o e).2 (I.ok.nofr e) (I.ok.noex b o e),I.base.free b o (I.ok.bs b o e).1 (I.ok.bs b o e).2 (I.ok.noex b o e)⟩
theorem xK.bk (I:xK X pins σ H s): ∀b o,X.base.get? b=some o->s.heap.get? b=some o:=λb o e=>(I.bs b o e).1
theorem xK.mod (I:xK X pins σ H s):Mod X.K X.mg X.base:=I.ok.mod
theorem xK.kIn (I:xK X pins σ H s):X.K.In s.heap:=I.ok.mod.kin.keeps I.bk
theorem xK.lt (I:xK X pins σ H s):X.env.locals<s.heap.objs.size:=let⟨_,hn,_⟩:=I.loc;hn.lt
theorem xK.sz (I:xK X pins σ H s):X.s₀.heap.objs.size<=s.heap.objs.size:=yO I.ok.above (BZ I.lt)
theorem xK.nofs (I:xK X pins σ H s){a:Addr}(h:s.heap.objs.size<=a):a∉X.fs:=λhb=>by
 obtain⟨_,o,ho,_⟩:=I.ok.funs.mem hb;exact absurd (yJ (zS ho) (yO I.sz h)) (jS _)
theorem xK.cne (I:xK X pins σ H s): ∀x c,X.env.cells.lookup x=some c->c≠X.env.locals:=λx c e z=>by
 obtain⟨v,o,ho,hd⟩:=I.cell x c e;obtain⟨m,⟨o',es,ep,ho',hd',_⟩,_⟩:=I.loc;rw[z,ho']at ho;cases ho;rw[hd']at hd;cases hd
theorem xK.funs (I:xK X pins σ H s):s.heap.FunFrames X.base X.outer:=by
 have all: ∀(l:List Env),(∀b∈frs l,b∈X.fs)->X.s₀.heap.FunFrames X.base l->s.heap.FunFrames X.base l:=by
  intro l
  induction l with
  |nil=>intro _ _;trivial
  |cons env r ih=>
   intro hs hl;obtain⟨hk,⟨L,o,hf,hn,ho,hd⟩,hr⟩:=hl;have hL:L∈X.fs:=hs L (by unfold frs;rw[Ef,hf];exact yT);obtain⟨sl,e⟩:=I.base.slot L o ho (I.ok.frf L hL) hL λz=>I.ok.exfs L z hL;exact⟨hk,⟨L,_,hf,hn,e,hd⟩,ih (λb hb=>hs b (by unfold frs;rw[Ef,hf];exact yW _ hb)) hr⟩
 exact all X.outer (λ_ hb=>hb) I.ok.funs
theorem xK.stack (I:xK X pins σ H s):s.heap.FunFrames X.base X.stack:=by
 rcases I.ok.stk with e|⟨e,hf⟩
 ·rw[e];exact I.funs
 ·rw[e];obtain⟨m,hn,_⟩:=I.loc;refine .cons (by rw[I.ok.kind];decide) hf hn ?_ I.funs;exact Heap.get?_none_of_le (yO I.ok.bsz I.ok.above)
theorem xK.stkSub (I:xK X pins σ H s): ∀b∈frs X.stack,b∈X.env.locals::X.fs:=λb hb=>by
 rcases I.ok.stk with e|⟨e,hf⟩
 ·rw[e]at hb;exact yW _ hb
 ·rw[e]at hb;unfold frs at hb;rw[Ef,hf]at hb;exact hb
theorem xK.stkFree (I:xK X pins σ H s): ∀b∈frs X.stack,H b=none:=λb hb=>by
 rcases List.mem_cons.mp (I.stkSub b hb)with e|hb
 ·rw[e];exact I.free
 ·obtain⟨_,o,ho,_⟩:=I.ok.funs.mem hb;exact I.base.free b o ho (I.ok.frf b hb) λz=>I.ok.exfs b z hb
theorem xK.step {g':Array GenState}{t':Nat}{d':Drawn}{ch:List Addr}(I:xK X pins σ H s)
  (hch: ∀b∈ch,(b∈X.ex\/X.s₀.heap.objs.size<=b)/\b≠X.env.locals/\(∀x c,X.env.cells.lookup x=some c->c≠b)/\ ∀p∈X.pn++pins,p.1≠b)
  (keep: ∀b o,b≠X.env.locals->b∉X.fs->b∉ch->s.heap.get? b=some o->H b=none->h'.get? b=some o)
  (slot: ∀b o,b≠X.env.locals->b∈X.fs->b∉ch->s.heap.get? b=some o->H b=none-> ∃sl,h'.get? b=some {o with slots:=sl}) (free: ∀b o,b∉ch->s.heap.get? b=some o->H b=none->H' b=none)
  (there: ∀b o,b∉ch->s.heap.get? b=some o-> ∃o',h'.get? b=some o')
  (tups: ∀b xs,H b=some (.tup xs)->H' b=some (.tup xs)) (frzs: ∀b o u,H b=some (.frz o u)->H' b=some (.frz o u)) (tbls: ∀b ps,H b=some (.tbl ps)-> ∃more,H' b=some (.tbl (ps++more)))
  (ns: ∀m,s.heap.Ns X.env.locals m->h'.Ns X.env.locals m) (hok:HL X.prog X.w H' h') (hg:AllBare g'):
  xK X pins σ H' {s with heap:=h',gens:=g',drawn:=d',toks:=t'}:=by
 have neL: ∀b o,X.s₀.heap.get? b=some o->b≠X.env.locals:=λb o e=>xA (yJ (zS e) I.ok.above);have neC: ∀b o,X.s₀.heap.get? b=some o->b∉X.ex->b∉ch:=λb o e hx hb=>by
  rcases(hch b hb).1 with z|z
  ·exact hx z
  ·exact absurd (yJ (zS e) z) (jS _)
 have cellK: ∀x c,X.env.cells.lookup x=some c-> ∀v,s.heap.IsCell c v->h'.IsCell c v:=λx c e v ⟨o,ho,hd⟩=>by
  have nch:c∉ch:=λz=>(hch c z).2.2.1 x c e rfl
  by_cases hc:c∈X.fs
  ·obtain⟨sl,q⟩:=slot c o (I.cne x c e) hc nch ho (I.freeC x c e);exact⟨_,q,hd⟩
  ·exact⟨o,keep c o (I.cne x c e) hc nch ho (I.freeC x c e),hd⟩
 refine⟨I.ok,I.os,hg,⟨λb o e n hb hx=>?_,λb o e n hb hx=>?_,λb o e n hx=>?_,λb o e hx=>?_,λb xs e=>tups b xs (I.base.tups b xs e),λb o xs e=>frzs b o xs (I.base.frzs b o xs e),λb ps e=>?_⟩,?_,λx c e=>?_,?_,λx c e=>?_,λp hp=>?_,hok,I.len⟩
 ·exact keep b o (neL b o e) hb (neC b o e hx) (I.base.keep b o e n hb hx) (I.base.free b o e n hx)
 ·obtain⟨sl,e1⟩:=I.base.slot b o e n hb hx;obtain⟨sl',e2⟩:=slot b _ (neL b o e) hb (neC b o e hx) e1 (I.base.free b o e n hx);exact⟨sl',e2⟩
 ·obtain⟨o',e1⟩:=I.base.there b o e hx;exact free b o' (neC b o e hx) e1 (I.base.free b o e n hx)
 ·obtain⟨o',e1⟩:=I.base.there b o e hx;exact there b o' (neC b o e hx) e1
 ·obtain⟨m1,e1⟩:=I.base.tbls b ps e;obtain⟨m2,e2⟩:=tbls b _ e1;exact⟨m1++m2,by rw[e2,Array.append_assoc]⟩
 ·obtain⟨m,hn,hl⟩:=I.loc;refine⟨m,ns m hn,λi x v e1 e2 e3=>?_⟩;obtain⟨u,r,l⟩:=hl i x v e1 e2 e3;refine⟨u,r,?_⟩
  rcases l with l|⟨k,c,e,z⟩
  ·exact .inl l
  ·exact .inr ⟨k,c,e,cellK x c e _ z⟩
 ·obtain⟨v,z⟩:=I.cell x c e;exact⟨v,cellK x c e v z⟩
 ·obtain⟨m,⟨o,_,_,ho,_⟩,_⟩:=I.loc;exact free _ o (λz=>(hch _ z).2.1 rfl) ho I.free
 ·obtain⟨v,o,ho,hd⟩:=I.cell x c e;exact free c o (λz=>(hch c z).2.2.1 x c e rfl) ho (I.freeC x c e)
 ·obtain⟨e,n,ne,nf,d⟩:=I.pin p hp;have nch:p.1∉ch:=λz=>(hch p.1 z).2.2.2 p hp rfl;exact⟨keep p.1 p.2 ne nf nch e n,free p.1 p.2 nch e n,ne,nf,d⟩
theorem xK.un {t':Nat}(I:xK X pins σ H s)(u:Un X.fs [] H H' s.heap h')(hok:HL X.prog X.w H' h'):xK X pins σ H' {s with heap:=h',toks:=t'}:=by
 obtain⟨m,⟨o,es,ep,ho,r⟩,_⟩:=id I.loc;obtain⟨sl,hL⟩:=u.any ho I.free (by simp);exact I.step (g':=s.gens) (d':=s.drawn) (ch:=[]) (λ_ z=>nomatch z) (λb o _ hb _ e n=>u.keep b o e n hb (by simp)) (λb o _ hb _ e n=>u.slot b o e n hb (by simp)) (λb o _ e n=>u.free b o e n (by simp)) (λb o _ e=>u.there b o e (by simp)) u.tups u.frzs u.tbls (λm' hm=>by
  obtain⟨o',es',ep',ho',r'⟩:=hm;rw[ho]at ho';cases ho';exact⟨_,es',ep',hL,r'⟩) hok I.bare
theorem xK.call {g':Array GenState}{t':Nat}{d':Drawn}{ch:List Addr}(I:xK X pins σ H s)(u:Un (frs X.stack) ch H H' s.heap h')(hok:HL X.prog X.w H' h')(hg:AllBare g')
  (hch: ∀b∈ch,(b∈X.ex\/X.s₀.heap.objs.size<=b)/\b≠X.env.locals/\(∀x c,X.env.cells.lookup x=some c->c≠b)/\ ∀p∈X.pn++pins,p.1≠b):
  xK X pins σ H' {s with heap:=h',gens:=g',drawn:=d',toks:=t'}:=by
 obtain⟨m,⟨o,es,ep,ho,r⟩,_⟩:=id I.loc;obtain⟨sl,hL⟩:=u.any ho I.free λz=>(hch _ z).2.1 rfl;exact I.step (ch:=ch) hch (λb o hL hb hc e n=>u.keep b o e n (λz=>(List.mem_cons.mp (I.stkSub b z)).elim hL hb) hc) (λb o _ _ hc e n=>u.any e n hc) (λb o hc e n=>u.free b o e n hc) (λb o hc e=>u.there b o e hc) u.tups u.frzs u.tbls (λm' hm=>by
  obtain⟨o',es',ep',ho',r'⟩:=hm;rw[ho]at ho';cases ho';exact⟨_,es',ep',hL,r'⟩) hok hg
theorem xK.turned {t':Nat}{it:Addr}(I:xK X pins σ H s)(k: ∀b o,b≠it->s.heap.get? b=some o->h'.get? b=some o)(hn:H it=none)(hL:it≠X.env.locals)
  (h1:it∈X.ex\/X.s₀.heap.objs.size<=it) (h2: ∀x c,X.env.cells.lookup x=some c->c≠it) (h3: ∀p∈X.pn++pins,p.1≠it):xK X pins σ H {s with heap:=h',toks:=t'}:=by
 have nit: ∀b u,H b=some u->b≠it:=λb u e z=>by rw[z,hn]at e;cases e
 refine I.step (g':=s.gens) (d':=s.drawn) (ch:=[it]) (λb hb=>?_) (λb o _ _ hc e _=>k b o (λz=>hc (by simp[z])) e) (λb o _ _ hc e _=>⟨o.slots,k b o (λz=>hc (by simp[z])) e⟩) (λ_ _ _ _ n=>n)
  (λb o hc e=>⟨o,k b o (λz=>hc (by simp[z])) e⟩) (λ_ _ e=>e) (λ_ _ _ e=>e) (λb ps e=>⟨#[],by rw[e];simp⟩) (λm hm=>?_) (λb u e=>?_) I.bare
 ·have e:b=it:=by simpa using hb
  subst e;exact⟨h1,hL,h2,h3⟩
 ·obtain⟨o,es,ep,ho,r⟩:=hm;exact⟨o,es,ep,k _ o (Ne.symm hL) ho,r⟩
 ·refine(I.hok b u e).stay (λc v hc q=>k c v ?_ q) (λ_ q=>q) λ_ _ q=>q
  rcases hc with z|z
  ·rw[z];exact nit b u e
  ·exact nit c _ z
theorem xK.tok (I:xK X pins σ H s)(t:Nat):xK X pins σ H {s with toks:=t}:=I.un (h':=s.heap) (t':=t) Un.refl I.hok
theorem xK.kept {t':Nat}(I:xK X pins σ H s)(k: ∀b u,s.heap.get? b=some u->h'.get? b=some u):xK X pins σ H {s with heap:=h',toks:=t'}:=I.un (Un.kept k) (I.hok.kept k)
theorem xK.laid {a:Addr}{o:HO}{t':Nat}(I:xK X pins σ H s)(k: ∀b u,s.heap.get? b=some u->h'.get? b=some u)(hp:s.heap.objs.size<=a)(new:qR X.prog X.w (upd H a o) h' a o):
  xK X pins σ (upd H a o) {s with heap:=h',toks:=t'}:=I.un (Un.laid k hp (I.hok.fresh hp)) (I.hok.laid k hp new)
theorem xK.write {x e:Addr}{o:HO}{t':Nat}(I:xK X pins σ H s)(mu:Mut (H x))(he:e=x\/H e=some (.own x))(k: ∀b u,b≠e->s.heap.get? b=some u->h'.get? b=some u)(heo: ∃u,h'.get? e=some u)
  (new:qR X.prog X.w (upd H x o) h' x o):xK X pins σ (upd H x o) {s with heap:=h',toks:=t'}:=I.un (Un.write mu he k heo) (I.hok.write mu he k heo new)
theorem xK.pins_of {pins':List (Addr×Obj)}(I:xK X pins σ H s)(h: ∀p∈pins',s.heap.get? p.1=some p.2/\H p.1=none/\p.1≠X.env.locals/\p.1∉X.fs/\ ∀v,p.2.data≠ .cell v):xK X pins' σ H s:=
 ⟨I.ok,I.os,I.bare,I.base,I.loc,I.cell,I.free,I.freeC,λp hp=>(List.mem_append.mp hp).elim (λz=>I.pin p (wG _ z)) (h p),I.hok,I.len⟩
theorem Lx {N:List Str}(hN:N.Nodup){i j:Nat}{x:Str}(a:N[i]? =some x)(b:N[j]? =some x):i=j:=by
 obtain⟨h1,e1⟩:=List.getElem?_eq_some_iff.mp a;obtain⟨h2,e2⟩:=List.getElem?_eq_some_iff.mp b;exact(List.getElem_inj hN).mp (e1.trans e2.symm)
theorem MJ {M:Model}{A:Around}{E:Value->Shared->Prop}{i:Nat}{x:Str}{v:V}{u:Value}{Q:Unit->Shared->Prop}(I:xK X pins σ H s)(hN:X.N.Nodup)(hi:X.N[i]? =some x)(hx:Loc X.env.scope x)(r:kI v u)
  (h: ∀s',xK X pins (σ.set i (some v)) H s'->(∃a,Heap.SameBut a s.heap s'.heap/\(a=X.env.locals\/X.env.cells.lookup x=some a))->Q () s') (hf:X.fn x=true\/X.env.scope.names.lookup x=some .local:=by first|exact .inl rfl|exact .inr rfl|assumption):wpAny M A (storeName X.env x u) Q E s:=by
 obtain⟨m,hn,hl⟩:=id I.loc;have hcls:(X.env.scope.kind== .class || (X.env.scope.kind== .module&&X.env.locals !=X.env.globals))=false:=by rw[I.ok.kind];rfl
 have hiσ:i<σ.length:=by rw[I.len];exact(List.getElem?_eq_some_iff.mp hi).1
 have cne:=I.cne;have tracked: ∀{a:Addr} {h':Heap},(∃o,s.heap.get? a=some o/\H a=none)->Heap.SameBut a s.heap h'->HL X.prog X.w H h':=fun{a h'} ha hs b ob e=>by
  obtain⟨_,_,hfree⟩:=ha;refine(I.hok b ob e).stay (λc w' hc q=>(hs.2 c ?_).trans q) (λ_ q=>q) λ_ _ q=>q;rintro rfl
  rcases hc with rfl|hc
  ·rw[hfree]at e;cases e
  ·rw[hfree]at hc;cases hc
 rcases hx with hk|hk
 ·refine wpAny_storeName_local hk hn (λh' hn' hs=>?_) hcls;obtain⟨oL,_,_,hoL,_⟩:=id hn;refine h _ ⟨I.ok,I.os,I.bare,⟨λb o e n hb hx=>?_,λb o e n hb hx=>?_,I.base.free,λb o e hx=>?_,I.base.tups,I.base.frzs,I.base.tbls⟩,⟨_,hn',λj y v' e1 e2 e3=>?_⟩,λy c e=>?_,I.free,I.freeC,λp hp=>?_,tracked ⟨oL,hoL,I.free⟩ hs,by simpa using I.len⟩ ⟨_,hs,.inl rfl⟩
  ·exact(hs.2 b (xA (yJ (zS e) I.ok.above))).trans (I.base.keep b o e n hb hx)
  ·obtain⟨sl,e1⟩:=I.base.slot b o e n hb hx;exact⟨sl,(hs.2 b (xA (yJ (zS e) I.ok.above))).trans e1⟩
  ·obtain⟨o',e1⟩:=I.base.there b o e hx;exact⟨o',(hs.2 b (xA (yJ (zS e) I.ok.above))).trans e1⟩
  ·by_cases hj:j=i
   ·subst hj;rw[hi]at e1;cases e1;rw[CA hiσ]at e2;cases e2;exact⟨u,r,.inl ⟨hk,by simp⟩⟩
   ·rw[DA (Ne.symm hj)]at e2;obtain⟨u',r',q⟩:=hl j y v' e1 e2 e3;refine⟨u',r',?_⟩
    rcases q with⟨k,e⟩|⟨k,c,e,z⟩
    ·refine .inl ⟨k,?_⟩;have:y≠x:=λe=>hj (Lx hN e1 (e▸hi))
     simp[this,e]
    ·exact .inr ⟨k,c,e,z.sameBut hs (cne y c e)⟩
  ·obtain⟨w',z⟩:=I.cell y c e;exact⟨w',z.sameBut hs (cne y c e)⟩
  ·obtain⟨e,n,ne,nf,d⟩:=I.pin p hp;exact⟨(hs.2 p.1 ne).trans e,n,ne,nf,d⟩
 ·have hfn:X.fn x=true:=by
   rcases hf with z|z
   ·exact z
   ·rw[z]at hk;cases hk
  obtain⟨c,hc⟩:=I.ok.has x (.inl hk);obtain⟨w',z⟩:=I.cell x c hc;refine wpAny_storeName_cell I.ok.kind hk hc z (λh' hc' hs=>?_);obtain⟨oc,hoc,hocd⟩:=id z;refine h {s with heap:=h'} ⟨I.ok,I.os,I.bare,⟨λb o e n hb hx=>?_,λb o e n hb hx=>?_,I.base.free,λb o e hx=>?_,I.base.tups,I.base.frzs,I.base.tbls⟩,⟨m,hn.sameBut hs (Ne.symm (cne x c hc)),λj y v' e1 e2 e3=>?_⟩,λy c' e=>?_,I.free,I.freeC,λp hp=>?_,tracked ⟨oc,hoc,I.freeC x c hc⟩ hs,by simpa using I.len⟩ ⟨c,hs,.inr hc⟩
  ·exact(hs.2 b (xA (yJ (zS e) (I.ok.cab x c hfn hc)))).trans (I.base.keep b o e n hb hx)
  ·obtain⟨sl,e1⟩:=I.base.slot b o e n hb hx;exact⟨sl,(hs.2 b (xA (yJ (zS e) (I.ok.cab x c hfn hc)))).trans e1⟩
  ·obtain⟨o',e1⟩:=I.base.there b o e hx;exact⟨o',(hs.2 b (xA (yJ (zS e) (I.ok.cab x c hfn hc)))).trans e1⟩
  ·by_cases hj:j=i
   ·subst hj;rw[hi]at e1;cases e1;rw[CA hiσ]at e2;cases e2;exact⟨u,r,.inr ⟨.inl hk,c,hc,hc'⟩⟩
   ·rw[DA (Ne.symm hj)]at e2;obtain⟨u',r',q⟩:=hl j y v' e1 e2 e3;refine⟨u',r',?_⟩
    rcases q with q|⟨k,c',e,z'⟩
    ·exact .inl q
    ·refine .inr ⟨k,c',e,z'.sameBut hs ?_⟩;rintro rfl;exact hj (Lx hN e1 (I.ok.inj _ _ _ e hc▸hi))
  ·by_cases hcc:c'=c
   ·subst hcc;exact⟨_,hc'⟩
   ·obtain⟨w2,z2⟩:=I.cell y c' e;exact⟨w2,z2.sameBut hs hcc⟩
  ·obtain⟨e,n,ne,nf,d⟩:=I.pin p hp;refine⟨(hs.2 p.1 ?_).trans e,n,ne,nf,d⟩;intro q;rw[q,hoc]at e;have q':oc=p.2:=xU e;exact d w' (by rw[<-q'];exact hocd)
theorem IL {M:Model}{A:Around}{E:Value->Shared->Prop}{i:Nat}{x:Str}{v:V}{u:Value}{Q:Unit->Shared->Prop}(I:xK X pins σ H s)(hN:X.N.Nodup)(hi:X.N[i]? =some x)(hx:Loc X.env.scope x)(r:kI v u)
  (h: ∀s',xK X pins (σ.set i (some v)) H s'->Q () s') (hf:X.fn x=true\/X.env.scope.names.lookup x=some .local:=by first|exact .inl rfl|exact .inr rfl|assumption):wpAny M A (storeName X.env x u) Q E s:=
 MJ I hN hi hx r (λs' I' _=>h s' I') hf
theorem xK.call' {s':Shared}{ch:List Addr}(I:xK X pins σ H s)(ho:s'.os=s.os)(u:Un (frs X.stack) ch H H' s.heap s'.heap)(hok:HL X.prog X.w H' s'.heap)(hg:AllBare s'.gens)
  (hch: ∀b∈ch,(b∈X.ex\/X.s₀.heap.objs.size<=b)/\b≠X.env.locals/\(∀x c,X.env.cells.lookup x=some c->c≠b)/\ ∀p∈X.pn++pins,p.1≠b):xK X pins σ H' s':=by
 obtain⟨h',g',d',t',o'⟩:=s';have e:o'=s.os:=ho;subst e;exact I.call (g':=g') (t':=t') (d':=d') u hok hg hch
end
abbrev XK:=Value->Option Addr->Hp->Prop
abbrev St:=List (Option V)
abbrev VK:=V->Hp->Prop
abbrev TE:=St->Hp->VK->Prop
abbrev TT:=St->Hp->(Bool->Hp->Prop)->Prop
abbrev TA:=St->Hp->(List V->Hp->Prop)->Prop
structure Gz where
 nx:St->Hp->Prop
 rt:VK
 bk:St->Hp->Prop:=λ_ _=>False
 ct:St->Hp->Prop:=λ_ _=>False
abbrev TS:=Gz->St->Hp->Prop
def EP (X:Cx)(pins:List (Addr×Obj))(σ:St)(Q:VK)(u:Value)(s':Shared):Prop:= ∃v H',xK X pins σ H' s'/\kI v u/\Q v H'
def TP (X:Cx)(pins:List (Addr×Obj))(σ:St)(Q:Bool->Hp->Prop)(b:Bool)(s':Shared):Prop:= ∃H',xK X pins σ H' s'/\Q b H'
def AP (X:Cx)(pins:List (Addr×Obj))(σ:St)(Q:List V->Hp->Prop)(us:List Value)(s':Shared):Prop:= ∃vs H',xK X pins σ H' s'/\jK vs us/\Q vs H'
def SP (X:Cx)(pins:List (Addr×Obj))(D:Gz)(f:Flow)(s':Shared):Prop:=
 match f with
 | .next=> ∃σ' H',xK X pins σ' H' s'/\D.nx σ' H'
 | .brk=> ∃σ' H',xK X pins σ' H' s'/\D.bk σ' H'
 | .cont=> ∃σ' H',xK X pins σ' H' s'/\D.ct σ' H'
 | .ret u=> ∃v σ' H',xK X pins σ' H' s'/\kI v u/\D.rt v H'
structure PE (X:Cx)(e:Expr)(t:TE):Prop where
 go: ∀(pins:List (Addr×Obj)) (s:Shared) (σ:St) (H:Hp) (Q:VK),xK X pins σ H s->t σ H Q->wpAny (model X.prog X.w) X.A (eval e X.env) (EP X pins σ Q) X.xe s
instance {X:Cx}{e:Expr}{t:TE}:CoeFun (PE X e t) (λ_=> ∀(pins:List (Addr×Obj)) (s:Shared) (σ:St) (H:Hp) (Q:VK),xK X pins σ H s->t σ H Q->wpAny (model X.prog X.w) X.A (eval e X.env) (EP X pins σ Q) X.xe s):=⟨PE.go⟩
structure PT (X:Cx)(e:Expr)(t:TT):Prop where
 go: ∀(pins:List (Addr×Obj)) (s:Shared) (σ:St) (H:Hp) (Q:Bool->Hp->Prop),xK X pins σ H s->t σ H Q->wpAny (model X.prog X.w) X.A (isTrue e X.env (eval e X.env)) (TP X pins σ Q) X.xe s
instance {X:Cx}{e:Expr}{t:TT}:CoeFun (PT X e t) (λ_=> ∀(pins:List (Addr×Obj)) (s:Shared) (σ:St) (H:Hp) (Q:Bool->Hp->Prop),xK X pins σ H s->t σ H Q->wpAny (model X.prog X.w) X.A (isTrue e X.env (eval e X.env)) (TP X pins σ Q) X.xe s):=⟨PT.go⟩
structure PW (X:Cx)(e:Expr)(t:TT):Prop where
 go: ∀(whole:Sem Value) (pins:List (Addr×Obj)) (s:Shared) (σ:St) (H:Hp) (Q:Bool->Hp->Prop),xK X pins σ H s->t σ H Q->wpAny (model X.prog X.w) X.A (isTrue e X.env whole) (TP X pins σ Q) X.xe s
instance {X:Cx}{e:Expr}{t:TT}:CoeFun (PW X e t) (λ_=> ∀(whole:Sem Value) (pins:List (Addr×Obj)) (s:Shared) (σ:St) (H:Hp) (Q:Bool->Hp->Prop),xK X pins σ H s->t σ H Q->wpAny (model X.prog X.w) X.A (isTrue e X.env whole) (TP X pins σ Q) X.xe s):=⟨PW.go⟩
theorem PW.pt {X:Cx}{e:Expr}{t:TT}(h:PW X e t):PT X e t:=⟨h _⟩
structure PA (X:Cx)(es:List Expr)(t:TA):Prop where
 go: ∀(pos:Pos) (pins:List (Addr×Obj)) (s:Shared) (σ:St) (H:Hp) (Q:List V->Hp->Prop),xK X pins σ H s->t σ H Q->wpAny (model X.prog X.w) X.A (spliced (backTo pos (starEach es X.env))) (AP X pins σ Q) X.xe s
instance {X:Cx}{es:List Expr}{t:TA}:CoeFun (PA X es t) (λ_=> ∀(pos:Pos) (pins:List (Addr×Obj)) (s:Shared) (σ:St) (H:Hp) (Q:List V->Hp->Prop),xK X pins σ H s->t σ H Q->wpAny (model X.prog X.w) X.A (spliced (backTo pos (starEach es X.env))) (AP X pins σ Q) X.xe s):=⟨PA.go⟩
structure PS (X:Cx)(st:Stmt)(t:TS):Prop where
 go: ∀(pins:List (Addr×Obj)) (s:Shared) (σ:St) (H:Hp) (D:Gz),xK X pins σ H s->t D σ H->wpAny (model X.prog X.w) X.A (exec st X.env) (SP X pins D) X.xe s
instance {X:Cx}{st:Stmt}{t:TS}:CoeFun (PS X st t) (λ_=> ∀(pins:List (Addr×Obj)) (s:Shared) (σ:St) (H:Hp) (D:Gz),xK X pins σ H s->t D σ H->wpAny (model X.prog X.w) X.A (exec st X.env) (SP X pins D) X.xe s):=⟨PS.go⟩
structure Mh (X:Cx)(st:List Stmt)(t:TS):Prop where
 go: ∀(pins:List (Addr×Obj)) (s:Shared) (σ:St) (H:Hp) (D:Gz),xK X pins σ H s->t D σ H->wpAny (model X.prog X.w) X.A (execs st X.env) (SP X pins D) X.xe s
instance {X:Cx}{st:List Stmt}{t:TS}:CoeFun (Mh X st t) (λ_=> ∀(pins:List (Addr×Obj)) (s:Shared) (σ:St) (H:Hp) (D:Gz),xK X pins σ H s->t D σ H->wpAny (model X.prog X.w) X.A (execs st X.env) (SP X pins D) X.xe s):=⟨Mh.go⟩
theorem qV {α:Type}{t:Sem α}{Q Q':α->Shared->Prop}{M:Model}{A:Around}{E:Value->Shared->Prop}{s:Shared}(h:wpAny M A t Q E s)(hQ: ∀a s,Q a s->Q' a s):wpAny M A t Q' E s:=qX h hQ λ_ _ x=>x
section
variable {X:Cx}
inductive Vl (i:Nat) (σ:St) (H:Hp) (Q:VK):Prop
 |mk (v:_) (h0:σ[i]? =some (some v)) (h1:Q v H):Vl i σ H Q
def tC (v:V):TE:=λ_ H Q=>Q v H
theorem zAt {i:Nat}{x:Str}{pos:Pos}(hN:X.N[i]? =some x)(hv:Vis X.env.scope x)(hd:(x==("__debug__":Str))=false:=by decide)(hcd:(x==("__classdict__":Str))=false:=by decide):PE X (.Name x pos) (Vl i):=by
 refine⟨?_⟩;intro pins s σ H Q I h;obtain⟨v,e,h⟩:=h;obtain⟨m,hn,hl⟩:=I.loc;obtain⟨u,r,l⟩:=hl i x v hN e hv;have fin:EP X pins σ Q u s:=⟨v,H,I,r,h⟩
 rcases l with⟨hk,hm⟩|⟨hk,c,hc,hcell⟩
 ·exact wpAny_Name (wpAny_loadName_local I.ok.kind hk hn hm fin) hd
 ·rcases hk with hk|hk
  ·exact wpAny_Name (wpAny_loadName_cell I.ok.kind hk hc hcell fin) hd
  ·exact wpAny_Name (wpAny_loadName_free I.ok.kind hk hc hcell fin hcd) hd
theorem zK {i j pos}:PE X (.Constant (.int i) j pos) (tC (.int i)):=⟨λ_ _ _ H _ I h=>wpAny_Constant_int ⟨.int i,H,I.tok _,⟨_,rfl⟩,h⟩⟩
theorem qG {b j pos}:PE X (.Constant (.bool b) j pos) (tC (.bl b)):=⟨λ_ _ _ H _ I h=>Constant_bool ⟨.bl b,H,I,rfl,h⟩⟩
theorem qQ {j pos}:PE X (.Constant .none j pos) (tC .non):=⟨λ_ _ _ H _ I h=>Constant_none ⟨.non,H,I,rfl,h⟩⟩
theorem Bu {x j pos}:PE X (.Constant (.str x) j pos) (tC (.str x)):=⟨λ_ _ _ H _ I h=>Calls.Constant_str ⟨.str x,H,I.tok _,⟨_,rfl⟩,h⟩⟩
def Gl (X:Cx)(x:Str):Prop:=X.env.kindOf x=some .globalImplicit
theorem Ej {E:Value->Shared->Prop}{pins:List (Addr×Obj)}{s:Shared}{σ:St}{H:Hp}{x:Str}{u:Value}{pos:Pos}{Q:Value->Shared->Prop}(I:xK X pins σ H s)(hg:Gl X x)(hm:X.mg x=some u)(h:Q u s)
  (hd:(x==("__debug__":Str))=false:=by decide):wpAny (model X.prog X.w) X.A (eval (.Name x pos) X.env) Q E s:=
 Calls.Name_function_global I.ok.kind hg (Calls.loadGlobal_global (by rw[I.ok.glob];exact I.mod.glob.keeps I.bk) hm h) hd
theorem Fk {E:Value->Shared->Prop}{pins:List (Addr×Obj)}{s:Shared}{σ:St}{H:Hp}{x:Str}{u:Value}{pos:Pos}{Q:Value->Shared->Prop}(I:xK X pins σ H s)(hg:Gl X x)(hm:X.mg x=none)(hv:bootBuiltins x=some u)(h:Q u s)
  (hn:x≠"__name__":=by decide) (hd:(x==("__debug__":Str))=false:=by decide):wpAny (model X.prog X.w) X.A (eval (.Name x pos) X.env) Q E s:=by
 obtain⟨mb,h1,h2⟩:=I.mod.blt;exact Calls.Name_function_global I.ok.kind hg (Calls.loadGlobal_builtin (by rw[I.ok.glob];exact I.mod.glob.keeps I.bk) hm (by rw[I.ok.blt];exact h1.keeps I.bk) ((h2 x hn).trans hv) h) hd
theorem SK {x:Str}{v:V}{u:Value}{pos:Pos}(hg:Gl X x)(hm:X.mg x=some u)(r:kI v u)(hd:(x==("__debug__":Str))=false:=by decide):PE X (.Name x pos) (tC v):=⟨λ_ _ _ H _ I h=>Ej I hg hm ⟨v,H,I,r,h⟩ hd⟩
theorem Bk {x:Str}{v:V}{u:Value}{pos:Pos}(hg:Gl X x)(hm:X.mg x=none)(hv:bootBuiltins x=some u)(r:kI v u)(hn:x≠"__name__":=by decide)(hd:(x==("__debug__":Str))=false:=by decide):PE X (.Name x pos) (tC v):=⟨λ_ _ _ H _ I h=>Fk I hg hm hv ⟨v,H,I,r,h⟩ hn hd⟩
variable {a b:Expr}{ta tb:TE}{pos:Pos}
structure PC (X:Cx)(op:CmpOp)(a b:Expr)(t:TE):Prop where
 go: ∀(pins:List (Addr×Obj)) (s:Shared) (σ:St) (H:Hp) (Q:VK),xK X pins σ H s->t σ H Q->
  wpAny (model X.prog X.w) X.A (eval a X.env) (λv s₁=>wpAny (model X.prog X.w) X.A (eval b X.env) (λu s₂=>wpAny (model X.prog X.w) X.A (compareOp op v u) (EP X pins σ Q) X.xe s₂) X.xe s₁) X.xe s
instance {X:Cx}{op:CmpOp}{a b:Expr}{t:TE}:CoeFun (PC X op a b t) (λ_=> ∀(pins:List (Addr×Obj)) (s:Shared) (σ:St) (H:Hp) (Q:VK),xK X pins σ H s->t σ H Q->
  wpAny (model X.prog X.w) X.A (eval a X.env) (λv s₁=>wpAny (model X.prog X.w) X.A (eval b X.env) (λu s₂=>wpAny (model X.prog X.w) X.A (compareOp op v u) (EP X pins σ Q) X.xe s₂) X.xe s₁) X.xe s):=⟨PC.go⟩
theorem PZ (b:Expr){op:CmpOp}(h:op≠ .In)(h2:op≠ .NotIn):behindInMarks op b=false:=by
 have e1:(op==CmpOp.In)=false:=by cases op<;>first|rfl|exact absurd rfl h
 have e2:(op==CmpOp.NotIn)=false:=by cases op<;>first|rfl|exact absurd rfl h2
 cases b<;>simp[behindInMarks,e1,e2]
def tB (t:TE):TT:=λσ H Q=>t σ H λx H1=> ∃c,x=.bl c/\Q c H1
theorem zAu {op:CmpOp}{t:TE}(h:PC X op a b t)(h1:behindInMarks op b=false:=by first|exact PZ _ (by decide) (by decide)|rfl):PE X (.Compare a [op] [b] pos) t:=⟨λpins s σ H Q I hw=>wpAny_Compare1 (h pins s σ H Q I hw) h1⟩
theorem VH {op:CmpOp}{t:TE}(h:PC X op a b t)(h1:behindInMarks op b=false:=by first|exact PZ _ (by decide) (by decide)|rfl):PT X (.Compare a [op] [b] pos) (tB t):=by
 refine⟨?_⟩;intro pins s σ H Q I hw;refine wpAny_isTrue_Compare1 (qV (h pins s σ H _ I hw) λv s1 h1=>qV h1 λu s2 h2=>qV h2 λc s3 ⟨x,H1,I1,r1,q1⟩=>?_) h1;obtain⟨d,rfl,q⟩:=q1;cases r1;exact wJ ⟨H1,I1,q⟩
theorem qW {e:Expr}{t:TE}(h:PE X e t)(he: ∀whole,isTrue e X.env whole=(do let v<-whole;standAt e.pos;holding [v] (truthy v)):=by intro _;rfl):PT X e (tB t):=by
 refine⟨?_⟩;intro pins s σ H Q I hw;refine isTrue_plain (qV (h pins s σ H _ I hw) λv s1 ⟨x,H1,I1,r1,q1⟩=>?_) (he _);obtain⟨d,rfl,q⟩:=q1;cases r1;exact wJ ⟨H1,I1,q⟩
variable {tA tB':TT}{rest:List Expr}
def zGc (t u:TT):TT:=λσ H Q=>t σ H λc H1=>if c=true then u σ H1 Q else Q false H1
def tOr (t u:TT):TT:=λσ H Q=>t σ H λc H1=>if c=true then Q true H1 else u σ H1 Q
def zFw (t:TT):TT:=λσ H Q=>t σ H λc H1=>Q (!c) H1
theorem SE (ha:PT X a tA):PW X (.BoolOp .And [a] pos) tA:=by
 refine⟨?_⟩;intro wh pins s σ H Q I h;refine isTrue_and (qV (ha pins s σ H Q I h) λc s1 e=>?_);cases c with
 |true=>exact isTrue_and_nil e
 |false=>exact e
theorem qT (ha:PT X a tA):PW X (.BoolOp .Or [a] pos) tA:=by
 refine⟨?_⟩;intro wh pins s σ H Q I h;refine isTrue_or (qV (ha pins s σ H Q I h) λc s1 e=>?_);cases c with
 |false=>exact isTrue_or_nil e
 |true=>exact e
theorem VG (ha:PT X a tA)(hb:PW X (.BoolOp .And (b::rest) pos) tB'):PW X (.BoolOp .And (a::b::rest) pos) (zGc tA tB'):=by
 refine⟨?_⟩;intro wh pins s σ H Q I h;refine isTrue_and (qV (ha pins s σ H _ I h) λc s1 hzz=>?_);obtain⟨H1,I1,q1⟩:=hzz;cases c with
 |true=>exact hb wh pins s1 σ H1 Q I1 q1
 |false=>exact⟨H1,I1,q1⟩
theorem vO (ha:PT X a tA)(hb:PW X (.BoolOp .Or (b::rest) pos) tB'):PW X (.BoolOp .Or (a::b::rest) pos) (tOr tA tB'):=by
 refine⟨?_⟩;intro wh pins s σ H Q I h;refine isTrue_or (qV (ha pins s σ H _ I h) λc s1 hzz=>?_);obtain⟨H1,I1,q1⟩:=hzz;cases c with
 |true=>exact⟨H1,I1,q1⟩
 |false=>exact hb wh pins s1 σ H1 Q I1 q1
theorem wK (ha:PT X a tA):PT X (.UnaryOp .Not a pos) (zFw tA):=by
 refine⟨?_⟩;intro pins s σ H Q I h;exact isTrue_not (ha pins s σ H (λc H1=>Q (!c) H1) I h)
def Vr (ta tb:TE):TE:=λσ H Q=>ta σ H λx H1=> ∃c,x=.bl c/\if c=true then tb σ H1 Q else Q (.bl false) H1
def zDc (ta:TE):TE:=λσ H Q=>ta σ H λx H1=> ∃c,x=.bl c/\Q (.bl (!c)) H1
theorem Fg {op}{t:TE}(h:PE X a t):PE X (.BoolOp op [a] pos) t:=⟨λpins s σ H Q I hw=>BoolOp_one (h pins s σ H Q I hw)⟩
theorem BO (ha:PE X a ta)(hb:PE X (.BoolOp .And (b::rest) pos) tb):PE X (.BoolOp .And (a::b::rest) pos) (Vr ta tb):=by
 refine⟨?_⟩;intro pins s σ H Q I h;refine BoolOp_and (qV (ha pins s σ H _ I h) λv s1 hzz=>?_);obtain⟨x,H1,I1,r1,q1⟩:=hzz;obtain⟨c,rfl,q1⟩:=q1;cases r1;refine wJ ?_;cases c with
 |true=>exact hb pins s1 σ H1 Q I1 q1
 |false=>exact⟨.bl false,H1,I1,rfl,q1⟩
theorem VV (ha:PE X a ta):PE X (.UnaryOp .Not a pos) (zDc ta):=by
 refine⟨?_⟩;intro pins s σ H Q I h;refine UnaryOp_ (qV (ha pins s σ H _ I h) λv s1 hzz=>?_);obtain⟨x,H1,I1,r1,q1⟩:=hzz;obtain⟨c,rfl,q1⟩:=q1;cases r1;exact not_of (wJ ⟨.bl (!c),H1,I1,rfl,q1⟩)
def tIf (t:TT)(ta tb:TE):TE:=λσ H Q=>t σ H λc H1=>if c=true then ta σ H1 Q else tb σ H1 Q
theorem Pu {c:Expr}(hc:PT X c tA)(ha:PE X a ta)(hb:PE X b tb):PE X (.IfExp c a b pos) (tIf tA ta tb):=by
 refine⟨?_⟩;intro pins s σ H Q I h;refine wpAny_IfExp (qV (hc pins s σ H _ I h) λd s1 hzz=>?_);obtain⟨H1,I1,q1⟩:=hzz;cases d with
 |true=>exact ha pins s1 σ H1 Q I1 q1
 |false=>exact hb pins s1 σ H1 Q I1 q1
end
def kS (K:PySem.W.Frag)(H:Hp)(a:Addr)(xs:List V):Prop:=
 Rd H a (.lst xs)\/
  ∃(o:Obj) (its:Array Value) (n:Nat),K.lookup a=some o/\o.cls=.type "list"/\o.dict=none/\o.data=.seq its n/\its.size<=sizeLine/\jK xs its.toList
def uS (K:PySem.W.Frag)(H:Hp)(a:Addr)(xs:List V):Prop:=
 Rd H a (.tup xs)\/
  ∃(o:Obj) (its:Array Value) (n:Nat),K.lookup a=some o/\o.cls=.type "tuple"/\o.data=.seq its n/\its.size<=sizeLine/\jK xs its.toList
def zIf:Value->Option V
 | .none=>some .non
 | .bool b=>some (.bl b)
 | .int i _=>some (.int i)
 | .str x _=>some (.str x)
 | .bytes b _=>some (.byt b)
 | .float b _=>some (.flt b)
 | .ref a=>some (.ref a)
 | .type n=>some (.ty n)
 |_=>none
theorem kI.abs {x:V}{u:Value}(r:kI x u):zIf u=some x:=by
 cases x with
 |non=>cases r;rfl
 |bl _=>cases r;rfl
 |int _=>obtain⟨t,rfl⟩:=r;rfl
 |str _=>obtain⟨t,rfl⟩:=r;rfl
 |byt _=>obtain⟨t,rfl⟩:=r;rfl
 |flt _=>obtain⟨t,rfl⟩:=r;rfl
 |ref _=>cases r;rfl
 |ty _=>cases r;rfl
theorem kI.inj {x y:V}{u:Value}(r:kI x u)(q:kI y u):x=y:=xU (r.abs.symm.trans q.abs)
theorem jK.inj: ∀{xs ys:List V} {us:List Value},jK xs us->jK ys us->xs=ys
 |_,_,_,.nil,.nil=>rfl
 |_,_,_,.cons r t,.cons r' t'=>by rw[r.inj r',jK.inj t t']
section
variable {X:Cx}{pins:List (Addr×Obj)}{σ:St}{H:Hp}{s:Shared}{a:Addr}{xs ys:List V}
theorem kS.of {K:PySem.W.Frag}(h:H a=some (.lst xs)):kS K H a xs:=.inl (.inl h)
theorem uS.of {K:PySem.W.Frag}(h:H a=some (.tup xs)):uS K H a xs:=.inl (.inl h)
theorem xK.list (I:xK X pins σ H s)(h:kS X.K H a xs): ∃its:List Value,jK xs its/\PlainL s.heap a its.toArray/\xs.length<=sizeLine:=by
 rcases h with h|⟨o,its,n,hk,hc,hd,hs,hz,r⟩
 ·obtain⟨z,its,n,r,e⟩:=h.ok I.hok;exact⟨its,r,⟨_,n,e,rfl,rfl,rfl⟩,z⟩
 ·refine⟨its.toList,r,⟨o,n,I.kIn a o hk,hc,hd,by simpa using hs⟩,?_⟩;have e:=r.length;simp only[uH]at e;lia
theorem xK.tuple (I:xK X pins σ H s)(h:uS X.K H a xs): ∃its:List Value,jK xs its/\IsTup s.heap a its.toArray/\xs.length<=sizeLine:=by
 rcases h with h|⟨o,its,n,hk,hc,hs,hz,r⟩
 ·obtain⟨z,its,r,p⟩:=h.ok I.hok;exact⟨its,r,p,z⟩
 ·refine⟨its.toList,r,⟨o,I.kIn a o hk,hc,n,by simpa using hs⟩,?_⟩;have e:=r.length;simp only[uH]at e;lia
theorem xK.list_inj (I:xK X pins σ H s)(h:kS X.K H a xs)(h':kS X.K H a ys):xs=ys:=by
 obtain⟨its,r,⟨o,n,e,_,_,d⟩,_⟩:=I.list h;obtain⟨its',r',⟨o',n',e',_,_,d'⟩,_⟩:=I.list h';rw[e]at e';cases e';rw[d]at d';injection d' with d1 _
 have:its=its':=by simpa using qI Array.toList d1
 subst this;exact r.inj r'
theorem xK.tuple_inj (I:xK X pins σ H s)(h:uS X.K H a xs)(h':uS X.K H a ys):xs=ys:=by
 obtain⟨its,r,⟨o,e,_,n,d⟩,_⟩:=I.tuple h;obtain⟨its',r',⟨o',e',_,n',d'⟩,_⟩:=I.tuple h';rw[e]at e';cases e';rw[d]at d';injection d' with d1 _
 have:its=its':=by simpa using qI Array.toList d1
 subst this;exact r.inj r'
end
abbrev Cx.wish (X:Cx)(E:Value->Shared->Prop):Cx:={X with xe:=E}
abbrev Cx.nox (X:Cx):Cx:=X.wish λ_ _=>False
theorem Cx.Ok.wish {X:Cx}(ok:X.Ok)(E:Value->Shared->Prop):(X.wish E).Ok:=
 ⟨ok.mod,ok.kind,ok.glob,ok.blt,ok.above,ok.inj,ok.has,ok.cab,ok.hd,ok.frames,ok.stk,ok.exf,ok.bs,ok.bsz,ok.noex,ok.exfs,ok.funs,ok.frf⟩
theorem Cx.Ok.unwish {X:Cx}{E:Value->Shared->Prop}(ok:(X.wish E).Ok):X.Ok:=
 ⟨ok.mod,ok.kind,ok.glob,ok.blt,ok.above,ok.inj,ok.has,ok.cab,ok.hd,ok.frames,ok.stk,ok.exf,ok.bs,ok.bsz,ok.noex,ok.exfs,ok.funs,ok.frf⟩
section
variable {X:Cx}{pins:List (Addr×Obj)}{σ:St}{H:Hp}{s:Shared}{E:Value->Shared->Prop}
theorem xK.wish (I:xK X pins σ H s)(E:Value->Shared->Prop):xK (X.wish E) pins σ H s:=⟨I.ok.wish E,I.os,I.bare,I.base,I.loc,I.cell,I.free,I.freeC,I.pin,I.hok,I.len⟩
theorem xK.unwish (I:xK (X.wish E) pins σ H s):xK X pins σ H s:=⟨I.ok.unwish,I.os,I.bare,I.base,I.loc,I.cell,I.free,I.freeC,I.pin,I.hok,I.len⟩
theorem SP.unwish {D:Gz}{f:Flow}{s':Shared}(h:SP (X.wish E) pins D f s'):SP X pins D f s':=by
 cases f with
 |next=>obtain⟨σ',H',I,q⟩:=h;exact⟨σ',H',I.unwish,q⟩
 |brk=>obtain⟨σ',H',I,q⟩:=h;exact⟨σ',H',I.unwish,q⟩
 |cont=>obtain⟨σ',H',I,q⟩:=h;exact⟨σ',H',I.unwish,q⟩
 |ret u=>obtain⟨v,σ',H',I,r,q⟩:=h;exact⟨v,σ',H',I.unwish,r,q⟩
theorem Mh.nox {st:List Stmt}{t:TS}(h:Mh X.nox st t):Mh X st t:=⟨λpins s σ H D I hw=>
 qX (h pins s σ H D (I.wish _) hw) (λ_ _ q=>q.unwish) λ_ _ z=>False.elim z⟩
end
section
variable {X:Cx}{st:Stmt}{rest:List Stmt}{t u:TS}{e:Expr}{te:TE}{pos:Pos}
def zDd:TS:=λD σ H=>D.nx σ H
def zFv (t u:TS):TS:=λD σ H=>t {D with nx:=u D} σ H
theorem yI:Mh X [] zDd:=⟨λ_ _ σ H _ I h=>uY ⟨σ,H,I,h⟩⟩
theorem zE (h1:PS X st t)(h2:Mh X rest u):Mh X (st::rest) (zFv t u):=by
 refine⟨?_⟩;intro pins s σ H D I h;refine wpAny_execs_cons (qV (h1 pins s σ H {D with nx:=u D} I h) λf s1 q=>?_);cases f with
 |next=>
  obtain⟨σ',H',I',q⟩:=q;exact h2 pins s1 σ' H' D I' q
 |ret v=>exact q
 |brk=>exact q
 |cont=>exact q
theorem zJ (h1:PS X st t):Mh X [st] t:=by
 refine⟨?_⟩;intro pins s σ H D I h;refine wpAny_execs_cons (qV (h1 pins s σ H D I h) λf s1 q=>?_);cases f with
 |next=>exact uY q
 |ret v=>exact q
 |brk=>exact q
 |cont=>exact q
theorem xK.quiet {pins:List (Addr×Obj)}{σ:St}{H:Hp}{s:Shared}(I:xK X pins σ H s):interactive X.env=false:=by simp[interactive,I.ok.kind]
def zDf (te:TE):TS:=λD σ H=>te σ H λ_ H1=>D.nx σ H1
theorem jF (he:PE X e te)(hs:swapsWith e none pos.line X.env=pure false:=by rfl):PS X (.Expr e pos) (zDf te):=by
 refine⟨?_⟩;intro pins s σ H D I h;exact wpAny_Expr_any (qV (he pins s σ H _ I h) λv s1 ⟨x,H1,I1,r1,q1⟩=>⟨σ,H1,I1,q1⟩) I.quiet hs
def ZU (te:TE):TS:=λD σ H=>te σ H D.rt
theorem zV (he:PE X e te):PS X (.Return (some e) pos) (ZU te):=by
 refine⟨?_⟩;intro pins s σ H D I h;exact wpAny_Return_some (qV (he pins s σ H _ I h) λv s1 ⟨x,H1,I1,r1,q1⟩=>⟨x,σ,H1,I1,r1,q1⟩)
def zFx (c:TT)(t u:TS):TS:=λD σ H=>c σ H λb H1=>if b=true then t D σ H1 else u D σ H1
theorem xS {c:Expr}{a b:List Stmt}{tc:TT}(hc:PT X c tc)(ha:Mh X a t)(hb:Mh X b u):PS X (.If c a b pos) (zFx tc t u):=by
 refine⟨?_⟩;intro pins s σ H D I h;refine wpAny_If (qV (hc pins s σ H _ I h) λd s1 hzz=>?_);obtain⟨H1,I1,q1⟩:=hzz;cases d with
 |true=>exact ha pins s1 σ H1 D I1 q1
 |false=>exact hb pins s1 σ H1 D I1 q1
def ZV:TS:=λ_ _ _=>False
theorem Lo:PS X st ZV:=⟨λ_ _ _ _ _ _ h=>h.elim⟩
end
abbrev TG:=V->St->Hp->(St->Hp->Prop)->Prop
abbrev YY:=List V->St->Hp->(St->Hp->Prop)->Prop
structure PG (X:Cx)(target:Expr)(t:TG):Prop where
 go: ∀(pins:List (Addr×Obj)) (s:Shared) (σ:St) (H:Hp) (v:V) (u:Value) (Q:St->Hp->Prop),xK X pins σ H s->kI v u->t v σ H Q->
  wpAny (model X.prog X.w) X.A (assign target X.env u) (λ_ s'=> ∃σ' H',xK X pins σ' H' s'/\Q σ' H') X.xe s
instance {X:Cx}{target:Expr}{t:TG}:CoeFun (PG X target t) (λ_=> ∀(pins:List (Addr×Obj)) (s:Shared) (σ:St) (H:Hp) (v:V) (u:Value) (Q:St->Hp->Prop),xK X pins σ H s->kI v u->t v σ H Q->
  wpAny (model X.prog X.w) X.A (assign target X.env u) (λ_ s'=> ∃σ' H',xK X pins σ' H' s'/\Q σ' H') X.xe s):=⟨PG.go⟩
structure ZH (X:Cx)(ts:List Expr)(t:YY):Prop where
 go: ∀(pins:List (Addr×Obj)) (s:Shared) (σ:St) (H:Hp) (vs:List V) (us:List Value) (Q:St->Hp->Prop),xK X pins σ H s->jK vs us->t vs σ H Q->
  wpAny (model X.prog X.w) X.A (assignInOrder ((assignEach ts X.env).map (·.2)) us) (λ_ s'=> ∃σ' H',xK X pins σ' H' s'/\Q σ' H') X.xe s
instance {X:Cx}{ts:List Expr}{t:YY}:CoeFun (ZH X ts t) (λ_=> ∀(pins:List (Addr×Obj)) (s:Shared) (σ:St) (H:Hp) (vs:List V) (us:List Value) (Q:St->Hp->Prop),xK X pins σ H s->jK vs us->t vs σ H Q->
  wpAny (model X.prog X.w) X.A (assignInOrder ((assignEach ts X.env).map (·.2)) us) (λ_ s'=> ∃σ' H',xK X pins σ' H' s'/\Q σ' H') X.xe s):=⟨ZH.go⟩
abbrev zCe:=V->V->V->Hp->(Hp->Prop)->Prop
def zEs (X:Cx)(t:zCe):Prop:=
 ∀(pins:List (Addr×Obj)) (s:Shared) (σ:St) (H:Hp) (o i v:V) (ov iv u:Value) (Q:Hp->Prop),xK X pins σ H s->kI o ov->kI i iv->kI v u->t o i v H Q->
  wpAny (model X.prog X.w) X.A (setItem ov iv u) (λ_ s'=> ∃H',xK X pins σ H' s'/\Q H') X.xe s
section
variable {X:Cx}{pos:Pos}
def BE (i:Nat):TG:=λv σ H Q=>Q (σ.set i (some v)) H
theorem vB {i:Nat}{x:Str}(hN:X.N.Nodup)(hi:X.N[i]? =some x)(hx:Loc X.env.scope x)(hf:X.fn x=true\/X.env.scope.names.lookup x=some .local:=by first|exact .inl rfl|exact .inr rfl|assumption):PG X (.Name x pos) (BE i):=by
 refine⟨?_⟩;intro pins s σ H v u Q I r h;exact wpAny_assign_Name (IL I hN hi hx r (λs' I'=>⟨_,H,I',h⟩) hf)
inductive zEi (vs:List V) (σ:St) (H:Hp) (Q:St->Hp->Prop):Prop
 |mk (h0:vs=[]) (h1:Q σ H):zEi vs σ H Q
inductive ZC (t:TG) (u:YY) (vs:List V) (σ:St) (H:Hp) (Q:St->Hp->Prop):Prop
 |mk (v r:_) (h0:vs=v::r) (h1:t v σ H λσ' H'=>u r σ' H' Q):ZC t u vs σ H Q
theorem qP:ZH X [] zEi:=by
 refine⟨?_⟩;intro pins s σ H vs us Q I r h;obtain⟨e,h⟩:=h;subst e;cases r;exact assignInOrder_nil ⟨σ,H,I,h⟩
theorem yR {e:Expr}{es:List Expr}{t:TG}{u:YY}(h1:PG X e t)(h2:ZH X es u)
  (hs:(assignEach (e::es) X.env).map (·.2)=assign e X.env::(assignEach es X.env).map (·.2):=by rfl):ZH X (e::es) (ZC t u):=by
 refine⟨?_⟩;intro pins s σ H vs us Q I r h;obtain⟨v,vr,e1,h⟩:=h;subst e1;cases r with
 |cons r rr=>
  rw[hs];refine assignInOrder_cons (qV (h1 pins s σ H _ _ _ I r h) λ_ s1 hzz=>?_);obtain⟨σ1,H1,I1,q1⟩:=hzz;exact h2 pins s1 σ1 H1 _ _ Q I1 rr q1
inductive zBt (K:PySem.W.Frag) (n:Nat) (t:YY) (v:V) (σ:St) (H:Hp) (Q:St->Hp->Prop):Prop
 |mk (a xs:_) (h0:v=.ref a) (h1:uS K H a xs) (h2:xs.length=n) (h3:t xs σ H Q):zBt K n t v σ H Q
theorem uJ {es:List Expr}{k:Nat}{t:YY}{n:Nat}(hc:X.calm=true)(h:ZH X es t)
  (hn:(assignEach es X.env).length =n:=by rfl) (hst:(assignEach es X.env).findIdx? (·.1)=none:=by rfl):PG X (.Tuple es k pos) (zBt X.K n t):=by
 refine⟨?_⟩;intro pins s σ H v u Q I r hw;obtain⟨a,xs,e1,hq,hl,hw⟩:=hw;subst e1;cases r;obtain⟨its,rv,ht,hz⟩:=I.tuple hq;refine assign_Tuple_tuple (I.ok.hd hc) ht (by simp[hn,<-hl,rv.length]) hst λh' hx=>?_;have I1:xK X pins σ H {s with heap:=h'}:=I.kept (t':=s.toks) λb o e=>hx b o (xA (zS e)) e;exact h pins _ σ H xs _ Q I1 (by simpa using rv) hw
def zIb (to ti:TE)(t:zCe):TG:=λv σ H Q=>to σ H λo H1=>ti σ H1 λi H2=>t o i v H2 λH3=>Q σ H3
theorem Lu {o i:Expr}{to ti:TE}{t:zCe}(ho:PE X o to)(hi:PE X i ti)(hs:zEs X t)
  (ha: ∀v,assign (.Subscript o i pos) X.env v=(do
   let ov<-holding [v] (eval o X.env)
   let iv<-holding [v,ov] (eval i X.env)
   standAt pos
   holding [v,ov,iv] (setItem ov iv v)
   release [v,ov,iv] []):=by intro _;rfl):PG X (.Subscript o i pos) (zIb to ti t):=by
 refine⟨?_⟩;intro pins s σ H v u Q I r h;rw[ha];refine zA (jD (qV (ho pins s σ H _ I h) λov s1 hzz=>?_));obtain⟨x,H1,I1,r1,q1⟩:=hzz;refine zA (jD (qV (hi pins s1 σ H1 _ I1 q1) λiv s2 hzz=>?_));obtain⟨y,H2,I2,r2,q2⟩:=hzz;refine zA (Bd (zA (jD (qV (hs pins s2 σ H2 x y v ov iv u _ I2 r1 r2 r q2) λ_ s3 hzz=>?_))));obtain⟨H3,I3,q3⟩:=hzz;exact wpAny_release ⟨σ,H3,I3,q3⟩
def ZY (te:TE)(g:TG):TS:=λD σ H=>te σ H λx H1=>g x σ H1 D.nx
theorem AR {tg e:Expr}{te:TE}{g:TG}(he:PE X e te)(hg:PG X tg g)(hs:swapsWithSole [tg] e pos.line X.env=pure false:=by rfl)(hw:swappedStores [tg] e X.env=pure none:=by rfl)
  (h1:(assignEach [tg] X.env).map (·.2)=[assign tg X.env]:=by rfl):PS X (.Assign [tg] e pos) (ZY te g):=by
 refine⟨?_⟩;intro pins s σ H D I h;refine wpAny_Assign_stores (qV (he pins s σ H _ I h) λv s1 ⟨x,H1,I1,r1,q1⟩=>?_) hs hw;rw[h1];exact qV (hg pins s1 σ H1 x v _ I1 r1 q1) λ_ s2 q=>q
theorem Ol {i:Nat}{x:Str}{e:Expr}{te:TE}{pos':Pos}(hN:X.N.Nodup)(hi:X.N[i]? =some x)(hx:Loc X.env.scope x)(he:PE X e te)(hs:swapsWith e (some (.Name x pos')) pos.line X.env=pure false:=by rfl)(hf:X.fn x=true\/X.env.scope.names.lookup x=some .local:=by first|exact .inl rfl|exact .inr rfl|assumption):
  PS X (.Assign [.Name x pos'] e pos) (ZY te (BE i)):=by
 refine⟨?_⟩;intro pins s σ H D I h;refine wpAny_Assign_Name (qV (he pins s σ H _ I h) λv s1 ⟨y,H1,I1,r1,q1⟩=>?_) hs;exact IL I1 hN hi hx r1 (λs2 I2=>⟨_,H1,I2,q1⟩) hf
def ZT (c:TT)(tb:TS):TS:=λD σ H=> ∃W:Nat->St->Hp->Prop,(∃m,W m σ H)/\ ∀m σ H,W m σ H->
 c σ H λb H1=>if b=true then ∃N:St->Hp->Prop,(∀σ' H',N σ' H'-> ∃m',m'<m/\W m' σ' H')/\tb {D with nx:=N,ct:=N,bk:=D.nx} σ H1 else D.nx σ H1
theorem VI {c:Expr}{body:List Stmt}{tc:TT}{tb:TS}(hp:PassesOwn (model X.prog X.w) X.A X.env X.xe)(hc:PT X c tc)(hb:Mh X body tb):PS X (.While c body [] pos) (ZT tc tb):=by
 refine⟨?_⟩;intro pins s σ H D I h;obtain⟨W,⟨m0,w0⟩,turn⟩:=h;refine wpAny_While (codeAny_whileLoop (λn s'=> ∃σ' H',xK X pins σ' H' s'/\W n σ' H') ?_ m0 ⟨σ,H,I,w0⟩);rintro n s1 ⟨σ1,H1,I1,w1⟩;refine vK hp (qV (hc pins s1 σ1 H1 _ I1 (turn n σ1 H1 w1)) λb s2 hzz=>?_);obtain⟨H2,I2,q2⟩:=hzz;cases b with
 |true=>
  obtain⟨N,hN,q2⟩:=q2;rw[zQ rfl];refine vK hp (qV (hb pins s2 σ1 H2 _ I2 q2) λf s3 q3=>?_);cases f with
  |next=>
   obtain⟨σ3,H3,I3,n3⟩:=q3;obtain⟨m',hm,w3⟩:=hN σ3 H3 n3;exact⟨m',hm,σ3,H3,I3,w3⟩
  |cont=>
   obtain⟨σ3,H3,I3,n3⟩:=q3;obtain⟨m',hm,w3⟩:=hN σ3 H3 n3;exact⟨m',hm,σ3,H3,I3,w3⟩
  |brk=>exact q3
  |ret v=>exact q3
 |false=>
  rw[zN yB];exact uY ⟨σ1,H2,I2,q2⟩
end
structure It where
 go:Nat->Hp->Prop
 yld:Nat->Hp->V->Hp->Prop
 stop:Nat->Hp->Prop
def HW (X:Cx)(pins:List (Addr×Obj))(H:Hp)(b:Addr):Prop:=
 H b=none/\b≠X.env.locals/\b∉X.fs/\(b∈X.ex\/X.s₀.heap.objs.size<=b)/\(∀x c,X.env.cells.lookup x=some c->c≠b)/\ ∀p∈X.pn++pins,p.1≠b
theorem xK.fpOk {X:Cx}{pins:List (Addr×Obj)}{σ:St}{H H':Hp}{s:Shared}{b:Addr}(I:xK X pins σ H s)(hb:s.heap.objs.size<=b)(hn:H' b=none):HW X pins H' b:=by
 refine⟨hn,vU (yJ I.lt hb),I.nofs hb,.inr (yO I.sz hb),λx c e z=>?_,λp hp z=>?_⟩
 ·obtain⟨v,q⟩:=I.cell x c e;exact absurd (yJ q.lt (by rw[z];exact hb)) (jS _)
 ·exact absurd (yJ (zS (I.pin p hp).1) (by rw[z];exact hb)) (jS _)
structure Me (P:Program)(w:World)(K:PySem.W.Frag)(tg:Expr)(J:It)(fp:List Addr)(it:Addr)(tn:Nat->Heap->Prop):Prop where
 mem:it∈fp
 obj: ∀i h,tn i h-> ∀b∈fp,∃o,h.get? b=some o/\ ∀v,o.data≠ .cell v
 keep: ∀i h h',tn i h->(∀b∈fp,∀o,h.get? b=some o->h'.get? b=some o)->tn i h'
 item: ∀(X:Cx),X.prog=P->X.w=w->X.K=K->X.calm=true-> ∀(i:Nat) (pins:List (Addr×Obj)) (s:Shared) (σ:St) (H:Hp) (E:Value->Shared->Prop),xK X pins σ H s->(∀b∈fp,HW X pins H b)->tn i s.heap->J.go i H->
  wpAny (model P w) X.A (pyNext (.ref it)) (λr s1=> ∃u,r=some u/\
   wpAny (model P w) X.A (letOwnedTupleGo tg (.ref it) u) (λ_ s2=> ∃x H',xK X pins σ H' s2/\kI x u/\J.yld i H x H'/\tn (i+1) s2.heap/\ ∀b∈fp,H' b=none) E s1) E s
 done: ∀(X:Cx),X.prog=P->X.w=w->X.K=K->X.calm=true-> ∀(i:Nat) (pins:List (Addr×Obj)) (s:Shared) (σ:St) (H:Hp) (E:Value->Shared->Prop),xK X pins σ H s->(∀b∈fp,HW X pins H b)->tn i s.heap->J.stop i H->
  wpAny (model P w) X.A (pyNext (.ref it)) (λr s1=>r=none/\xK X pins σ H s1) E s
 self: ∀(A:Around) (i:Nat) (s:Shared) (Q:Value->Shared->Prop) (E:Value->Shared->Prop),tn i s.heap->Q (.ref it) s->wpAny (model P w) A (pyIter (.ref it)) Q E s
abbrev TI:=St->Hp->(It->Hp->Prop)->Prop
def PIE (X:Cx)(pins:List (Addr×Obj))(σ:St)(tg:Expr)(R:It->Hp->Prop)(itv:Value)(s2:Shared):Prop:=
 ∃(it:Addr) (fp:List Addr) (tn:Nat->Heap->Prop) (J:It) (H':Hp),itv=.ref it/\xK X pins σ H' s2/\Me X.prog X.w X.K tg J fp it tn/\tn 0 s2.heap/\(∀b∈fp,HW X pins H' b)/\R J H'
structure PI (X:Cx)(tg iter:Expr)(wi:TI):Prop where
 go: ∀(pins:List (Addr×Obj)) (s:Shared) (σ:St) (H:Hp) (R:It->Hp->Prop),xK X pins σ H s->wi σ H R->
  wpAny (model X.prog X.w) X.A (eval iter X.env) (λv s1=>wpAny (model X.prog X.w) X.A (pyIter v) (PIE X pins σ tg R) X.xe s1) X.xe s
instance {X:Cx}{tg iter:Expr}{wi:TI}:CoeFun (PI X tg iter wi) (λ_=> ∀(pins:List (Addr×Obj)) (s:Shared) (σ:St) (H:Hp) (R:It->Hp->Prop),xK X pins σ H s->wi σ H R->
  wpAny (model X.prog X.w) X.A (eval iter X.env) (λv s1=>wpAny (model X.prog X.w) X.A (pyIter v) (PIE X pins σ tg R) X.xe s1) X.xe s):=⟨PI.go⟩
theorem Nn {M : Model} {A : Around} {E : Value -> Shared -> Prop} {s : Shared} {tg : Expr} {it : Addr} {u : Value} {o : Obj} {n : String} {vs : Array Value} {Q : Unit -> Shared -> Prop} (ho : s.heap.get? it = some o) (hc : o.cls = .type n) (hd : o.data = .fields vs)
    (hn : ["enumerate", "zip", "dict_itemiterator", "dict_reverseitemiterator", "odict_iterator", "itertools.zip_longest", "itertools.pairwise"].contains n = false) (hQ : Q () s) : wpAny M A (letOwnedTupleGo tg (.ref it) u) Q E s := by
  unfold letOwnedTupleGo;cases tg <;> first
    | exact zL hQ
    | (cases u <;> first
        | exact zL hQ
        | (refine zA (wpAny_load ho ?_)
           rw [hc, hd];show wpAny M A (if (["enumerate", "zip", "dict_itemiterator", "dict_reverseitemiterator", "odict_iterator", "itertools.zip_longest", "itertools.pairwise"].contains n && vs[0]? == some (rawInt _)) = true then _ else _) Q E s;rw [zN (by intro h; rw [hn, Bool.false_and] at h; cases h)];exact zL hQ))
def ZK (K:PySem.W.Frag)(a:Addr):It:=
 ⟨λi H=> ∃xs x,kS K H a xs/\xs[i]? =some x,λi H x H'=>H'=H/\ ∀xs,kS K H a xs->xs[i]? =some x,λi H=> ∃xs,kS K H a xs/\xs.length<=i⟩
def ZJ (K:PySem.W.Frag)(a:Addr):It:=
 ⟨λi H=> ∃xs x,uS K H a xs/\xs[i]? =some x,λi H x H'=>H'=H/\ ∀xs,uS K H a xs->xs[i]? =some x,λi H=> ∃xs,uS K H a xs/\xs.length<=i⟩
def Itr (lo:Int)(n:Nat):It:=⟨λi _=>i<n,λi H x H'=>H'=H/\x=.int (lo+i),λi _=>n<=i⟩
theorem MH {P:Program}{w:World}{K:PySem.W.Frag}{tg:Expr}(a it:Addr):Me P w K tg (ZK K a) [it] it (λi h=>h.IsListIter it a i) where
 mem:=by simp
 obj:=λi h st b hb=>by
  have e:b=it:=by simpa using hb
  subst e;obtain⟨o,e,c,d⟩:=st;exact⟨o,e,λv z=>by rw[d]at z;cases z⟩
 keep:=λi h h' st k=>st.at λo e=>k it (by simp) o e
 item:=by
  intro X hP hw hK hc i pins s σ H E I hf st hg;subst hP hw hK;obtain⟨xs,x,hq,hx⟩:=hg;obtain⟨its,rv,p,hz⟩:=I.list hq;obtain⟨u,hu,ru⟩:=rv.get hx;obtain⟨f0,f1,f2,f3,f4,f5⟩:=hf it (by simp);refine BS st p.isList (x:=u) (by simpa using hu) λh' st' sb=>?_;have I1:xK X pins σ H {s with heap:=h'}:=I.turned (t':=s.toks) (λb o hb e=>(sb.2 b hb).trans e) f0 f1 f3 f4 f5;obtain⟨o,e,c,d⟩:=id st';exact⟨u,rfl,Nn (s:={s with heap:=h'}) e c d (by decide) ⟨x,H,I1,ru,⟨rfl,λys hy=>by rw[I.list_inj hy hq];exact hx⟩,st',λb hb=>(hf b hb).1⟩⟩
 done:=by
  intro X hP hw hK hc i pins s σ H E I hf st hg;subst hP hw hK;obtain⟨xs,hq,hx⟩:=hg;obtain⟨its,rv,p,hz⟩:=I.list hq;obtain⟨f0,f1,f2,f3,f4,f5⟩:=hf it (by simp);have hl:=rv.length;exact CI (I.ok.hd hc) st p.isList (by simp;lia) λh' eb=>⟨rfl,I.turned (t':=s.toks) (λb o hb e=>eb b o hb e) f0 f1 f3 f4 f5⟩
 self:=λ_ _ _ _ _ st h=>wpAny_pyIter_listiter st h
theorem KM {P:Program}{w:World}{K:PySem.W.Frag}{tg:Expr}(a it:Addr):Me P w K tg (ZJ K a) [it] it (λi h=>h.IsTupleIter it a i) where
 mem:=by simp
 obj:=λi h st b hb=>by
  have e:b=it:=by simpa using hb
  subst e;obtain⟨o,e,c,d⟩:=st;exact⟨o,e,λv z=>by rw[d]at z;cases z⟩
 keep:=λi h h' st k=>st.at λo e=>k it (by simp) o e
 item:=by
  intro X hP hw hK hc i pins s σ H E I hf st hg;subst hP hw hK;obtain⟨xs,x,hq,hx⟩:=hg;obtain⟨its,rv,p,hz⟩:=I.tuple hq;obtain⟨u,hu,ru⟩:=rv.get hx;obtain⟨f0,f1,f2,f3,f4,f5⟩:=hf it (by simp);refine wpAny_pyNext_tuple_item st (show s.heap.IsTuple a its.toArray from p) (x:=u) (by simpa using hu) λh' st' sb=>?_;have I1:xK X pins σ H {s with heap:=h'}:=I.turned (t':=s.toks) (λb o hb e=>(sb.2 b hb).trans e) f0 f1 f3 f4 f5;obtain⟨o,e,c,d⟩:=id st';exact⟨u,rfl,Nn (s:={s with heap:=h'}) e c d (by decide) ⟨x,H,I1,ru,⟨rfl,λys hy=>by rw[I.tuple_inj hy hq];exact hx⟩,st',λb hb=>(hf b hb).1⟩⟩
 done:=by
  intro X hP hw hK hc i pins s σ H E I hf st hg;subst hP hw hK;obtain⟨xs,hq,hx⟩:=hg;obtain⟨its,rv,p,hz⟩:=I.tuple hq;obtain⟨f0,f1,f2,f3,f4,f5⟩:=hf it (by simp);have hl:=rv.length;exact wpAny_pyNext_tuple_end (I.ok.hd hc) st (show s.heap.IsTuple a its.toArray from p) (by simp;lia) λh' eb=>⟨rfl,I.turned (t':=s.toks) (λb o hb e=>eb b o hb e) f0 f1 f3 f4 f5⟩
 self:=λ_ _ _ _ _ st h=>wpAny_pyIter_tupleiter st h
theorem QN {P:Program}{w:World}{K:PySem.W.Frag}{tg:Expr}(it:Addr)(lo:Int)(n:Nat):Me P w K tg (Itr lo n) [it] it (λi h=>IsRangeIter h it (lo+(i:Nat)*1) ((n:Int)-(i:Nat)) 1) where
 mem:=by simp
 obj:=λi h st b hb=>by
  have e:b=it:=by simpa using hb
  subst e;exact⟨_,st,λv z=>by
   have z':Data.fields _=Data.cell v:=z;cases z'⟩
 keep:=λi h h' st k=>k it (by simp) _ st
 item:=by
  intro X hP hw hK hc i pins s σ H E I hf st hg;subst hP hw hK;obtain⟨f0,f1,f2,f3,f4,f5⟩:=hf it (by simp);have W:=Walks.range (prog:=X.prog) (w:=X.w) (I.ok.hd hc) it lo 1 n;refine W.item i s _ _ hg st λv h' tk hv st' kk=>?_;obtain⟨t,rfl⟩:=hv;have I1:xK X pins σ H {s with heap:=h',toks:=tk}:=I.turned (λb o hb e=>kk b o (by simpa using hb) e) f0 f1 f3 f4 f5;refine⟨_,rfl,Nn (s:={s with heap:=h',toks:=tk}) (n:="range_iterator") st' rfl rfl (by decide) ⟨.int (lo+i),H,I1,⟨t,?_⟩,⟨rfl,rfl⟩,st',λb hb=>(hf b hb).1⟩⟩;rw[Int.mul_one]
 done:=by
  intro X hP hw hK hc i pins s σ H E I hf st hg;subst hP hw hK;obtain⟨f0,f1,f2,f3,f4,f5⟩:=hf it (by simp);exact wpAny_pyNext_range_end (I.ok.hd hc) st (by have:n<=i:=hg;lia) λh' eb=>⟨rfl,I.turned (t':=s.toks) (λb o hb e=>eb b o hb e) f0 f1 f3 f4 f5⟩
 self:=λ_ _ _ _ _ st h=>wpAny_pyIter_rangeiter st h
section
variable {X:Cx}{tg:Expr}
inductive WQ (K:PySem.W.Frag) (x:V) (H1:Hp) (R:It->Hp->Prop):Prop
 |mk (a:_) (h0:x=.ref a) (h1:(∃xs,kS K H1 a xs)) (h2:R (ZK K a) H1):WQ K x H1 R
def zEf (K:PySem.W.Frag)(tl:TE):TI:=λσ H R=>tl σ H λx H1=>WQ K x H1 R
inductive Zz (K:PySem.W.Frag) (x:V) (H1:Hp) (R:It->Hp->Prop):Prop
 |mk (a:_) (h0:x=.ref a) (h1:(∃xs,uS K H1 a xs)) (h2:R (ZJ K a) H1):Zz K x H1 R
def zHy (K:PySem.W.Frag)(tl:TE):TI:=λσ H R=>tl σ H λx H1=>Zz K x H1 R
theorem AE {l:Expr}{tl:TE}(hl:PE X l tl):PI X tg l (zEf X.K tl):=by
 refine⟨?_⟩;intro pins s σ H R I h;refine qV (hl pins s σ H _ I h) λv s1 hzz=>?_;obtain⟨x,H1,I1,r1,q1⟩:=hzz;obtain⟨a,e,⟨xs,hq⟩,q⟩:=q1;subst e;cases r1;obtain⟨its,rv,p,hz⟩:=I1.list hq;refine vS p.isList ?_;refine⟨s1.heap.objs.size,[s1.heap.objs.size],_,_,H1,rfl,I1.kept (t':=s1.toks) λb o e=>zC _ e,MH a _,⟨_,zT _ rfl,rfl,rfl⟩,λb hb=>?_,q⟩;have e:b=s1.heap.objs.size:=by simpa using hb
 subst e;exact I1.fpOk (zP _) (I1.hok.fresh (zP _))
theorem JM {l:Expr}{tl:TE}(hl:PE X l tl):PI X tg l (zHy X.K tl):=by
 refine⟨?_⟩;intro pins s σ H R I h;refine qV (hl pins s σ H _ I h) λv s1 hzz=>?_;obtain⟨x,H1,I1,r1,q1⟩:=hzz;obtain⟨a,e,⟨xs,hq⟩,q⟩:=q1;subst e;cases r1;obtain⟨its,rv,p,hz⟩:=I1.tuple hq;refine uU (show s1.heap.IsTuple a its.toArray from p) ?_;refine⟨s1.heap.objs.size,[s1.heap.objs.size],_,_,H1,rfl,I1.kept (t':=s1.toks) λb o e=>zC _ e,KM a _,⟨_,zT _ rfl,rfl,rfl⟩,λb hb=>?_,q⟩;have e:b=s1.heap.objs.size:=by simpa using hb
 subst e;exact I1.fpOk (zP _) (I1.hok.fresh (zP _))
theorem VC {pins:List (Addr×Obj)}{σ:St}{H:Hp}{s:Shared}{R:It->Hp->Prop}{E:Value->Shared->Prop}{lo hi:Int}{t u v:Tok}{tk:Nat}(I:xK X pins σ H s)(h1: -(2^62)<=lo)(h2:lo<2^62)(h3: -(2^62)<=hi)(h4:hi<2^62)
  (q:R (Itr lo (hi-lo).toNat) H):wpAny (model X.prog X.w) X.A (pyIter (.ref s.heap.objs.size)) (PIE X pins σ tg R) E {s with heap:=s.heap.push {cls:=.type "range",data:=.fields #[.int lo t,.int hi u,.int 1 v]},toks:=tk}:=by
 refine wpAny_pyIter_range (IsRange.new ..) (small_one h1 h2 h3 h4) ?_;have I1:xK X pins σ H {s with heap:=s.heap.push {cls:=.type "range",data:=.fields #[.int lo t,.int hi u,.int 1 v]},toks:=tk}:=I.kept λb o e=>zC _ e;refine⟨(s.heap.push {cls:=.type "range",data:=.fields #[.int lo t,.int hi u,.int 1 v]}).objs.size,[(s.heap.push {cls:=.type "range",data:=.fields #[.int lo t,.int hi u,.int 1 v]}).objs.size],_,_,H,rfl,
  I1.kept (t':=tk) λb o e=>zC _ e,QN _ lo (hi-lo).toNat,?_,λb hb=>?_,q⟩
 ·have e1:lo+((0:Nat):Int)*1=lo:=by simp
  have e2:(((hi-lo).toNat:Nat):Int)-((0:Nat):Int)=Builtin.Range.rangeSize lo hi 1:=by rw[rangeSize_one];split<;>lia
  show IsRangeIter _ _ (lo+((0:Nat):Int)*1) ((((hi-lo).toNat:Nat):Int)-((0:Nat):Int)) 1;rw[e1,e2];exact zT _ rfl
 ·have e:b=(s.heap.push {cls:=.type "range",data:=.fields #[.int lo t,.int hi u,.int 1 v]}).objs.size:=by simpa using hb
  subst e;exact I1.fpOk (zP _) (I1.hok.fresh (zP _))
inductive WO (vs:List V) (H1:Hp) (R:It->Hp->Prop):Prop
 |mk (j:Int) (h0:vs=[.int j]) (h1: -(2^62)<=j) (h2:j<2^62) (h3:R (Itr 0 j.toNat) H1):WO vs H1 R
def zEd (ta:TA):TI:=λσ H R=>ta σ H λvs H1=>WO vs H1 R
theorem BC {a:Expr}{ta:TA}{p pos:Pos}(hg:Gl X "range")(hm:X.mg "range"=none)(ha:PA X [a] ta)(hs:starEach [a] X.env=[(false,eval a X.env)]:=by rfl):PI X tg (.Call (.Name "range" p) [a] [] pos) (zEd ta):=by
 refine⟨?_⟩;intro pins s σ H R I h;refine Call_ (Fk I hg hm boot_range (jC (qV (ha pos pins s σ H _ I h) λus s1 ⟨vs,H1,I1,r1,q1⟩=>?_) hs rfl));obtain⟨j,e,q1,q2,q⟩:=q1;subst e;cases r1 with
 |cons r rr=>
  cases rr;obtain⟨t,rfl⟩:=r;exact call_range_1 (VC I1 (by lia) (by lia) q1 q2 (by simpa using q))
def zFy (wi:TI)(g:TG)(tb:TS):TS:=λD σ H=>wi σ H λJ H1=> ∃W:Nat->Nat->St->Hp->Prop,(∃m,W 0 m σ H1)/\ ∀i m σ H,W i m σ H->
 (J.stop i H/\D.nx σ H)\/(J.go i H/\ ∃N:St->Hp->Prop,(∀σ' H',N σ' H'-> ∃m',m'<m/\W (i+1) m' σ' H')/\ ∀x H',J.yld i H x H'->g x σ H' λσ2 H2=>tb {D with nx:=N,ct:=N,bk:=D.nx} σ2 H2)
def Ls (fp:List Addr)(h:Heap):List (Addr×Obj):=fp.filterMap λb=>(h.get? b).map λo=>(b,o)
theorem Gw {fp:List Addr}{h:Heap}{b:Addr}{o:Obj}(hb:b∈fp)(e:h.get? b=some o):(b,o)∈Ls fp h:=List.mem_filterMap.mpr ⟨b,hb,by rw[e];rfl⟩
theorem Up {fp:List Addr}{h:Heap}{p:Addr×Obj}(hp:p∈Ls fp h):p.1∈fp/\h.get? p.1=some p.2:=by
 obtain⟨b,hb,e⟩:=List.mem_filterMap.mp hp;cases q:h.get? b with
 |none=>rw[q]at e;cases e
 |some o=>
  rw[q]at e;have e':(b,o)=p:=xU e;subst e';exact⟨hb,q⟩
theorem xK.pinned {pins:List (Addr×Obj)}{σ:St}{H:Hp}{s:Shared}{fp:List Addr}(I:xK X pins σ H s)(hf: ∀b∈fp,HW X pins H b)(ho: ∀b∈fp,∃o,s.heap.get? b=some o/\ ∀v,o.data≠ .cell v):xK X (pins++Ls fp s.heap) σ H s:=
 I.pins_of λp hp=>(List.mem_append.mp hp).elim (λz=>I.pin p (jA _ z)) λz=>by
  obtain⟨hb,e⟩:=Up z;obtain⟨f0,f1,f2,_⟩:=hf p.1 hb;obtain⟨o,e',d⟩:=ho p.1 hb;rw[e]at e';cases e';exact⟨e,f0,f1,f2,d⟩
theorem xK.unpinned {pins pl:List (Addr×Obj)}{σ:St}{H:Hp}{s:Shared}(I:xK X (pins++pl) σ H s):xK X pins σ H s:=I.pins_of λp hp=>I.pin p (jA _ (wG _ hp))
theorem wL {iter:Expr}{body:List Stmt}{wi:TI}{g:TG}{tb:TS}{pos:Pos}(hp:PassesOwn (model X.prog X.w) X.A X.env X.xe)(hc:X.calm=true)(hi:PI X tg iter wi)(hg:PG X tg g)(hb:Mh X body tb)
  (hs: ∀x,foldedSetIterable iter X.env x=pure x:=by intro _;rfl):PS X (.For tg iter body [] pos) (zFy wi g tb):=by
 refine⟨?_⟩;intro pins s σ H D I h;refine wpAny_For (qV (hi pins s σ H _ I h) λv s1 h1=>qV h1 λitv s2 h2=>?_) hs;obtain⟨it,fp,tn,J,H2,e,I2,T,st2,f2,W,⟨m0,w0⟩,turn⟩:=h2;subst e;have stat: ∀{H':Hp},(∀b∈fp,H' b=none)-> ∀b∈fp,HW X pins H' b:=λhn b hb=>⟨hn b hb,(f2 b hb).2⟩;refine codeAny_forLoop_any (λn s'=> ∃i σ' H',xK X pins σ' H' s'/\tn i s'.heap/\(∀b∈fp,H' b=none)/\W i n σ' H') ?_ m0 ⟨0,σ,H2,I2,st2,λb hb=>(f2 b hb).1,w0⟩;rintro n s3 ⟨i,σ3,H3,I3,st3,fr3,w3⟩
 rcases turn i n σ3 H3 w3 with⟨stop,qn⟩|⟨go,N,hN,step⟩
 ·refine vK hp (qV (T.done X rfl rfl rfl hc i pins s3 σ3 H3 X.xe I3 (stat fr3) st3 stop) λr s4 hzz=>?_);obtain⟨hr,I4⟩:=hzz;subst hr;exact uY ⟨σ3,H3,I4,qn⟩
 ·refine vK hp (qV (T.item X rfl rfl rfl hc i pins s3 σ3 H3 X.xe I3 (stat fr3) st3 go) λr s4 hzz=>?_);obtain⟨u,hr,h4⟩:=hzz;subst hr;refine vK hp (qV h4 λ_ s5 hzz=>?_);obtain⟨x,H5,I5,r5,y5,st5,fr5⟩:=hzz;have I5':=I5.pinned (stat fr5) (T.obj _ _ st5);refine vK hp (qV (hg _ s5 σ3 H5 x u _ I5' r5 (step x H5 y5)) λ_ s6 hzz=>?_);obtain⟨σ6,H6,I6,q6⟩:=hzz;refine vK hp (qV (hb _ s6 σ6 H6 _ I6 q6) λf s7 q7=>?_);have again: ∀{σ7:St} {H7:Hp},xK X (pins++Ls fp s5.heap) σ7 H7 s7->N σ7 H7-> ∃m,m<n/\ ∃i σ' H',xK X pins σ' H' s7/\tn i s7.heap/\(∀b∈fp,H' b=none)/\W i m σ' H':=fun{σ7 H7} I7 n7=>by
   obtain⟨m',hm,w7⟩:=hN σ7 H7 n7;refine⟨m',hm,i+1,σ7,H7,I7.unpinned,T.keep _ _ _ st5 λb hb o e=>(I7.pin (b,o) (jA _ (jA _ (Gw hb e)))).1,λb hb=>?_,w7⟩;obtain⟨o,e,d⟩:=T.obj _ _ st5 b hb;exact(I7.pin (b,o) (jA _ (jA _ (Gw hb e)))).2.1
  cases f with
  |next=>obtain⟨σ7,H7,I7,n7⟩:=q7;exact again I7 n7
  |cont=>obtain⟨σ7,H7,I7,n7⟩:=q7;exact again I7 n7
  |brk=>obtain⟨σ7,H7,I7,q7⟩:=q7;exact⟨σ7,H7,I7.unpinned,q7⟩
  |ret v=>obtain⟨x7,σ7,H7,I7,r7,q7⟩:=q7;exact⟨x7,σ7,H7,I7.unpinned,r7,q7⟩
end
theorem Dv {K:PySem.W.Frag}{a:Addr}{xs:List V}{g:TG}{tb:TS}{D:Gz}{σ:St}{H:Hp}(Pv:Nat->St->Hp->Prop)(h0:Pv 0 σ H)(hl: ∀i σ H,i<=xs.length->Pv i σ H->kS K H a xs)
  (hs: ∀i x σ H,xs[i]? =some x->Pv i σ H->g x σ H λσ2 H2=>tb {D with nx:=Pv (i+1),ct:=Pv (i+1),bk:=D.nx} σ2 H2) (hd: ∀σ H,Pv xs.length σ H->D.nx σ H):
  ∃W:Nat->Nat->St->Hp->Prop,(∃m,W 0 m σ H)/\ ∀i m σ H,W i m σ H->
   ((ZK K a).stop i H/\D.nx σ H)\/((ZK K a).go i H/\ ∃N:St->Hp->Prop,(∀σ' H',N σ' H'-> ∃m',m'<m/\W (i+1) m' σ' H')/\ ∀x H',(ZK K a).yld i H x H'->g x σ H' λσ2 H2=>tb {D with nx:=N,ct:=N,bk:=D.nx} σ2 H2):=by
 refine⟨λi m σ H=>m=xs.length-i/\i<=xs.length/\Pv i σ H,⟨xs.length,by simp,xH _,h0⟩,?_⟩;rintro i m σ H ⟨rfl,hi,p⟩;have q:=hl i σ H hi p
 by_cases hlt:i<xs.length
 ·refine .inr ⟨⟨xs,xs[i],q,by simp[hlt]⟩,Pv (i+1),λσ' H' p'=>⟨xs.length-(i+1),by lia,rfl,hlt,p'⟩,λx H' y=>?_⟩;obtain⟨e,y⟩:=y;subst e;exact hs i x σ _ (y xs q) p
 ·have e:i=xs.length:=by lia
  subst e;exact .inl ⟨⟨xs,q,zP _⟩,hd σ H p⟩
theorem KH {K:PySem.W.Frag}{a:Addr}{xs:List V}{g:TG}{tb:TS}{D:Gz}{σ:St}{H:Hp}(Pv:Nat->St->Hp->Prop)(h0:Pv 0 σ H)(hl: ∀i σ H,i<=xs.length->Pv i σ H->uS K H a xs)
  (hs: ∀i x σ H,xs[i]? =some x->Pv i σ H->g x σ H λσ2 H2=>tb {D with nx:=Pv (i+1),ct:=Pv (i+1),bk:=D.nx} σ2 H2) (hd: ∀σ H,Pv xs.length σ H->D.nx σ H):
  ∃W:Nat->Nat->St->Hp->Prop,(∃m,W 0 m σ H)/\ ∀i m σ H,W i m σ H->
   ((ZJ K a).stop i H/\D.nx σ H)\/((ZJ K a).go i H/\ ∃N:St->Hp->Prop,(∀σ' H',N σ' H'-> ∃m',m'<m/\W (i+1) m' σ' H')/\ ∀x H',(ZJ K a).yld i H x H'->g x σ H' λσ2 H2=>tb {D with nx:=N,ct:=N,bk:=D.nx} σ2 H2):=by
 refine⟨λi m σ H=>m=xs.length-i/\i<=xs.length/\Pv i σ H,⟨xs.length,by simp,xH _,h0⟩,?_⟩;rintro i m σ H ⟨rfl,hi,p⟩;have q:=hl i σ H hi p
 by_cases hlt:i<xs.length
 ·refine .inr ⟨⟨xs,xs[i],q,by simp[hlt]⟩,Pv (i+1),λσ' H' p'=>⟨xs.length-(i+1),by lia,rfl,hlt,p'⟩,λx H' y=>?_⟩;obtain⟨e,y⟩:=y;subst e;exact hs i x σ _ (y xs q) p
 ·have e:i=xs.length:=by lia
  subst e;exact .inl ⟨⟨xs,q,zP _⟩,hd σ H p⟩
theorem CY {lo:Int}{n:Nat}{g:TG}{tb:TS}{D:Gz}{σ:St}{H:Hp}(Pv:Nat->St->Hp->Prop)(h0:Pv 0 σ H)
  (hs: ∀i σ H,i<n->Pv i σ H->g (.int (lo+i)) σ H λσ2 H2=>tb {D with nx:=Pv (i+1),ct:=Pv (i+1),bk:=D.nx} σ2 H2) (hd: ∀σ H,Pv n σ H->D.nx σ H):
  ∃W:Nat->Nat->St->Hp->Prop,(∃m,W 0 m σ H)/\ ∀i m σ H,W i m σ H->
   ((Itr lo n).stop i H/\D.nx σ H)\/((Itr lo n).go i H/\ ∃N:St->Hp->Prop,(∀σ' H',N σ' H'-> ∃m',m'<m/\W (i+1) m' σ' H')/\ ∀x H',(Itr lo n).yld i H x H'->g x σ H' λσ2 H2=>tb {D with nx:=N,ct:=N,bk:=D.nx} σ2 H2):=by
 refine⟨λi m σ H=>m=n-i/\i<=n/\Pv i σ H,⟨n,by simp,xH _,h0⟩,?_⟩;rintro i m σ H ⟨rfl,hi,p⟩
 by_cases hlt:i<n
 ·refine .inr ⟨hlt,Pv (i+1),λσ' H' p'=>⟨n-(i+1),by lia,rfl,hlt,p'⟩,λx H' y=>?_⟩;obtain⟨e,y⟩:=y;subst e y;exact hs i σ _ hlt p
 ·have e:i=n:=by lia
  subst e;exact .inl ⟨zP _,hd σ H p⟩
abbrev R2:=V->V->Hp->VK->Prop
def IE (X:Cx)(f:Value->Value->Sem Value)(r:R2):Prop:=
 ∀(pins:List (Addr×Obj)) (s:Shared) (σ:St) (H:Hp) (x y:V) (v u:Value) (Q:VK),xK X pins σ H s->kI x v->kI y u->r x y H Q->
  wpAny (model X.prog X.w) X.A (f v u) (EP X pins σ Q) X.xe s
def UnR (X:Cx)(f:Value->Sem Value)(r:V->Hp->VK->Prop):Prop:=
 ∀(pins:List (Addr×Obj)) (s:Shared) (σ:St) (H:Hp) (x:V) (v:Value) (Q:VK),xK X pins σ H s->kI x v->r x H Q->
  wpAny (model X.prog X.w) X.A (f v) (EP X pins σ Q) X.xe s
def FU (X:Cx)(f:Value)(r:List V->Hp->VK->Prop):Prop:=
 ∀(pins:List (Addr×Obj)) (s:Shared) (σ:St) (H:Hp) (xs:List V) (us:List Value) (Q:VK),xK X pins σ H s->jK xs us->r xs H Q->
  wpAny (model X.prog X.w) X.A (call f us) (EP X pins σ Q) X.xe s
def zIi (X:Cx)(r:V->Hp->(Bool->Hp->Prop)->Prop):Prop:=
 ∀(pins:List (Addr×Obj)) (s:Shared) (σ:St) (H:Hp) (x:V) (v:Value) (Q:Bool->Hp->Prop),xK X pins σ H s->kI x v->r x H Q->
  wpAny (model X.prog X.w) X.A (truthy v) (TP X pins σ Q) X.xe s
def Zh (r:R2)(ta tb:TE):TE:=λσ H Q=>ta σ H λx H1=>tb σ H1 λy H2=>r x y H2 Q
def tUn (r:V->Hp->VK->Prop)(ta:TE):TE:=λσ H Q=>ta σ H λx H1=>r x H1 Q
inductive rI (C:Int->Int->Prop) (g:Int->Int->V) (x:V) (y:V) (H:Hp) (Q:VK):Prop
 |mk (i j:_) (h0:x=.int i) (h1:y=.int j) (h2:C i j) (h3:Q (g i j) H):rI C g x y H Q
inductive SC (g:Int->Int->V) (x:V) (y:V) (H:Hp) (Q:VK):Prop
 |mk (i j:_) (h0:x=.int i) (h1:y=.int j) (h2:Q (g i j) H):SC g x y H Q
inductive rU (g:Int->V) (x:V) (H:Hp) (Q:VK):Prop
 |mk (i:_) (h0:x=.int i) (h1:Q (g i) H):rU g x H Q
section
variable {X:Cx}{a b c:Expr}{ta tb tc:TE}{pos:Pos}
theorem zCa (ha:PE X a ta)(hb:PE X b tb){pins:List (Addr×Obj)}{s:Shared}{σ:St}{H:Hp}{R:V->V->Hp->Prop}(I:xK X pins σ H s)
  (h:ta σ H λx H1=>tb σ H1 λy H2=>R x y H2) {Q:Value->Shared->Prop} {f:Value->Value->Sem Value}
  (hf: ∀v u s2 x y H2,xK X pins σ H2 s2->kI x v->kI y u->R x y H2->wpAny (model X.prog X.w) X.A (f v u) Q X.xe s2):
  wpAny (model X.prog X.w) X.A (eval a X.env) (λv s₁=>wpAny (model X.prog X.w) X.A (eval b X.env) (λu s₂=>wpAny (model X.prog X.w) X.A (f v u) Q X.xe s₂) X.xe s₁) X.xe s:=by
 refine qV (ha pins s σ H _ I h) λv s1 hzz=>?_;obtain⟨x,H1,I1,r1,q1⟩:=hzz;refine qV (hb pins s1 σ H1 _ I1 q1) λu s2 hzz=>?_;obtain⟨y,H2,I2,r2,q2⟩:=hzz;exact hf v u s2 x y H2 I2 r1 r2 q2
theorem xQ {op:Operator}{r:R2}(ho:IE X (binaryOp op) r)(ha:PE X a ta)(hb:PE X b tb):PE X (.BinOp a op b pos) (Zh r ta tb):=by
 refine⟨?_⟩;intro pins s σ H Q I h;exact wpAny_BinOp (zCa ha hb I h λv u s2 x y H2 I2 rx ry q=>ho pins s2 σ H2 x y v u Q I2 rx ry q)
theorem MN {op:UnaryOp}{r:V->Hp->VK->Prop}(ho:UnR X (unaryOp op) r)(ha:PE X a ta):PE X (.UnaryOp op a pos) (tUn r ta):=by
 refine⟨?_⟩;intro pins s σ H Q I h;exact UnaryOp_ (qV (ha pins s σ H _ I h) λv s1 ⟨x,H1,I1,r1,q1⟩=>ho pins s1 σ H1 x v Q I1 r1 q1)
theorem opI {f:Value->Value->Sem Value}{C:Int->Int->Prop}{g:Int->Int->Int}
  (rule: ∀(i j:Int) (t u:Tok) (s:Shared) (Q:Value->Shared->Prop) (E:Value->Shared->Prop),C i j->Q (.int (g i j) s.toks) {s with toks:=s.toks+1}->wpAny (model X.prog X.w) X.A (f (.int i t) (.int j u)) Q E s):
  IE X f (rI C λi j=>.int (g i j)):=by
 intro pins s σ H x y v u Q I rx ry h;obtain⟨i,j,rfl,rfl,hc,q⟩:=h;obtain⟨t,rfl⟩:=rx;obtain⟨t',rfl⟩:=ry;exact rule i j t t' s _ _ hc ⟨.int (g i j),H,I.tok _,⟨_,rfl⟩,q⟩
theorem zDv {f:Value->Value->Sem Value}{g:Int->Int->Int}
  (rule: ∀(i j:Int) (t u:Tok) (s:Shared) (Q:Value->Shared->Prop) (E:Value->Shared->Prop),Q (.int (g i j) s.toks) {s with toks:=s.toks+1}->wpAny (model X.prog X.w) X.A (f (.int i t) (.int j u)) Q E s):
  IE X f (SC λi j=>.int (g i j)):=by
 intro pins s σ H x y v u Q I rx ry h;obtain⟨i,j,rfl,rfl,q⟩:=h;obtain⟨t,rfl⟩:=rx;obtain⟨t',rfl⟩:=ry;exact rule i j t t' s _ _ ⟨.int (g i j),H,I.tok _,⟨_,rfl⟩,q⟩
theorem Yo {f:Value->Value->Sem Value}{g:Int->Int->Bool}
  (rule: ∀(i j:Int) (t u:Tok) (s:Shared) (Q:Value->Shared->Prop) (E:Value->Shared->Prop),Q (.bool (g i j)) s->wpAny (model X.prog X.w) X.A (f (.int i t) (.int j u)) Q E s):
  IE X f (SC λi j=>.bl (g i j)):=by
 intro pins s σ H x y v u Q I rx ry h;obtain⟨i,j,rfl,rfl,q⟩:=h;obtain⟨t,rfl⟩:=rx;obtain⟨t',rfl⟩:=ry;exact rule i j t t' s _ _ ⟨.bl (g i j),H,I,rfl,q⟩
def zIo (i j:Int):Prop:=0<=j/\j<=1000000/\i.natAbs<2^64
def XE (i j:Int):Prop:=(-(2^64)<i/\i<2^64)\/(-(2^64)<j/\j<2^64)
theorem XE.ok {i j:Int}(h:XE i j):IntMulOk i j:=by
 rcases h with⟨h1,h2⟩|⟨h1,h2⟩
 ·exact .of_left (intBits_le_64 h1 h2)
 ·exact .of_right (intBits_le_64 h1 h2)
theorem qM:IE X (binaryOp .Add) (SC λi j=>.int (i+j)):=zDv λ_ _ _ _ _ _ _ q=>add_int q
theorem CU:IE X (binaryOp .Sub) (SC λi j=>.int (i-j)):=zDv λ_ _ _ _ _ _ _ q=>sub_int q
theorem Hh:IE X (binaryOp .Mult) (rI XE λi j=>.int (i*j)):=opI λ_ _ _ _ _ _ _ hc q=>mul_int q hc.ok
theorem Hi:IE X (binaryOp .Mod) (rI (λ_ j=>0<j) λi j=>.int (i % j)):=opI λi j _ _ _ _ _ hc q=>by
 have h1:(0:Int)<j:=hc;exact mod_int' (by lia) (by rw[Int.fmod_eq_emod_of_nonneg i (by lia)];exact q)
theorem zAy:IE X (binaryOp .Pow) (rI zIo λi j=>.int (i^j.toNat)):=opI λ_ _ _ _ _ _ _ hc q=>pow_int_small hc.1 hc.2.1 hc.2.2 q
theorem unI {f:Value->Sem Value}{g:Int->Int}
  (rule: ∀(i:Int) (t:Tok) (s:Shared) (Q:Value->Shared->Prop) (E:Value->Shared->Prop),Q (.int (g i) s.toks) {s with toks:=s.toks+1}->wpAny (model X.prog X.w) X.A (f (.int i t)) Q E s):
  UnR X f (rU λi=>.int (g i)):=by
 intro pins s σ H x v Q I rx h;obtain⟨i,rfl,q⟩:=h;obtain⟨t,rfl⟩:=rx;exact rule i t s _ _ ⟨.int (g i),H,I.tok _,⟨_,rfl⟩,q⟩
theorem Js:UnR X (unaryOp .USub) (rU λi=>.int (-i)):=unI λ_ _ _ _ _ q=>neg_int q
end
def zAc:V->V->Bool
 | .non,.non=>true| .non,.int _=>true| .int _,.non=>true| .non,.bl _=>true| .bl _,.non=>true| .non,.str _=>true| .str _,.non=>true
 | .int _,.int _=>true| .bl _,.bl _=>true| .str _,.str _=>true| .byt _,.byt _=>true
 | .int _,.str _=>true| .str _,.int _=>true| .bl _,.str _=>true| .str _,.bl _=>true
 |_,_=>false
def rEq:R2:=λx y H Q=>zAc x y=true/\Q (.bl (decide (x=y))) H
def rNe:R2:=λx y H Q=>zAc x y=true/\Q (.bl (!decide (x=y))) H
theorem OM {i j:Int}:decide (V.int i=V.int j)=(i==j):=by
 rw[vL]
 simp
 exact⟨λh=>by injection h,λh=>by rw[h]⟩
theorem Xk {i j:Bool}:decide (V.bl i=V.bl j)=(i==j):=by
 rw[vL]
 simp
 exact⟨λh=>by injection h,λh=>by rw[h]⟩
theorem Th {i j:Str}:decide (V.str i=V.str j)=(i==j):=by
 rw[vL]
 simp
 exact⟨λh=>by injection h,λh=>by rw[h]⟩
theorem Ti {i j:Array UInt8}:decide (V.byt i=V.byt j)=(i.toList==j.toList):=by
 rw[vL];cases i;cases j
 simp
 exact⟨λh=>by injection h with h;injection h,λh=>by rw[h]⟩
section
variable {X:Cx}{a b c:Expr}{ta tb tc:TE}{pos:Pos}
theorem qD {pins:List (Addr×Obj)}{σ:St}{H:Hp}{s:Shared}{Q:VK}{k k':Bool}(I:xK X pins σ H s)(q:Q (.bl k) H)(e:k=k'):EP X pins σ Q (.bool k') s:=by
 subst e;exact⟨.bl k,H,I,rfl,q⟩
theorem kW:IE X (compareOp .Eq) rEq:=by
 intro pins s σ H x y v u Q I rx ry h;obtain⟨hs,q⟩:=h;cases x with
 |non=>
  cases rx;cases y with
  |non=>cases ry;exact PySem.EqNone.eq_none_none (qD I q (by simp))
  |bl j=>cases ry;exact PySem.EqNone.eq_none_bool (qD I q (by simp))
  |int j=>obtain⟨t',rfl⟩:=ry;exact PySem.EqNone.eq_none_int (qD I q (by simp))
  |str j=>obtain⟨t',rfl⟩:=ry;exact PySem.EqNone.eq_none_str (qD I q (by simp))
  |_=>exact absurd (show false=true from hs) yB
 |bl i=>
  cases rx;cases y with
  |non=>cases ry;exact PySem.EqNone.eq_bool_none (qD I q (by simp))
  |bl j=>cases ry;exact eq_bool (qD I q Xk)
  |str j=>obtain⟨t',rfl⟩:=ry;exact PySem.EqMixed.eq_bool_str (qD I q (by simp))
  |_=>exact absurd (show false=true from hs) yB
 |int i=>
  obtain⟨t,rfl⟩:=rx;cases y with
  |non=>cases ry;exact PySem.EqNone.eq_int_none (qD I q (by simp))
  |int j=>obtain⟨t',rfl⟩:=ry;exact eq_int (qD I q OM)
  |str j=>obtain⟨t',rfl⟩:=ry;exact PySem.EqMixed.eq_int_str (qD I q (by simp))
  |_=>exact absurd (show false=true from hs) yB
 |str i=>
  obtain⟨t,rfl⟩:=rx;cases y with
  |non=>cases ry;exact PySem.EqNone.eq_str_none (qD I q (by simp))
  |bl j=>cases ry;exact PySem.EqMixed.eq_str_bool (qD I q (by simp))
  |int j=>obtain⟨t',rfl⟩:=ry;exact PySem.EqMixed.eq_str_int (qD I q (by simp))
  |str j=>obtain⟨t',rfl⟩:=ry;exact eq_str (qD I q Th)
  |_=>exact absurd (show false=true from hs) yB
 |byt i=>
  obtain⟨t,rfl⟩:=rx;cases y with
  |byt j=>obtain⟨t',rfl⟩:=ry;exact PySem.W.eq_bytes (qD I q Ti)
  |_=>exact absurd (show false=true from hs) yB
 |_=>cases y<;>exact absurd (show false=true from hs) yB
theorem Ia:IE X (compareOp .NotEq) rNe:=by
 intro pins s σ H x y v u Q I rx ry h;obtain⟨hs,q⟩:=h;cases x with
 |non=>
  cases rx;cases y with
  |non=>cases ry;exact PySem.EqNone.ne_none_none (qD I q (by simp))
  |bl j=>cases ry;exact PySem.EqNone.ne_none_bool (qD I q (by simp))
  |int j=>obtain⟨t',rfl⟩:=ry;exact PySem.EqNone.ne_none_int (qD I q (by simp))
  |str j=>obtain⟨t',rfl⟩:=ry;exact PySem.EqNone.ne_none_str (qD I q (by simp))
  |_=>exact absurd (show false=true from hs) yB
 |bl i=>
  cases rx;cases y with
  |non=>cases ry;exact PySem.EqNone.ne_bool_none (qD I q (by simp))
  |bl j=>cases ry;exact ne_bool (qD I q (qI not Xk))
  |str j=>obtain⟨t',rfl⟩:=ry;exact PySem.EqMixed.ne_bool_str (qD I q (by simp))
  |_=>exact absurd (show false=true from hs) yB
 |int i=>
  obtain⟨t,rfl⟩:=rx;cases y with
  |non=>cases ry;exact PySem.EqNone.ne_int_none (qD I q (by simp))
  |int j=>obtain⟨t',rfl⟩:=ry;exact ne_int (qD I q (qI not OM))
  |str j=>obtain⟨t',rfl⟩:=ry;exact PySem.EqMixed.ne_int_str (qD I q (by simp))
  |_=>exact absurd (show false=true from hs) yB
 |str i=>
  obtain⟨t,rfl⟩:=rx;cases y with
  |non=>cases ry;exact PySem.EqNone.ne_str_none (qD I q (by simp))
  |bl j=>cases ry;exact PySem.EqMixed.ne_str_bool (qD I q (by simp))
  |int j=>obtain⟨t',rfl⟩:=ry;exact PySem.EqMixed.ne_str_int (qD I q (by simp))
  |str j=>obtain⟨t',rfl⟩:=ry;exact ne_str (qD I q (qI not Th))
  |_=>exact absurd (show false=true from hs) yB
 |byt i=>
  obtain⟨t,rfl⟩:=rx;cases y with
  |byt j=>obtain⟨t',rfl⟩:=ry;exact PySem.W.ne_bytes (qD I q (qI not Ti))
  |_=>exact absurd (show false=true from hs) yB
 |_=>cases y<;>exact absurd (show false=true from hs) yB
theorem DZ:IE X (compareOp .Lt) (SC λi j=>.bl (decide (i<j))):=Yo λ_ _ _ _ _ _ _ q=>lt_int q
theorem Fa:IE X (compareOp .LtE) (SC λi j=>.bl (decide (i<=j))):=Yo λ_ _ _ _ _ _ _ q=>le_int q
theorem MU:IE X (compareOp .Gt) (SC λi j=>.bl (decide (j<i))):=Yo λ_ _ _ _ _ _ _ q=>gt_int q
theorem MV:IE X (compareOp .GtE) (SC λi j=>.bl (decide (j<=i))):=Yo λ_ _ _ _ _ _ _ q=>ge_int q
theorem Hj:IE X (compareOp .Is) (λx y H Q=>y=.non/\Q (.bl (decide (x=.non))) H):=by
 intro pins s σ H x y v u Q I rx ry h;obtain⟨rfl,q⟩:=h;cases ry;refine is_none_gen (qD I q ?_);cases x<;>first
  |(cases rx;rfl)
  |(obtain⟨t,rfl⟩:=rx;rfl)
theorem Ot:IE X (compareOp .IsNot) (λx y H Q=>y=.non/\Q (.bl (!decide (x=.non))) H):=by
 intro pins s σ H x y v u Q I rx ry h;obtain⟨rfl,q⟩:=h;cases ry;refine isnot_none_gen (qD I q ?_);cases x<;>first
  |(cases rx;rfl)
  |(obtain⟨t,rfl⟩:=rx;rfl)
theorem IC (b:Expr){op:CmpOp}(h:op≠ .In:=by decide)(h2:op≠ .NotIn:=by decide):behindInMarks op b=false:=by
 have e1:(op==CmpOp.In)=false:=by cases op<;>first|rfl|exact absurd rfl h
 have e2:(op==CmpOp.NotIn)=false:=by cases op<;>first|rfl|exact absurd rfl h2
 cases b<;>simp[behindInMarks,e1,e2]
theorem Gv {op:CmpOp}{r:R2}(ho:IE X (compareOp op) r)(ha:PE X a ta)(hb:PE X b tb)(hm:behindInMarks op b=false):PE X (.Compare a [op] [b] pos) (Zh r ta tb):=by
 refine⟨?_⟩;intro pins s σ H Q I h;exact wpAny_Compare1 (zCa ha hb I h λv u s2 x y H2 I2 rx ry q=>ho pins s2 σ H2 x y v u Q I2 rx ry q) hm
inductive Vm (x:V) (H':Hp) (Q:Bool->Hp->Prop):Prop
 |mk (k:_) (h0:x=.bl k) (h1:Q k H'):Vm x H' Q
def Zg (t:TE):TT:=λσ H Q=>t σ H λx H'=>Vm x H' Q
theorem SG {op:CmpOp}{r:R2}(ho:IE X (compareOp op) r)(ha:PE X a ta)(hb:PE X b tb)(hm:behindInMarks op b=false):PT X (.Compare a [op] [b] pos) (Zg (Zh r ta tb)):=by
 refine⟨?_⟩;intro pins s σ H Q I h;refine wpAny_isTrue_Compare1 (qV (ha pins s σ H _ I h) λv s1 ⟨x,H1,I1,r1,q1⟩=>qV (hb pins s1 σ H1 _ I1 q1) λu s2 ⟨y,H2,I2,r2,q2⟩=>
  qV (ho pins s2 σ H2 x y v u _ I2 r1 r2 q2) λc s3 ⟨z,H3,I3,r3,k,e,q3⟩=>?_) hm
 subst e;cases r3;exact wJ ⟨H3,I3,q3⟩
def QQ (r r':R2)(ta tb tc:TE):TE:=λσ H Q=>ta σ H λx H1=>tb σ H1 λy H2=>r x y H2 λz H3=> ∃k,z=.bl k/\
 (if k=true then tc σ H3 λw' H4=>r' y w' H4 Q else Q (.bl false) H3)
theorem BN {op op':CmpOp}{r r':R2}(ho:IE X (compareOp op) r)(ho':IE X (compareOp op') r')(ha:PE X a ta)(hb:PE X b tb)(hc:PE X c tc)
  (hm:lastMarks [op,op'] [b,c]=false:=by with_unfolding_all rfl):PE X (.Compare a [op,op'] [b,c] pos) (QQ r r' ta tb tc):=by
 refine⟨?_⟩;intro pins s σ H Q I h;refine Compare_chain (qV (ha pins s σ H _ I h) λv s1 ⟨x,H1,I1,r1,q1⟩=>chain_link (qV (hb pins s1 σ H1 _ I1 q1) λu s2 ⟨y,H2,I2,r2,q2⟩=>
  qV (ho pins s2 σ H2 x y v u _ I2 r1 r2 q2) λd s3 ⟨z,H3,I3,r3,k,e,q3⟩=>?_)) hm
 subst e;cases r3;refine wJ ?_;cases k with
 |false=>exact ite_ff ⟨.bl false,H3,I3,rfl,q3⟩
 |true=>exact ite_tt (chain_last (qV (hc pins s3 σ H3 _ I3 q3) λw' s4 ⟨z',H4,I4,r4,q4⟩=>ho' pins s4 σ H4 y z' u w' Q I4 r2 r4 q4))
def zEp (K:PySem.W.Frag)(x:V)(H:Hp)(k:Bool):Prop:=
 match x with
 | .non=>k=false
 | .bl b=>k=b
 | .int i=>k=(i !=0)
 | .str y=>y.length<=sizeLine/\k=((y.length:Int)!=0)
 | .byt y=>y.size<=sizeLine/\k=((y.size:Int)!=0)
 | .ref p=>(∃xs,kS K H p xs/\k=!xs.isEmpty)\/(∃xs,uS K H p xs/\k=!xs.isEmpty)\/ ∃kvs,H p=some (.dK kvs)/\k=!kvs.isEmpty
 |_=>False
theorem RM {κ:Type}{kvs:List (κ×V)}{vs:List (κ×Value)}(r:KV kvs vs):(!vs.isEmpty)=!kvs.isEmpty:=by
 cases r<;>rfl
theorem LL {xs:List V}{its:List Value}(r:jK xs its):(!its.toArray.isEmpty)=!xs.isEmpty:=by
 cases r<;>simp
theorem Fj:(sizeLine:Nat)<2^63:=by rw[wU];decide
theorem ZQ:zIi X (λx H Q=> ∃k,zEp X.K x H k/\Q k H):=by
 intro pins s σ H x v Q I rx h;obtain⟨k,e,q⟩:=h;have hl:=Fj;have hs:sizeLine=16777216:=wU;cases x with
 |non=>
  cases rx;have e':k=false:=e;subst e';exact truthy_none ⟨H,I,q⟩
 |bl b=>
  cases rx;have e':k=b:=e;subst e';exact wJ ⟨H,I,q⟩
 |int i=>
  obtain⟨t,rfl⟩:=rx;have e':k=(i !=0):=e;subst e';exact PySem.P.truthy_int ⟨H,I,q⟩
 |str y=>
  obtain⟨t,rfl⟩:=rx;obtain⟨hy,e'⟩:y.length<=sizeLine/\k=((y.length:Int)!=0):=e;subst e';exact PySem.P.truthy_str (by lia) ⟨H,I.tok _,q⟩
 |byt y=>
  obtain⟨t,rfl⟩:=rx;obtain⟨hy,e'⟩:y.size<=sizeLine/\k=((y.size:Int)!=0):=e;subst e';exact PySem.W.truthy_bytes (by lia) ⟨H,I.tok _,q⟩
 |ref p=>
  cases rx;have e':(∃xs,kS X.K H p xs/\k=!xs.isEmpty)\/(∃xs,uS X.K H p xs/\k=!xs.isEmpty)\/ ∃kvs,H p=some (.dK kvs)/\k=!kvs.isEmpty:=e
  rcases e' with⟨xs,hx,e'⟩|⟨xs,hx,e'⟩|⟨kvs,hx,e'⟩
  ·subst e';obtain⟨its,r,pl,hz⟩:=I.list hx;have hlen:=r.length;exact wpAny_truthy_list pl.isList (by simp only[zU];lia) ⟨H,I.tok _,by rw[LL r];exact q⟩
  ·subst e';obtain⟨its,r,pl,hz⟩:=I.tuple hx;have hlen:=r.length;exact truthy_tuple pl (by simp only[zU];lia) ⟨H,I.tok _,by rw[LL r];exact q⟩
  ·subst e';obtain⟨hz,hS,vs,r,m⟩:kvs.length<=sizeLine/\(p==sysModules)=false/\ ∃vs,KV kvs vs/\s.heap.DictOf (wI X.prog X.w) p vs:=I.hok p _ hx;have hlen:kvs.length=vs.length:=Fu r;exact wpAny_truthy_dict hS m (by lia) ⟨H,I.tok _,by rw[RM r];exact q⟩
 |_=>exact(show False from e).elim
theorem Po (ha:PE X a ta)(he: ∀whole,isTrue a X.env whole=(do let v<-whole;standAt a.pos;holding [v] (truthy v))):
  PT X a (λσ H Q=>ta σ H λx H'=> ∃k,zEp X.K x H' k/\Q k H'):=by
 refine⟨?_⟩;intro pins s σ H Q I h;exact isTrue_plain (qV (ha pins s σ H _ I h) λv s1 ⟨x,H1,I1,r1,q1⟩=>ZQ pins s1 σ H1 x v Q I1 r1 q1) (he _)
theorem JY {x:V}{us:List Value}(r:jK [x] us): ∃u,us=[u]/\kI x u:=by
 cases r with
 |cons r1 r2=>cases r2;exact⟨_,rfl,r1⟩
theorem IJ {x y:V}{us:List Value}(r:jK [x,y] us): ∃u w',us=[u,w']/\kI x u/\kI y w':=by
 cases r with
 |cons r1 r2=>
  cases r2 with
  |cons r3 r4=>cases r4;exact⟨_,_,rfl,r1,r3⟩
end
structure Sb (h:Heap)(x dx C:Addr)(mA:Str->Option Value):Prop where
 obj:h.get? x=some (PySem.W.instObj C dx)
 ns:h.Ns1 dx mA
 ne:dx≠x
theorem HH {h:Heap}{dx:Addr}{mA:Str->Option Value}(n:h.Ns1 dx mA): ∃od,h.get? dx=some od/\ ∀name,PySem.W.lookIn name od=some (mA name):=by
 obtain⟨o,es,ep,ho,hd,hk,_,hm⟩:=n;refine⟨o,ho,λname=>?_⟩;have e:=hm name;unfold nsFind findBy at e;rw[<-Array.find?_toList]at e;unfold PySem.W.lookIn;rw[hd];dsimp only;split
 ·rename_i y q;rw[q]at e;exact qI some e
 ·rename_i q;rw[q]at e;have a:es.toList.any (·.refKey)=false:=by
   rw[List.any_eq_false];intro y hy;obtain⟨z,t,hkey⟩:=hk y (Array.mem_toList_iff.mp hy)
   simp[DictEntry.refKey,hkey]
  have a': ¬es.toList.any (·.refKey)=true:=by rw[a];exact yB
  rw[zN a'];exact qI some e
theorem Sb.look {h:Heap}{x dx C:Addr}{mA:Str->Option Value}(I:Sb h x dx C mA): ∃od,PySem.W.InstAt h x (PySem.W.instObj C dx) C (some od)/\ ∀name,PySem.W.lookIn name od=some (mA name):=
 let⟨od,ho,hl⟩:=HH I.ns
 ⟨od,⟨I.obj,rfl,rfl,ho⟩,hl⟩
section
variable {prog:Program}{w:World}{A:Around}{E:Value->Shared->Prop}{s:Shared}{K:PySem.W.Frag}{x dx C f:Addr}{mA:Str->Option Value}{name:Str}{v:Value}
theorem YH {expr:Bool}{Q:Value->Shared->Prop}(X:K.In s.heap)(I:Sb s.heap x dx C mA)(hg:PySem.W.plainGet K C name=true)(hh:PySem.W.hasDictIn K C=true)
  (ha:PySem.W.findIn K (.ref C) name=some none) (hv:mA name=some v) (hv':PySem.W.handedIn v=true) (h:Q v {s with toks:=s.toks+1}):
  wpAny (model prog w) A (getAttr (.ref x) name expr) Q E s:=by
 obtain⟨od,J,hl⟩:=I.look;exact PySem.W.get_value X J (Ed hg).1 (PySem.W.findObj_own hh ha rfl (by rw[hl,hv])) hv' h
theorem WY {pl:Sem Bool}{Q:Value×List Value->Shared->Prop}(X:K.In s.heap)(I:Sb s.heap x dx C mA)(hg:PySem.W.plainGet K C name=true)
  (hf:PySem.W.findIn K (.ref C) name=some (some (.ref f))) (ht:PySem.W.isFn K (.ref f)=true) (hv:mA name=none) (h:Q (.ref f,[.ref x]) s):
  wpAny (model prog w) A (getMethod (.ref x) name pl) Q E s:=by
 obtain⟨od,J,hl⟩:=I.look;exact PySem.W.method_fn X J (Ed hg).1 (Ed hg).2 hf (beq_iff_eq.mp ht) (by show(PySem.W.lookIn name od).map (·.isSome)=some false;rw[hl,hv];rfl) h
theorem XQ {ns:List Str}{Q:Unit->Shared->Prop}(X:K.In s.heap)(I:Sb s.heap x dx C mA)
  (hs:PySem.W.findIn K (.ref C) "__setattr__"=some (some (.builtin "object.__setattr__"))) (hp:PySem.W.plainOver K C=true) (ht:PySem.W.takerIn K C name=some none) (hh:PySem.W.hasDictIn K C=true)
  (hw:PySem.Within mA ns) (hsz:ns.length<=sizeLine)
  (h: ∀h',Sb h' x dx C (λy=>if y=name then some v else mA y)->Heap.SameBut dx s.heap h'->Q () {s with heap:=h',toks:=s.toks+2}):
  wpAny (model prog w) A (setAttr (.ref x) name v) Q E s:=by
 obtain⟨od,J,hl⟩:=I.look;refine PySem.W.set_plain X J hs (PySem.W.osa_open (s:={s with toks:=s.toks+1}) (r:=none) X J hp ht λb=>?_);obtain⟨cd,hc,hd'⟩:=PySem.W.any_some hh;have hx:s.heap.get? x=some ⟨.ref C,some dx,.plain,#[]⟩:=I.obj;refine zA (zL (zA (zA (EH hx (zA (PySem.W.Looks.here (s:={s with toks:=s.toks+1}) (PySem.W.looks_clsIn X hc) ?_))))));rw[hd'];refine zL (a:=some dx) (zA (zL (zA ?_)));refine wpAny_nsSet1 (s:={s with toks:=s.toks+1}) I.ns λh' hn2 hs2=>?_;obtain⟨oD,esD,epD,hoD,hdD,hcD⟩:=hn2.count (Fb name v hw);refine zA (FV hoD (by rw[hdD];exact FW (yO hcD (by rw[zI];lia))) ?_);exact zL (h _ ⟨(hs2.2 _ (Ne.symm I.ne)).trans I.obj,hn2,I.ne⟩ hs2)
theorem WD {R:Result->Shared->Prop}{vs:List Value}{kw:List (Str×Value)}(X:K.In s.heap)(hm:PySem.W.makesIn K C=true)
  (hi:PySem.W.findIn K (.ref C) "__init__"=some (some (.ref f))) (hf:PySem.W.typeIn K (.ref f)=some (.type "function"))
  (h:codeAny (model prog w) (A.under (.builtin "type.__call__" ⟨.ref C::vs,kw⟩)) (.call (.ref f) ⟨.ref (s.heap.objs.size+1)::vs,kw⟩) (PySem.W.InitBack (s.heap.objs.size+1) R)
   {s with heap:=(s.heap.push PySem.W.emptyDict).push (PySem.W.instObj C s.heap.objs.size)}):
  codeAny (model prog w) A (.call (.ref C) ⟨vs,kw⟩) R s:=by
 obtain⟨hh,g,d,t,os⟩:=s;exact PySem.W.make_core (PySem.W.makes_of X hm) (PySem.W.looks_findIn X hi) (λself=>PySem.W.bind_fn X self hf) (.inl rfl) h
end
def Gr (f:Str)(v:V):List (Str×V)->List (Str×V)
 |[]=>[(f,v)]
 |(g,x)::r=>if g=f then(g,v)::r else(g,x)::Gr f v r
theorem Hq (f g:Str)(v:V): ∀fs:List (Str×V),(Gr f v fs).lookup g=if g=f then some v else fs.lookup g
 |[]=>by
  show List.lookup g [(f,v)]=_
  by_cases h:g=f
  ·have hb:(g==f)=true:=beq_iff_eq.mpr h;simp only[List.lookup,hb,zQ h]
  ·have hb:(g==f)=false:=beq_eq_false_iff_ne.mpr h;simp only[List.lookup,hb,zN h]
 |(k,x)::r=>by
  have ih:=Hq f g v r;rw[show Gr f v ((k,x)::r)=(if k=f then(k,v)::r else(k,x)::Gr f v r)from rfl]
  by_cases hk:k=f
  ·rw[zQ hk]
   by_cases h:g=k
   ·have hb:(g==k)=true:=beq_iff_eq.mpr h;simp only[List.lookup,hb,zQ (h.trans hk)]
   ·have hb:(g==k)=false:=beq_eq_false_iff_ne.mpr h;simp only[List.lookup,hb,zN (λe:g=f=>h (e.trans hk.symm))]
  ·rw[zN hk]
   by_cases h:g=k
   ·have hb:(g==k)=true:=beq_iff_eq.mpr h;simp only[List.lookup,hb,zN (λe:g=f=>hk (h.symm.trans e))]
   ·have hb:(g==k)=false:=beq_eq_false_iff_ne.mpr h;simp only[List.lookup,hb];exact ih
theorem FI (f:Str)(v:V): ∀fs:List (Str×V),f∈(Gr f v fs).map (·.1)/\ ∀g,g∈fs.map (·.1)->g∈(Gr f v fs).map (·.1)
 |[]=>⟨by simp[Gr],λg h=>by simp at h⟩
 |(k,x)::r=>by
  obtain⟨i1,i2⟩:=FI f v r;rw[show Gr f v ((k,x)::r)=(if k=f then(k,v)::r else(k,x)::Gr f v r)from rfl]
  by_cases hk:k=f
  ·rw[zQ hk];subst hk;exact⟨by simp,λg h=>by simpa using h⟩
  ·rw[zN hk];refine⟨?_,λg h=>?_⟩
   ·rw[xG];exact yW _ i1
   ·rw[xG]at h ⊢
    rcases List.mem_cons.mp h with e|e
    ·exact List.mem_cons.mpr (.inl e)
    ·exact yW _ (i2 g e)
theorem Kf (f:Str)(v:V): ∀fs:List (Str×V),(Gr f v fs).length<=fs.length+1
 |[]=>by simp[Gr]
 |(k,x)::r=>by
  have ih:=Kf f v r;rw[show Gr f v ((k,x)::r)=(if k=f then(k,v)::r else(k,x)::Gr f v r)from rfl]
  by_cases hk:k=f
  ·rw[zQ hk,zI,zI];lia
  ·rw[zN hk,zI,zI];lia
theorem EK.some_of {v:V}{o:Option Value}(r:EK (some v) o): ∃u,o=some u/\kI v u:=by
 cases o with
 |none=>exact(show False from r).elim
 |some u=>exact⟨u,rfl,r⟩
theorem EK.none_of {o:Option Value}(r:EK none o):o=none:=by
 cases o with
 |none=>rfl
 |some u=>exact(show False from r).elim
theorem Nm {v:V}{u:Value}(r:kI v u):PySem.W.handedIn u=true:=by
 cases v with
 |non=>cases(show u=Value.none from r);rfl
 |bl b=>cases(show u=Value.bool b from r);rfl
 |int i=>obtain⟨t,e⟩:=(show ∃t,u=Value.int i t from r);cases e;rfl
 |str x=>obtain⟨t,e⟩:=(show ∃t,u=Value.str x t from r);cases e;rfl
 |byt b=>obtain⟨t,e⟩:=(show ∃t,u=Value.bytes b t from r);cases e;rfl
 |flt b=>obtain⟨t,e⟩:=(show ∃t,u=Value.float b t from r);cases e;rfl
 |ref a=>cases(show u=Value.ref a from r);rfl
 |ty n=>cases(show u=Value.type n from r);rfl
section
variable {P:Program}{w:World}{H H':Hp}{h h':Heap}{a C dx:Addr}{fs fs':List (Str×V)}
theorem KG (hok:HL P w H h)(e:H a=some (.ins C dx fs)): ∃mA,Sb h a dx C mA/\(∀f,EK (fs.lookup f) (mA f))/\PySem.Within mA (fs.map (·.1))/\fs.length<=1000/\H dx=some (.own a):=by
 obtain⟨d,z,ne,ob,mA,n,r,q⟩:=(show qR P w H h a (.ins C dx fs)from hok a _ e);exact⟨mA,⟨ob,n,ne⟩,r,q,z,d⟩
end
structure Sl (K:PySem.W.Frag)(C:Addr):Prop where
 pg:PySem.W.plainGet K C Str.empty=true
 hd:PySem.W.hasDictIn K C=true
 po:PySem.W.plainOver K C=true
 sa:PySem.W.findIn K (.ref C) "__setattr__"=some (some (.builtin "object.__setattr__"))
theorem Sl.get {K:PySem.W.Frag}{C:Addr}(c:Sl K C)(f:Str):PySem.W.plainGet K C f=true:=c.pg
def vG (K:PySem.W.Frag)(C:Addr)(f:Str):Prop:=PySem.W.findIn K (.ref C) f=some none
theorem vG.taker {K:PySem.W.Frag}{C:Addr}{f:Str}(n:vG K C f):PySem.W.takerIn K C f=some none:=by
 unfold PySem.W.takerIn;rw[show PySem.W.findIn K (.ref C) f=some none from n];rfl
structure Za (K:PySem.W.Frag)(C:Addr)(m:Str)(f:Addr):Prop where
 at_:PySem.W.findIn K (.ref C) m=some (some (.ref f))
 fn:PySem.W.isFn K (.ref f)=true
 kp:PySem.W.keepIn K (.ref f)=true
section
variable {X:Cx}{pins:List (Addr×Obj)}{σ:St}{H:Hp}{s:Shared}{a C dx:Addr}{fs:List (Str×V)}{f:Str}{v:V}{A:Around}{E:Value->Shared->Prop}
theorem LQ {b:Bool}{Q:Value->Shared->Prop}(I:xK X pins σ H s)(e:H a=some (.ins C dx fs))(c:Sl X.K C)(n:vG X.K C f)(l:fs.lookup f=some v)
  (h: ∀u s',xK X pins σ H s'->kI v u->Q u s'):wpAny (model X.prog X.w) A (getAttr (.ref a) f b) Q E s:=by
 obtain⟨mA,O,r,_,_,_⟩:=KG I.hok e;obtain⟨u,hu,ru⟩:=EK.some_of (v:=v) (o:=mA f) (by rw[<-l];exact r f);exact YH I.kIn O (c.get f) c.hd n hu (Nm ru) (h u _ (I.tok _) ru)
theorem LP {m:Str}{g:Addr}{pl:Sem Bool}{Q:Value×List Value->Shared->Prop}(I:xK X pins σ H s)(e:H a=some (.ins C dx fs))(c:Sl X.K C)(k:Za X.K C m g)(l:fs.lookup m=none)
  (h:Q (.ref g,[.ref a]) s):wpAny (model X.prog X.w) A (getMethod (.ref a) m pl) Q E s:=by
 obtain⟨mA,O,r,_,_,_⟩:=KG I.hok e;have hn:mA m=none:=EK.none_of (by rw[<-l];exact r m);exact WY I.kIn O (c.get m) k.at_ k.fn hn h
theorem KZ {y:V}{u:Value}{Q:Unit->Shared->Prop}(I:xK X pins σ H s)(e:H a=some (.ins C dx fs))(c:Sl X.K C)(n:vG X.K C f)(hl:fs.length<1000)(ry:kI y u)
  (h: ∀s',xK X pins σ (upd H a (.ins C dx (Gr f y fs))) s'->Q () s'):wpAny (model X.prog X.w) A (setAttr (.ref a) f u) Q E s:=by
 obtain⟨mA,O,r,wi,_,ho⟩:=KG I.hok e;have hz:(fs.map (·.1)).length<=sizeLine:=by rw[zF,wU];lia
 refine XQ I.kIn O c.sa c.po n.taker c.hd wi hz λh' O' sb=>h _ ?_;have hd: ∃o,h'.get? dx=some o:=let⟨o,_,_,e',_⟩:=O'.ns;⟨o,e'⟩;refine I.write (x:=a) (e:=dx) (by rw[e];exact True.intro) (.inr ho) (λb q hb z=>(sb.2 b hb).trans z) hd ?_;refine⟨by rw[zW O.ne];exact ho,?_,O.ne,O'.obj,_,O'.ns,λg=>?_,λg hg=>?_⟩
 ·have:=Kf f y fs;lia
 ·show EK ((Gr f y fs).lookup g) (if g=f then some u else mA g);rw[Hq]
  by_cases q:g=f
  ·rw[zQ q,zQ q];exact ry
  ·rw[zN q,zN q];exact r g
 ·by_cases q:g=f
  ·rw[q];exact(FI f y fs).1
  ·refine(FI f y fs).2 g (wi g λz=>hg ?_);show(if g=f then some u else mA g)=none;rw[zN q];exact z
theorem xK.made (I:xK X pins σ H s):xK X pins σ (upd (upd H s.heap.objs.size (.own (s.heap.objs.size+1))) (s.heap.objs.size+1) (.ins C s.heap.objs.size []))
  {s with heap:=(s.heap.push PySem.W.emptyDict).push (PySem.W.instObj C s.heap.objs.size)}:=by
 have e1:(s.heap.push PySem.W.emptyDict).get? s.heap.objs.size=some PySem.W.emptyDict:=zT s.heap rfl;have e2:((s.heap.push PySem.W.emptyDict).push (PySem.W.instObj C s.heap.objs.size)).get? (s.heap.objs.size+1)=some (PySem.W.instObj C s.heap.objs.size):=by
  have:=zT (s.heap.push PySem.W.emptyDict) (o:=PySem.W.instObj C s.heap.objs.size) rfl
  rwa [vA]at this
 have e3:(s.heap.push PySem.W.emptyDict).Ns s.heap.objs.size (λ_=>none):=⟨PySem.W.emptyDict,#[],_,e1,rfl,(λe he=>absurd he (by simp)),λ_=>rfl⟩;have I1:=I.laid (a:=s.heap.objs.size) (o:=.own (s.heap.objs.size+1)) (h':=s.heap.push PySem.W.emptyDict) (t':=s.toks) (λb u q=>zC _ q) (zP _) ⟨_,e1⟩;refine I1.laid (a:=s.heap.objs.size+1) (o:=.ins C s.heap.objs.size []) (t':=s.toks) (λb u q=>zC _ q) (Nat.le_of_eq (vA _ _)) ?_;have ne:s.heap.objs.size≠s.heap.objs.size+1:=xA (Dc _);refine⟨by rw[zW ne,zH],xH _,ne,e2,λ_=>none,(Heap.Ns1.of_empty e3).at λo q=>zC _ q,λ_=>True.intro,λy hy=>absurd rfl hy⟩
theorem Tt {prog:Program}{w:World}{env:Env}{e:Expr}{f:Str}{pos:Pos}{s:Shared}{Q:Value->Shared->Prop}(hb:attributeBase e f env (eval e env)=eval e env)
  (h:wpAny (model prog w) A (eval e env) (λo s₁=>wpAny (model prog w) A (getAttr o f true) Q E s₁) E s):wpAny (model prog w) A (eval (.Attribute e f pos) env) Q E s:=
 Attribute_any_ h (by rw[arm_eval_Attribute,hb])
end
inductive Zk (K:PySem.W.Frag) (f:Str) (x:V) (H1:Hp) (Q:VK):Prop
 |mk (a C dx fs v:_) (h0:x=.ref a) (h1:H1 a=some (.ins C dx fs)) (h2:Sl K C) (h3:vG K C f) (h4:fs.lookup f=some v) (h5:Q v H1):Zk K f x H1 Q
def zDe (K:PySem.W.Frag)(ta:TE)(f:Str):TE:=λσ H Q=>ta σ H λx H1=>Zk K f x H1 Q
def zGd (K:PySem.W.Frag)(ta tv:TE)(f:Str):TS:=λD σ H=>tv σ H λy H1=>ta σ H1 λx H2=> ∃a C dx fs,x=.ref a/\H2 a=some (.ins C dx fs)/\Sl K C/\vG K C f/\fs.length<1000/\
 D.nx σ (upd H2 a (.ins C dx (Gr f y fs)))
def zFd (X:Cx)(op:Operator)(rd:V->V->Hp->VK->Prop):Prop:=
 ∀(pins:List (Addr×Obj)) (s:Shared) (σ:St) (H:Hp) (x y:V) (u v:Value) (Q:VK),xK X pins σ H s->kI x u->kI y v->rd x y H Q->wpAny (model X.prog X.w) X.A (inplaceOp op u v) (EP X pins σ Q) X.xe s
def XS (K:PySem.W.Frag)(ta tv:TE)(rd:V->V->Hp->VK->Prop)(f:Str):TS:=λD σ H=>ta σ H λx H1=> ∃a C dx fs v,x=.ref a/\H1 a=some (.ins C dx fs)/\Sl K C/\vG K C f/\fs.lookup f=some v/\
 tv σ H1 λy H2=>rd v y H2 λz H3=> ∃dx' fs',H3 a=some (.ins C dx' fs')/\fs'.length<1000/\D.nx σ (upd H3 a (.ins C dx' (Gr f z fs')))
section
variable {X:Cx}{o e value:Expr}{f:Str}{pos pos' tpos:Pos}{ta tv:TE}
theorem xW (he:PE X e ta)(hb:attributeBase e f X.env (eval e X.env)=eval e X.env):PE X (.Attribute e f pos) (zDe X.K ta f):=by
 refine⟨?_⟩;intro pins s σ H Q I h;refine Tt hb (qV (he pins s σ H _ I h) λu s1 hzz=>?_);obtain⟨x,H1,I1,rx,a,C,dx,fs,v,ex,ea,c,n,l,q⟩:=hzz;subst ex;obtain rfl:u=Value.ref a:=rx;exact LQ I1 ea c n l λu' s2 I2 ru=>⟨v,H1,I2,ru,q⟩
theorem Gs (ha:PE X o ta)(hv:PE X value tv)(hs:swapsWith value (some (.Attribute o f pos')) pos.line X.env=pure false):PS X (.Assign [.Attribute o f pos'] value pos) (zGd X.K ta tv f):=by
 refine⟨?_⟩;intro pins s σ H D I h;refine CF (qV (hv pins s σ H _ I h) λu s1 ⟨y,H1,I1,ry,q⟩=>qV (ha pins s1 σ H1 _ I1 q) λov s2 ⟨x,H2,I2,rx,a,C,dx,fs,ex,ea,c,n,l,q2⟩=>?_) hs;subst ex;obtain rfl:ov=Value.ref a:=rx;exact KZ I2 ea c n l ry λs3 I3=>⟨σ,_,I3,q2⟩
theorem TW {op:Operator}{rd:V->V->Hp->VK->Prop}(ha:PE X o ta)(hv:PE X value tv)(hop:zFd X op rd):PS X (.AugAssign (.Attribute o f tpos) op value pos) (XS X.K ta tv rd f):=by
 refine⟨?_⟩;intro pins s σ H D I h;refine wpAny_AugAssign_AttributeAny (qV (ha pins s σ H _ I h) λov s1 hzz=>?_);obtain⟨x,H1,I1,rx,a,C,dx,fs,v,ex,ea,c,n,l,q⟩:=hzz;subst ex;obtain rfl:ov=Value.ref a:=rx;refine LQ I1 ea c n l λu s2 I2 ru=>qV (hv pins s2 σ H1 _ I2 q) λw3 s3 ⟨y,H2,I3,ry,q3⟩=>qV (hop pins s3 σ H2 v y u w3 _ I3 ru ry q3) λw4 s4 hzz=>?_;obtain⟨z,H3,I4,rz,dx',fs',ea',l',q4⟩:=hzz;exact KZ I4 ea' c n l' rz λs5 I5=>⟨σ,_,I5,q4⟩
def zHq:V->V->Hp->VK->Prop:=λx y H Q=> ∃i j,x=.int i/\y=.int j/\Q (.int (i+j)) H
theorem zBp:zFd X .Add zHq:=by
 rintro pins s σ H x y u v Q I rx ry ⟨i,j,rfl,rfl,q⟩;obtain⟨t,rfl⟩:=(show ∃t,u=Value.int i t from rx);obtain⟨t',rfl⟩:=(show ∃t',v=Value.int j t' from ry);exact PyProof.Rows.iadd_int ⟨.int (i+j),H,I.tok _,⟨_,rfl⟩,q⟩
end
section
variable {X:Cx}{pins:List (Addr×Obj)}{σ:St}{H:Hp}{s:Shared}{A:Around}{E:Value->Shared->Prop}{Q:Value->Shared->Prop}{c:Value}{b:Bool}
inductive CZ (K:PySem.W.Frag) (H:Hp):V->Value->Prop where
 |non:CZ K H .non (.type "NoneType")
 |bl (x:Bool):CZ K H (.bl x) (.type "bool")
 |int (i:Int):CZ K H (.int i) (.type "int")
 |str (x:Str):CZ K H (.str x) (.type "str")
 |flt (x:UInt64):CZ K H (.flt x) (.type "float")
 |lst {a:Addr} {xs:List V} (e:H a=some (.lst xs)):CZ K H (.ref a) (.type "list")
 |frz {a:Addr} {o:Obj} {xs:List V} (e:H a=some (.frz o (.lst xs))):CZ K H (.ref a) (.type "list")
 |tup {a:Addr} {xs:List V} (e:H a=some (.tup xs)):CZ K H (.ref a) (.type "tuple")
 |dK {a:Addr} {kvs:List (uT×V)} (e:H a=some (.dK kvs)):CZ K H (.ref a) (.type "dict")
 |dT {a:Addr} {kvs:List (List uT×V)} (e:H a=some (.dT kvs)):CZ K H (.ref a) (.type "dict")
 |ins {a C dx:Addr} {fs:List (Str×V)} (e:H a=some (.ins C dx fs)) (cl:Sl K C) (ha:PySem.W.findIn K (.ref C) "__class__"=some (some (.builtin "object.__class__")))
   (hn:PySem.W.specialIn K (.builtin "object.__class__") "__get__"=some (some (.builtin "getset_descriptor.__get__"))) (htk:PySem.W.takesIn K (.builtin "object.__class__")=some true)
   (hm:PySem.W.mroIn K C (.type "object")=some true):CZ K H (.ref a) (.ref C)
theorem Nj {x:V}{u t:Value}(I:xK X pins σ H s)(rx:kI x u)(ty:CZ X.K H x t)(e:PySem.W.kitOne X.K t c=some b)(h: ∀tk,Q (.bool b) {s with toks:=tk}):
  wpAny (model X.prog X.w) A (call (.builtin "isinstance") [u,c]) Q E s:=by
 cases ty with
 |non=>cases(show u=Value.none from rx);exact kU PySem.W.kitx_none I.kIn True.intro e (λz=>nomatch z) h
 |bl y=>cases(show u=Value.bool y from rx);exact kU PySem.W.kitx_bool I.kIn True.intro e (λz=>nomatch z) h
 |int i=>obtain⟨t,q⟩:=(show ∃t,u=Value.int i t from rx);cases q;exact kU PySem.W.kitx_int I.kIn True.intro e (λz=>nomatch z) h
 |str y=>obtain⟨t,q⟩:=(show ∃t,u=Value.str y t from rx);cases q;exact kU PySem.W.kitx_str I.kIn True.intro e (λz=>nomatch z) h
 |flt y=>obtain⟨t,q⟩:=(show ∃t,u=Value.float y t from rx);cases q;exact kU PySem.W.kitx_float I.kIn True.intro e (λz=>nomatch z) h
 |@lst a xs ea=>
  cases(show u=Value.ref a from rx);obtain⟨_,_,n,_,h1⟩:=(show qR X.prog X.w H s.heap a (.lst xs)from I.hok a _ ea);exact kU Fc I.kIn ⟨_,h1,rfl⟩ e (λz=>nomatch z) h
 |@frz a ob xs ea=>
  cases(show u=Value.ref a from rx);obtain⟨_,_,_,n,_,h1⟩:=(show qR X.prog X.w H s.heap a (.frz ob (.lst xs))from I.hok a _ ea);exact kU Fc I.kIn ⟨_,h1,rfl⟩ e (λz=>nomatch z) h
 |@tup a xs ea=>
  cases(show u=Value.ref a from rx);obtain⟨_,_,_,p⟩:=(show qR X.prog X.w H s.heap a (.tup xs)from I.hok a _ ea);obtain⟨o,h1,h2,_⟩:=p;exact kU PySem.W.kitx_tuple I.kIn ⟨o,h1,h2⟩ e (λz=>nomatch z) h
 |@dK a kvs ea=>
  cases(show u=Value.ref a from rx);obtain⟨_,_,vs,_,p⟩:=(show qR X.prog X.w H s.heap a (.dK kvs)from I.hok a _ ea);obtain⟨o,es,ep,h1,h2,_⟩:=p;exact kU PySem.W.kitx_dict I.kIn ⟨o,h1,h2.1⟩ e (λz=>nomatch z) h
 |@dT a kvs ea=>
  cases(show u=Value.ref a from rx);obtain⟨_,_,xs,_,o,es,ep,h1,h2,_⟩:=(show qR X.prog X.w H s.heap a (.dT kvs)from I.hok a _ ea);exact kU PySem.W.kitx_dict I.kIn ⟨o,h1,h2.1⟩ e (λz=>nomatch z) h
 |@ins a C dx fs ea cl ha hn htk hm=>
  cases(show u=Value.ref a from rx);obtain⟨mA,O,_⟩:=KG I.hok ea;obtain⟨od,J,_⟩:=O.look;exact kU (PySem.W.kitx_own (cl.get _) cl.hd ha hn htk hm) I.kIn J e (λz=>nomatch z) h
end
structure vY (k:Nat)(A:Around):Prop where
 hd:A.handled=none
 dp:A.depth+3*k+5<recursionLimit
 un:A.units+16*k+200<cLine
 gd:A.guards=some []
theorem vY.mono {j k:Nat}{A:Around}(r:vY k A)(h:j<=k):vY j A:=⟨r.hd,by have:=r.dp;lia,by have:=r.un;lia,r.gd⟩
theorem vY.deeper {k:Nat}{A:Around}(r:vY (k+1) A)(env:Env):vY k (A.deeper env):=
 ⟨r.hd,by have:=r.dp;show A.depth+1+3*k+5<_;lia,by have:=r.un;show A.units+3+16*k+200<_;lia,r.gd⟩
theorem RH {A:Around}{C:Addr}{us:List Value}{kw:List (Str×Value)}:(A.under (.builtin "type.__call__" ⟨.ref C::us,kw⟩)).depth =A.depth+1:=by
 first|rfl|simp[Around.under,Code.weight,Code.isCreation,Code.isGuard,Code.isCaller,Code.frames,Code.isFrame,guardIds]
theorem RG {A:Around}{C:Addr}{us:List Value}{kw:List (Str×Value)}:(A.under (.builtin "type.__call__" ⟨.ref C::us,kw⟩)).units =A.units+1:=by
 first|rfl|simp[Around.under,Code.cUnits,Code.frames,Code.isFrame]
theorem vY.make {k:Nat}{A:Around}(r:vY (k+1) A)(C:Addr)(us:List Value)(kw:List (Str×Value)):vY k (A.under (.builtin "type.__call__" ⟨.ref C::us,kw⟩)):=
 ⟨r.hd,by have:=r.dp;rw[RH];lia,by have:=r.un;rw[RG];lia,r.gd⟩
theorem vY.depth {k:Nat}{A:Around}(r:vY k A):A.depth<recursionLimit:=by have:=r.dp;lia
theorem vY.units {k:Nat}{A:Around}(r:vY k A):A.units+64<cLine:=by have:=r.un;lia
def NG:TA:=λ_ H Q=>Q [] H
def MI (ta:TE)(tr:TA):TA:=λσ H Q=>ta σ H λx H1=>tr σ H1 λxs H2=>Q (x::xs) H2
section
variable {X:Cx}{e:Expr}{es:List Expr}{te:TE}{t:TA}{pos:Pos}
theorem yC:PA X [] NG:=⟨λ_ _ _ _ H Q I h=>Calls.spliced_nil ⟨[],H,I,.nil,h⟩⟩
theorem zB (ha:PE X e te)(hr:PA X es t)(hs:starEach (e::es) X.env=(false,eval e X.env)::starEach es X.env:=by rfl):PA X (e::es) (MI te t):=by
 refine⟨?_⟩;intro pos pins s σ H Q I h;rw[hs];show wpAny _ _ (spliced ((false,eval e X.env)::backTo pos (starEach es X.env))) _ _ s;refine Calls.spliced_cons (qV (ha pins s σ H _ I h) λu s1 hzz=>?_);obtain⟨x,H1,I1,r1,q1⟩:=hzz;exact qV (hr pos pins s1 σ H1 _ I1 q1) λus s2 ⟨xs,H2,I2,r2,q2⟩=>⟨x::xs,H2,I2,.cons r1 r2,q2⟩
inductive Sr (xs:List V) (H1:Hp) (Q:VK):Prop
 |mk (h0:xs.length<=sizeLine) (h1: ∀p,H1 p=none->Q (.ref p) (upd H1 p (.tup xs))):Sr xs H1 Q
def zCz (t:TA):TE:=λσ H Q=>t σ H λxs H1=>Sr xs H1 Q
inductive Zi (xs:List V) (H1:Hp) (Q:VK):Prop
 |mk (h0:xs.length<=sizeLine) (h1: ∀p,H1 p=none->Q (.ref p) (upd H1 p (.lst xs))):Zi xs H1 Q
def TL (t:TA):TE:=λσ H Q=>t σ H λxs H1=>Zi xs H1 Q
theorem xR {x1}(h:PA X es t):PE X (.Tuple es x1 pos) (zCz t):=by
 refine⟨?_⟩;intro pins s σ H Q I hq;refine wpAny_Tuple_spliced (qV (h pos pins s σ H _ I hq) λus s1 ⟨xs,H1,I1,r,z,q⟩=>⟨by rw[<-r.length];exact z,?_⟩);have hf:H1 s1.heap.objs.size=none:=I1.hok.fresh (zP _);refine⟨.ref s1.heap.objs.size,upd H1 s1.heap.objs.size (.tup xs),I1.laid (t':=s1.toks) (λb u e=>zC _ e) (zP _) ?_,rfl,q _ hf⟩;exact⟨z,us,r,⟨_,zT _ rfl,rfl,_,rfl⟩⟩
theorem jE (h:PA X es t):PE X (.List es pos) (TL t):=by
 refine⟨?_⟩;intro pins s σ H Q I hq;refine wpAny_List_spliced (qV (h pos pins s σ H _ I hq) λus s1 ⟨xs,H1,I1,r,z,q⟩=>⟨by rw[<-r.length];exact z,?_⟩);have hf:H1 s1.heap.objs.size=none:=I1.hok.fresh (zP _);refine⟨.ref s1.heap.objs.size,upd H1 s1.heap.objs.size (.lst xs),I1.laid (t':=s1.toks) (λb u e=>zC _ e) (zP _) ?_,rfl,q _ hf⟩;exact⟨z,us,0,r,zT _ rfl⟩
end
abbrev Sp:=List V->Hp->VK->XK->Prop
abbrev JX:=List Env->Hp->Shared->XK->Value->Shared->Prop
structure Si (P:Program)(w:World)(K:PySem.W.Frag)(mg:Str->Option Value)(base:Heap)(A:Around)(outer:List Env)(s:Shared)(H:Hp):Prop where
 frames:A.frames=some outer
 mod:Mod K mg base
 bs: ∀b o,base.get? b=some o->s.heap.get? b=some o/\H b=none
 bsz:base.objs.size<=s.heap.objs.size
 funs:s.heap.FunFrames base outer
 frf: ∀b∈frs outer,H b=none
 hok:HL P w H s.heap
 bare:AllBare s.gens
def CE (outer:List Env)(P:Program)(w:World)(H:Hp)(s:Shared)(Q:VK)(u:Value)(s':Shared):Prop:=
 ∃v H',s'.os=s.os/\AllBare s'.gens/\Un (frs outer) [] H H' s.heap s'.heap/\HL P w H' s'.heap/\kI v u/\Q v H'
def CR (CX:JX)(outer:List Env)(P:Program)(w:World)(H:Hp)(s:Shared)(Q:VK)(E:XK)(r:Result)(s':Shared):Prop:=
 match r with
 | .ok (.ret u)=>CE outer P w H s Q u s'
 | .ok _=>False
 | .error e=>CX outer H s E e s'
structure Bb (P:Program)(w:World)(K:PySem.W.Frag)(mg:Str->Option Value)(base:Heap)(CX:JX)(k:Nat)(f:Addr)(fd:FuncData)(ps:List Str)(sp:Sp):Prop where
 len: ∀vs H Q E,sp vs H Q E->vs.length=ps.length
 run: ∀(A:Around) (outer:List Env) (s:Shared) (H:Hp) (args:Args) (us:List Value) (vs:List V) (Q:VK) (E:XK),vY k A->Si P w K mg base A outer s H->BindsTo s fd args (ps.zip us)->jK vs us->sp vs H Q E->
  codeAny (model P w) A (.call (.ref f) args) (CR CX outer P w H s Q E) s
theorem Bb.imp {P:Program}{w:World}{K:PySem.W.Frag}{mg:Str->Option Value}{base:Heap}{CX:JX}{k:Nat}{f:Addr}{fd:FuncData}{ps:List Str}{sp sp':Sp}(F:Bb P w K mg base CX k f fd ps sp)
  (h: ∀vs H Q E,sp' vs H Q E->sp vs H Q E):Bb P w K mg base CX k f fd ps sp':=
 ⟨λvs H Q E q=>F.len vs H Q E (h _ _ _ _ q),λA outer s H args us vs Q E hr he hb hv hs=>F.run A outer s H args us vs Q E hr he hb hv (h _ _ _ _ hs)⟩
theorem Si.make {P:Program}{w:World}{K:PySem.W.Frag}{mg:Str->Option Value}{base:Heap}{A:Around}{outer:List Env}{s:Shared}{H:Hp}(e:Si P w K mg base A outer s H)(C:Addr)(us:List Value)(kw:List (Str×Value)):
  Si P w K mg base (A.under (.builtin "type.__call__" ⟨.ref C::us,kw⟩)) outer s H:=⟨by first|exact e.frames|(simpa[Around.under,Code.envs,Code.isFrame,pushEnvs]using e.frames),e.mod,e.bs,e.bsz,e.funs,e.frf,e.hok,e.bare⟩
section
variable {X:Cx}{pins:List (Addr×Obj)}{σ:St}{H:Hp}{s s':Shared}
theorem xK.env0 (I:xK X pins σ H s):Si X.prog X.w X.K X.mg X.base X.A X.stack s H:=
 ⟨I.ok.frames,I.ok.mod,I.bs,yO I.ok.bsz I.sz,I.stack,I.stkFree,I.hok,I.bare⟩
theorem xK.after {Q:VK}{u:Value}(I:xK X pins σ H s)(h:CE X.stack X.prog X.w H s Q u s'):EP X pins σ Q u s':=by
 obtain⟨v,H',os,bare,un,hok,r,q⟩:=h;obtain⟨hh,g,d,t,os'⟩:=s';obtain rfl:os'=s.os:=os;exact⟨v,H',I.call (h':=hh) (g':=g) (d':=d) (t':=t) (ch:=[]) un hok bare (λb z=>absurd z (by simp)),r,q⟩
end
def Vq (sp:Sp)(dvs:List V)(E:XK)(t:TA):TE:=λσ H Q=>t σ H λvs H1=>sp (vs++dvs) H1 Q E
inductive Vo (C:Addr) (m:Str) (sp:Sp) (dvs:List V) (E:XK) (t:TA) (σ:St) (x:V) (H1:Hp) (Q:VK):Prop
 |mk (a dx fs:_) (h0:x=.ref a) (h1:H1 a=some (.ins C dx fs)) (h2:fs.lookup m=none) (h3:t σ H1 λvs H2=>sp (x::(vs++dvs)) H2 Q E):Vo C m sp dvs E t σ x H1 Q
def Ss (C:Addr)(m:Str)(sp:Sp)(dvs:List V)(E:XK)(ta:TE)(t:TA):TE:=λσ H Q=>ta σ H λx H1=>Vo C m sp dvs E t σ x H1 Q
def Su (C:Addr)(sp:Sp)(dvs:List V)(E:XK)(t:TA):TE:=λσ H Q=>t σ H λvs H1=> ∀x dx,H1 x=none->H1 dx=none->dx≠x->
 sp (.ref x::(vs++dvs)) (upd (upd H1 dx (.own x)) x (.ins C dx [])) (λv H2=>v=.non/\Q (.ref x) H2) E
def An (K:PySem.W.Frag)(fd:FuncData)(ps:List Str)(ds:List Value):Prop:=
 ∀(s:Shared) (us:List Value),K.In s.heap->(us++ds).length =ps.length->BindsTo s fd ⟨us,[]⟩ (ps.zip (us++ds))
theorem An.all {K:PySem.W.Frag}{fd:FuncData}{ps:List Str}(h: ∀us:List Value,us.length=ps.length->bindArgs fd ⟨us,[]⟩=pure (ps.zip us)):An K fd ps []:=λs us _ hl=>by
 rw[yV]at hl ⊢;exact .of_eq (h us hl)
def Bv (CX:JX)(X:Cx)(E:XK):Prop:= ∀(pins:List (Addr×Obj)) (σ:St) (H:Hp) (s:Shared) (e:Value) (s':Shared),xK X pins σ H s->CX X.stack H s E e s'->X.xe e s'
section
variable {X:Cx}{CX:JX}{k:Nat}{f C:Addr}{fd:FuncData}{ps:List Str}{sp:Sp}{dvs:List V}{ds:List Value}{E:XK}{x m:Str}{p pos apos:Pos}{e o:Expr}{es:List Expr}{ta:TE}{t:TA}
theorem Re {pins:List (Addr×Obj)}{σ:St}{H:Hp}{s:Shared}{Q:VK}{us:List Value}{vs:List V}(F:Bb X.prog X.w X.K X.mg X.base CX k f fd ps sp)(hr:vY k X.A)(hb:An X.K fd ps ds)(hd:jK dvs ds)(hx:Bv CX X E)
  (I:xK X pins σ H s) (r:jK vs us) (h:sp (vs++dvs) H Q E):wpAny (model X.prog X.w) X.A (call (.ref f) us) (EP X pins σ Q) X.xe s:=by
 have r2:jK (vs++dvs) (us++ds):=r.append hd;have hl:(us++ds).length =ps.length:=by rw[<-r2.length];exact F.len _ _ _ _ h
 refine Bw (AK (F.run X.A X.stack s H ⟨us,[]⟩ (us++ds) (vs++dvs) Q E hr I.env0 (hb s us I.kIn hl) r2 h) λr s' hq=>?_);cases r with
 |error e=>exact hx pins σ H s e s' I hq
 |ok fl=>
  cases fl with
  |ret u=>exact I.after hq
  |next=>exact False.elim hq
  |brk=>exact False.elim hq
  |cont=>exact False.elim hq
theorem Yj (F:Bb X.prog X.w X.K X.mg X.base CX k f fd ps sp)(hr:vY k X.A)(hg:Gl X x)(hm:X.mg x=some (.ref f))(hk:PySem.W.keepIn X.K (.ref f)=true)(hb:An X.K fd ps ds)(hd:jK dvs ds)(hx:Bv CX X E)
  (ha:PA X (e::es) t) (hdb:(x==("__debug__":Str))=false:=by decide) (he:starEach (e::es) X.env=(false,eval e X.env)::starEach es X.env:=by rfl) (hpl:(backTo pos (starEach es X.env)).any (·.1)=false:=by rfl):
  PE X (.Call (.Name x p) (e::es) [] pos) (Vq sp dvs E t):=by
 refine⟨?_⟩;intro pins s σ H Q I h;refine qZ (Ej I hg hm ?_ hdb);refine uV (h₀:=X.base) I.ok.mod.kin hk (qV (ha pos pins s σ H _ I h) λus s1 ⟨vs,H1,I1,r,q⟩=>⟨I1.kIn,?_⟩) he hpl;exact Re F hr hb hd hx I1 r q
theorem Yf {pl:Sem Bool}(he:PE X o ta)(c:Sl X.K C)(hm:Za X.K C m f)(F:Bb X.prog X.w X.K X.mg X.base CX k f fd ps sp)(hr:vY k X.A)(hb:An X.K fd ps ds)(hd:jK dvs ds)(hx:Bv CX X E)(ha:PA X (e::es) t)
  (hst:starEach (e::es) X.env=(false,eval e X.env)::starEach es X.env:=by rfl) (hpl:(backTo pos (starEach es X.env)).any (·.1)=false:=by rfl)
  (ht:eval (.Call (.Attribute o m apos) (e::es) [] pos) X.env=(do
   let ov<-eval o X.env
   standAt apos.atName
   let(f,first)<-holding [ov] (getMethod ov m pl)
   callWith pos f first (backTo pos (starEach (e::es) X.env)) (backToKw pos (keywordEach [] X.env))):=by rfl):
  PE X (.Call (.Attribute o m apos) (e::es) [] pos) (Ss C m sp dvs E ta t):=by
 refine⟨?_⟩;intro pins s σ H Q I h;refine PySem.W.methodCall_KW (pl:=pl) (qV (he pins s σ H _ I h) λu s1 ⟨x,H1,I1,rx,a,dx,fs,ex,ea,l,q⟩=>?_) ht;subst ex;obtain rfl:u=Value.ref a:=rx;refine LP I1 ea c hm l ?_;refine uV (first:=[.ref a]) (h₀:=X.base) I.ok.mod.kin hm.kp (qV (ha pos pins s1 σ H1 _ I1 q) λus s2 ⟨vs,H2,I2,r,q2⟩=>⟨I2.kIn,?_⟩) hst hpl;exact Re (us:=.ref a::us) (vs:=.ref a::vs) F hr hb hd hx I2 (.cons rfl r) q2
theorem VW {pl:Sem Bool}(he:PE X o ta)(c:Sl X.K C)(hm:Za X.K C m f)(F:Bb X.prog X.w X.K X.mg X.base CX k f fd ps sp)(hr:vY k X.A)(hb:An X.K fd ps ds)(hd:jK dvs ds)(hx:Bv CX X E)
  (ht:eval (.Call (.Attribute o m apos) [] [] pos) X.env=(do
   let ov<-eval o X.env
   standAt apos.atName
   let(f,first)<-holding [ov] (getMethod ov m pl)
   callWith pos f first (backTo pos (starEach [] X.env)) (backToKw pos (keywordEach [] X.env))):=by rfl):
  PE X (.Call (.Attribute o m apos) [] [] pos) (Ss C m sp dvs E ta NG):=by
 refine⟨?_⟩;intro pins s σ H Q I h;refine PySem.W.methodCall_KW (pl:=pl) (qV (he pins s σ H _ I h) λu s1 ⟨x,H1,I1,rx,a,dx,fs,ex,ea,l,q⟩=>?_) ht;subst ex;obtain rfl:u=Value.ref a:=rx;refine LP I1 ea c hm l ?_;exact PySem.W.callWith_K0 (first:=[.ref a]) I1.kIn hm.kp (Re (us:=[.ref a]) (vs:=[.ref a]) F hr hb hd hx I1 (.cons rfl .nil) q)
structure Mk (K:PySem.W.Frag)(C f:Addr):Prop where
 makes:PySem.W.makesIn K C=true
 init:PySem.W.findIn K (.ref C) "__init__"=some (some (.ref f))
 fn:PySem.W.isFn K (.ref f)=true
 kp:PySem.W.keepIn K (.ref C)=true
theorem Ph {pins:List (Addr×Obj)}{σ:St}{H:Hp}{s:Shared}{Q:VK}{us:List Value}{vs:List V}(M:Mk X.K C f)(F:Bb X.prog X.w X.K X.mg X.base CX k f fd ps sp)(hr:vY (k+1) X.A)(hb:An X.K fd ps ds)(hd:jK dvs ds)
  (hx:Bv CX X E) (I:xK X pins σ H s) (r:jK vs us)
  (h: ∀x dx,H x=none->H dx=none->dx≠x->sp (.ref x::(vs++dvs)) (upd (upd H dx (.own x)) x (.ins C dx [])) (λv H2=>v=.non/\Q (.ref x) H2) E):
  wpAny (model X.prog X.w) X.A (call (.ref C) us) (EP X pins σ Q) X.xe s:=by
 have hq:=h (s.heap.objs.size+1) s.heap.objs.size (I.hok.fresh (vV _)) (I.hok.fresh (zP _)) (xA (Dc _));have I2:=xK.made (C:=C) I;have r2:jK (V.ref (s.heap.objs.size+1)::(vs++dvs)) (Value.ref (s.heap.objs.size+1)::(us++ds)):=.cons rfl (r.append hd);have hl:(Value.ref (s.heap.objs.size+1)::us++ds).length =ps.length:=by
  have e:=r2.length;rw[F.len _ _ _ _ hq]at e;exact e.symm
 refine Bw (WD (f:=f) I.kIn M.makes M.init (beq_iff_eq.mp M.fn) (AK (F.run _ X.stack _ _ ⟨Value.ref (s.heap.objs.size+1)::us,[]⟩ (Value.ref (s.heap.objs.size+1)::(us++ds)) _ _ E (hr.make C us [])
  (I2.env0.make C us []) (hb _ (Value.ref (s.heap.objs.size+1)::us) I2.kIn hl) r2 hq) λr s' hq'=>?_))
 cases r with
 |error e=>exact hx pins σ _ _ e s' I2 hq'
 |ok fl=>
  cases fl with
  |ret u=>
   obtain⟨v,H',I3,rv,ev,q3⟩:=I2.after hq';subst ev;exact⟨rv,⟨V.ref (s.heap.objs.size+1),H',I3,rfl,q3⟩⟩
  |next=>exact False.elim hq'
  |brk=>exact False.elim hq'
  |cont=>exact False.elim hq'
theorem Yg (M:Mk X.K C f)(F:Bb X.prog X.w X.K X.mg X.base CX k f fd ps sp)(hr:vY (k+1) X.A)(hg:Gl X x)(hm:X.mg x=some (.ref C))(hb:An X.K fd ps ds)(hd:jK dvs ds)(hx:Bv CX X E)
  (ha:PA X (e::es) t) (hdb:(x==("__debug__":Str))=false:=by decide) (he:starEach (e::es) X.env=(false,eval e X.env)::starEach es X.env:=by rfl) (hpl:(backTo pos (starEach es X.env)).any (·.1)=false:=by rfl):
  PE X (.Call (.Name x p) (e::es) [] pos) (Su C sp dvs E t):=by
 refine⟨?_⟩;intro pins s σ H Q I h;refine qZ (Ej I hg hm ?_ hdb);refine uV (h₀:=X.base) I.ok.mod.kin M.kp (qV (ha pos pins s σ H _ I h) λus s1 ⟨vs,H1,I1,r,q⟩=>⟨I1.kIn,?_⟩) he hpl;exact Ph M F hr hb hd hx I1 r q
theorem VX (M:Mk X.K C f)(F:Bb X.prog X.w X.K X.mg X.base CX k f fd ps sp)(hr:vY (k+1) X.A)(hg:Gl X x)(hm:X.mg x=some (.ref C))(hb:An X.K fd ps ds)(hd:jK dvs ds)(hx:Bv CX X E)
  (hdb:(x==("__debug__":Str))=false:=by decide):PE X (.Call (.Name x p) [] [] pos) (Su C sp dvs E NG):=by
 refine⟨?_⟩;intro pins s σ H Q I h;refine qZ (Ej I hg hm ?_ hdb);exact PySem.W.callWith_K0 I.kIn M.kp (Ph (us:=[]) M F hr hb hd hx I .nil h)
end
structure PK (X:Cx)(kws:List Keyword)(t:TA):Prop where
 go: ∀(pos:Pos) (pins:List (Addr×Obj)) (s:Shared) (σ:St) (H:Hp) (Q:List V->Hp->Prop),xK X pins σ H s->t σ H Q->wpAny (model X.prog X.w) X.A (evalAll ((backToKw pos (keywordEach kws X.env)).map (·.2))) (AP X pins σ Q) X.xe s
instance {X:Cx}{kws:List Keyword}{t:TA}:CoeFun (PK X kws t) (λ_=> ∀(pos:Pos) (pins:List (Addr×Obj)) (s:Shared) (σ:St) (H:Hp) (Q:List V->Hp->Prop),xK X pins σ H s->t σ H Q->wpAny (model X.prog X.w) X.A (evalAll ((backToKw pos (keywordEach kws X.env)).map (·.2))) (AP X pins σ Q) X.xe s):=⟨PK.go⟩
structure yK (N P:List Str)(sc:Scope):Prop where
 kind:sc.kind=.function
 co:sc.isCoroutine=false
 gen:sc.isGenerator=false
 nd:N.Nodup
 pre:N.take P.length=P
 par: ∀x∈P,sc.names.lookup x=some .local\/sc.names.lookup x=some .cell
 nofree: ∀y∈sc.names,y.2≠ .free
theorem Nz {kindOf:Str->Option NameKind}{x:Str}: ∀{binds:List (Str×Value)} {m:Str->Option Value},(∀v,(x,v)∉binds)->bindL kindOf binds m x=m x
 |[],_,_=>rfl
 |(n,v)::r,m,h=>by
  unfold bindL;rw[Nz λw hw=>h w (yW _ hw)];split
  ·have:x≠n:=by rintro rfl;exact h v yT
   simp[this]
  ·rfl
theorem NB {kindOf:Str->Option NameKind}{x:Str}: ∀{binds:List (Str×Value)} {m:Str->Option Value},(∀v,(x,v)∉binds)->bindC kindOf binds m x=m x
 |[],_,_=>rfl
 |(n,v)::r,m,h=>by
  unfold bindC;rw[NB λw hw=>h w (yW _ hw)];split
  ·rfl
  ·have:x≠n:=by rintro rfl;exact h v yT
   simp[this]
theorem NA {kindOf:Str->Option NameKind}{x:Str}{v:Value}: ∀{P:List Str} {vs:List Value} {i:Nat} {m:Str->Option Value},P.Nodup->P[i]? =some x->vs[i]? =some v->kindOf x=some .local->
  bindL kindOf (P.zip vs) m x=some v
 |[],_,_,_,_,h,_,_=>by simp at h
 |_::_,[],_,_,_,_,h,_=>by simp at h
 |p::P,w::vs,0,m,nd,h1,h2,hk=>by
  simp at h1 h2;subst h1;subst h2
  show bindL kindOf ((p,w)::P.zip vs) m p=_;unfold bindL;rw[Nz λv hv=>(List.nodup_cons.mp nd).1 (List.of_mem_zip hv).1,zQ hk]
  simp
 |p::P,w::vs,i+1,m,nd,h1,h2,hk=>by
  show bindL kindOf ((p,w)::P.zip vs) m x=_;unfold bindL;exact NA (i:=i) (List.nodup_cons.mp nd).2 (by simpa using h1) (by simpa using h2) hk
theorem ND {kindOf:Str->Option NameKind}{x:Str}{v:Value}: ∀{P:List Str} {vs:List Value} {i:Nat} {m:Str->Option Value},P.Nodup->P[i]? =some x->vs[i]? =some v->kindOf x≠some .local->
  bindC kindOf (P.zip vs) m x=some v
 |[],_,_,_,_,h,_,_=>by simp at h
 |_::_,[],_,_,_,_,h,_=>by simp at h
 |p::P,w::vs,0,m,nd,h1,h2,hk=>by
  simp at h1 h2;subst h1;subst h2
  show bindC kindOf ((p,w)::P.zip vs) m p=_;unfold bindC;rw[NB λv hv=>(List.nodup_cons.mp nd).1 (List.of_mem_zip hv).1,zN hk]
  simp
 |p::P,w::vs,i+1,m,nd,h1,h2,hk=>by
  show bindC kindOf ((p,w)::P.zip vs) m x=_;unfold bindC;exact ND (i:=i) (List.nodup_cons.mp nd).2 (by simpa using h1) (by simpa using h2) hk
def GG (N:List Str)(vs:List V):St:=vs.map some++List.replicate (N.length-vs.length) none
def LY (CX:JX)(P:Program)(w:World)(K:PySem.W.Frag)(mg:Str->Option Value)(base:Heap)(N:List Str)(qual:Str)(scope:Scope)(f:Addr)(cd:Value)(A:Around)(outer:List Env)(s:Shared)(H:Hp)(E:XK):Cx where
 prog:=P
 w:=w
 K:=K
 mg:=mg
 base:=base
 A:=A.deeper (envOfC qual scope s.heap.objs.size f cd)
 N:=N
 s₀:=s
 H₀:=H
 env:=envOfC qual scope s.heap.objs.size f cd
 outer:=outer
 stack:=envOfC qual scope s.heap.objs.size f cd::outer
 ex:=[]
 calm:=true
 fn:=λ_=>true
 pn:=[]
 xe:=λe s'=>wpAny (model P w) (A.deeper (envOfC qual scope s.heap.objs.size f cd)) (leaving (envOfC qual scope s.heap.objs.size f cd) e) (λ_ s''=>CX outer H s E e s'') (λe' s''=>CX outer H s E e' s'') s'
theorem QF {sc:Scope}{n:Nat}{x:Str}(h:sc.names.lookup x=some .cell): ∃c,(cellsFrom n sc.names []).lookup x=some c:=by
 have q:=PySem.W.cellsFrom_some sc.names n [] (.inl h);exact Option.isSome_iff_exists.mp q
theorem Uy {CX:JX}{P:Program}{w:World}{K:PySem.W.Frag}{mg:Str->Option Value}{base:Heap}{N ps:List Str}{qual:Str}{scope:Scope}{f:Addr}{cd:Value}{A:Around}{outer:List Env}{s s1:Shared}{H:Hp}{E:XK}{us:List Value}{vs:List V}
  (S:yK N ps scope) (hd:A.handled=none) (e0:Si P w K mg base A outer s H) (hl:vs.length=ps.length) (r:jK vs us)
  (x:InCallC s s.heap.objs.size (bindL (envOfC qual scope s.heap.objs.size f cd).kindOf (ps.zip us) λ_=>none) (cellsFrom (s.heap.objs.size+1) scope.names []) (bindC (envOfC qual scope s.heap.objs.size f cd).kindOf (ps.zip us) λ_=>none) s1):
  xK (LY CX P w K mg base N qual scope f cd A outer s H E) [] (GG N vs) H s1:=by
 have hpl:ps.length<=N.length:=by have:=qI List.length S.pre;rw[yL]at this;lia
 obtain⟨h1,tk,rfl,hk⟩:=x.done;have noA: ∀b:Addr,b∉(LY CX P w K mg base N qual scope f cd A outer s H E).ex:=λb z=>absurd (show b∈([]:List Addr)from z) (by simp);refine⟨⟨e0.mod,S.kind,rfl,rfl,zP _,λy z c h1 h2=>?_,λy hy=>?_,λy c _ h=>?_,λ_=>hd,Around.frames_deeper e0.frames,.inr ⟨rfl,rfl⟩,λb z=>absurd z (noA b),e0.bs,e0.bsz,λb _ _=>noA b,λb z=>absurd z (noA b),e0.funs,e0.frf⟩,
  rfl,e0.bare,Un.kept hk,⟨_,x.toInCall.ns,λi y v h1 h2 h3=>?_⟩,λy c h=>⟨_,x.cell y c h⟩,e0.hok.fresh (zP _),λy c h=>?_,λp hp=>absurd (show p∈([]:List (Addr×Obj))from hp) (by simp),e0.hok.kept hk,?_⟩
 ·exact name_of_addr x.apart (wO h1) (wO h2)
 ·have hy:scope.names.lookup y=some .cell\/scope.names.lookup y=some .free:=hy
  rcases hy with hy|hy
  ·exact QF hy
  ·exact absurd rfl (S.nofree _ (wO hy))
 ·exact BZ (x.above y c (wO h))
 ·have hi:i<vs.length:=by
   unfold GG at h2
   by_cases hi:i<vs.length
   ·exact hi
   ·rw[Ax (by simpa using hi)]at h2;rw[Ge]at h2;split at h2<;>cases h2
  have ha:vs[i]? =some v:=by
   unfold GG at h2;rw[EL (by simpa using hi),yQ]at h2;cases e:vs[i]? with
   |none=>rw[e]at h2;cases h2
   |some a=>rw[e]at h2;cases h2;rfl
  obtain⟨u,hu,rv⟩:=r.get ha;have hp:ps[i]? =some y:=by
   rw[<-S.pre,List.getElem?_take_of_lt (by lia)];exact h1
  have ndP:ps.Nodup:=by rw[<-S.pre];exact S.nd.sublist (List.take_sublist _ _)
  refine⟨u,rv,?_⟩
  rcases S.par y (xL hp)with k|k
  ·exact .inl ⟨k,NA ndP hp hu k⟩
  ·obtain⟨c,e⟩:=QF (n:=s.heap.objs.size+1) k;refine .inr ⟨.inl k,c,e,?_⟩;have q:=x.cell y c e;rw[ND ndP hp hu (by show scope.names.lookup y≠_;rw[k];decide)]at q;exact q
 ·exact e0.hok.fresh (BZ (x.above y c (wO h)))
 ·unfold GG;show _=N.length;rw[zD,zF,vD];lia
theorem ZD {CX:JX}{P:Program}{w:World}{K:PySem.W.Frag}{mg:Str->Option Value}{base:Heap}{k:Nat}{f:Addr}{name qual:Str}{params:Arguments}{body:List Stmt}{scope:Scope}{dV kV doc pm cdv ct oc:Value}{an od:Option Addr}
  {osl:Array (Option Value)} {N ps:List Str} {sp:Sp} (lk:K.lookup f=some ⟨oc,od,.func (PySem.W.fnOf name qual params body scope dV kV doc pm an cdv ct),osl⟩) (hcd:PySem.W.codeIn K cdv qual=true) (S:yK N ps scope)
  (len: ∀vs H Q E,sp vs H Q E->vs.length=ps.length)
  (hbody: ∀(A:Around) (outer:List Env) (s:Shared) (H:Hp) (vs:List V) (Q:VK) (E:XK),vY k (A.deeper (envOfC qual scope s.heap.objs.size f cdv))->sp vs H Q E->
   ∃t,Mh (LY CX P w K mg base N qual scope f cdv A outer s H E) body t/\t {nx:=λ_ H'=>Q .non H',rt:=Q} (GG N vs) H):
  Bb P w K mg base CX (k+1) f (PySem.W.fnOf name qual params body scope dV kV doc pm an cdv ct) ps sp:=by
 refine⟨len,λA outer s H args us vs Q E hr e0 hb r hsp=>?_⟩;have hl:=len _ _ _ _ hsp;have KX:K.In s.heap:=e0.mod.kin.keeps λb o e=>(e0.bs b o e).1;have lim:s.heap.NoLimit:=e0.mod.nolimit.keeps λb o e=>(e0.bs b o e).1;have hkind: ∀y∈ps.zip us,scope.names.lookup y.1=some .local\/(scope.names.lookup y.1=some .cell/\((cellsFrom (s.heap.objs.size+1) scope.names []).lookup y.1).isSome =true):=fun⟨n,v⟩ hy=>by
  rcases S.par n (List.of_mem_zip hy).1 with q|q
  ·exact .inl q
  ·exact .inr ⟨q,PySem.W.cellsFrom_some _ _ _ (.inl q)⟩
 refine codeAny_call_function hr.depth (KX _ _ lk) rfl S.co S.gen rfl (PySem.W.codeRec_of KX hcd) (hb _ _ _ _ ?_);refine wpAny_newFunctionEnv_cells S.kind hkind λenv he s1 x=>?_;subst he;refine⟨lim.keeps x.toInCall.keep,codeAny_func ?_⟩;obtain⟨t,ht,hq⟩:=hbody A outer s H vs Q E (hr.deeper _) hsp;have I:xK (LY CX P w K mg base N qual scope f cdv A outer s H E) [] (GG N vs) H s1:=Uy S hr.hd e0 hl r x;refine qX (ht [] s1 (GG N vs) H _ I hq) (λfl s' hs=>?_) λe s' hs=>hs;have fin: ∀{σ':St} {H':Hp} {v:V} {u:Value},xK (LY CX P w K mg base N qual scope f cdv A outer s H E) [] σ' H' s'->kI v u->Q v H'->CE outer P w H s Q u s':=
  fun{σ' H' v u} J rv q=>⟨v,H',J.os,J.bare,J.base,J.hok,rv,q⟩
 cases fl with
 |ret u=>
  obtain⟨v,σ',H',J,rv,q⟩:=hs;exact fin J rv q
 |next=>
  obtain⟨σ',H',J,q⟩:=hs;exact fin (v:=V.non) (u:=Value.none) J rfl q
 |brk=>
  obtain⟨_,_,_,q⟩:=hs;exact False.elim q
 |cont=>
  obtain⟨_,_,_,q⟩:=hs;exact False.elim q
section
variable {X:Cx}{x:Str}{p pos:Pos}{e:Expr}{es:List Expr}{t:TA}{id T:String}{r:List V->Hp->VK->Prop}
def tCB (r:List V->Hp->VK->Prop)(t:TA):TE:=λσ H Q=>t σ H λvs H1=>r vs H1 Q
theorem yS (hc:FU X (.builtin id) r)(hg:Gl X x)(hm:X.mg x=none)(hv:bootBuiltins x=some (.builtin id))(ha:PA X (e::es) t)(hn:x≠"__name__":=by decide)(hdb:(x==("__debug__":Str))=false:=by decide)
  (he:starEach (e::es) X.env=(false,eval e X.env)::starEach es X.env:=by rfl) (hpl:(backTo pos (starEach es X.env)).any (·.1)=false:=by rfl):PE X (.Call (.Name x p) (e::es) [] pos) (tCB r t):=by
 refine⟨?_⟩;intro pins s σ H Q I h;refine qZ (Fk I hg hm hv ?_ hn hdb);exact PyProof.Rows.callWith_builtin1 (qV (ha pos pins s σ H _ I h) λus s1 ⟨vs,H1,I1,r1,q1⟩=>hc pins s1 σ H1 vs us Q I1 r1 q1) he hpl
theorem HF (hc:FU X (.type T) r)(hg:Gl X x)(hm:X.mg x=none)(hv:bootBuiltins x=some (.type T))(ha:PA X (e::es) t)(hn:x≠"__name__":=by decide)(hdb:(x==("__debug__":Str))=false:=by decide)
  (he:starEach (e::es) X.env=(false,eval e X.env)::starEach es X.env:=by rfl) (hpl:(backTo pos (starEach es X.env)).any (·.1)=false:=by rfl):PE X (.Call (.Name x p) (e::es) [] pos) (tCB r t):=by
 refine⟨?_⟩;intro pins s σ H Q I h;refine qZ (Fk I hg hm hv ?_ hn hdb);exact jC (qV (ha pos pins s σ H _ I h) λus s1 ⟨vs,H1,I1,r1,q1⟩=>hc pins s1 σ H1 vs us Q I1 r1 q1) he hpl
end
end L2
namespace HT
open PySem PyProof.Rows
section
variable {prog:Program}{w:World}{A:Around}{E:Value->Shared->Prop}{s:Shared}
theorem cat_tup {t b:Addr}{vs ws:List Value}{Q:Value->Shared->Prop}(ht:IsTup s.heap t vs.toArray)(hb:IsTup s.heap b ws.toArray)(hv:vs≠[])
  (h1:ws=[]->Q (.ref t) s) (h2:ws≠[]->Q (.ref s.heap.objs.size) {s with heap:=s.heap.push {cls:=.type "tuple",data:=.seq (vs++ws).toArray}})
  (hsz:vs.length+ws.length<=sizeLine):wpAny (model prog w) A (binaryOp .Add (.ref t) (.ref b)) Q E s:=by
 obtain⟨⟨cls,dd,data,sl⟩,ho,hc,n,hd⟩:=id ht;obtain⟨⟨cls2,dd2,data2,sl2⟩,ho2,hc2,n2,hd2⟩:=id hb;simp only at hc hd hc2 hd2;subst hc hd hc2 hd2;have e:vs.toArray++ws.toArray=(vs++ws).toArray:=by simp
 by_cases hw:ws=[]
 ·exact concat_meets ⟨_,ho,rfl⟩ ⟨_,ho2,rfl⟩ noFill_tuple_add seq_tuple_add PySem.F.slot_tuple_add PySem.F.entry_tuple_add (PySem.F.args_tuple_add_2 _ _)
   (tuple_addW1 t b vs.toArray ws.toArray n n2 dd dd2 sl sl2 (by simpa using hv) (by simp[hw])) ⟨ho,ho2,h1 hw⟩
 ·refine concat_meets ⟨_,ho,rfl⟩ ⟨_,ho2,rfl⟩ noFill_tuple_add seq_tuple_add PySem.F.slot_tuple_add PySem.F.entry_tuple_add (PySem.F.args_tuple_add_2 _ _)
   (tuple_addW2 t b vs.toArray ws.toArray n n2 dd dd2 sl sl2 (by simpa using hv) (by simpa using hw) (by rw[List.size_toArray,List.size_toArray];exact hsz)) ⟨ho,ho2,?_⟩
  rw[e];exact h2 hw
def sIx (n d:Nat):Option Int->Nat
 |none=>d
 |some v=>if v<0 then(v+(n:Int)).toNat else min v.toNat n
theorem sIx_none (n d:Nat):sIx n d none=d:=rfl
theorem sIx_nat (n d k:Nat):sIx n d (some (k:Int))=min k n:=by
 show(if(k:Int)<0 then((k:Int)+(n:Int)).toNat else min (k:Int).toNat n)=min k n;rw[if_neg (by lia),Int.toNat_natCast]
theorem zAd (n d:Nat)(hd:d<=n)(o:Option Int):sIx n d o<=n:=by
 cases o with
 |none=>exact hd
 |some v=>
  show(if v<0 then(v+(n:Int)).toNat else min v.toNat n)<=n
  by_cases hv:v<0
  ·rw[if_pos hv];lia
  ·rw[if_neg hv];exact Nat.min_le_right _ _
theorem Tm (v:Int)(n d:Nat):(if v<0 then max (v+(n:Int)) 0 else min v (n:Int))=((sIx n d (some v):Nat):Int):=by
 show(if v<0 then max (v+(n:Int)) 0 else min v (n:Int))=(((if v<0 then(v+(n:Int)).toNat else min v.toNat n):Nat):Int)
 by_cases hv:v<0
 ·simp only[if_pos hv];lia
 ·simp only[if_neg hv];lia
theorem RX (lo hi:Option Int)(n:Nat):Builtin.Slice.sliceAdjust lo hi 1 (n:Int)=(((sIx n 0 lo:Nat):Int),((sIx n n hi:Nat):Int)):=by
 have h1: ¬((1:Int)<0):=by lia
 unfold Builtin.Slice.sliceAdjust;simp only[h1,if_false];refine Prod.ext ?_ ?_
 ·cases lo with
  |none=>rfl
  |some v=>exact Tm v n 0
 ·cases hi with
  |none=>rfl
  |some v=>exact Tm v n n
theorem Ri (i j:Nat):Builtin.Slice.slicePlaces (i:Int) (j:Int) 1=j-i:=by
 unfold Builtin.Slice.slicePlaces;have h1:(1:Int) > 0:=by lia
 simp only[h1,if_true,Int.ediv_one];split<;>lia
theorem KY {v:Value}{o:Option Int}{Q:Option Int->Shared->Prop}(p:IsPart v o)(h:Q o s):wpAny (model prog w) A (Builtin.Slice.slicePartIndex v) Q E s:=by
 cases p with
 |none=>exact slicePart_none h
 |int i t=>exact slicePart_int h
theorem JC {sl:Addr}{vl vu:Value}{lo hi:Option Int}{n:Nat}{Q:Int×Int×Nat->Shared->Prop}(hs:s.heap.IsSliceOf sl vl vu .none)(pl:IsPart vl lo)(pu:IsPart vu hi)
  (h:Q (((sIx n 0 lo:Nat):Int),1,sIx n n hi-sIx n 0 lo) s):wpAny (model prog w) A (Builtin.Slice.sliceApplied (.ref sl) (pure (n:Int))) Q E s:=by
 obtain⟨os,hos,hcs,hds⟩:=id hs;unfold Builtin.Slice.sliceApplied Builtin.Slice.sliceFields;refine wpAny_bind (wpAny_bind (wpAny_field hos hds (x:=vl) rfl (wpAny_bind (wpAny_field hos hds (x:=vu) rfl (wpAny_bind (wpAny_field hos hds (x:=.none) rfl (wpAny_pure ?_)))))));refine wpAny_bind (slicePart_none ?_);show wpAny _ _ (if((1:Int)==0)=true then _ else _) _ _ s;rw[if_neg (by decide)];refine wpAny_bind (KY pl (wpAny_bind (KY pu (wpAny_bind (wpAny_pure ?_)))));show wpAny _ _ (match Builtin.Slice.sliceAdjust lo hi 1 (n:Int)with|(lo,hi)=>pure (lo,(1:Int),Builtin.Slice.slicePlaces lo hi 1)) _ _ s;rw[RX lo hi n];show wpAny _ _ (pure (((sIx n 0 lo:Nat):Int),(1:Int),Builtin.Slice.slicePlaces ((sIx n 0 lo:Nat):Int) ((sIx n n hi:Nat):Int) 1)) _ _ s;rw[Ri];exact wpAny_pure h
theorem VT (xs:Array Value)(i k:Nat):((List.range k).filterMap fun(m:Nat)=>xs[((i:Int)+(m:Int)*1).toNat]?).toArray =((xs.toList.drop i).take k).toArray:=by
 have e:(fun(m:Nat)=>xs[((i:Int)+(m:Int)*1).toNat]?)=λm=>xs[i+m]?:=by
  funext m;have:((i:Int)+(m:Int)*1).toNat =i+m:=by lia
  rw[this]
 rw[e];have:=pick_run xs i k;rw[List.filterMap_map]at this;have e2:((λx=>xs[x]?)∘λx=>i+x)=λm=>xs[i+m]?:=rfl;rw[e2]at this;rw[this]
theorem getItem_tuple_cut {t sl:Addr}{items:Array Value}{vl vu:Value}{lo hi:Option Int}{Q:Value->Shared->Prop}(ht:IsTup s.heap t items)(hs:s.heap.IsSliceOf sl vl vu .none)(pl:IsPart vl lo)(pu:IsPart vu hi)
  (hw: ¬(sIx items.size 0 lo=0/\sIx items.size items.size hi=items.size))
  (h:Q (.ref s.heap.objs.size) {s with heap:=s.heap.push {cls:=.type "tuple",data:=.seq ((items.toList.drop (sIx items.size 0 lo)).take (sIx items.size items.size hi-sIx items.size 0 lo)).toArray}})
  (hsz:items.size<=sizeLine):wpAny (model prog w) A (getItem (.ref t) (.ref sl)) Q E s:=by
 have htake:sizeOk (.seq ((items.toList.drop (sIx items.size 0 lo)).take (sIx items.size items.size hi-sIx items.size 0 lo)).toArray):=by
  show((items.toList.drop (sIx items.size 0 lo)).take (sIx items.size items.size hi-sIx items.size 0 lo)).toArray.size<=sizeLine;rw[List.size_toArray,List.length_take,List.length_drop,Array.length_toList];lia
 have hj:sIx items.size items.size hi<=items.size:=zAd _ _ (Nat.le_refl _) hi;obtain⟨os,hos,hcs,hds⟩:=id hs;have hTs:s.TypeIs (.ref sl) "slice":=⟨os,hos,hcs⟩;unfold getItem
 try with_reducible refine wpAny_holding ?_
 first|refine wpAny_bind (wpAny_pure ?_)|skip
 refine wpAny_bind (wpAny_sequenceKey ht.typeIs (by decide) ?_);refine wpAny_bind (wpAny_callSpecial?_slot (name:=Str.ofString "__getitem__") ht.typeIs PyProof.Rows.slot_tuple_getitem
  (wpAny_call_entry PyProof.Rows.slot_tuple_getitem ht.typeIs entry_tuple_getitem ?_ (args_tuple_getitem _ _)))
 show wpAny _ _ (Builtin.Tuple.tupleItemsOf (.ref t)>>=_) _ _ s;refine wpAny_bind (tupleItemsOf_ ht ?_);refine wpAny_bind (wpAny_typeOf hTs ?_);rw[if_pos (by decide)];refine wpAny_bind (JC hs pl pu ?_);have hno: ¬((((sIx items.size 0 lo:Nat):Int)==0&&(1:Int)==1&&(sIx items.size items.size hi-sIx items.size 0 lo)==items.size)=true):=by
  intro q;rw[Bool.and_eq_true,Bool.and_eq_true]at q;have q1:((sIx items.size 0 lo:Nat):Int)=0:=eq_of_beq q.1.1;have q2:sIx items.size items.size hi-sIx items.size 0 lo=items.size:=eq_of_beq q.2;exact hw ⟨by lia,by lia⟩
 show wpAny _ _ (if(((sIx items.size 0 lo:Nat):Int)==0&&(1:Int)==1&&(sIx items.size items.size hi-sIx items.size 0 lo)==items.size)=true then _ else _) _ _ s;rw[if_neg hno,VT]
 first
  |exact wpAny_bind (m:=Builtin.Tuple.tupleExact _) (wpAny_newObj_type (wpAny_pure ⟨_,rfl,wpAny_pure h⟩) htake)
  |exact wpAny_bind (m:=Builtin.Tuple.tupleExact _) (wpAny_newObj_type (wpAny_bind (wpAny_pure (wpAny_pure ⟨_,rfl,wpAny_pure h⟩))) htake)
  |exact wpAny_bind (wpAny_bind (m:=Builtin.Tuple.tupleExact _) (wpAny_newObj_type (wpAny_pure (wpAny_pure ⟨_,rfl,wpAny_pure h⟩)) htake))
  |exact wpAny_bind (wpAny_bind (m:=Builtin.Tuple.tupleExact _) (wpAny_newObj_type (wpAny_pure ⟨_,rfl,wpAny_pure h⟩) htake))
end
end HT
namespace L2
open PySem PySem.Spec PyProof.Rows
abbrev TO:=St->Hp->(Option Int->Hp->Prop)->Prop
structure PO (X:Cx)(e:Option Expr)(t:TO):Prop where
 go: ∀(pins:List (Addr×Obj)) (s:Shared) (σ:St) (H:Hp) (Q:Option Int->Hp->Prop),xK X pins σ H s->t σ H Q->
  wpAny (model X.prog X.w) X.A (evalPart e X.env) (λu s'=> ∃o H',xK X pins σ H' s'/\IsPart u o/\Q o H') X.xe s
instance {X:Cx}{e:Option Expr}{t:TO}:CoeFun (PO X e t) (λ_=> ∀(pins:List (Addr×Obj)) (s:Shared) (σ:St) (H:Hp) (Q:Option Int->Hp->Prop),xK X pins σ H s->t σ H Q->
  wpAny (model X.prog X.w) X.A (evalPart e X.env) (λu s'=> ∃o H',xK X pins σ H' s'/\IsPart u o/\Q o H') X.xe s):=⟨PO.go⟩
def XL:TO:=λ_ H Q=>Q none H
def zDb (t:TE):TO:=λσ H Q=>t σ H λx H1=> ∃i,x=.int i/\Q (some i) H1
section
variable {X:Cx}{e:Expr}{te:TE}{lo hi:Option Expr}{tl th:TO}{pos p2:Pos}
theorem Bj:PO X none XL:=by
 refine⟨?_⟩;intro pins s σ H Q I h;rw[evalPart_none];exact zL ⟨none,H,I,.none,h⟩
theorem uD (h:PE X e te):PO X (some e) (zDb te):=by
 refine⟨?_⟩;intro pins s σ H Q I hw;rw[evalPart_some];refine qV (h pins s σ H _ I hw) λu s1 hzz=>?_;obtain⟨x,H1,I1,r1,q1⟩:=hzz;obtain⟨i,rfl,q⟩:=q1;obtain⟨t,rfl⟩:=r1;exact⟨some i,H1,I1,.int i t,q⟩
def SlR (X:Cx)(r:V->Option Int->Option Int->Hp->VK->Prop):Prop:=
 ∀(pins:List (Addr×Obj)) (s:Shared) (σ:St) (H:Hp) (x:V) (v vl vu:Value) (lo hi:Option Int) (sl:Addr) (Q:VK),xK X pins σ H s->kI x v->s.heap.IsSliceOf sl vl vu .none->IsPart vl lo->IsPart vu hi->r x lo hi H Q->
  ∃T id,typeLookup (.type T) "__getitem__"=pure (some (.builtin id))/\s.TypeIs v T/\wpAny (model X.prog X.w) X.A (getItem v (.ref sl)) (EP X pins σ Q) X.xe s
def tSl (r:V->Option Int->Option Int->Hp->VK->Prop)(te:TE)(tl th:TO):TE:=λσ H Q=>te σ H λx H1=>tl σ H1 λl H2=>th σ H2 λu H3=>r x l u H3 Q
theorem vP {r:V->Option Int->Option Int->Hp->VK->Prop}(hr:SlR X r)(he:PE X e te)(hl:PO X lo tl)(hu:PO X hi th):PE X (.Subscript e (.Slice lo hi none p2) pos) (tSl r te tl th):=by
 refine⟨?_⟩;intro pins s σ H Q I h;refine Subscript_ (qV (he pins s σ H _ I h) λv s1 hzz=>?_);obtain⟨x,H1,I1,r1,q1⟩:=hzz;refine wpAny_Slice (qV (hl pins s1 σ H1 _ I1 q1) λvl s2 ⟨l,H2,I2,pl,q2⟩=>qV (hu pins s2 σ H2 _ I2 q2) λvu s3 hzz=>?_);obtain⟨u,H3,I3,pu,q3⟩:=hzz;rw[evalPart_none];refine zL ?_;have I4:xK X pins σ H3 {s3 with heap:=s3.heap.push {cls:=.type "slice",data:=.fields #[vl,vu,.none]}}:=I3.kept (t':=s3.toks) λb ob q=>zC _ q;obtain⟨T,id,hT,ht,hg⟩:=hr pins {s3 with heap:=s3.heap.push {cls:=.type "slice",data:=.fields #[vl,vu,.none]}} σ H3 x v vl vu l u s3.heap.objs.size Q I4 r1 (Heap.IsSliceOf.new ..) pl pu q3;show wpAny (model X.prog X.w) X.A (subscriptTail e (.Slice lo hi none p2) v (.ref s3.heap.objs.size)) (EP X pins σ Q) X.xe {s3 with heap:=s3.heap.push {cls:=.type "slice",data:=.fields #[vl,vu,.none]}};exact tail_any (ops:=[.ref s3.heap.objs.size,v]) ht hT hg (by with_unfolding_all rfl)
def DL (xs:List V)(lo hi:Option Int):List V:=(xs.drop (HT.sIx xs.length 0 lo)).take (HT.sIx xs.length xs.length hi-HT.sIx xs.length 0 lo)
theorem Ki (xs:List V)(lo hi:Option Int):(DL xs lo hi).length<=xs.length:=by
 unfold DL;rw[yL,kE];lia
inductive zDo (K:PySem.W.Frag) (x:V) (lo:Option Int) (hi:Option Int) (H:Hp) (Q:VK):Prop
 |mk (a xs:_) (h0:x=.ref a) (h1:uS K H a xs) (h2: ¬(HT.sIx xs.length 0 lo=0/\HT.sIx xs.length xs.length hi=xs.length)) (h3: ∀p,H p=none->Q (.ref p) (upd H p (.tup (DL xs lo hi)))):zDo K x lo hi H Q
theorem NW:SlR X (zDo X.K):=by
 intro pins s σ H x v vl vu lo hi sl Q I rx hs pl pu h;obtain⟨a,xs,rfl,hx,hw,q⟩:=h;cases rx;obtain⟨its,r,ht,hz⟩:=I.tuple hx;have hlen:its.toArray.size=xs.length:=by rw[zU];exact r.length.symm
 refine⟨"tuple",_,PyProof.Rows.slot_tuple_getitem.lookup,ht.typeIs,?_⟩;refine HT.getItem_tuple_cut ht hs pl pu (by rw[hlen];exact hw) ?_ (by rw[hlen];exact hz);rw[hlen];refine⟨.ref s.heap.objs.size,_,I.laid (t':=s.toks) (o:=.tup (DL xs lo hi)) (λb ob q=>zC _ q) (zP _) ?_,rfl,q _ (I.hok.fresh (zP _))⟩;exact⟨yO (Ki xs lo hi) hz,_,(r.drop (HT.sIx xs.length 0 lo)).take (HT.sIx xs.length xs.length hi-HT.sIx xs.length 0 lo),Gf _ _⟩
inductive Zr (K:PySem.W.Frag) (x:V) (y:V) (H:Hp) (Q:VK):Prop
 |mk (a b xs ys:_) (h0:x=.ref a) (h1:y=.ref b) (h2:uS K H a xs) (h3:uS K H b ys) (h4:xs≠[]) (h5:xs.length+ys.length<=sizeLine) (h6:(ys=[]->Q (.ref a) H)) (h7:(ys≠[]-> ∀p,H p=none->Q (.ref p) (upd H p (.tup (xs++ys))))):Zr K x y H Q
theorem jK.nil_iff {xs:List V}{us:List Value}(r:jK xs us):us=[] ↔ xs=[]:=by
 cases r with
 |nil=>simp
 |cons _ _=>simp
theorem Yn:IE X (binaryOp .Add) (Zr X.K):=by
 intro pins s σ H x y v u Q I rx ry h;obtain⟨a,b,xs,ys,rfl,rfl,ha,hb,hx,hz,q1,q2⟩:=h;cases rx;cases ry;obtain⟨its,r1,p1,_⟩:=I.tuple ha;obtain⟨its2,r2,p2,_⟩:=I.tuple hb;refine HT.cat_tup p1 p2 (λz=>hx (r1.nil_iff.mp z)) (λz=>⟨.ref a,H,I,rfl,q1 (r2.nil_iff.mp z)⟩) (λz=>?_) (by rw[<-r1.length,<-r2.length];exact hz);refine⟨.ref s.heap.objs.size,_,I.laid (t':=s.toks) (o:=.tup (xs++ys)) (λb ob q=>zC _ q) (zP _) ?_,rfl,q2 (λw=>z (r2.nil_iff.mpr w)) _ (I.hok.fresh (zP _))⟩;exact⟨by rw[zD];exact hz,_,r1.append r2,Gf _ _⟩
end
def UZ (n:Nat)(i:Int):Option Nat:=if 0<=i then(if i<n then some i.toNat else none)else if-(n:Int)<=i then some (i+n).toNat else none
def Jq {α:Type}(xs:List α)(i:Int):Option α:=(UZ xs.length i).bind λj=>xs[j]?
theorem SW {n:Nat}{i:Int}{j:Nat}(h:UZ n i=some j):seqIndex? i n=some j/\j<n/\ -(n:Int)<=i/\i<n:=by
 unfold UZ at h
 by_cases h0:0<=i
 ·rw[zQ h0]at h
  by_cases h1:i<n
  ·rw[zQ h1]at h;have e:i.toNat=j:=xU h;exact⟨by rw[seqIndex_of h0 h1,e],by lia,by lia,h1⟩
  ·rw[zN h1]at h;cases h
 ·rw[zN h0]at h
  by_cases h1: -(n:Int)<=i
  ·rw[zQ h1]at h;have e:(i+n).toNat =j:=xU h;exact⟨by rw[seqIndex_neg (by lia) h1,e],by lia,h1,by lia⟩
  ·rw[zN h1]at h;cases h
theorem Tu {α:Type}{xs:List α}{i:Int}{v:α}(h:Jq xs i=some v): ∃j,seqIndex? i xs.length=some j/\xs[j]? =some v/\j<xs.length/\ -(xs.length:Int)<=i/\i<xs.length:=by
 unfold Jq at h;cases e:UZ xs.length i with
 |none=>rw[e]at h;cases h
 |some j=>
  rw[e]at h;obtain⟨h1,h2,h3,h4⟩:=SW e;exact⟨j,h1,h,h2,h3,h4⟩
theorem qF {α:Type}{xs:List α}{j:Nat}{v:α}(h:xs[j]? =some v):Jq xs (j:Int)=some v:=by
 have hj:j<xs.length:=(List.getElem?_eq_some_iff.mp h).1;have e:UZ xs.length (j:Int)=some j:=by
  unfold UZ;rw[zQ (by lia),zQ (by lia)];simp
 unfold Jq;rw[e];exact h
def Tv (b:Expr):Prop:= ∀o i,subscripted b false o i=operate [o,i] (getItem o i)
def IxR (X:Cx)(r:R2):Prop:=
 ∀(value slice:Expr) (pins:List (Addr×Obj)) (s:Shared) (σ:St) (H:Hp) (x y:V) (v u:Value) (Q:VK),xK X pins σ H s->kI x v->kI y u->r x y H Q->
  subscripted slice false v u=operate [v,u] (getItem v u)->wpAny (model X.prog X.w) X.A (subscriptTail value slice v u) (EP X pins σ Q) X.xe s
def MtR (X:Cx)(id:String)(r:V->List V->Hp->VK->Prop):Prop:=
 ∀(pins:List (Addr×Obj)) (s:Shared) (σ:St) (H:Hp) (x:V) (xs:List V) (v:Value) (us:List Value) (Q:VK),xK X pins σ H s->kI x v->jK xs us->r x xs H Q->
  wpAny (model X.prog X.w) X.A (call (.builtin id) (v::us)) (EP X pins σ Q) X.xe s
section
variable {X:Cx}{a b:Expr}{ta tb:TE}{pos:Pos}
theorem zDt {r:R2}(hr:IxR X r)(ha:PE X a ta)(hb:PE X b tb)(hs:Tv b):PE X (.Subscript a b pos) (Zh r ta tb):=by
 refine⟨?_⟩;intro pins s σ H Q I h;exact Subscript_ (zCa ha hb I h λv u s2 x y H2 I2 rx ry q=>hr a b pins s2 σ H2 x y v u Q I2 rx ry q (hs _ _))
inductive zAj (K:PySem.W.Frag) (x:V) (y:V) (H:Hp) (Q:VK):Prop
 |mk (p xs i v:_) (h0:x=.ref p) (h1:y=.int i) (h2:kS K H p xs) (h3:Jq xs i=some v) (h4:Q v H):zAj K x y H Q
inductive zAi (K:PySem.W.Frag) (x:V) (y:V) (H:Hp) (Q:VK):Prop
 |mk (p xs i v:_) (h0:x=.ref p) (h1:y=.int i) (h2:uS K H p xs) (h3:Jq xs i=some v) (h4:Q v H):zAi K x y H Q
theorem kQ:IxR X (zAj X.K):=by
 intro value slice pins s σ H x y v u Q I rx ry h hs;obtain⟨p,xs,i,z,rfl,rfl,hq,he,q⟩:=h;cases rx;obtain⟨t,rfl⟩:=ry;obtain⟨its,r,pl,hz⟩:=I.list hq;obtain⟨j,h1,h2,h3,h4,h5⟩:=Tu he;obtain⟨w,ew,rw'⟩:=r.get h2;have hl:=r.length;have hn:=Fj;have fin:EP X pins σ Q w s:=⟨z,H,I,rw',q⟩
 by_cases h0:0<=i
 ·have hj:i.toNat=j:=by
   rw[seqIndex_of h0 h5]at h1;exact xU h1
  exact item_listR pl.isList h0 (by lia) (by rw[hj];simpa using ew) fin hs
 ·have hj:(i+(its.toArray.size:Int)).toNat =j:=by
   rw[seqIndex_neg (by lia) h4]at h1;rw[zU,<-hl];exact xU h1
  exact subscriptTail_builtinR (x:=w) pl.isList.typeIs slot_list_getitem.lookup
   (wpAny_getItem_list_neg (Q:=λr s'=>r=w/\EP X pins σ Q r s') pl.isList (by lia) (by rw[zU]<;>lia) (by lia) (by rw[hj];simpa using ew) ⟨rfl,fin⟩) hs
theorem jO:IxR X (zAi X.K):=by
 intro value slice pins s σ H x y v u Q I rx ry h hs;obtain⟨p,xs,i,z,rfl,rfl,hq,he,q⟩:=h;cases rx;obtain⟨t,rfl⟩:=ry;obtain⟨its,r,pl,hz⟩:=I.tuple hq;obtain⟨j,h1,h2,h3,h4,h5⟩:=Tu he;obtain⟨w,ew,rw'⟩:=r.get h2;have hl:=r.length;have hn:=Fj;have fin:EP X pins σ Q w s:=⟨z,H,I,rw',q⟩;exact subscriptTail_builtinR (x:=w) pl.typeIs slot_tuple_getitem.lookup
  (getItem_tuple (j:=j) (Q:=λr s'=>r=w/\EP X pins σ Q r s') pl (by lia) (by lia) (by rw[zU,<-hl];exact h1) (by simpa using ew) ⟨rfl,fin⟩) hs
theorem RF (its:List Value)(n j:Nat)(u:Value):Obj.mapSeq (·.setIfInBounds j u) {cls:=.type "list",data:=.seq its.toArray n}={cls:=.type "list",data:=.seq (its.set j u).toArray n}:=by
 simp[Obj.mapSeq]
theorem xK.lst {pins:List (Addr×Obj)}{σ:St}{H:Hp}{s:Shared}{p:Addr}{xs:List V}(I:xK X pins σ H s)(h:H p=some (.lst xs)):
  ∃(its:List Value) (n:Nat),jK xs its/\s.heap.get? p=some {cls:=.type "list",data:=.seq its.toArray n}/\xs.length<=sizeLine:=by
 obtain⟨z,its,n,r,e⟩:=I.hok p _ h;exact⟨its,n,r,e,z⟩
theorem xK.lstUpd {pins:List (Addr×Obj)}{σ:St}{H:Hp}{s:Shared}{p:Addr}{xs ys:List V}{its its':List Value}{n n':Nat}{f:Obj->Obj}(I:xK X pins σ H s)(h:H p=some (.lst xs))
  (ho:s.heap.get? p=some {cls:=.type "list",data:=.seq its.toArray n}) (hf:f {cls:=.type "list",data:=.seq its.toArray n}={cls:=.type "list",data:=.seq its'.toArray n'}) (r:jK ys its') (hz:ys.length<=sizeLine) (t:Nat):
  xK X pins σ (upd H p (.lst ys)) {s with heap:=s.heap.update p f,toks:=t}:=by
 have e:(s.heap.update p f).get? p=some {cls:=.type "list",data:=.seq its'.toArray n'}:=by
  rw[kK f ho (by rw[hf]<;>rfl),hf]
 refine I.write (x:=p) (e:=p) (by rw[h];trivial) (.inl rfl) (λb u hb q=>(xT _ _ (Ne.symm hb)).trans q) ⟨_,e⟩ ?_;exact⟨hz,its',n',r,e⟩
def zDp:V->V->V->Hp->(Hp->Prop)->Prop:=λo i v H Q=> ∃p xs k j,o=.ref p/\i=.int k/\H p=some (.lst xs)/\UZ xs.length k=some j/\Q (upd H p (.lst (xs.set j v)))
theorem GR:zEs X zDp:=by
 intro pins s σ H o i v ov iv u Q I ro ri rv h;obtain⟨p,xs,k,j,rfl,rfl,hp,hj,q⟩:=h;cases ro;obtain⟨t,rfl⟩:=ri;obtain⟨its,n,r,ho,hz⟩:=I.lst hp;obtain⟨h1,h2,h3,h4⟩:=SW hj;have hl:=r.length;have hn:=Fj;have I':xK X pins σ (upd H p (.lst (xs.set j v))) {s with heap:=s.heap.update p (Obj.mapSeq (·.setIfInBounds j u))}:=
  I.lstUpd hp ho (RF its n j u) (r.set rv j) (by rw[List.length_set];exact hz) s.toks
 by_cases h0:0<=k
 ·have hk:k.toNat=j:=by
   rw[seqIndex_of h0 h4]at h1;exact xU h1
  exact PySem.W.ki_setAt ho h0 (by lia) (by rw[zU,<-hl];exact h4) (by rw[hk];exact⟨_,I',q⟩)
 ·have hk:(k+(its.toArray.size:Int)).toNat =j:=by
   rw[seqIndex_neg (by lia) h3]at h1;rw[zU,<-hl];exact xU h1
  exact PySem.W.ki_setBack ho (by lia) (by rw[zU,<-hl];exact h3) (by lia) (by rw[hk];exact⟨_,I',q⟩)
theorem NV (lo hi:Option Int)(n:Nat):(sliceBounds lo hi none n).1=((HT.sIx n 0 lo:Nat):Int)/\(sliceBounds lo hi none n).2.1=((HT.sIx n n hi:Nat):Int)/\(sliceBounds lo hi none n).2.2=1:=by
 refine⟨?_,?_,rfl⟩
 ·cases lo with
  |none=>simp[sliceBounds,HT.sIx]
  |some i=>
   simp only[sliceBounds,HT.sIx,Option.getD_none,show(1:Int) > 0 by decide,Bm]
   by_cases h:i<0
   ·simp only[h,Bm]<;>lia
   ·simp only[h,FX]<;>lia
 ·cases hi with
  |none=>simp[sliceBounds,HT.sIx]
  |some i=>
   simp only[sliceBounds,HT.sIx,Option.getD_none,show(1:Int) > 0 by decide,Bm]
   by_cases h:i<0
   ·simp only[h,Bm]<;>lia
   ·simp only[h,FX]<;>lia
theorem Mi (its:List Value)(lo hi:Option Int):slicePick its.toArray lo hi none=((its.drop (HT.sIx its.length 0 lo)).take (HT.sIx its.length its.length hi-HT.sIx its.length 0 lo)).toArray:=by
 obtain⟨h1,h2,h3⟩:=NV lo hi its.toArray.size;unfold slicePick;rw[h1,h2,h3];simp only[sliceRange_one,pick_run,zU]<;>rfl
inductive zAh (K:PySem.W.Frag) (x:V) (lo:Option Int) (hi:Option Int) (H:Hp) (Q:VK):Prop
 |mk (a xs:_) (h0:x=.ref a) (h1:kS K H a xs) (h2: ∀p,H p=none->Q (.ref p) (upd H p (.lst (DL xs lo hi)))):zAh K x lo hi H Q
theorem Di:SlR X (zAh X.K):=by
 intro pins s σ H x v vl vu lo hi sl Q I rx hs pl pu h;obtain⟨a,xs,rfl,hx,q⟩:=h;cases rx;obtain⟨its,r,ht,hz⟩:=I.list hx;have hlen:=r.length;refine⟨"list",_,slot_list_getitem.lookup,ht.isList.typeIs,?_⟩;refine wpAny_getItem_list_slice ht.isList hs pl pu .none (by simp) ?_ (by rw[zU]<;>lia);rw[Mi,<-hlen];refine⟨.ref s.heap.objs.size,_,I.laid (t':=s.toks) (o:=.lst (DL xs lo hi)) (λb ob q=>zC _ q) (zP _) ?_,rfl,q _ (I.hok.fresh (zP _))⟩;exact⟨yO (Ki xs lo hi) hz,_,0,(r.drop (HT.sIx xs.length 0 lo)).take (HT.sIx xs.length xs.length hi-HT.sIx xs.length 0 lo),zT _ rfl⟩
def AZ:V->Bool
 | .non=>true
 | .bl _=>true
 | .int _=>true
 | .str _=>true
 |_=>false
def Jp:V->V->Bool
 | .non,.non=>true
 | .bl a,.bl b=>a==b
 | .bl a,.int b=>(if a then 1 else 0)==b
 | .int a,.bl b=>a==(if b then 1 else 0)
 | .int a,.int b=>a==b
 | .str a,.str b=>a==b
 |_,_=>false
theorem LX {A:Around}{s:Shared}{y x:V}{u v:Value}(ry:kI y u)(rx:kI x v)(fy:AZ y=true)(fx:AZ x=true):SeqAt.EqAt A s u v (Jp y x):=by
 cases y with
 |non=>
  cases ry;cases x with
  |non=>cases rx;exact SeqAt.EqAt.same _
  |bl b=>cases rx;exact SeqAt.EqAt.none_bool b
  |int b=>obtain⟨t,rfl⟩:=rx;exact SeqAt.EqAt.none_int b t
  |str b=>obtain⟨t,rfl⟩:=rx;exact SeqAt.EqAt.none_str b t
  |_=>exact absurd (show false=true from fx) yB
 |bl a=>
  cases ry;cases x with
  |non=>cases rx;exact SeqAt.EqAt.bool_none a
  |bl b=>cases rx;exact SeqAt.EqAt.bool_bool a b
  |int b=>obtain⟨t,rfl⟩:=rx;exact SeqAt.EqAt.bool_int a b t
  |str b=>obtain⟨t,rfl⟩:=rx;exact SeqAt.EqAt.bool_str a b t
  |_=>exact absurd (show false=true from fx) yB
 |int a=>
  obtain⟨t',rfl⟩:=ry;cases x with
  |non=>cases rx;exact SeqAt.EqAt.int_none a t'
  |bl b=>cases rx;exact SeqAt.EqAt.int_bool a t' b
  |int b=>obtain⟨t,rfl⟩:=rx;exact SeqAt.EqAt.int_int a t' b t
  |str b=>obtain⟨t,rfl⟩:=rx;exact SeqAt.EqAt.int_str a t' b t
  |_=>exact absurd (show false=true from fx) yB
 |str a=>
  obtain⟨t',rfl⟩:=ry;cases x with
  |non=>cases rx;exact SeqAt.EqAt.str_none a t'
  |bl b=>cases rx;exact SeqAt.EqAt.str_bool a t' b
  |int b=>obtain⟨t,rfl⟩:=rx;exact SeqAt.EqAt.str_int a t' b t
  |str b=>obtain⟨t,rfl⟩:=rx;exact SeqAt.EqAt.str_str a t' b t
  |_=>exact absurd (show false=true from fx) yB
 |_=>exact absurd (show false=true from fy) yB
def RQ (x:V)(u:Value):Bool:=match u with
 | .none=>Jp .non x
 | .bool b=>Jp (.bl b) x
 | .int i _=>Jp (.int i) x
 | .str z _=>Jp (.str z) x
 |_=>false
theorem LW {x y:V}{u:Value}(r:kI y u)(f:AZ y=true):RQ x u=Jp y x:=by
 cases y with
 |non=>cases r;rfl
 |bl b=>cases r;rfl
 |int i=>obtain⟨t,rfl⟩:=r;rfl
 |str z=>obtain⟨t,rfl⟩:=r;rfl
 |_=>exact absurd (show false=true from f) yB
theorem OQ {x:V}: ∀{xs:List V} {us:List Value},jK xs us->xs.all AZ=true->us.any (RQ x)=xs.any λy=>Jp y x
 |_,_,.nil,_=>rfl
 |y::xs,u::us,.cons r t,f=>by
  rw[Fw,qK]at f;rw[Be,Be,LW r f.1,OQ t f.2]
theorem Hm {A:Around}{s:Shared}{x:V}{v:Value}(rx:kI x v)(fx:AZ x=true): ∀{xs:List V} {us:List Value},jK xs us->xs.all AZ=true-> ∀u∈us,SeqAt.EqAt A s u v (RQ x u)
 |_,_,.nil,_=>λu hu=>by cases hu
 |y::xs,u::us,.cons r t,f=>λu' hu=>by
  rw[Fw,qK]at f
  rcases List.mem_cons.mp hu with rfl|hu
  ·rw[LW r f.1];exact LX r rx f.1 fx
  ·exact Hm rx fx t f.2 u' hu
def YG (x:V)(xs:List V):Bool:=xs.any λy=>Jp y x
inductive rIn (K:PySem.W.Frag) (neg:Bool) (x:V) (y:V) (H:Hp) (Q:VK):Prop
 |mk (p xs:_) (h0:y=.ref p) (h1:(kS K H p xs\/uS K H p xs)) (h2:AZ x=true) (h3:xs.all AZ=true) (h4:Q (.bl (if neg then !YG x xs else YG x xs)) H):rIn K neg x y H Q
theorem MT:IE X (compareOp .In) (rIn X.K false):=by
 intro pins s σ H x y v u Q I rx ry h;obtain⟨p,xs,rfl,hq,fx,fs,q⟩:=h;cases ry
 rcases hq with hq|hq
 ·obtain⟨its,r,pl,hz⟩:=I.list hq;refine SeqAt.in_listAt (RQ x) pl.isList (λw hw=>Hm rx fx r fs w (by simpa using hw)) ⟨.bl _,H,I,rfl,?_⟩;rw[show its.toArray.any (RQ x)=its.any (RQ x)by simp,OQ r fs];exact q
 ·obtain⟨its,r,pl,hz⟩:=I.tuple hq;refine SeqAt.in_tupleAt (RQ x) pl (λw hw=>Hm rx fx r fs w (by simpa using hw)) ⟨.bl _,H,I,rfl,?_⟩;rw[show its.toArray.any (RQ x)=its.any (RQ x)by simp,OQ r fs];exact q
theorem yM:FU X (.builtin "len") (λxs H Q=> ∃p ys,xs=[.ref p]/\(kS X.K H p ys\/uS X.K H p ys)/\Q (.int ys.length) H):=by
 intro pins s σ H xs us Q I r h;obtain⟨p,ys,rfl,hq,q⟩:=h;obtain⟨u,rfl,rx⟩:=JY r;cases rx;have hn:=Fj
 rcases hq with hq|hq
 ·obtain⟨its,r',pl,hz⟩:=I.list hq;have hlen:=r'.length;exact Calls.call_len_list pl.isList (by simp only[zU]<;>lia) ⟨.int ys.length,H,I.tok _,⟨s.toks+1,by rw[zU,hlen]⟩,q⟩
 ·obtain⟨its,r',pl,hz⟩:=I.tuple hq;have hlen:=r'.length;exact len_tuple pl (by simp only[zU]<;>lia) ⟨.int ys.length,H,I.tok _,⟨s.toks+1,by rw[zU,hlen]⟩,q⟩
theorem Fo:FU X (.type "tuple") (λxs H Q=> ∃p ys,xs=[.ref p]/\((kS X.K H p ys/\ ∀l,H l=none->Q (.ref l) (upd H l (.tup ys)))\/(uS X.K H p ys/\Q (.ref p) H))):=by
 intro pins s σ H xs us Q I r h;obtain⟨p,ys,rfl,h⟩:=h;obtain⟨u,rfl,rx⟩:=JY r;cases rx
 rcases h with⟨hq,q⟩|⟨hq,q⟩
 ·obtain⟨its,r',pl,hz⟩:=I.list hq;have hlen:=r'.length;refine call_tuple_list pl.isList (λh' kp=>?_) (by simp only[zU]<;>lia);have I1:xK X pins σ H {s with heap:=h'}:=I.kept (t':=s.toks) kp;have I2:xK X pins σ (upd H h'.objs.size (.tup ys)) {s with heap:=h'.push {cls:=.type "tuple",data:=.seq its.toArray}}:=
   I1.laid (t':=s.toks) (λb o e=>zC _ e) (zP _) (show qR X.prog X.w _ _ _ (.tup ys)from⟨hz,its,r',Gf _ _⟩)
  exact⟨.ref h'.objs.size,_,I2,rfl,q _ (I1.hok.fresh (zP _))⟩
 ·obtain⟨its,r',pl,hz⟩:=I.tuple hq;exact call_tuple_same pl ⟨.ref p,H,I,rfl,q⟩
def tyV (K:PySem.W.Frag)(T:String)(x:V)(H:Hp):Prop:=match x with
 | .str _=>T="str"
 | .int _=>T="int"
 | .ref p=>(T="list"/\ ∃xs,kS K H p xs)\/(T="tuple"/\ ∃o,K.lookup p=some o/\o.cls=.type "tuple"/\o.dict=none)\/
   (T="dict"/\((∃kvs,H p=some (.dK kvs))\/ ∃kvs,H p=some (.dT kvs)))\/(T="set"/\ ∃S n,H p=some (.set S n))
 |_=>False
theorem Vf {pins:List (Addr×Obj)}{σ:St}{H:Hp}{s:Shared}{T:String}{x:V}{v:Value}(I:xK X pins σ H s)(r:kI x v)(ty:tyV X.K T x H):
  s.TypeIs v T/\ ∀a,v=.ref a-> ∃ob,s.heap.get? a=some ob/\ob.dict=none:=by
 cases x with
 |str z=>
  obtain⟨t,rfl⟩:=r;cases(show T="str" from ty);exact⟨typeIs_str s z t,λ_ e=>nomatch e⟩
 |int i=>
  obtain⟨t,rfl⟩:=r;cases(show T="int" from ty);exact⟨typeIs_int s i t,λ_ e=>nomatch e⟩
 |ref p=>
  cases r
  rcases ty with⟨rfl,xs,hq⟩|⟨rfl,o,hk,hc,hd⟩|⟨rfl,hk⟩|⟨rfl,S,n,hk⟩
  ·obtain⟨its,_,pl,_⟩:=I.list hq;refine⟨pl.isList.typeIs,λa e=>?_⟩;cases e;obtain⟨o,n,e,c,hd,_⟩:=pl;exact⟨o,e,hd⟩
  ·refine⟨⟨o,I.kIn p o hk,hc⟩,λa e=>?_⟩;cases e;exact⟨o,I.kIn _ o hk,hd⟩
  ·have z: ∃o,s.heap.get? p=some o/\o.ExactDict:=by
    rcases hk with⟨kvs,hk⟩|⟨kvs,hk⟩
    ·obtain⟨_,_,_,_,o,_,_,e,ex,_⟩:=I.hok p _ hk;exact⟨o,e,ex⟩
    ·obtain⟨_,_,_,_,o,_,_,e,ex,_⟩:=I.hok p _ hk;exact⟨o,e,ex⟩
   obtain⟨o,e,ex⟩:=z;refine⟨⟨o,e,ex.1⟩,λa e2=>?_⟩;cases e2;exact⟨o,e,ex.2.1⟩
  ·obtain⟨o,_,_,_,e,ex,_⟩:=I.hok p _ hk;refine⟨⟨o,e,ex.1⟩,λa e2=>?_⟩;cases e2;exact⟨o,e,ex.2.1⟩
 |_=>exact False.elim ty
inductive Zm (K:PySem.W.Frag) (T:String) (r:V->List V->Hp->VK->Prop) (x:V) (H1:Hp) (Q:VK):Prop
 |mk (h0:tyV K T x H1) (h1:r x [] H1 Q):Zm K T r x H1 Q
def zGb (K:PySem.W.Frag)(T:String)(r:V->List V->Hp->VK->Prop)(to:TE):TE:=λσ H Q=>to σ H λx H1=>Zm K T r x H1 Q
inductive zDh (K:PySem.W.Frag) (T:String) (r:V->List V->Hp->VK->Prop) (t:TA) (σ:St) (x:V) (H1:Hp) (Q:VK):Prop
 |mk (h0:tyV K T x H1) (h1:t σ H1 λxs H2=>r x xs H2 Q):zDh K T r t σ x H1 Q
def tBM (K:PySem.W.Frag)(T:String)(r:V->List V->Hp->VK->Prop)(to:TE)(t:TA):TE:=λσ H Q=>to σ H λx H1=>zDh K T r t σ x H1 Q
variable {o e:Expr}{es:List Expr}{to:TE}{t:TA}{name:Str}{apos cpos:Pos}{T id:String}{r:V->List V->Hp->VK->Prop}
theorem zAv (pa:PlainAttrs T)(slot:Slot T name id)(hty:typeOf (.builtin id)=pure (.type "method_descriptor"))(hm:MtR X id r)(ho:PE X o to)
  (hbase:attributeBase o name X.env (eval o X.env)=eval o X.env:=by rfl) (hline:(apos.endLine==cpos.line)=true:=by rfl):PE X (.Call (.Attribute o name apos) [] [] cpos) (zGb X.K T r to):=by
 refine⟨?_⟩;intro pins s σ H Q I h;refine wpAny_Call_method0_late hbase hline (qV (ho pins s σ H _ I h) λv s1 hzz=>?_);obtain⟨x,H1,I1,r1,ty,q1⟩:=hzz;obtain⟨h1,h2⟩:=Vf I1 r1 ty;exact⟨T,id,pa,slot,hty,h1,h2,Calls.callWith_builtin rfl (PySem.evalArgs_none (hm pins s1 σ H1 x [] v [] Q I1 r1 .nil q1))⟩
theorem Al (pa:PlainAttrs T)(slot:Slot T name id)(hty:typeOf (.builtin id)=pure (.type "method_descriptor"))(hm:MtR X id r)(ho:PE X o to)(ha:PA X (e::es) t)
  (hbase:attributeBase o name X.env (eval o X.env)=eval o X.env:=by rfl)
  (hfew:((backTo cpos (starEach (e::es) X.env)).all (λx=>!x.1)&&(backToKw cpos (keywordEach [] X.env)).all (λx=>x.1.isSome)
   &&decide ((e::es).length +([]:List Keyword).length +(if([]:List Keyword).isEmpty then 0 else 1)<30))=true:=by rfl)
  (hline:(apos.endLine==cpos.line)=true:=by rfl) (hs:starEach (e::es) X.env=(false,eval e X.env)::starEach es X.env:=by rfl) (hplain:(backTo cpos (starEach es X.env)).any (·.1)=false:=by rfl):
  PE X (.Call (.Attribute o name apos) (e::es) [] cpos) (tBM X.K T r to t):=by
 refine⟨?_⟩;intro pins s σ H Q I h;refine wpAny_Call_method_late hbase hfew hline rfl (qV (ho pins s σ H _ I h) λv s1 hzz=>?_);obtain⟨x,H1,I1,r1,ty,q1⟩:=hzz;obtain⟨h1,h2⟩:=Vf I1 r1 ty;refine⟨T,id,pa,slot,hty,h1,h2,?_⟩;have hA:=ha cpos pins s1 σ H1 _ I1 q1;rw[hs]at hA ⊢;refine Calls.callWith_builtin (by show(false || (backTo cpos (starEach es X.env)).any (·.1))=false;rw[hplain]<;>rfl) (Calls.evalArgs_plain ?_);exact qV hA λus s2 ⟨vs,H2,I2,r2,q2⟩=>hm pins s2 σ H2 x vs v us Q I2 r1 r2 q2
/-xs.append(e),list.index on a module's tuple .. are MtR facts of 06m-/
end
def MtM (X:Cx)(id:String)(r:V->List V->Hp->VK->Prop):Prop:=
 ∀(pins:List (Addr×Obj)) (s:Shared) (σ:St) (H:Hp) (x:V) (xs:List V) (v:Value) (us:List Value) (Q:VK),xK X pins σ H s->kI x v->jK xs us->r x xs H Q->
  wpAny (model X.prog X.w) X.A (call (.builtin id) (v::us)) (EP X pins σ Q) X.xe s
theorem jK.one: ∀{x:V} {us:List Value},jK [x] us-> ∃u,us=[u]/\kI x u
 |_,_,.cons r .nil=>⟨_,rfl,r⟩
theorem jK.two: ∀{x y:V} {us:List Value},jK [x,y] us-> ∃u v,us=[u,v]/\kI x u/\kI y v
 |_,_,_,.cons r (.cons q .nil)=>⟨_,_,rfl,r,q⟩
theorem jK.zero: ∀{us:List Value},jK [] us->us=[]
 |_,.nil=>rfl
theorem jK.dropLast {xs:List V}{us:List Value}(h:jK xs us):jK xs.dropLast us.dropLast:=by
 induction h with
 |nil=>exact .nil
 |cons r t ih=>
  cases t with
  |nil=>exact .nil
  |cons q t'=>exact .cons r ih
theorem RP {α:Type}(l:List α):l.eraseIdx (l.length-1)=l.dropLast:=by
 induction l with
 |nil=>rfl
 |cons a r ih=>
  cases r with
  |nil=>rfl
  |cons b r=>
   have e:(a::b::r).length -1=((b::r).length -1)+1:=by
    have h1:(a::b::r).length =r.length+2:=rfl;have h2:(b::r).length =r.length+1:=rfl;lia
   rw[e,List.eraseIdx_cons_succ,ih]
   all_goals rfl
section
variable {X:Cx}{pins:List (Addr×Obj)}{σ:St}{H:Hp}{s:Shared}{l b:Addr}{xs ys zs:List V}
theorem xK.lset {its its':List Value}{n:Nat}{f:Array Value->Array Value}{t':Nat}(I:xK X pins σ H s)(hH:H l=some (.lst xs))
  (e:s.heap.get? l=some {cls:=.type "list",data:=.seq its.toArray n}) (hf:f its.toArray=its'.toArray) (hv:jK ys its') (hz:ys.length<=sizeLine):
  xK X pins σ (upd H l (.lst ys)) {s with heap:=s.heap.update l (Obj.mapSeq f),toks:=t'}:=by
 have q:=PySem.IsL.update e f;rw[hf]at q;refine I.write (x:=l) (e:=l) (by rw[hH];exact trivial) (.inl rfl) (λb' u hb hu=>(xT s.heap (Obj.mapSeq f) (Ne.symm hb)).trans hu) ⟨_,q⟩ ?_;exact⟨hz,its',_,hv,q⟩
theorem xK.lnew {its:List Value}{t':Nat}(I:xK X pins σ H s)(hv:jK ys its)(hz:ys.length<=sizeLine):
  xK X pins σ (upd H s.heap.objs.size (.lst ys)) {s with heap:=s.heap.push {cls:=.type "list",data:=.seq its.toArray},toks:=t'}:=
 I.laid (λ_ _ q=>zC _ q) (zP _) ⟨hz,its,0,hv,zT _ rfl⟩
theorem xK.fresh (I:xK X pins σ H s):H s.heap.objs.size=none:=I.hok.fresh (zP _)
theorem xK.lstM (I:xK X pins σ H s)(hH:H l=some (.lst xs)):xs.length<=sizeLine/\ ∃(its:List Value) (n:Nat),jK xs its/\xs.length=its.length/\s.heap.get? l=some {cls:=.type "list",data:=.seq its.toArray n}:=by
 obtain⟨z,its,n,r,e⟩:=I.hok l _ hH;exact⟨z,its,n,r,r.length,e⟩
theorem PV {n:Nat}(h:n<=sizeLine):Builtin.List.listTooLong n=false:=by
 unfold Builtin.List.listTooLong;exact jH (by lia)
end
section
variable {X:Cx}
inductive SD (x:V) (vs:List V) (H:Hp) (Q:VK):Prop
 |mk (l xs y:_) (h0:x=.ref l) (h1:vs=[y]) (h2:H l=some (.lst xs)) (h3:xs.length<sizeLine) (h4:Q .non (upd H l (.lst (xs++[y])))):SD x vs H Q
theorem kP:MtM X "list.append" SD:=by
 intro pins s σ H x vs v us Q I rx rv h;obtain⟨l,xs,y,rfl,rfl,hH,hz,q⟩:=h;cases rx;obtain⟨u,rfl,ru⟩:=rv.one;obtain⟨z,its,n,r,hl,e⟩:=I.lstM hH;refine Bz F.slot_list_append ⟨_,e,rfl⟩ F.entry_list_append (F.args_list_append_2 _ _) (PySem.list_append l its.toArray n u (by rw[zU];lia)) ⟨e,?_⟩;refine⟨.non,_,I.lset (its':=its++[u]) hH e (by simp) (r.append (.cons ru .nil)) ?_,rfl,q⟩;rw[zD,List.length_singleton];lia
inductive Oj (x:V) (vs:List V) (H:Hp) (Q:VK):Prop
 |mk (l b xs zs:_) (h0:x=.ref l) (h1:vs=[.ref b]) (h2:H l=some (.lst xs)) (h3:H b=some (.lst zs)) (h4:xs.length+zs.length<=sizeLine) (h5:Q .non (upd H l (.lst (xs++zs)))):Oj x vs H Q
theorem MY:MtM X "list.extend" Oj:=by
 intro pins s σ H x vs v us Q I rx rv h;obtain⟨l,b,xs,zs,rfl,rfl,hH,hB,hz,q⟩:=h;cases rx;obtain⟨u,rfl,ru⟩:=rv.one;cases ru;obtain⟨z,its,n,r,hl,e⟩:=I.lstM hH;obtain⟨z2,its2,n2,r2,hl2,e2⟩:=I.lstM hB;have hsz:its.toArray.size+its2.toArray.size<=sizeLine:=by rw[zU,zU];lia
 have hlong: ¬(!its.toArray.isEmpty&&Builtin.List.listTooLong (its.toArray.size+its2.toArray.size))=true:=by
  rw[PV hsz,Bool.and_false];exact yB
 refine Bz F.slot_list_extend ⟨_,e,rfl⟩ F.entry_list_extend (F.args_list_extend_2 _ _)
  (AutoSeq1.list_extend_list_list_0 l its.toArray n b its2.toArray n2 hlong (by rw[zU];lia) (by lia)) ⟨e,e2,?_⟩
 refine⟨.non,_,I.lset (its':=its++its2) hH e (by simp) (r.append r2) ?_,rfl,q⟩;rw[zD];lia
inductive zDq (x:V) (vs:List V) (H:Hp) (Q:VK):Prop
 |mk (l xs y:_) (h0:x=.ref l) (h1:vs=[]) (h2:H l=some (.lst xs)) (h3:xs[xs.length-1]? =some y) (h4:Q y (upd H l (.lst xs.dropLast))):zDq x vs H Q
theorem zBf:MtM X "list.pop" zDq:=by
 intro pins s σ H x vs v us Q I rx rv h;obtain⟨l,xs,y,rfl,rfl,hH,hy,q⟩:=h;cases rx;have hus:=rv.zero;subst hus;obtain⟨z,its,n,r,hl,e⟩:=I.lstM hH;obtain⟨u,hu,ru⟩:=r.get hy;have hy':its.toArray[its.toArray.size-1]? =some u:=by
  show its.toArray[its.length-1]? =some u;rw[<-Array.getElem?_toList,<-hl];exact hu
 refine Bz F.slot_list_pop ⟨_,e,rfl⟩ F.entry_list_pop (F.args_list_pop_1 _) (MeetsSeq.list_pop_last l its.toArray n u hy' (by rw[zU];lia)) ⟨e,?_⟩;refine⟨y,_,I.lset (its':=its.dropLast) hH e ?_ r.dropLast ?_,ru,q⟩
 ·show its.toArray.eraseIdxIfInBounds (its.toArray.size-1)=its.dropLast.toArray;rw[zU,List.eraseIdxIfInBounds_toArray,RP]
 ·rw[List.length_dropLast];lia
inductive zAl (x:V) (y:V) (H:Hp) (Q:VK):Prop
 |mk (l b xs zs:_) (h0:x=.ref l) (h1:y=.ref b) (h2:H l=some (.lst xs)) (h3:H b=some (.lst zs)) (h4:xs.length+zs.length<=sizeLine) (h5: ∀p,H p=none->Q (.ref p) (upd H p (.lst (xs++zs)))):zAl x y H Q
theorem AS:IE X (binaryOp .Add) zAl:=by
 intro pins s σ H x y v u Q I rx ry h;obtain⟨l,b,xs,zs,rfl,rfl,hH,hB,hz,q⟩:=h;cases rx;cases ry;obtain⟨z,its,n,r,hl,e⟩:=I.lstM hH;obtain⟨z2,its2,n2,r2,hl2,e2⟩:=I.lstM hB;refine PySem.P.add_list e e2 ?_ (by rw[zU,zU];lia);have ea:its.toArray++its2.toArray=(its++its2).toArray:=by simp
 rw[ea];exact⟨.ref _,_,I.lnew (t':=s.toks) (r.append r2) (by rw[zD];lia),rfl,q _ I.fresh⟩
end
section
variable {prog:Program}{w:World}{A:Around}{E:Value->Shared->Prop}{s:Shared}
set_option maxRecDepth 100000 in
end
end L2
namespace Att
open PySem PySem.W PySem.Calls PyProof.Rows
theorem Ku {P:Params}{h:Heap}: ∀(ns:List Int) (vs:List Value),WellAll P h vs (ns.map WData.int)->IntsAre vs ns:=by
 intro ns
 induction ns with
 |nil=>
  intro vs w;rw[List.map_nil]at w;cases w;exact .nil
 |cons n ns ih=>
  intro vs w;rw[List.map_cons]at w;cases w with
  |cons a b=>
   cases a;exact .cons _ _ (ih _ b)
theorem TQ {l:OpenLaw}{n:Nat}(hn:l.most=some n){P:Params}{h:Heap}{args:List WData}{vals:List Value}
  (hpre:l.row.toRowW.claim.pre args=true) (hwl:WellAll P h vals args):
  ∃a vs ns,vals=[Value.ref a]/\args=[WData.list (ns.map WData.int)]/\h.get? a=some {cls:=.type "list",data:=.seq vs.toArray}/\IntsAre vs ns/\ns.length<=n:=by
 have hsh:WShape.hasAll [] args [.list .int]=true:=(pre_splitW hpre).1;have hc:l.pre.holds [] {args:=args}=true:=(pre_splitW hpre).2;obtain⟨d,r,rfl,h1,h2⟩:=hasAllW_cons hsh;obtain rfl:=hasAllW_nil h2;obtain⟨xs,rfl,h3⟩:=hasW_list h1;obtain⟨ns,rfl⟩:=items_int h3;have hlen:ns.length<=n:=by
  unfold OpenLaw.pre at hc;have h4:(WTm.not (.lt (.lit (.int (n:Int))) (.len (.arg 0)))).holds [] {args:=[.list (ns.map .int)]}=true:=by
   have h4:=(holds_andW hc).1;rw[hn]at h4;exact h4
  have h5:=condW_of h4 (w_not (w_lt w_lit (w_len_list (w_arg rfl))));rw[List.length_map]at h5;refine Nat.le_of_not_lt λq=>?_;have q':(n:Int)<((ns.length:Nat):Int):=by lia
  first
   |(rw[decide_eq_true q']at h5;exact absurd h5 (by decide))
   |(simp at h5;lia)
 cases hwl with
 |cons w1 w2=>
  cases w2;cases w1 with
  |list ho hall=>exact⟨_,_,ns,rfl,rfl,ho,Ku ns _ hall,hlen⟩
theorem TY (l:OpenLaw)(args:List WData):l.row.toRowW.claim.post args (.bool true) args=true:=
 postW_of (r:=l.row.toRowW) (X:=(true==true))
  (show WShape.has [] (.bool true) .bool =true by first|rfl|decide|simp[WShape.has,WShape.arms,WShape.armsAll])
  (show(WTm.eq .res (.lit (.bool true))).value [] {args:=args,res:=some (.bool true),after:=args}=some (.bool (true==true))from w_eq_bool (w_res rfl) w_lit) rfl
theorem attach_call {l:OpenLaw}{n:Nat}{q:Program}{loose:List Str}{XP:(Str->Option Value)->Heap->Prop}{YP:World->Heap->Prop}{d:DefRec}
  (hn:l.most=some n) (hdf:d.params.defaults=[])
  (call: ∀(w:World) (s₀ s₁:Shared) (mg mb:Str->Option Value) (fa:Addr) (o:Obj) (pm cd doc:Value) (a:Addr) (vs:List Value) (ns:List Int),
   Ground q loose [] XP w s₀ mg mb s₁.heap->YP w s₁.heap->
   s₁.heap.get? fa=some o->o.data=.func (docDef d.name d.params d.body d.scope pm cd doc)->s₁.heap.CodeRec cd d.name->mg d.name=some (.ref fa)->
   s₁.heap.get? a=some {cls:=.type "list",data:=.seq vs.toArray}->IntsAre vs ns->ns.length<=n->s₁.gens=#[]->
   codeAny (model l.prog w) callerA (.call (.ref fa) ⟨[.ref a],[]⟩) (λr s'=>r=.ok (.ret (.bool true))/\OldK s₁.heap s'.heap/\s'.os=s₁.os/\AllBare s'.gens) s₁):
  WalkO q loose XP YP l.row.toRowW d [] (λf vs=>PySem.call f vs):=by
 intro w s₀ s₁ mg mb G Y fa o pm cd doc dV kV ho hd hcd hD hmg hg args vals as hpre hlay hrd hwl hlo;obtain rfl:dV=.none:=Dflts.none hD hdf;obtain rfl:kV=.none:=Dflts.noKw hD;obtain⟨a,vs,ns,rfl,rfl,hobj,hints,hlen⟩:=TQ hn hpre hwl;refine enter_call (codeAny_mono (call w s₀ s₁ mg mb fa o pm cd doc a vs ns G Y ho (fd_plain hd) hcd hmg hobj hints hlen hg) λr s' hq=>?_);obtain⟨rfl,h2,h3,h4⟩:=hq;exact⟨.inl ⟨.bool true,.bool true,[],rfl,λ_=>rfl,.bool true,TY l _,λ_=>⟨List.Pairwise.nil,λ_ hm=>(nomatch hm)⟩⟩,h2,h3,h4⟩
section
variable {prog:Program}{w:World}{A:Around}{E:Value->Shared->Prop}{s:Shared}{K:Frag}
def zHv (h:Heap)(L d:Addr):List (Addr×Obj):=(List.range h.objs.size).filterMap λa=>if a=L\/a=d then none else(h.get? a).map λo=>(a,o)
end
end Att
namespace L2
open PySem PySem.Spec PyProof.Rows
theorem MD: ∀{vs:List Value} {ns:List Int},IntsAre vs ns->jK (ns.map V.int) vs
 |_,_,.nil=>.nil
 |_,_,.cons n t h=>.cons ⟨t,rfl⟩ (MD h)
def YZ (H:Hp):Prop:= ∀b,H b=none\/ ∃o xs,H b=some (.frz o (.lst xs))
theorem WH {P:Program}{w:World}{K:PySem.W.Frag}{mg mb:Str->Option Value}{CX:JX}{k:Nat}{fa a:Addr}{fd:FuncData}{x:Str}{sp:Sp}{s₁:Shared}{vs:List Value}{ns:List Int}
  (KX:K.In s₁.heap) (OU:s₁.heap.Ns mainGlobals mg) (hb:s₁.heap.Ns builtinsNs mb) (hbb: ∀x:Str,x≠"__name__"->mb x=bootBuiltins x) (hlim:s₁.heap.NoLimit) (hg:s₁.gens=#[])
  (ha:s₁.heap.get? a=some {cls:=.type "list",data:=.seq vs.toArray}) (hi:IntsAre vs ns) (hl:ns.length<=sizeLine) (hr:vY k callerA)
  (F: ∀base:Heap,K.In base->base.Ns mainGlobals mg->Bb P w K mg base CX k fa fd [x] sp) (hbind: ∀(s:Shared) (u:Value),BindsTo s fd ⟨[u],[]⟩ [(x,u)])
  (hsp: ∀H:Hp,YZ H->kS K H a (ns.map V.int)->sp [.ref a] H (λv _=>v=.bl true) λ_ _ _=>False)
  (hCX: ∀H e s',CX [] H s₁ (λ_ _ _=>False) e s'->False):
  codeAny (model P w) callerA (.call (.ref fa) ⟨[.ref a],[]⟩) (λr s'=>r=.ok (.ret (.bool true))/\OldK s₁.heap s'.heap/\s'.os=s₁.os/\AllBare s'.gens) s₁:=by
 have rv:=MD hi;have lenV:=hi.length;have core: ∀H:Hp,YZ H->kS K H a (ns.map V.int)->HL P w H s₁.heap->(∀b,H b≠none->b=a)->(H a≠none->K.lookup a=none)->
   codeAny (model P w) callerA (.call (.ref fa) ⟨[.ref a],[]⟩) (λr s'=>r=.ok (.ret (.bool true))/\OldK s₁.heap s'.heap/\s'.os=s₁.os/\AllBare s'.gens) s₁:=by
  intro H hO hS hok hA hK;have base_of: ∀{b:Addr} {o:Obj},s₁.heap.get? b=some o->H b=none->(OI s₁.heap H).get? b=some o:=λe n=>WS e n;have noA: ∀{b:Addr} {o:Obj} {es:Array DictEntry} {ep:Nat},s₁.heap.get? b=some o->o.data=.dict es ep->H b=none:=fun{b o es ep} e d=>by
   cases q:H b with
   |none=>rfl
   |some u=>
    have e':b=a:=hA b (by rw[q];simp);subst e';rw[ha]at e;cases e;have d':Data.seq vs.toArray _=Data.dict es ep:=d;cases d'
  have nsK: ∀{b:Addr} {m:Str->Option Value},s₁.heap.Ns b m->(OI s₁.heap H).Ns b m:=fun{b m} ⟨o,es,ep,e,d,r⟩=>⟨o,es,ep,base_of e (noA e d),d,r⟩;have hKb:K.In (OI s₁.heap H):=λb o e=>base_of (KX b o e) (by
   cases q:H b with
   |none=>rfl
   |some u=>
    have e':b=a:=hA b (by rw[q];simp);subst e';rw[hK (by rw[q];simp)]at e;cases e)
  have hM:Mod K mg (OI s₁.heap H):=⟨hKb,nsK OU,⟨mb,nsK hb,hbb⟩,let⟨mc,h1,h2⟩:=hlim;⟨mc,nsK h1,h2⟩⟩;have e0:Si P w K mg (OI s₁.heap H) callerA [] s₁ H:=⟨rfl,hM,λb o e=>Yu e,Nat.le_of_eq (Uz _ _),trivial,λb hb=>absurd (show b∈([]:List Addr)from hb) (by simp),hok,.of_eq hg⟩;refine AK ((F _ hKb (nsK OU)).run callerA [] s₁ H ⟨[.ref a],[]⟩ [.ref a] [.ref a] _ _ hr e0 (hbind s₁ (.ref a)) (.cons rfl .nil) (hsp H hO hS)) λr s' h=>?_;cases r with
  |error e=>exact(hCX H e s' h).elim
  |ok fl=>
   cases fl with
   |next=>exact False.elim h
   |brk=>exact False.elim h
   |cont=>exact False.elim h
   |ret u=>
    obtain⟨v,H',os,bare,un,hok',r',q⟩:=h;have q':v=.bl true:=q;subst q';obtain rfl:u=Value.bool true:=r';refine⟨rfl,OldK.of_keep λb o e=>?_,os,bare⟩;cases q:H b with
    |none=>exact un.keep b o e q (by intro z;exact absurd (show b∈([]:List Addr)from z) (by simp)) (by simp)
    |some u=>
     rcases hO b with z|⟨ob,xs,z⟩
     ·rw[q]at z;cases z
     ·have z2:=un.frzs b ob _ z;obtain⟨e1,_⟩:=hok b _ z;obtain⟨e2,_⟩:=hok' b _ z2;rw[e]at e1;cases e1;exact e2
 cases hk:K.lookup a with
 |some o=>
  have e:=KX a o hk;rw[ha]at e;cases e;refine core (λ_=>none) (λ_=>.inl rfl) (.inr ⟨_,vs.toArray,_,hk,rfl,rfl,rfl,by rw[zU,lenV];exact hl,by simpa using rv⟩) (λb u z=>by have z':(none:Option HO)=some u:=z;cases z') (λb z=>absurd rfl z) λz=>absurd rfl z
 |none=>
  refine core (λb=>if b=a then some (.frz {cls:=.type "list",data:=.seq vs.toArray} (.lst (ns.map V.int)))else none) (λb=>?_) (.inl (.inr ⟨{cls:=.type "list",data:=.seq vs.toArray},zQ rfl⟩)) (λb u z=>?_) (λb z=>?_) λ_=>hk
  ·by_cases hb:b=a
   ·exact .inr ⟨_,_,zQ hb⟩
   ·exact .inl (zN hb)
  ·by_cases hb:b=a
   ·have z':=(zQ hb).symm.trans z;cases z';subst hb;exact⟨ha,by rw[zF];exact hl,vs,_,rv,ha⟩
   ·have z':=(zN hb).symm.trans z;cases z'
  ·by_cases hb:b=a
   ·exact hb
   ·exact absurd (zN hb) z
theorem walk_of {l:PySem.W.OpenLaw}{n k:Nat}{q:Program}{loose:List Str}{XP:(Str->Option Value)->Heap->Prop}{YP:World->Heap->Prop}{d:DefRec}{K:Params->PySem.W.Frag}{CX:World->JX}{sp:World->Sp}{x:Str}
  (hn:l.most=some n) (hn2:n<=sizeLine) (hdf:d.params.defaults=[]) (hr:vY k callerA)
  (hY: ∀(w:World) (h:Heap),YP w h->(K w.params).In h)
  (F: ∀(w:World) (mg:Str->Option Value) (fa:Addr) (h:Heap),(K w.params).In h->h.Ns mainGlobals mg->mg d.name=some (.ref fa)->
   ∃fd:FuncData,(∀(s:Shared) (u:Value),BindsTo s fd ⟨[u],[]⟩ [(x,u)])/\
    ∀base:Heap,(K w.params).In base->base.Ns mainGlobals mg->Bb l.prog w (K w.params) mg base (CX w) k fa fd [x] (sp w))
  (hsp: ∀(w:World) (H:Hp) (a:Addr) (ns:List Int),ns.length<=n->YZ H->kS (K w.params) H a (ns.map V.int)->sp w [.ref a] H (λv _=>v=.bl true) λ_ _ _=>False)
  (hCX: ∀(w:World) (H:Hp) (s:Shared) (e:Value) (s':Shared),CX w [] H s (λ_ _ _=>False) e s'->False):
  PySem.W.WalkO q loose XP YP l.row.toRowW d [] (λf vs=>PySem.call f vs):=by
 refine Att.attach_call hn hdf λw s₀ s₁ mg mb fa o pm cd doc a vs ns G Y ho hd hcd hmg hobj hints hlen hg=>?_;have KX:=hY w _ Y;obtain⟨fd,hb,hF⟩:=F w mg fa _ KX G.T.g hmg;exact WH KX G.T.g G.T.b G.T.builtins G.T.nolimit hg hobj hints (yO hlen hn2) hr hF hb (λH hO hS=>hsp w H a ns hlen hO hS) λH e s'=>hCX w H s₁ e s'
def HI (s:Stmt)(j:Nat):Stmt:=match s with
 | .ClassDef _ _ _ body _ _ _ _ _ _ _=>body.getD j (.Pass ⟨0,0,0,0⟩)
 |_=>.Pass ⟨0,0,0,0⟩
def BR (s:Stmt):Arguments:=match s with
 | .FunctionDef _ a _ _ _ _ _ _ _ _=>a
 |_=>{posonlyargs:=[],args:=[],vararg:=none,kwonlyargs:=[],kw_defaults:=[],kwarg:=none,defaults:=[]}
def uP (s:Stmt):List Stmt:=match s with
 | .FunctionDef _ _ b _ _ _ _ _ _ _=>b
 |_=>[]
def zR (s:Stmt):Scope:=match s with
 | .FunctionDef _ _ _ _ _ _ sc _ _ _=>sc
 |_=>{kind:=.function,names:=[],isGenerator:=false,isCoroutine:=false}
abbrev E0:XK:=λ_ _ _=>False
structure wE (K:PySem.W.Frag)(x qual:Str)(st:Stmt)(f:Addr)(fd:FuncData):Prop where
 ex: ∃(oc:Value) (od:Option Addr) (kV doc pm:Value) (an:Option Addr) (cdv ct:Value) (osl:Array (Option Value)),
  fd=PySem.W.fnOf x qual (BR st) (uP st) (zR st) .none kV doc pm an cdv ct/\K.lookup f=some ⟨oc,od,.func fd,osl⟩/\PySem.W.codeIn K cdv qual=true
 kp:PySem.W.keepIn K (.ref f)=true
section
variable {P:Program}{w:World}{K:PySem.W.Frag}{mg:Str->Option Value}{base:Heap}
theorem wE.binds {x qual:Str}{st:Stmt}{f:Addr}{fd:FuncData}{ps:List Str}(F:wE K x qual st f fd)
  (h: ∀(kV doc pm:Value) (an:Option Addr) (cdv ct:Value) (us:List Value),us.length=ps.length->bindArgs (PySem.W.fnOf x qual (BR st) (uP st) (zR st) .none kV doc pm an cdv ct) ⟨us,[]⟩=pure (ps.zip us)):An K fd ps []:=by
 obtain⟨oc,od,kV,doc,pm,an,cdv,ct,osl,rfl,lk,hcd⟩:=F.ex;exact .all (h kV doc pm an cdv ct)
theorem Xa {x qual:Str}{st:Stmt}{f:Addr}{oc:Value}{od an:Option Addr}{osl:Array (Option Value)}{kV doc pm cdv ct:Value}(l:K.lookup f=some ⟨oc,od,.func (PySem.W.fnOf x qual (BR st) (uP st) (zR st) .none kV doc pm an cdv ct),osl⟩)
  (c:PySem.W.codeIn K cdv qual=true) (k:PySem.W.keepIn K (.ref f)=true):wE K x qual st f (PySem.W.fnOf x qual (BR st) (uP st) (zR st) .none kV doc pm an cdv ct):=⟨⟨oc,od,kV,doc,pm,an,cdv,ct,osl,rfl,l,c⟩,k⟩
end
theorem Hr {A:Around}{k:Nat}(hr:vY k A):A.units+1<cLine:=xB (Nat.add_le_add_left (by decide:1<=64) _) hr.units
theorem Ep {n:Nat}(h:n<=1000):n<sizeLine:=xB h (by decide)
section
variable {X:Cx}
theorem pv (i:Nat){x:Str}{pos:Pos}(hN:X.N[i]? =some x:=by rfl)(hv:Vis X.env.scope x:=by first|exact Or.inl rfl|exact Or.inr (Or.inl rfl)|exact Or.inr (Or.inr rfl))(hd:(x==("__debug__":Str))=false:=by decide)
  (hcd:(x==("__classdict__":Str))=false:=by decide):PE X (.Name x pos) (Vl i):=zAt hN hv hd hcd
end
theorem wD {A B:Prop}(h:B):if false=true then A else B:=by
 rw[zN yB];exact h
theorem qO {A B:Prop}(h:A):if true=true then A else B:=by
 rw[zQ rfl];exact h
theorem kH {c A B:Prop}[Decidable c](h1:c->A)(h2: ¬c->B):if c then A else B:=by
 by_cases h:c
 ·rw[zQ h];exact h1 h
 ·rw[zN h];exact h2 h
theorem WL {c A B:Prop}[Decidable c](hc:c)(h:B):if(!decide c)=true then A else B:=by
 rw[xI hc];exact wD h
def yU (H H':Hp):Prop:= ∀b o,H b=some o->H' b=some o
theorem yU.refl (H:Hp):yU H H:=λ_ _ h=>h
theorem yU.trans {H H1 H2:Hp}(a:yU H H1)(b:yU H1 H2):yU H H2:=λc o h=>b c o (a c o h)
theorem yU.free {H H':Hp}(e:yU H H'){l:Addr}(h:H' l=Option.none):H l=Option.none:=by
 cases q:H l with
 |none=>rfl
 |some o=>
  rw[e l o q]at h;cases h
theorem yU.seq {K:PySem.W.Frag}{H H':Hp}{a:Addr}{xs:List V}(e:yU H H')(h:kS K H a xs):kS K H' a xs:=by
 rcases h with(h|⟨o,h⟩)|h
 ·exact .inl (.inl (e _ _ h))
 ·exact .inl (.inr ⟨o,e _ _ h⟩)
 ·exact .inr h
theorem RU {prog:Program}{w:World}{A:Around}{R:Result->Shared->Prop}{s:Shared}{elt target iter:Expr}{ifs:List Expr}{scope:Scope}{pos:Pos}{it acc:Value}{env:Env}(J:Nat->Shared->Prop)
  (turn: ∀n s,J n s->wpAny (model prog w) A (pyNext it) (λr s1=>match r with
   |none=>R (.ok .next) s1
   |some v=>wpAny (model prog w) A (letOwnedTupleGo target it v) (λ_ s1=>wpAny (model prog w) A (assign target env v) (λ_ s2=>
     wpAny (model prog w) A (forIn ifs true λc r=>if r=true then do let ok<-isTrue c env (eval c env);pure (ForInStep.yield ok)else pure (ForInStep.yield r)) (λok s3=>
      if ok=true then wpAny (model prog w) A (eval elt env) (λx s4=>
       wpAny (model prog w) A (call (.builtin "list.append") [acc,x]) (λ_ s5=> ∃m,m<n/\J m s5) (λ_ _=>False) s4) (λ_ _=>False) s3
      else ∃m,m<n/\J m s3) (λ_ _=>False) s2) (λ_ _=>False) s1) (λ_ _=>False) s1) (λ_ _=>False) s)
  (n:Nat) (h:J n s):
  codeAny (model prog w) A (.compLoop (.ListComp elt [⟨target,iter,ifs,0⟩] scope pos) 0 it acc env) R s:=by
 refine codeAny_loop rfl J (λn s hI=>?_) n h;show wpAny _ A ((compTurn (.ListComp elt [⟨target,iter,ifs,0⟩] scope pos) 0 it acc env).onRaise (λx=>do noteFrame x env;theTreesLotGoes x)) _ _ s;refine wpAny_noted (qX (E:=λ_ _=>False) ?_ (λ_ _ q=>q) λ_ _ q=>q.elim);rw[compTurn_list];refine zA (Bd (zA (qV (turn n s hI) λr s1 h1=>?_)));cases r with
 |none=>exact zL h1
 |some v=>
  refine zA (qV h1 λ_ s1 h1=>?_);refine zA (qV h1 λ_ s2 h2=>zA (qV h2 λok s3 h3=>?_));cases ok with
  |false=>exact zL ⟨rfl,h3⟩
  |true=>exact zA (zA (qV h3 λx s4 h4=>zA (qV h4 λ_ s5 h5=>zL (zL ⟨rfl,h5⟩))))
theorem ID {env:Env}: ∀(names:List (Str×NameKind)) (acc:List (Str×Addr)),(∀y∈names,y.2=.free-> ∃c,env.cells.lookup y.1=some c)->
  ∃cl:List (Str×Addr),(forIn names acc (fun(y:Str×NameKind) (r:List (Str×Addr))=>if(y.2==NameKind.free)=true then do let a<-cellOf env y.1;pure (ForInStep.yield ((y.1,a)::r))else pure (ForInStep.yield r)):Sem _)=pure cl/\
   ∀x,(∀c,cl.lookup x=some c->acc.lookup x=some c\/env.cells.lookup x=some c)/\((acc.lookup x).isSome =true\/(x,NameKind.free)∈names->(cl.lookup x).isSome =true)
 |[],acc,_=>⟨acc,rfl,λx=>⟨λc h=>.inl h,λh=>h.elim id λz=>nomatch z⟩⟩
 |(n,k)::r,acc,hf=>by
  by_cases hk:k=.free
  ·subst hk;obtain⟨c,hc⟩:=hf (n,.free) yT rfl;obtain⟨cl,e,q⟩:=ID r ((n,c)::acc) λy hy=>hf y (yW _ hy);refine⟨cl,?_,λx=>⟨λd hd=>?_,λhx=>?_⟩⟩
   ·rw[Bn];have e1:cellOf env n=pure c:=by unfold cellOf;simp only[hc]
    simp only[kD,Bm,e1];exact e
   ·rcases(q x).1 d hd with z|z
    ·by_cases hx:x=n
     ·subst hx;rw[vC]at z;cases z;exact .inr hc
     ·rw[AM,beq_eq_false_iff_ne.mpr hx]at z;exact .inl z
    ·exact .inr z
   ·refine(q x).2 ?_
    by_cases hxn:x=n
    ·subst hxn;exact .inl (by rw[vC];rfl)
    ·rcases hx with z|z
     ·exact .inl (by rw[AM,beq_eq_false_iff_ne.mpr hxn];exact z)
     ·rcases List.mem_cons.mp z with z|z
      ·cases z;exact absurd rfl hxn
      ·exact .inr z
  ·obtain⟨cl,e,q⟩:=ID r acc λy hy=>hf y (yW _ hy);refine⟨cl,?_,λx=>⟨(q x).1,λhx=>(q x).2 ?_⟩⟩
   ·rw[Bn];have hb:(k==NameKind.free)=false:=by simpa using hk
    simp only[hb,BB,FX];exact e
   ·rcases hx with z|z
    ·exact .inl z
    ·rcases List.mem_cons.mp z with z|z
     ·cases z;exact absurd rfl hk
     ·exact .inr z
theorem Mb {env:Env}{scope:Scope}(hf: ∀y∈scope.names,y.2=.free-> ∃c,env.cells.lookup y.1=some c):
  ∃cl,closureFor scope env=pure cl/\(∀x c,cl.lookup x=some c->env.cells.lookup x=some c)/\ ∀x,(x,NameKind.free)∈scope.names-> ∃c,cl.lookup x=some c:=by
 obtain⟨cl,e,q⟩:=ID scope.names [] hf;refine⟨cl,?_,λx c h=>?_,λx hx=>Option.isSome_iff_exists.mp ((q x).2 (.inr hx))⟩
 ·unfold closureFor;exact(qI (·>>=λr=>pure r) e).trans rfl
 ·rcases(q x).1 c h with z|z
  ·simp at z
  ·exact z
abbrev Cx.comp (X:Cx)(N:List Str)(scope:Scope)(cl:List (Str×Addr))(C:Addr)(fp:List Addr)(s:Shared)(H:Hp):Cx:=
 {X with N:=N,s₀:=s,H₀:=H,env:=compEnvC scope cl C X.env,outer:=X.stack,stack:=X.stack,ex:=fp,fn:=λ_=>false,pn:=[],xe:=λ_ _=>False}
structure PTs (X:Cx)(ifs:List Expr)(t:TT):Prop where
 go: ∀(pins:List (Addr×Obj)) (s:Shared) (σ:St) (H:Hp) (Q:Bool->Hp->Prop),xK X pins σ H s->t σ H Q->
  wpAny (model X.prog X.w) X.A (forIn ifs true λc r=>if r=true then do let ok<-isTrue c X.env (eval c X.env);pure (ForInStep.yield ok)else pure (ForInStep.yield r)) (TP X pins σ Q) X.xe s
instance {X:Cx}{ifs:List Expr}{t:TT}:CoeFun (PTs X ifs t) (λ_=> ∀(pins:List (Addr×Obj)) (s:Shared) (σ:St) (H:Hp) (Q:Bool->Hp->Prop),xK X pins σ H s->t σ H Q->
  wpAny (model X.prog X.w) X.A (forIn ifs true λc r=>if r=true then do let ok<-isTrue c X.env (eval c X.env);pure (ForInStep.yield ok)else pure (ForInStep.yield r)) (TP X pins σ Q) X.xe s):=⟨PTs.go⟩
def TJ:TT:=λ_ H Q=>Q true H
theorem Bi {X:Cx}:PTs X [] TJ:=⟨λ_ _ _ H _ I h=>wpAny_tests_nil ⟨H,I,h⟩⟩
def JR (own:Nat)(js:List Nat)(σ:St):St:=List.replicate own none++js.map λj=>(σ[j]?).join
def JW (J:It)(p:Addr)(σ0:St)(H0:Hp)(g:TG)(tt:TT)(te:TE)(R:Hp->Prop):Prop:=
 ∃W:Nat->Nat->St->Hp->Prop,(∃m,W 0 m σ0 H0)/\ ∀i m σ' H',W i m σ' H'->
  (J.stop i H'/\R H')\/(J.go i H'/\ ∀x H2,J.yld i H' x H2->g x σ' H2 λσ3 H3=>tt σ3 H3 λb H4=>
   if b=true then te σ3 H4 λv H5=> ∃ys,H5 p=some (.lst ys)/\ys.length<sizeLine/\ ∃m',m'<m/\W (i+1) m' σ3 (upd H5 p (.lst (ys++[v])))
   else ∃m',m'<m/\W (i+1) m' σ3 H4)
def Zl (wi:TI)(own:Nat)(js:List Nat)(g:TG)(tt:TT)(te:TE):TE:=λσ H Q=>wi σ H λJ H1=> ∀p,H1 p=none->JW J p (JR own js σ) (upd H1 p (.lst [])) g tt te (Q (.ref p))
inductive Ie (N:List Str):List Str->List Nat->Prop where
 |nil:Ie N [] []
 |cons {y:Str} {j:Nat} {ys:List Str} {js:List Nat} (h:N[j]? =some y) (r:Ie N ys js):Ie N (y::ys) (j::js)
theorem Ie.at {N:List Str}: ∀{ys:List Str} {js:List Nat},Ie N ys js-> ∀(i:Nat) (y:Str),ys[i]? =some y-> ∃j,js[i]? =some j/\N[j]? =some y
 |_,_,.nil,_,_,e=>by simp at e
 |_,_,.cons (j:=j) h _,0,_,e=>by simp at e;subst e;exact⟨j,rfl,h⟩
 |_,_,.cons _ r,i+1,y,e=>by
  obtain⟨j,h1,h2⟩:=r.at i y (by simpa using e);exact⟨j,by simpa using h1,h2⟩
theorem Ie.length {N:List Str}: ∀{ys:List Str} {js:List Nat},Ie N ys js->ys.length=js.length
 |_,_,.nil=>rfl
 |_,_,.cons _ r=>by simp[r.length]
theorem FG {f:Str->NameKind->NameKind}: ∀{names:List (Str×NameKind)} {x:Str},(names.map λy=>(y.1,f y.1 y.2)).lookup x=(names.lookup x).map (f x)
 |[],_=>rfl
 |(n,k)::r,x=>by
  by_cases h:x=n
  ·subst h;rw[xG,vC,vC];rfl
  ·have hb:(x==n)=false:=beq_eq_false_iff_ne.mpr h;rw[xG,AM,AM,hb];exact FG
def Pm (env:Env)(n:Str)(k:NameKind):NameKind:=if(k== .free&&env.scope.kind== .function&&env.kindOf n==some .cell)=true then .cell else k
theorem IV (scope:Scope)(env:Env)(x:Str):(relabel scope env).names.lookup x=(scope.names.lookup x).map (Pm env x):=by
 have e:(relabel scope env).names =scope.names.map λy=>(y.1,Pm env y.1 y.2):=by
  unfold relabel;refine uF λy _=>?_;obtain⟨n,k⟩:=y;show(if(k== .free&&env.scope.kind== .function&&env.kindOf n==some .cell)=true then(n,NameKind.cell)else(n,k))=(n,Pm env n k);unfold Pm;split<;>rfl
 rw[e,FG]
section
variable {X:Cx}{elt target iter:Expr}{ifs:List Expr}{scope:Scope}{own ys:List Str}{js:List Nat}{wi:TI}{g:TG}{tt:TT}{te:TE}{pos:Pos}
theorem Ma {pins:List (Addr×Obj)}{σ:St}{H:Hp}{s2:Shared}{it:Addr}{fp:List Addr}{tn:Nat->Heap->Prop}{J:It}{Q:VK}{E:Value->Shared->Prop}{cl:List (Str×Addr)}{RR:Value->Addr->Result->Shared->Prop}
  (hc:X.calm=true) (I:xK X pins σ H s2) (T:Me X.prog X.w X.K target J fp it tn) (st:tn 0 s2.heap) (fpk: ∀b∈fp,HW X pins H b)
  (hkind:scope.kind=.function) (hcell: ∀y∈scope.names,y.2≠ .cell) (fr:Ie X.N ys js) (hys: ∀y∈ys,X.env.kindOf y=some .cell)
  (hcl1: ∀x c,cl.lookup x=some c->X.env.cells.lookup x=some c) (hcl2: ∀x,(x,NameKind.free)∈scope.names-> ∃c,cl.lookup x=some c)
  (hvis: ∀y∈ys,(relabel scope X.env).names.lookup y=some .cell)
  (hg: ∀cl C fp s H,PG (X.comp (own++ys) scope cl C fp s H) target g) (ht: ∀cl C fp s H,PTs (X.comp (own++ys) scope cl C fp s H) ifs tt) (he: ∀cl C fp s H,PE (X.comp (own++ys) scope cl C fp s H) elt te)
  (h: ∀p,H p=none-> ∃W:Nat->Nat->St->Hp->Prop,(∃m,W 0 m (JR own.length js σ) (upd H p (.lst [])))/\ ∀i m σ' H',W i m σ' H'->
   (J.stop i H'/\Q (.ref p) H')\/(J.go i H'/\ ∀x H2,J.yld i H' x H2->g x σ' H2 λσ3 H3=>tt σ3 H3 λb H4=>
    if b=true then te σ3 H4 λv H5=> ∃ys,H5 p=some (.lst ys)/\ys.length<sizeLine/\ ∃m',m'<m/\W (i+1) m' σ3 (upd H5 p (.lst (ys++[v])))
    else ∃m',m'<m/\W (i+1) m' σ3 H4))
  (hRR: ∀D C (H':Hp) (s':Shared),xK X pins σ H' s'->Q (.ref D) H'->(∃m,s'.heap.Ns C m)->H' C=none->C≠X.env.locals->X.s₀.heap.objs.size<=C->(∀x c,X.env.cells.lookup x=some c->c≠C)->(∀p∈X.pn++pins,p.1≠C)->RR (.ref D) C (.ok .next) s'):
  wpAny (model X.prog X.w) X.A (newList []) (λacc s3=>wpAny (model X.prog X.w) X.A (newFunctionEnv scope X.env.globals cl [] X.env.qual none .none (some X.env)) (λcenv s4=>
   codeAny (model X.prog X.w) X.A (.compStart (.ListComp elt [⟨target,iter,ifs,0⟩] scope pos) 0 (.ref it) acc {cenv with scope:=relabel scope X.env}) (RR acc cenv.locals) s4) E s3) E s2:=by
 refine jG (wpAny_newFunctionEnv hcell (by intro y hy;simp at hy) (λh1 hns1 hsb1=>?_) hkind);have hnp:H s2.heap.objs.size=none:=I.hok.fresh (zP _);have I3:xK X pins σ (upd H s2.heap.objs.size (.lst [])) {s2 with heap:=s2.heap.push {cls:=.type "list",data:=.seq ([]:List Value).toArray},toks:=s2.toks}:=
  I.lnew (its:=[]) (ys:=[]) .nil (xH _)
 obtain⟨W,⟨m0,w0⟩,turn⟩:=h _ hnp;clear h;generalize hH0:upd H s2.heap.objs.size (.lst [])=H0 at I3 w0;generalize hp:s2.heap.objs.size=p at *
 have eS:({s2 with heap:=s2.heap.push {cls:=.type "list",data:=.seq ([]:List Value).toArray},toks:=s2.toks}:Shared)={s2 with heap:=s2.heap.push {cls:=.type "list",data:=.seq ([]:List Value).toArray}}:=rfl;rw[eS]at I3;clear eS;generalize hs3:({s2 with heap:=s2.heap.push {cls:=.type "list",data:=.seq ([]:List Value).toArray}}:Shared)=s3 at *
 have heap3:s3.heap=s2.heap.push {cls:=.type "list",data:=.seq ([]:List Value).toArray}:=by rw[<-hs3]
 have old3: ∀b o,s2.heap.get? b=some o->s3.heap.get? b=some o:=λb o e=>by rw[heap3];exact zC _ e
 generalize hC:s3.heap.objs.size=C at *
 have st3:tn 0 s3.heap:=T.keep _ _ _ st λb _ o e=>old3 b o e;have fp3: ∀b∈fp,b<C:=λb hb=>by
  obtain⟨o,e,_⟩:=T.obj _ _ st3 b hb;have:=zS e;rw[hC]at this;exact this
 have nH0: ∀b∈fp,H0 b=none:=λb hb=>by
  obtain⟨o,e,_⟩:=T.obj _ _ st b hb;rw[<-hH0,zW (λz=>by have:=zS e;rw[hp,z]at this;exact jS _ this)];exact(fpk b hb).1
 have old1: ∀b o,s3.heap.get? b=some o->h1.get? b=some o:=λb o e=>
  hsb1.extBut b o (λz=>by have:=zS e;rw[hC,z]at this;exact jS _ this) (zC _ e)
 have nstk: ∀b∈fp,b∉frs X.stack:=λb hb z=>by
  rcases List.mem_cons.mp (I.stkSub b z)with e|e
  ·exact(fpk b hb).2.1 e
  ·exact(fpk b hb).2.2.1 e
 have ncC: ∀x c,X.env.cells.lookup x=some c->c≠C:=λx c e z=>by
  obtain⟨v,o,ho,_⟩:=I3.cell x c e;have:=zS ho;rw[hC,z]at this;exact jS _ this
 have LC:C≠X.env.locals:=λz=>by have:=I3.lt;rw[hC,z]at this;exact jS _ this
 have sC:X.s₀.heap.objs.size<=C:=by rw[<-hC];exact I3.sz
 have rl: ∀x k,(compEnvC scope cl C X.env).kindOf x=some k->(k=.cell\/k=.free)->(x,NameKind.free)∈scope.names:=λx k e hk=>by
  have e':(relabel scope X.env).names.lookup x=some k:=e;rw[IV]at e';cases q:scope.names.lookup x with
  |none=>rw[q]at e';cases e'
  |some k0=>
   rw[q]at e';have m0:=wO q;have n0:=hcell _ m0;have:Pm X.env x k0=k:=xU e';unfold Pm at this;split at this
   ·rename_i z;have:k0=.free:=by
     simp only[qK,beq_iff_eq]at z;exact z.1.1
    rw[<-this];exact m0
   ·rcases hk with hk|hk
    ·exact absurd (this.trans hk) n0
    ·rw[<-hk,<-this];exact m0
 let Y:=X.comp (own++ys) scope cl C fp s3 H0
 have okY:Y.Ok:=by
  refine⟨I.ok.mod,?_,I.ok.glob,I.ok.blt,?_,λx y c e1 e2=>I.ok.inj x y c (hcl1 x c e1) (hcl1 y c e2),λx hx=>?_,λx c z=>(nomatch z),I.ok.hd,I.ok.frames,.inl rfl,λb hb=>⟨?_,λx c e=>(fpk b hb).2.2.2.2.1 x c (hcl1 x c e)⟩,λb o e=>I3.bs b o e,?_,λb o e hb=>?_,nstk,I3.stack,I3.stkFree⟩
  ·exact hkind
  ·exact Nat.le_of_eq hC
  ·rcases hx with hx|hx
   ·exact hcl2 x (rl x _ hx (.inl rfl))
   ·exact hcl2 x (rl x _ hx (.inr rfl))
  ·exact xA (fp3 b hb)
  ·exact yO I.ok.bsz I3.sz
  ·rcases(fpk b hb).2.2.2.1 with z|z
   ·exact I.ok.noex b o e z
   ·exact absurd (yJ (zS e) (yO I.ok.bsz z)) (jS _)
 have I4:xK Y [] (JR own.length js σ) H0 {s3 with heap:=h1,toks:=s3.toks+([]:List (Str×Value)).length}:=by
  refine⟨okY,rfl,I3.bare,Un.kept old1,⟨_,hns1,λi x v e1 e2 e3=>?_⟩,λx c e=>?_,?_,λx c e=>I3.freeC x c (hcl1 x c e),λp hp=>absurd (show p∈([]:List (Addr×Obj))from hp) (by simp),I3.hok.kept old1,?_⟩
  ·have e1:(own++ys)[i]? =some x:=e1;have hi:own.length<=i:=Nat.le_of_not_lt λlt=>by
    unfold JR at e2;rw[EL (by simpa using lt),Ge]at e2;split at e2<;>cases e2
   rw[Ax hi]at e1;obtain⟨j,hj,hN⟩:=fr.at _ _ e1;unfold JR at e2;rw[Ax (by simpa using hi),vD,yQ,hj]at e2;have e2:(σ[j]?).join =some v:=xU e2;have e2':σ[j]? =some (some v):=by
    cases q:σ[j]? with
    |none=>rw[q]at e2;cases e2
    |some z=>rw[q]at e2;rw[show z=some v from e2]
   have my:=xL e1;have hk:=hys x my;obtain⟨m,hn,hl⟩:=I3.loc;obtain⟨u,r,q⟩:=hl j x v hN e2' (.inr (.inl hk));refine⟨u,r,?_⟩
   rcases q with⟨k,_⟩|⟨_,c,e,z⟩
   ·rw[hk]at k;cases k
   ·obtain⟨c',e'⟩:=hcl2 x (rl x _ (hvis x my) (.inl rfl));have:c'=c:=by have:=hcl1 x c' e';rw[e]at this;exact(xU this).symm
    subst this;refine .inr ⟨?_,c',e',?_⟩
    ·exact .inl (hvis x my)
    ·obtain⟨o,ho,hd⟩:=z;exact⟨o,old1 _ _ ho,hd⟩
  ·obtain⟨v,o,ho,hd⟩:=I3.cell x c (hcl1 x c e);exact⟨v,o,old1 _ _ ho,hd⟩
  ·exact I3.hok.fresh (Nat.le_of_eq hC)
  ·unfold JR;show _=(own++ys).length;rw[zD,vD,zF,zD,fr.length]
 have stat: ∀{H':Hp},(∀b∈fp,H' b=none)-> ∀b∈fp,HW Y [] H' b:=λhn b hb=>
  ⟨hn b hb,xA (fp3 b hb),nstk b hb,.inl hb,λx c e=>(fpk b hb).2.2.2.2.1 x c (hcl1 x c e),λp hp=>absurd (show p∈([]:List (Addr×Obj))from hp) (by simp)⟩
 have fin: ∀{σ':St} {H':Hp} {s':Shared},xK Y [] σ' H' s'->Q (.ref p) H'->RR (.ref p) C (.ok .next) s':=fun{σ' H' s'} I' q=>by
  have back:xK X pins σ H' s':=I3.call' (ch:=fp) I'.os I'.base I'.hok I'.bare λb hb=>⟨(fpk b hb).2.2.2.1,(fpk b hb).2.1,(fpk b hb).2.2.2.2.1,(fpk b hb).2.2.2.2.2⟩;obtain⟨m,hn,_⟩:=I'.loc;exact hRR p C H' s' back q ⟨m,hn⟩ I'.free LC sC ncC λq hq z=>by
   have:=zS (I3.pin q hq).1;rw[hC,z]at this;exact jS _ this
 have loop: ∀s4:Shared,s4={s3 with heap:=h1,toks:=s3.toks+([]:List (Str×Value)).length}->
   codeAny (model X.prog X.w) X.A (.compLoop (.ListComp elt [⟨target,iter,ifs,0⟩] scope pos) 0 (.ref it) (.ref p) (compEnvC scope cl C X.env)) (RR (.ref p) C) s4:=by
  rintro s4 rfl;refine RU (λn s'=> ∃i σ' H',xK Y [] σ' H' s'/\tn i s'.heap/\(∀b∈fp,H' b=none)/\W i n σ' H') ?_ m0 ⟨0,_,_,I4,T.keep _ _ _ st3 λb _ o e=>old1 b o e,nH0,w0⟩;rintro n s5 ⟨i,σ5,H5,I5,st5,fr5,w5⟩
  rcases turn i n σ5 H5 w5 with⟨stop,qn⟩|⟨go,step⟩
  ·refine qV (T.done Y rfl rfl rfl hc i [] s5 σ5 H5 (λ_ _=>False) I5 (stat fr5) st5 stop) λr s6 hzz=>?_;obtain⟨hr,I6⟩:=hzz;subst hr;exact fin I6 qn
  ·refine qV (T.item Y rfl rfl rfl hc i [] s5 σ5 H5 (λ_ _=>False) I5 (stat fr5) st5 go) λr s6 hzz=>?_;obtain⟨u,hr,h6⟩:=hzz;subst hr;refine qV h6 λ_ s7 hzz=>?_;obtain⟨x,H7,I7,r7,y7,st7,fr7⟩:=hzz;have I7':=I7.pinned (stat fr7) (T.obj _ _ st7);have again: ∀{σ9:St} {H9:Hp} {s9:Shared} {m':Nat},xK Y ([]++Ls fp s7.heap) σ9 H9 s9->m'<n->W (i+1) m' σ9 H9-> ∃m,m<n/\ ∃i σ' H',xK Y [] σ' H' s9/\tn i s9.heap/\(∀b∈fp,H' b=none)/\W i m σ' H':=fun{σ9 H9 s9 m'} I9 hm w9=>by
    refine⟨m',hm,i+1,σ9,H9,I9.unpinned,T.keep _ _ _ st7 λb hb o e=>(I9.pin (b,o) (jA _ (jA _ (Gw hb e)))).1,λb hb=>?_,w9⟩;obtain⟨o,e,d⟩:=T.obj _ _ st7 b hb;exact(I9.pin (b,o) (jA _ (jA _ (Gw hb e)))).2.1
   refine qV (hg cl C fp s3 H0 _ s7 σ5 H7 x u _ I7' r7 (step x H7 y7)) λ_ s8 hzz=>?_;obtain⟨σ8,H8,I8,q8⟩:=hzz;refine qV (ht cl C fp s3 H0 _ s8 σ8 H8 _ I8 q8) λb s9 hzz=>?_;obtain⟨H9,I9,q9⟩:=hzz;cases b with
   |false=>
    obtain⟨m',hm,w9⟩:=q9;exact again I9 hm w9
   |true=>
    refine qV (he cl C fp s3 H0 _ s9 σ8 H9 _ I9 q9) λy s10 hzz=>?_;obtain⟨v,H10,I10,r10,zs,e10,z10,m',hm,w10⟩:=hzz;refine qV (kP (X:=Y) _ s10 σ8 H10 (.ref p) [v] (.ref p) [y] (λ_ H'=>H'=upd H10 p (.lst (zs++[v]))) I10 rfl (.cons r10 .nil) ⟨p,zs,v,rfl,rfl,e10,z10,rfl⟩) λ_ s11 hzz=>?_;obtain⟨_,H11,I11,_,q11⟩:=hzz;subst q11;exact again I11 hm w10
 have st4:tn 0 h1:=T.keep _ _ _ st3 λb _ o e=>old1 b o e;exact codeAny_compStart_list (loop _ rfl) (T.self _ 0 _ _ _ st4 (loop _ rfl))
structure Sk (X:Cx)(scope:Scope)(ys:List Str):Prop where
 kind:scope.kind=.function
 cell: ∀y∈scope.names,y.2≠ .cell
 loc: ∀y∈scope.names,y.2=.local->scope.names.lookup y.1=some .local
 free: ∀y∈scope.names,y.2=.free->X.env.kindOf y.1=some .cell
 cap: ∀y∈ys,X.env.kindOf y=some .cell
 vis: ∀y∈ys,(relabel scope X.env).names.lookup y=some .cell
def Tl (sc scope:Scope)(ys:List Str):Bool:=
 scope.kind== .function&&sc.kind== .function&&(scope.names.all λy=>y.2 != .cell&&(y.2 != .local || scope.names.lookup y.1==some .local)&&(y.2 != .free || sc.names.lookup y.1==some .cell))&&
  ys.all λy=>sc.names.lookup y==some .cell&&scope.names.lookup y==some .free
theorem vI {sc:Scope}(hsc:X.env.scope=sc)(h:Tl sc scope ys=true):Sk X scope ys:=by
 unfold Tl at h;simp only[qK,De,beq_iff_eq,bne_iff_ne,Bool.or_eq_true,ne_eq]at h;obtain⟨⟨⟨h1,h0⟩,h2⟩,h3⟩:=h;subst hsc;refine⟨h1,λy hy=>(h2 y hy).1.1,λy hy e=>?_,λy hy e=>?_,λy hy=>(h3 y hy).1,λy hy=>?_⟩
 ·rcases(h2 y hy).1.2 with z|z
  ·exact absurd e z
  ·exact z
 ·rcases(h2 y hy).2 with z|z
  ·exact absurd e z
  ·exact z
 ·rw[IV,(h3 y hy).2];show some (Pm X.env y .free)=_;have z:X.env.kindOf y=some .cell:=(h3 y hy).1;unfold Pm;rw[z,h0];rfl
theorem Dk (hc:X.calm=true)(hi:PI X target iter wi)(S:Sk X scope ys)(fr:Ie X.N ys js)
  (hg: ∀cl C fp s H,PG (X.comp (own++ys) scope cl C fp s H) target g) (ht: ∀cl C fp s H,PTs (X.comp (own++ys) scope cl C fp s H) ifs tt) (he: ∀cl C fp s H,PE (X.comp (own++ys) scope cl C fp s H) elt te)
  (hs: ∀x,foldedSetIterable iter X.env x=pure x:=by intro _;rfl):PE X (.ListComp elt [⟨target,iter,ifs,0⟩] scope pos) (Zl wi own.length js g tt te):=by
 refine⟨?_⟩;intro pins s σ H Q I h;rw[eval_ListComp];obtain⟨cl,e,c1,c2⟩:=Mb (env:=X.env) (scope:=scope) λy hy hf=>I.ok.has y.1 (.inl (S.free y hy hf));refine wpAny_comprehension_free (use:=none) rfl hs e S.kind S.loc (qV (hi pins s σ H _ I h) λv s1 h1=>qV h1 λitv s2 h2=>?_);obtain⟨it,fp,tn,J,H2,e,I2,T,st2,f2,q2⟩:=h2;subst e;refine Ma (Q:=Q) (RR:=λacc C=>compPost (model X.prog X.w) X.A X.xe none (EP X pins σ Q) acc C) hc I2 T st2 f2 S.kind S.cell fr S.cap c1 c2 S.vis hg ht he q2 ?_;intro D C H' s' I' q hm n1 n2 n3 n4 n5;obtain⟨m,hn⟩:=hm;exact⟨m,hn,λh' hs'=>⟨.ref D,H',I'.turned (λb o hb e=>(hs'.2 b hb).trans e) n1 n2 (.inr n3) n4 n5,rfl,q⟩⟩
theorem Lm {i:Nat}{x:Str}{pos' spos:Pos}(hN:X.N.Nodup)(hix:X.N[i]? =some x)(hx:X.env.scope.names.lookup x=some .local)(hc:X.calm=true)(hi:PI X target iter wi)(S:Sk X scope ys)(fr:Ie X.N ys js)
  (hg: ∀cl C fp s H,PG (X.comp (own++ys) scope cl C fp s H) target g) (ht: ∀cl C fp s H,PTs (X.comp (own++ys) scope cl C fp s H) ifs tt) (he: ∀cl C fp s H,PE (X.comp (own++ys) scope cl C fp s H) elt te)
  (hsw:swapsWith (.ListComp elt [⟨target,iter,ifs,0⟩] scope pos) (some (.Name x pos')) spos.line X.env=pure true:=by rfl)
  (hs: ∀x,foldedSetIterable iter X.env x=pure x:=by intro _;rfl):PS X (.Assign [.Name x pos'] (.ListComp elt [⟨target,iter,ifs,0⟩] scope pos) spos) (λD σ H=>Zl wi own.length js g tt te σ H λv H1=>D.nx (σ.set i (some v)) H1):=by
 refine⟨?_⟩;intro pins s σ H D I h;rw[exec_Assign_Name_used _ _ _ _ hsw];refine zA (Bd (zA ?_));show wpAny _ X.A (do let _<-comprehension (.ListComp elt [⟨target,iter,ifs,0⟩] scope pos) scope X.env _ (newList []) false (eval iter X.env) (some (assign (.Name x pos') X.env))) _ _ s;obtain⟨cl,e,c1,c2⟩:=Mb (env:=X.env) (scope:=scope) λy hy hf=>I.ok.has y.1 (.inl (S.free y hy hf));refine zA (qV (wpAny_comprehension_free (use:=some (assign (.Name x pos') X.env)) (Q:=λ_ s'=>SP X pins D .next s') rfl hs e S.kind S.loc
  (qV (hi pins s σ H _ I h) λv s1 h1=>qV h1 λitv s2 h2=>?_)) λ_ s' hq=>zL (zL hq))
 obtain⟨it,fp,tn,J,H2,e,I2,T,st2,f2,q2⟩:=h2;subst e;refine Ma (Q:=λv H1=>D.nx (σ.set i (some v)) H1) (RR:=λacc C=>compPost (model X.prog X.w) X.A X.xe (some (assign (.Name x pos') X.env)) (λ_ s'=>SP X pins D .next s') acc C) hc I2 T st2 f2 S.kind S.cell fr S.cap c1 c2 S.vis hg ht he q2 ?_;intro B C H' s' I' q hm n1 n2 n3 n4 n5;obtain⟨m,hn⟩:=hm;show wpAny _ X.A (assign (.Name x pos') X.env (.ref B)) _ _ _;refine wpAny_assign_Name (MJ I' hN hix (.inl hx) (v:=.ref B) rfl (λs2 I2 hsb=>?_) (.inr hx));obtain⟨a,hsb,ha⟩:=hsb;have ne:C≠a:=by
  rcases ha with z|z
  ·rw[z];exact n2
  ·exact Ne.symm (n4 x a z)
 exact⟨m,hn.sameBut hsb ne,λh' hs'=>⟨_,H',I2.turned (λb o hb e=>(hs'.2 b hb).trans e) n1 n2 (.inr n3) n4 n5,q⟩⟩
end
section
variable {X:Cx}{x:Str}{p pos:Pos}{e:Expr}{es:List Expr}{t:TA}
def qB (mg:Str->Option Value)(x:Str)(i:Int):Prop:= ∃t,mg x=some (.int i t)
theorem zX {i:Int}(hg:Gl X x)(hm:qB X.mg x i)(hd:(x==("__debug__":Str))=false:=by decide):PE X (.Name x pos) (tC (.int i)):=by
 obtain⟨t,hm⟩:=hm;exact SK (v:=.int i) hg hm ⟨t,rfl⟩ hd
theorem HE {a:Addr}(hg:Gl X x)(hm:X.mg x=some (.ref a))(hd:(x==("__debug__":Str))=false:=by decide):PE X (.Name x pos) (tC (.ref a)):=SK (v:=.ref a) hg hm rfl hd
structure QK (P:Program)(w:World)(K:PySem.W.Frag)(mg:Str->Option Value)(base:Heap)(CX:JX)(k:Nat)(x:Str)(ps:List Str)(sp:Sp):Prop where
 ex: ∃f fd,Bb P w K mg base CX k f fd ps sp/\mg x=some (.ref f)/\PySem.W.keepIn K (.ref f)=true/\An K fd ps []
theorem jB {CX:JX}{k n:Nat}{ps:List Str}{sp:Sp}{E:XK}(C:QK X.prog X.w X.K X.mg X.base CX k x ps sp)(hr:vY n X.A)(hg:Gl X x)(ha:PA X (e::es) t)(hx:Bv CX X E)(hk:k<=n:=by first|decide|lia)(hdb:(x==("__debug__":Str))=false:=by decide)
  (he:starEach (e::es) X.env=(false,eval e X.env)::starEach es X.env:=by rfl) (hpl:(backTo pos (starEach es X.env)).any (·.1)=false:=by rfl):PE X (.Call (.Name x p) (e::es) [] pos) (Vq sp [] E t):=by
 obtain⟨f,fd,F,hm,kp,hb⟩:=C.ex;exact Yj F (hr.mono hk) hg hm kp hb .nil hx ha hdb he hpl
inductive JV:List Expr->List V->Prop where
 |nil:JV [] []
 |int {i j pos es vs} (r:JV es vs):JV (.Constant (.int i) j pos::es) (.int i::vs)
 |str {x j pos es vs} (r:JV es vs):JV (.Constant (.str x) j pos::es) (.str x::vs)
theorem CQ: ∀{es:List Expr} {vs:List V},JV es vs->PA X es (λ_ H Q=>Q vs H)
 |_,_,.nil=>⟨λpos pins s σ H Q I h=>yC pos pins s σ H Q I h⟩
 |_,_,.int r=>⟨λpos pins s σ H Q I h=>zB zK (CQ r) (by rfl) pos pins s σ H Q I h⟩
 |_,_,.str r=>⟨λpos pins s σ H Q I h=>zB Bu (CQ r) (by rfl) pos pins s σ H Q I h⟩
def zDs (K:PySem.W.Frag):List V->Hp->VK->Prop:=λxs H Q=>
 (∃x n t b,xs=[x,.ty n]/\CZ K H x t/\PySem.W.kitOne K t (.type n)=some b/\Q (.bl b) H)\/ ∃x C t b,xs=[x,.ref C]/\CZ K H x t/\PySem.W.kitOne K t (.ref C)=some b/\Q (.bl b) H
theorem UO (K:PySem.W.Frag)(hK:X.K=K):FU X (.builtin "isinstance") (zDs K):=by
 subst hK;intro pins s σ H xs us Q I r h
 rcases h with⟨x,n,t,b,rfl,ty,e,q⟩|⟨x,C,t,b,rfl,ty,e,q⟩
 ·obtain⟨u,w',rfl,ru,rw'⟩:=IJ r;cases rw';exact Nj I ru ty e λtk=>⟨.bl b,H,I.tok tk,rfl,q⟩
 ·obtain⟨u,w',rfl,ru,rw'⟩:=IJ r;cases rw';exact Nj I ru ty e λtk=>⟨.bl b,H,I.tok tk,rfl,q⟩
theorem EC:FU X (.builtin "isinstance") (zDs X.K):=UO X.K rfl
theorem Qn (K:PySem.W.Frag)(hK:X.K=K):IxR X (zAj K):=hK▸kQ
theorem KF (K:PySem.W.Frag)(hK:X.K=K):IxR X (zAi K):=hK▸jO
def Ty (xs:List V)(y:V)(j:Nat):Prop:=(∃z,xs[j]? =some z/\Jp z y=true)/\ ∀(m:Nat) (z:V),m<j->xs[m]? =some z->Jp z y=false
inductive VD (S:Hp->Addr->List V->Prop) (x:V) (vs:List V) (H:Hp) (Q:VK):Prop
 |mk (l xs y j:_) (h0:x=.ref l) (h1:vs=[y]) (h2:S H l xs) (h3:AZ y=true) (h4:xs.all AZ=true) (h5:Ty xs y j) (h6:Q (.int (j:Nat)) H):VD S x vs H Q
theorem Qv {xs:List V}{its:List Value}{y:V}{j:Nat}(r:jK xs its)(fx:xs.all AZ=true)(f:Ty xs y j):
  ∃hj:j<its.length,RQ y its[j]=true/\ ∀m (hm:m<its.length),m<j->RQ y its[m]=false:=by
 obtain⟨⟨z,hz,ez⟩,hno⟩:=f;have fz: ∀{m:Nat} {z:V},xs[m]? =some z->AZ z=true:=fun{m z} h=>List.all_eq_true.mp fx z (xL h);obtain⟨u,hu,ru⟩:=r.get hz;obtain⟨hj,eu⟩:=List.getElem?_eq_some_iff.mp hu;refine⟨hj,?_,λm hm hlt=>?_⟩
 ·rw[eu,LW ru (fz hz)];exact ez
 ·have hm':m<xs.length:=by rw[r.length];exact hm
  have hx:xs[m]? =some xs[m]:=zG hm';obtain⟨u',hu',ru'⟩:=r.get hx;obtain⟨_,eu'⟩:=List.getElem?_eq_some_iff.mp hu';rw[eu',LW ru' (fz hx)];exact hno m _ hlt hx
theorem Ur:MtR X "list.index" (VD (kS X.K)):=by
 intro pins s σ H x vs v us Q I rx rv h;obtain⟨l,xs,y,j,rfl,rfl,hl,fy,fx,fa,q⟩:=h;cases rx;obtain⟨u,rfl,ru⟩:=rv.one;obtain⟨its,r,pl,hsz⟩:=I.list hl;obtain⟨hj,h1,h2⟩:=Qv r fx fa;obtain⟨⟨cls,dd,data,sl⟩,n,ho,hc,hd,hdat⟩:=pl;simp only at hc hd hdat;subst hc hd hdat;refine Bz F.slot_list_index ⟨_,ho,rfl⟩ F.entry_list_index (F.args_list_index_2 _ _)
  (SeqAt.list_indexAt l its.toArray n _ sl u (RQ y) j (by simpa using hj) ?_ (by simpa using h1) (by simpa using h2)) ⟨ho,λw hw=>Hm ru fy r fx w (by simpa using hw),?_⟩
 ·have:=Fj;have z:=r.length;lia
 ·exact⟨.int j,H,I.tok _,⟨_,rfl⟩,q⟩
end
theorem jZ:bootBuiltins "len"=some (.builtin "len"):=PySem.boot_len
theorem jN:bootBuiltins "isinstance"=some (.builtin "isinstance"):=by decide+kernel
theorem Xr:bootBuiltins "int"=some (.type "int"):=by decide+kernel
theorem To:bootBuiltins "bool"=some (.type "bool"):=by decide+kernel
theorem KK:bootBuiltins "list"=some (.type "list"):=by decide+kernel
theorem FS:bootBuiltins "tuple"=some (.type "tuple"):=by decide+kernel
theorem MA:bootBuiltins "ValueError"=some (.type "ValueError"):=by decide+kernel
theorem Kj:bootBuiltins "reversed"=some (.type "reversed"):=by decide+kernel
theorem Nw:bootBuiltins "sorted"=some (.builtin "sorted"):=by decide+kernel
theorem small {n:Nat}(h:n<=1000):n<=sizeLine:=BZ (Ep h)
theorem sm0:0<=sizeLine:=small (by decide)
theorem sm1:1<=sizeLine:=small (by decide)
theorem sm2:2<=sizeLine:=small (by decide)
theorem sm3:3<=sizeLine:=small (by decide)
theorem sm4:4<=sizeLine:=small (by decide)
theorem sm5:5<=sizeLine:=small (by decide)
theorem sm6:6<=sizeLine:=small (by decide)
theorem sm13:13<=sizeLine:=small (by decide)
theorem zM {H:Hp}{p:Addr}(h:H p=none)(o:HO):yU H (upd H p o):=λb u q=>by rw[zW (zZ q h)];exact q
def Va (K:PySem.W.Frag)(H:Hp)(a:Addr)(ns:List Int):Prop:=
 (∃o,H a=some (.frz o (.lst (ns.map V.int))))\/
  ∃(o:Obj) (its:Array Value) (n:Nat),K.lookup a=some o/\o.cls=.type "list"/\o.dict=none/\o.data=.seq its n/\its.size<=sizeLine/\jK (ns.map V.int) its.toList
theorem Va.sq {K:PySem.W.Frag}{H:Hp}{a:Addr}{ns:List Int}(h:Va K H a ns):kS K H a (ns.map V.int):=by
 rcases h with h|h
 ·exact .inl (.inr h)
 ·exact .inr h
theorem Va.of {K:PySem.W.Frag}{H:Hp}{a:Addr}{ns:List Int}(hO:YZ H)(h:kS K H a (ns.map V.int)):Va K H a ns:=by
 rcases h with(h|h)|h
 ·rcases hO a with z|⟨o,xs,z⟩
  ·rw[h]at z;cases z
  ·rw[h]at z;cases z
 ·exact .inl h
 ·exact .inr h
def jX (st:Addr)(H H':Hp):Prop:= ∀b o,b≠st->H b=some o->H' b=some o
theorem jX.refl (st:Addr)(H:Hp):jX st H H:=λ_ _ _ e=>e
theorem jX.trans {st:Addr}{H H1 H2:Hp}(a:jX st H H1)(b:jX st H1 H2):jX st H H2:=λc o n e=>b c o n (a c o n e)
theorem jX.same {st:Addr}{H H1:Hp}(a:yU H H1):jX st H H1:=λc o _ e=>a c o e
theorem jX.upd {st:Addr}{H:Hp}{o:HO}:jX st H (upd H st o):=λc u n e=>by rw[zW n];exact e
theorem jX.new {st p:Addr}{H:Hp}(o:HO)(h:H p=none):jX st H (L2.upd H p o):=jX.same (zM h o)
theorem Va.keep {K:PySem.W.Frag}{H H':Hp}{a st:Addr}{ns:List Int}{xs:List V}(h:Va K H a ns)(hst:H st=some (.lst xs))(k:jX st H H'):Va K H' a ns:=by
 rcases h with⟨o,h⟩|h
 ·exact .inl ⟨o,k a _ (λz=>by rw[z,hst]at h;cases h) h⟩
 ·exact .inr h
def Bc (K:PySem.W.Frag)(H:Hp)(st:Addr):Prop:= ∃a ns k c,H st=some (.lst [.ref a,.int k,.int c])/\Va K H a ns/\ns.length<=63/\0<=k/\0<=c
structure Drawn (K:PySem.W.Frag)(st:Addr)(H H':Hp):Prop where
 draw:Bc K H' st
 keep:jX st H H'
theorem Drawn.trans {K:PySem.W.Frag}{st:Addr}{H H1 H2:Hp}(a:Drawn K st H H1)(b:Drawn K st H1 H2):Drawn K st H H2:=⟨b.draw,a.keep.trans b.keep⟩
theorem Bc.ne {K:PySem.W.Frag}{st b:Addr}{H:Hp}(d:Bc K H st)(h:H b=none):st≠b:=by
 obtain⟨a,ns,k,c,e,_⟩:=d;exact zZ e h
theorem Bc.same {K:PySem.W.Frag}{st:Addr}{H H':Hp}(d:Bc K H st)(h:yU H H'):Bc K H' st:=by
 obtain⟨a,ns,k,c,e,s,r⟩:=d;exact⟨a,ns,k,c,h _ _ e,s.keep e (jX.same h),r⟩
theorem Bc.new {K:PySem.W.Frag}{st p:Addr}{H:Hp}(d:Bc K H st)(h:H p=none)(o:HO):Drawn K st H (upd H p o):=⟨d.same (zM h o),jX.new o h⟩
theorem Bc.put {K:PySem.W.Frag}{st p:Addr}{H:Hp}{xs ys:List V}(d:Bc K H st)(hp:H p=some (.lst xs))(n:p≠st):Bc K (upd H p (.lst ys)) st:=by
 obtain⟨a,ns,k,c,e,s,r⟩:=d;refine⟨a,ns,k,c,(by rw[zW (Ne.symm n)];exact e),?_,r⟩
 rcases s with⟨o,s⟩|s
 ·exact .inl ⟨o,by rw[zW (λz=>by rw[z,hp]at s;cases s)];exact s⟩
 ·exact .inr s
inductive Ii (K:PySem.W.Frag) (vs:List V) (H:Hp) (Q:VK) (E:XK):Prop
 |mk (st:Addr) (many:Int) (h0:vs=[.ref st,.int many]) (h1:0<many) (h2:many<1073741824) (h3:Bc K H st) (h4: ∀(r:Int) (H':Hp),0<=r->r<many->Drawn K st H H'->Q (.int r) H'):Ii K vs H Q E
inductive OY (K:PySem.W.Frag) (vs:List V) (H:Hp) (Q:VK) (E:XK):Prop
 |mk (a:Addr) (ns:List Int) (h0:vs=[.ref a]) (h1:Va K H a ns) (h2:ns.length<=63) (h3: ∀H',Q (.bl true) H'):OY K vs H Q E
theorem YV {ns:List Int}{k:Int}(h0:0<=k)(h:k<(ns.length:Int)): ∃v:Int,Jq (ns.map V.int) k=some (.int v):=by
 have hk:k.toNat<ns.length:=by lia
 have q:Jq (ns.map V.int) ((k.toNat:Nat):Int)=some (.int ns[k.toNat]):=qF (by rw[yQ,zG hk]<;>rfl);rw[show((k.toNat:Nat):Int)=k by lia]at q;exact⟨_,q⟩
theorem QM {σ:St}{H:Hp}{A B:Hp->Prop}(h:A H):TJ σ H λb H4=>if b=true then A H4 else B H4:=by
 show if true=true then A H else B H;exact qO h
def XD (n:Nat)(fs:St)(Pv:Nat->List V->Hp->Prop)(i m:Nat)(σ:St)(H:Hp):Prop:=i<=n/\m=n-i/\(∃v,σ=v::fs)/\ ∃ys,Pv i ys H
theorem Xo {lo:Int}{n:Nat}{fs:St}{tt:TT}{te:TE}{R:Hp->Prop}{p:Addr}{H0:Hp}(Pv:Nat->List V->Hp->Prop)(h0:Pv 0 [] H0)
  (hs: ∀i ys H,i<n->Pv i ys H->tt (some (.int (lo+(i:Nat)))::fs) H λb H4=>
   if b=true then te (some (.int (lo+(i:Nat)))::fs) H4 λv H5=> ∃ys,H5 p=some (.lst ys)/\ys.length<sizeLine/\ ∃m',m'<n-i/\XD n fs Pv (i+1) m' (some (.int (lo+(i:Nat)))::fs) (upd H5 p (.lst (ys++[v])))
   else ∃m',m'<n-i/\XD n fs Pv (i+1) m' (some (.int (lo+(i:Nat)))::fs) H4)
  (hd: ∀ys H,Pv n ys H->R H):JW (Itr lo n) p (none::fs) H0 (BE 0) tt te R:=by
 refine⟨XD n fs Pv,⟨n,xH _,rfl,⟨_,rfl⟩,[],h0⟩,λi m σ' H' w=>?_⟩;obtain⟨hi,rfl,⟨v,rfl⟩,ys,hp⟩:=w
 by_cases hlt:i<n
 ·refine .inr ⟨hlt,λx H2 y=>?_⟩;obtain⟨rfl,rfl⟩:=y;exact hs i ys _ hlt hp
 ·have:i=n:=by lia
  subst this;exact .inl ⟨zP _,hd ys H' hp⟩
theorem jV {K:PySem.W.Frag}{t:Value}{n:String}{b:Bool}(h:PySem.W.subIn K t (.type n)=some b)(h1:(t==Value.type n)=false:=by decide)(h2:PySem.W.kitMeta n=true:=by decide+kernel):PySem.W.kitOne K t (.type n)=some b:=by
 unfold PySem.W.kitOne PySem.W.kitCls;rw[h1];simp only[BB,FX,h2,Bm];exact h
theorem vQ {K:PySem.W.Frag}{t:Value}(h:(t==t)=true:=by decide):PySem.W.kitOne K t t=some true:=by
 unfold PySem.W.kitOne;rw[zQ h]
theorem zAa {K:PySem.W.Frag}{a:Addr}{its:Array Value}{n:Nat}{sl:Array (Option Value)}{dd:Option Addr}{xs:List V}(h:K.lookup a=some ⟨.type "tuple",dd,.seq its n,sl⟩)(hz:its.size<=sizeLine)(r:jK xs its.toList)(H:Hp):uS K H a xs:=
 .inr ⟨_,its,n,h,rfl,rfl,hz,r⟩
end L2
namespace L2
open PySem PySem.Spec PySem.W PyProof.Rows
section
variable {prog:Program}{w:World}{A:Around}{K:Frag}{E:Value->Shared->Prop}{h:Heap}{g:Array GenState}{d:PySem.Drawn}{t:Nat}{os:OsState}{R:Result->Shared->Prop}
variable {nm q:Str}{C N f:Addr}{bs bm bmB:List Value}{hdct:Bool}{sn:List Str}{sub:List Value}{ab:Bool}{col:Option Bool}{dd:Option Addr}{k0 k1 k2 k3 k5:Option Value}{B newId initId:String}
abbrev RO (C tp:Addr):Obj:={cls:=.ref C,data:=.fields #[.ref tp,.none,.none,.none,.bool false,.none]}
abbrev Dn (h:Heap)(C:Addr)(rest:List Value):Heap:=(h.push {cls:=.type "tuple",data:=.seq rest.toArray}).push (RO C h.objs.size)
theorem Xg (X:K.In h)(hC:h.get? C=some (excClassObj nm q C N bs bm hdct sn sub ab col dd k0 k1 k2 k3 k5 newId))(F:ExcBaseFacts B newId initId bmB)(T:OwnTail h bmB bm)
  (hi:findIn K (.ref C) "__init__"=some (some (.ref f))) (hf:typeIn K (.ref f)=some (.type "function")) {rest:List Value} (hrest:rest.length<=sizeLine)
  (hq:codeAny (model prog w) (A.under (.builtin "type.__call__" ⟨.ref C::rest,[]⟩)) (.call (.ref f) ⟨.ref (h.objs.size+1)::rest,[]⟩) (InitBack (h.objs.size+1) R) ⟨Dn h C rest,g,d,t,os⟩):
  codeAny (model prog w) A (.call (.ref C) ⟨rest,[]⟩) R ⟨h,g,d,t,os⟩:=by
 have f1:=tc_lookup;have f2:=tc_bind (.ref C);have hT:(⟨h,g,d,t,os⟩:Shared).TypeIs (.ref C) "type":=⟨_,hC,rfl⟩;refine codeAny_of_tree ?_;show wpAny _ _ (callAny (.ref C) _) _ _ _
 repeat (any_goals (first|assumption|with_reducible refine BU hC ?_ |wp_step))
 refine⟨rfl,?_⟩;refine codeAny_call_builtin_at (Code.quiet_builtin _ (by decide+kernel)) entry_typeCall (wpAny_check_type_call_sub hC ?_)
 repeat (first|with_reducible refine BU hC ?_ |with_reducible refine wpAny_madeBy_exc hC ?_ |wp_step)
 refine codeAny_call_builtin_code (Code.quiet_builtin _ F.quiet) (wpAny_check_new_subT F T hC ?_);refine codeAny_exc_new_subT F T hC ?_ hrest;show wpAny _ _ _ _ _ _;have k: ∀b o,h.get? b=some o->(Dn h C rest).get? b=some o:=λb o e=>zC _ (zC _ e);have hx:(Dn h C rest).get? (h.objs.size+1)=some (RO C h.objs.size):=by heap_get
 have t1:Looks (model prog w) (Dn h C rest) (typeOf (.ref (h.objs.size+1))) (.ref C):=(Looks.ld hx).andThen .now;have hcC:(Value.ref C::bm).contains (.ref C)=true:=by simp
 have i1:=(BW (M:=model prog w) X hi).keeps k;have b1:=(bind_fn (M:=model prog w) X (.ref (h.objs.size+1)) hf).keeps k;have s1:Looks (model prog w) (Dn h C rest) (isSubtype (.ref C) (.ref C)) true:=by
  intro A' Q' E' s' kk hq';obtain⟨h',g',d',t',os'⟩:=s';refine wpAny_isSubtype_exc (kk _ _ (k _ _ hC)) ?_;rw[hcC];exact hq'
 have n1:Looks (model prog w) (Dn h C rest) (isInstance (.ref (h.objs.size+1)) (.ref C)) true:=t1.andThen s1;refine zA (n1.at ?_);have c1:Looks (model prog w) (Dn h C rest) (specialOf (.ref (h.objs.size+1)) "__init__") (some (.ref f)):=t1.andThen i1;unfold callSpecial?
 repeat (first|with_reducible refine Bw ?_ |lk)
 refine AK hq λr s' z=>?_
 rcases r with e|(v|_|_|_)<;>first|exact z|exact z.elim|skip
 obtain⟨rfl,z⟩:=z;exact zL (zL z)
structure EF (K:Frag)(C:Addr):Prop where
 cd: ∃cd,clsIn K C=some cd/\cd.hasDict=true/\ ∀self,refuseLoop self "__setattr__" cd.mro=pure ()
 obj:mroIn K C (.type "object")=some true
 base:mroIn K C (.type "BaseException")=some true
 sa:findIn K (.ref C) "__setattr__"=some (some (.builtin "object.__setattr__"))
 ga:findIn K (.ref C) "__getattribute__"=some (some (.builtin "BaseException.__getattribute__"))
 noHook:findIn K (.ref C) "__getattr__"=some none
section
variable {s:Shared}{x:Addr}{ox:Obj}{od:Option Obj}{name:Str}{v:Value}{expr:Bool}{Q:Value->Shared->Prop}
theorem Qy (X:K.In s.heap)(I:InstAt s.heap x ox C od)(Ec:EF K C)(hf:findObj K C od name=some (.value v))(hh:handedIn v=true)(hq:Q v {s with toks:=s.toks+1}):
  wpAny (model prog w) A (getAttr (.ref x) name expr) Q E s:=by
 obtain⟨h,g,d,t,os⟩:=s;have L0:=I.type (M:=model prog w);have L1:=BW (M:=model prog w) X Ec.ga;have L2':=BW (M:=model prog w) X Ec.noHook;have L3:=looks_find (M:=model prog w) X I hf;have Lb:Looks (model prog w) h (isInstance (.ref x) (.type "BaseException")) true:=L0.andThen (looks_mroIn X Ec.base);have f3:=F.excAttr_ValueError.ga.bind (.ref x);have hx0:(expr&&onTheHeap (Value.builtin "BaseException.__getattribute__"))=false:=by cases expr<;>rfl
 have hk:builtinKind "BaseException.__getattribute__"=some .slot:=by decide+kernel
 have hsplit:splitId "BaseException.__getattribute__"=some ("BaseException","__getattribute__"):=by decide+kernel
 unfold getAttr getAttrBy;refine zA (wpAny_mkText (jD (zA (L0.at (zA (L1.at ?_))))));show wpAny _ _ (getAttrByItsOwn _ _ _ _ _ _) _ _ _;unfold getAttrByItsOwn;refine zA (L2'.at (zA (wT (jD ?_))));unfold callGetattribute;rw[hx0];unfold boundAndCalled;show wpAny _ _ (bindSpecial _ _>>=_) _ _ _;rw[f3];refine zA (zL (Bw (Dx F.excAttr_ValueError.ga.plain F.entry_bexc_ga (@check_slot (model prog w) _ _ _ "BaseException.__getattribute__" "BaseException" "__getattribute__" (.ref x) [.str name t] [] _ hk hsplit Lb (F.args_bexc_ga _ _) ?_))));refine zA (zL (zA (zL (zA (L0.at (zA (L3.at ?_)))))));refine zL ?_;show wpAny _ _ (handedOut v) _ _ _;rw[handedOut_of hh];exact zL hq
theorem Tg {tk:Tok}{R:Result->Shared->Prop}(X:K.In s.heap)(I:InstAt s.heap x ox C od)(Ec:EF K C)(ha:findIn K (.ref C) name=some none)
  (hq:wpAny (model prog w) A.in1 (PySem.Builtin.ObjectAttr.storeInOwnDict (.ref x) (.ref C) (.str name tk) name v false)
   (λfin s'=>match fin with| .done f=>R (.ok f) s'| .again c'=>c'.quiet=true/\codeAny (model prog w) A c' R s') (λe s'=>R (.error e) s') s):
  codeAny (model prog w) A (.call (.builtin "object.__setattr__") ⟨[.ref x,.str name tk,v],[]⟩) R s:=by
 have SF:=PySem.F.store_object;obtain⟨cd,hc,hd,hp⟩:=Ec.cd;have sub:Looks (model prog w) s.heap (isInstance (.ref x) (.type "object")) true:=I.type.andThen (looks_mroIn X Ec.obj);refine Dx SF.slot.plain SF.entry (@check_slot (model prog w) _ _ s "object.__setattr__" "object" "__setattr__" (.ref x) [.str name tk,v] [] _ SF.kind SF.split sub (SF.args (.ref x) (.str name tk) v) ?_);have hm:Looks (model prog w) s.heap (mroOf (.ref C)) cd.mro:=(looks_clsIn X hc).andThen .now;rw[osa_eq,refuse_eq];refine zA (zA (I.type.here (zA (hm.here ?_))));rw[hp];exact zL (zA (I.type.here (zA ((BW X ha).here (zA (zL hq))))))
theorem Qx {vs:Array Value}{Qu:Unit->Shared->Prop}(X:K.In s.heap)(hx:s.heap.get? x=some ox)(hcl:ox.cls=.ref C)(hdi:ox.dict=none)(hda:ox.data=.fields vs)(Ec:EF K C)(ha:findIn K (.ref C) name=some none)
  (hq: ∀h',h'.Ns1 s.heap.objs.size (λy=>if y=name then some v else none)->h'.get? x=some {ox with dict:=some s.heap.objs.size}->(∀b o,b≠x->s.heap.get? b=some o->h'.get? b=some o)->Qu () {s with heap:=h',toks:=s.toks+2}):
  wpAny (model prog w) A (setAttr (.ref x) name v) Qu E s:=by
 have I:InstAt s.heap x ox C none:=⟨hx,hcl,by unfold notCls;rw[hda],by rw[hdi];trivial⟩;obtain⟨cd,hc,hd,hp⟩:=id Ec.cd;refine set_plain X I Ec.sa (Tg (s:={s with toks:=s.toks+1}) X I Ec ha ?_);have hxlt:=zS hx;clear I;obtain⟨oc,odi,oda,osl⟩:=ox;dsimp only at hcl hdi hda;subst hcl hdi hda;refine zA (zL (zA (zA (EH hx (zA (Looks.here (s:={s with toks:=s.toks+1}) (looks_clsIn X hc) ?_))))));rw[hd];show wpAny _ _ (alloc {cls:=Value.type "dict",data:=Data.dict #[]}>>=_) _ _ _;refine zA (wpAny_alloc (zA ?_));have hx1:=zC (h:=s.heap) ({cls:=Value.type "dict",data:=Data.dict #[]}:Obj) hx;refine wpAny_update hx1 (zL ?_);have ne:s.heap.objs.size≠x:=vU hxlt;have hx2:=kK (λo:Obj=>{o with dict:=some s.heap.objs.size}) hx1 rfl;have hd2:((s.heap.push ({cls:=Value.type "dict",data:=Data.dict #[]}:Obj)).update x λo=>{o with dict:=some s.heap.objs.size}).Ns1 s.heap.objs.size (λ_=>none):=by
  refine⟨_,#[],_,(xT _ _ (Ne.symm ne)).trans (zT _ rfl),rfl,λe he=>by simp at he,List.Pairwise.nil,λn=>rfl⟩
 refine zA (zL (zA ?_));refine wpAny_nsSet1 (s:={s with heap:=(s.heap.push ({cls:=Value.type "dict",data:=Data.dict #[]}:Obj)).update x λo=>{o with dict:=some s.heap.objs.size},toks:=s.toks+1}) hd2 λh' hn2 hs2=>?_;have w0:PySem.Within (λ_:Str=>(none:Option Value)) []:=λn hn=>by first|cases hn|exact absurd rfl hn|simp at hn
 obtain⟨oD,esD,epD,hoD,hdD,hcD⟩:=hn2.count (Fb name v w0);refine zA (FV hoD (by rw[hdD];exact FW (yO hcD (show 1<=sizeLine+1 by decide))) ?_);refine zL (hq _ hn2 ((hs2.2 _ (Ne.symm ne)).trans hx2) λb o hb e=>?_);have hbs:b≠s.heap.objs.size:=xA (zS e);exact(hs2.2 _ hbs).trans ((xT _ _ (Ne.symm hb)).trans (zC _ e))
theorem OL {vs:Array Value}{dx:Addr}{mA:Str->Option Value}{ns:List Str}{Qu:Unit->Shared->Prop}(X:K.In s.heap)(hx:s.heap.get? x=some ox)(hcl:ox.cls=.ref C)(hdi:ox.dict=some dx)(hda:ox.data=.fields vs)(hn:s.heap.Ns1 dx mA)
  (hw:PySem.Within mA ns) (hsz:ns.length<sizeLine) (Ec:EF K C) (ha:findIn K (.ref C) name=some none)
  (hq: ∀h',h'.Ns1 dx (λy=>if y=name then some v else mA y)->Heap.SameBut dx s.heap h'->Qu () {s with heap:=h',toks:=s.toks+2}):
  wpAny (model prog w) A (setAttr (.ref x) name v) Qu E s:=by
 obtain⟨od,hod,_⟩:=HH hn;have I:InstAt s.heap x ox C (some od):=⟨hx,hcl,by unfold notCls;rw[hda],by rw[hdi];exact hod⟩;obtain⟨cd,hc,hd,hp⟩:=id Ec.cd;refine set_plain X I Ec.sa (Tg (s:={s with toks:=s.toks+1}) X I Ec ha ?_);clear I;obtain⟨oc,odi,oda,osl⟩:=ox;dsimp only at hcl hdi hda;subst hcl hdi hda;refine zA (zL (zA (zA (EH hx (zA (Looks.here (s:={s with toks:=s.toks+1}) (looks_clsIn X hc) ?_))))));rw[hd];refine zL (a:=some dx) (zA (zL (zA ?_)));refine wpAny_nsSet1 (s:={s with toks:=s.toks+1}) hn λh' hn2 hs2=>?_;obtain⟨oD,esD,epD,hoD,hdD,hcD⟩:=hn2.count (Fb name v hw);refine zA (FV hoD (by rw[hdD];exact FW (yO hcD (by rw[zI];lia))) ?_);exact zL (hq _ hn2 hs2)
end
end
end L2
namespace L2
open PySem PySem.Spec PyProof.Rows
def HM (x C:Addr)(od:Option Addr):HO:=.ext λh=> ∃o vs,h.get? x=some o/\o.cls=.ref C/\o.dict=od/\o.data=.fields vs/\6<=vs.size
def Mf (x C:Addr)(od:Option Addr):HO:=.ext λh=> ∃o vs,h.get? x=some o/\o.cls=.ref C/\o.dict=od/\o.data=.fields vs/\6<=vs.size/\vs[1]? =some .none
def Mg (dx:Addr)(fs:List (Str×V)):HO:=.ext λh=> ∃mA,h.Ns1 dx mA/\(∀f,EK (fs.lookup f) (mA f))/\PySem.Within mA (fs.map (·.1))
section
variable {P:Program}{w:World}{H:Hp}{h:Heap}{x C dx:Addr}{od:Option Addr}{fs:List (Str×V)}
theorem HM.ok {o:Obj}{vs:Array Value}(e:h.get? x=some o)(hc:o.cls=.ref C)(hd:o.dict=od)(hf:o.data=.fields vs)(hz:6<=vs.size):qR P w H h x (HM x C od):=
 ⟨⟨o,vs,e,hc,hd,hf,hz⟩,⟨o,e⟩,λh1 h2 ⟨o,vs,e,r⟩ k=>⟨o,vs,k o e,r⟩⟩
theorem Mf.ok {o:Obj}{vs:Array Value}(e:h.get? x=some o)(hc:o.cls=.ref C)(hd:o.dict=od)(hf:o.data=.fields vs)(hz:6<=vs.size)(h1:vs[1]? =some .none):qR P w H h x (Mf x C od):=
 ⟨⟨o,vs,e,hc,hd,hf,hz,h1⟩,⟨o,e⟩,λg1 g2 ⟨o,vs,e,r⟩ k=>⟨o,vs,k o e,r⟩⟩
theorem Mf.get (ok:HL P w H h)(e:H x=some (Mf x C od)): ∃o vs,h.get? x=some o/\o.cls=.ref C/\o.dict=od/\o.data=.fields vs/\6<=vs.size/\vs[1]? =some .none:=(ok x _ e).1
theorem HM.get (ok:HL P w H h)(e:H x=some (HM x C od)): ∃o vs,h.get? x=some o/\o.cls=.ref C/\o.dict=od/\o.data=.fields vs/\6<=vs.size:=(ok x _ e).1
theorem Mg.ok {mA:Str->Option Value}(n:h.Ns1 dx mA)(r: ∀f,EK (fs.lookup f) (mA f))(wi:PySem.Within mA (fs.map (·.1))):qR P w H h dx (Mg dx fs):=by
 obtain⟨o,es,ep,e,q⟩:=id n;exact⟨⟨mA,n,r,wi⟩,⟨o,e⟩,λh1 h2 ⟨mA,n,r⟩ k=>⟨mA,n.at k,r⟩⟩
theorem Mg.get (ok:HL P w H h)(e:H dx=some (Mg dx fs)): ∃mA,h.Ns1 dx mA/\(∀f,EK (fs.lookup f) (mA f))/\PySem.Within mA (fs.map (·.1)):=(ok dx _ e).1
end
inductive Vp (K:PySem.W.Frag) (f:Str) (y:V) (H1:Hp) (Q:VK):Prop
 |mk (a C d fs v:_) (h0:y=.ref a) (h1:H1 a=some (HM a C (some d))) (h2:H1 d=some (Mg d fs)) (h3:EF K C) (h4:vG K C f) (h5:fs.lookup f=some v) (h6:Q v H1):Vp K f y H1 Q
def Zj (K:PySem.W.Frag)(ta:TE)(f:Str):TE:=λσ H Q=>ta σ H λy H1=>Vp K f y H1 Q
def zDj (K:PySem.W.Frag)(ta tv:TE)(f:Str):TS:=λD σ H=>tv σ H λy H1=>ta σ H1 λu H2=> ∃a C od,u=.ref a/\H2 a=some (Mf a C od)/\EF K C/\vG K C f/\
 ((od=none/\ ∀d,H2 d=none->D.nx σ (upd (upd H2 d (Mg d [(f,y)])) a (Mf a C (some d))))\/ ∃d fs,od=some d/\H2 d=some (Mg d fs)/\fs.length<1000/\D.nx σ (upd H2 d (Mg d (Gr f y fs))))
section
variable {X:Cx}{o e value:Expr}{f:Str}{pos pos':Pos}{ta tv:TE}
theorem Yh (he:PE X e ta)(hb:attributeBase e f X.env (eval e X.env)=eval e X.env:=by rfl):PE X (.Attribute e f pos) (Zj X.K ta f):=by
 refine⟨?_⟩;intro pins s σ H Q I h;refine Tt hb (qV (he pins s σ H _ I h) λu s1 hzz=>?_);obtain⟨y,H1,I1,r1,a,C,d,fs,v,hy,ha,hd,ec,na,l,q⟩:=hzz;subst hy;cases r1;obtain⟨ox,vs,gx,hcl,hdi,hda,_⟩:=HM.get I1.hok ha;obtain⟨mA,n,r,wi⟩:=Mg.get I1.hok hd;obtain⟨od,hod,hl⟩:=HH n;have J:PySem.W.InstAt s1.heap a ox C (some od):=⟨gx,hcl,by unfold PySem.W.notCls;rw[hda],by rw[hdi];exact hod⟩;obtain⟨u,eu,ru⟩:=EK.some_of (by have:=r f;rw[l]at this;exact this);obtain⟨cd,hc,hdd,_⟩:=ec.cd;refine Qy I1.kIn J ec (v:=u) ?_ (Nm ru) ⟨v,H1,I1.tok _,ru,q⟩;unfold PySem.W.findObj;rw[hc,Gb,na,Gb];simp only[Gb,PySem.W.ownOf,hdd,Bm,hl,eu]
theorem xK.excDict {pins:List (Addr×Obj)}{σ:St}{H:Hp}{s:Shared}{h':Heap}{a C:Addr}{oa ob:HO}{t':Nat}(I:xK X pins σ H s)(ha:H a=some (Mf a C none))
  (keep: ∀b o,b≠a->s.heap.get? b=some o->h'.get? b=some o) (hat: ∃o,h'.get? a=some o) (hoa:qR X.prog X.w (upd (upd H s.heap.objs.size ob) a oa) h' a oa) (hob:qR X.prog X.w (upd (upd H s.heap.objs.size ob) a oa) h' s.heap.objs.size ob):
  xK X pins σ (upd (upd H s.heap.objs.size ob) a oa) {s with heap:=h',toks:=t'}:=by
 have hd:H s.heap.objs.size=none:=I.fresh;have nda:a≠s.heap.objs.size:=zZ ha hd;have off: ∀b u,H b=some u->u≠Mf a C none->b≠a/\b≠s.heap.objs.size:=λb u e ne=>⟨λz=>by rw[z,ha]at e;exact ne (xU e).symm,zZ e hd⟩;have up: ∀b,b≠a->b≠s.heap.objs.size->upd (upd H s.heap.objs.size ob) a oa b=H b:=λb h1 h2=>by rw[zW h1,zW h2]
 refine I.un ⟨λb o e n _ _=>keep b o (λz=>by rw[z,ha]at n;cases n) e,λb o e n _ _=>⟨o.slots,keep b o (λz=>by rw[z,ha]at n;cases n) e⟩,λb o e n _=>?_,λb o e _=>?_,λb xs e=>?_,λb o xs e=>?_,λb ps e=>?_⟩ λb u e=>?_
 ·rw[up b (λz=>by rw[z,ha]at n;cases n) (xA (zS e))];exact n
 ·by_cases z:b=a
  ·subst z;exact hat
  ·exact⟨o,keep b o z e⟩
 ·obtain⟨h1,h2⟩:=off b _ e (by intro z;cases z);rw[up b h1 h2];exact e
 ·obtain⟨h1,h2⟩:=off b _ e (by intro z;cases z);rw[up b h1 h2];exact e
 ·obtain⟨h1,h2⟩:=off b _ e (by intro z;cases z);exact⟨#[],by rw[up b h1 h2,e];simp⟩
 ·by_cases z:b=a
  ·subst z;rw[zH]at e;cases e;exact hoa
  ·rw[zW z]at e
   by_cases z2:b=s.heap.objs.size
   ·subst z2;rw[zH]at e;cases e;exact hob
   ·rw[zW z2]at e;refine(I.hok b u e).stay (λc v hc q=>keep c v ?_ q) (λc q=>?_) λc xs q=>?_
    ·rcases hc with hc|hc
     ·rw[hc];exact z
     ·exact(off c _ hc (by intro z;cases z)).1
    ·obtain⟨h1,h2⟩:=off c _ q (by intro z;cases z);rw[up c h1 h2];exact q
    ·obtain⟨h1,h2⟩:=off c _ q (by intro z;cases z);rw[up c h1 h2];exact q
theorem SH (ha:PE X o ta)(hv:PE X value tv)(hs:swapsWith value (some (.Attribute o f pos')) pos.line X.env=pure false:=by rfl):PS X (.Assign [.Attribute o f pos'] value pos) (zDj X.K ta tv f):=by
 refine⟨?_⟩;intro pins s σ H D I h;refine CF (qV (hv pins s σ H _ I h) λu s1 ⟨y,H1,I1,ry,q⟩=>qV (ha pins s1 σ H1 _ I1 q) λov s2 ⟨x,H2,I2,rx,a,C,od,ex,ea,ec,na,q2⟩=>?_) hs;subst ex;obtain rfl:ov=Value.ref a:=rx;obtain⟨ox,vs,gx,hcl,hdi,hda,hz,h1⟩:=Mf.get I2.hok ea
 rcases q2 with⟨rfl,q2⟩|⟨d,fs,rfl,hd,hl,q2⟩
 ·refine Qx I2.kIn gx hcl hdi hda ec na λh' hn hx' keep=>?_;refine⟨σ,_,I2.excDict ea keep ⟨_,hx'⟩ (Mf.ok hx' hcl rfl hda hz h1) (Mg.ok hn (λg=>?_) λg hg=>?_),q2 _ I2.fresh⟩
  ·show EK ([(f,y)].lookup g) (if g=f then some u else none)
   by_cases z:g=f
   ·subst z;rw[vC,zQ rfl];exact ry
   ·rw[AM,beq_eq_false_iff_ne.mpr z,zN z];exact True.intro
  ·by_cases z:g=f
   ·subst z;simp
   ·exact absurd (show(if g=f then some u else none)=none by rw[zN z]) hg
 ·obtain⟨mA,n,r,wi⟩:=Mg.get I2.hok hd;refine OL I2.kIn gx hcl hdi hda n wi (by rw[zF,wU];lia) ec na λh' hn sb=>?_;refine⟨σ,_,I2.write (x:=d) (e:=d) (by rw[hd];exact True.intro) (.inl rfl) (λb q hb z=>(sb.2 b hb).trans z) (let⟨o,_,_,e',_⟩:=hn;⟨o,e'⟩) (Mg.ok hn (λg=>?_) λg hg=>?_),q2⟩
  ·show EK ((Gr f y fs).lookup g) (if g=f then some u else mA g);rw[Hq]
   by_cases q:g=f
   ·rw[zQ q,zQ q];exact ry
   ·rw[zN q,zN q];exact r g
  ·by_cases q:g=f
   ·rw[q];exact(FI f y fs).1
   ·refine(FI f y fs).2 g (wi g λz=>hg ?_);show(if g=f then some u else mA g)=none;rw[zN q];exact z
end
def UT (X:Cx)(pins:List (Addr×Obj))(H:Hp)(T:Addr):Prop:=H T=none/\X.s₀.heap.objs.size<=T/\T≠X.env.locals/\ ∀p∈X.pn++pins,p.1≠T
def Tb (X:Cx)(pins:List (Addr×Obj))(H:Hp)(x:Addr)(h:Heap):Prop:=
 ∃oe vs,h.get? x=some oe/\oe.data=.fields vs/\(vs[1]? =some .none\/ ∃T oT ts fl,vs[1]? =some (.ref T)/\T≠x/\UT X pins H T/\h.get? T=some oT/\oT.data=.fields ts/\ts[3]? =some fl/\(fl=.none\/fl=rawInt X.env.locals))
def UQ (X:Cx)(pins:List (Addr×Obj))(H:Hp)(x:Addr)(fl:Value)(h:Heap):Prop:=
 ∃oe vs T oT ts,h.get? x=some oe/\oe.data=.fields vs/\vs[1]? =some (.ref T)/\T≠x/\UT X pins H T/\h.get? T=some oT/\oT.data=.fields ts/\ts[3]? =some fl
theorem UQ.tb {X:Cx}{pins:List (Addr×Obj)}{H:Hp}{x:Addr}{fl:Value}{h:Heap}(t:UQ X pins H x fl h)(hf:fl=.none\/fl=rawInt X.env.locals):Tb X pins H x h:=by
 obtain⟨oe,vs,T,oT,ts,e,d,h1,r1,r2,r3,r4,r5⟩:=t;exact⟨oe,vs,e,d,.inr ⟨T,oT,ts,fl,h1,r1,r2,r3,r4,r5,hf⟩⟩
section
variable {X:Cx}{pins:List (Addr×Obj)}{σ:St}{H:Hp}{s:Shared}{h':Heap}{x C:Addr}{od:Option Addr}
theorem xK.flight (I:xK X pins σ H s)(hx:H x=some (HM x C od)){ch:List Addr}(hch: ∀b∈ch,UT X pins H b)(ncell: ∀b∈ch,∀y c,X.env.cells.lookup y=some c->c≠b)
  (keep: ∀b o,b≠x->b∉ch->b∉frs X.stack->s.heap.get? b=some o->h'.get? b=some o) (slot: ∀b o,b≠x->b∉ch->s.heap.get? b=some o-> ∃sl,h'.get? b=some {o with slots:=sl})
  (hx': ∃o vs,h'.get? x=some o/\o.cls=.ref C/\o.dict=od/\o.data=.fields vs/\6<=vs.size):xK X pins σ H {s with heap:=h'}:=by
 have nx: ∀b,H b=none->b≠x:=λb n z=>by rw[z,hx]at n;cases n
 have nst: ∀b,b≠X.env.locals->b∉X.fs->b∉frs X.stack:=λb h1 h2 z=>(List.mem_cons.mp (I.stkSub b z)).elim h1 h2;have nch: ∀b u,H b=some u->b∉ch:=λb u e z=>by rw[(hch b z).1]at e;cases e
 have nfr: ∀b u,H b=some u->b∉frs X.stack:=λb u e z=>by rw[I.stkFree b z]at e;cases e
 refine I.step (g':=s.gens) (d':=s.drawn) (t':=s.toks) (ch:=ch) (λb hb=>⟨.inr (hch b hb).2.1,(hch b hb).2.2.1,ncell b hb,(hch b hb).2.2.2⟩)
  (λb o hL hf hc e n=>keep b o (nx b n) hc (nst b hL hf) e) (λb o hL hf hc e n=>slot b o (nx b n) hc e) (λb o hc e n=>n) (λb o hc e=>?_) (λ_ _ e=>e) (λ_ _ _ e=>e) (λb ps e=>⟨#[],by rw[e];simp⟩) (λm hm=>?_) (λb u e=>?_) I.bare
 ·by_cases z:b=x
  ·subst z;obtain⟨o,_,g,_⟩:=hx';exact⟨o,g⟩
  ·obtain⟨sl,q⟩:=slot b o z hc e;exact⟨_,q⟩
 ·obtain⟨o,es,ep,ho,hd,r⟩:=hm;obtain⟨sl,q⟩:=slot _ o (nx _ I.free) (λz=>(hch _ z).2.2.1 rfl) ho;exact⟨_,es,ep,q,hd,r⟩
 ·by_cases z:b=x
  ·subst z;rw[hx]at e;cases e;obtain⟨o,vs,g,r1,r2,r3,r4⟩:=hx';exact HM.ok g r1 r2 r3 r4
  ·refine(I.hok b u e).stay (λc v hc q=>?_) (λ_ q=>q) λ_ _ q=>q
   rcases hc with hc|hc
   ·rw[hc]at q ⊢;exact keep b v z (nch b u e) (nfr b u e) q
   ·exact keep c v (λz2=>by rw[z2,hx]at hc;cases hc) (nch c _ hc) (nfr c _ hc) q
theorem UT.ncell {T:Addr}{oT:Obj}{ts:Array Value}(I:xK X pins σ H s)(g:s.heap.get? T=some oT)(d:oT.data=.fields ts): ∀b∈[T],∀y c,X.env.cells.lookup y=some c->c≠b:=λb hb y c e z=>by
 rw[List.mem_singleton.mp hb]at z;obtain⟨v,o,ho,hd⟩:=I.cell y c e;rw[z,g]at ho;cases ho;rw[d]at hd;cases hd
theorem Np {M:Model}{A:Around}{E:Value->Shared->Prop}{Q:Unit->Shared->Prop}{head:Value}{hadNext:Bool}(I:xK X pins σ H s)(hst:X.stack=X.env::X.outer)(hfr:X.env.frame=some X.env.locals)(hA:A.frames=some X.stack)
  (hx:H x=some (HM x C od)) (hq: ∀s',xK X pins σ H s'->UQ X pins H x (rawInt X.env.locals) s'.heap->Q () s'):
  wpAny M A (do let a<-frameOf X.env;let pl<-entryPlaceOf X.env.locals hadNext;let b<-EntryCells.newEntry head a .none (rawInt X.env.locals) .none pl;setField (.ref x) 1 b) Q E s:=by
 have hl:s.heap.FunFrames X.base (X.env::X.outer):=hst▸I.stack;refine zA (wpAny_frameOf_fun (hst▸hA) hl hfr λh1 hs1=>?_);refine zA (wpAny_entryPlaceOf λpl hpl=>?_);unfold EntryCells.newEntry newFields;refine zA (jG ?_ (hpl.sizeOk5 _ _ _ _ _));obtain⟨ox,vs,gx,hcl,hdi,hda,hz⟩:=HM.get I.hok hx;have hxf:x∉(X.env::X.outer).filterMap (·.frame):=λhm=>by
  obtain⟨_,o,ho,hnf⟩:=hl.mem hm;rw[gx]at ho;cases ho;exact hnf vs hda
 have gx1:h1.get? x=some ox:=(hs1.2.1 x hxf).trans gx;generalize hob:({cls:=.type "traceback",dict:=none,data:=.fields ([head,.ref X.env.locals,.none,rawInt X.env.locals,.none]++(if pl.isEmpty then List.replicate 6 Value.none else pl)).toArray}:Obj)=ob;have gx2:=zC (h:=h1) ob gx1;have hz1:1<vs.size:=by lia
 refine qS gx2 hda hz1 ?_;have sz:h1.objs.size=s.heap.objs.size:=hs1.1;have hd3:=jY hda (·.setIfInBounds 1 (Value.ref h1.objs.size));have gx3:=kK (Obj.mapFields (·.setIfInBounds 1 (Value.ref h1.objs.size))) gx2 (qU hd3);have hTx:h1.objs.size≠x:=vU (zS gx1);have gT:(h1.push ob).get? h1.objs.size=some ob:=zT _ (by rw[<-hob];rfl);have hT:H h1.objs.size=none:=by rw[sz];exact I.fresh
 have keep: ∀b o,b≠x->h1.get? b=some o->((h1.push ob).update x (Obj.mapFields (·.setIfInBounds 1 (Value.ref h1.objs.size)))).get? b=some o:=λb o hb e=>by
  rw[xT _ _ (Ne.symm hb)];exact zC _ e
 have I':xK X pins σ H {s with heap:=(h1.push ob).update x (Obj.mapFields (·.setIfInBounds 1 (Value.ref h1.objs.size)))}:=by
  refine I.flight hx (ch:=[]) (λb hb=>(nomatch hb)) (λb hb=>(nomatch hb)) (λb o hb _ hf e=>keep b o hb ((hs1.2.1 b (by rw[<-hst];exact hf)).trans e)) (λb o hb _ e=>?_) ⟨_,_,gx3,(BY _ _).trans hcl,?_,hd3,by simp;exact hz⟩
  ·obtain⟨sl,q⟩:=hs1.2.2 b o e;exact⟨sl,keep b _ hb q⟩
  ·obtain⟨oc,odi,oda,osl⟩:=ox;simp only at hda;subst hda;exact hdi
 refine hq _ I' ⟨_,_,h1.objs.size,ob,_,gx3,hd3,by simp[hz1],hTx,⟨hT,?_,?_,λp hp z=>?_⟩,?_,by rw[<-hob],?_⟩
 ·rw[sz];exact I.sz
 ·rw[sz];exact vU I.lt
 ·have:=zS (I.pin p hp).1;rw[z,sz]at this;exact jS _ this
 ·rw[xT _ _ (Ne.symm hTx)];exact gT
 ·first|(simp;done)|(rcases hpl with rfl|⟨_,_,_,_,_,_,_,rfl⟩<;>simp)
theorem Jh {M:Model}{A:Around}{E:Value->Shared->Prop}{Q:Unit->Shared->Prop}(I:xK X pins σ H s)(hst:X.stack=X.env::X.outer)(hfr:X.env.frame=some X.env.locals)(hA:A.frames=some X.stack)
  (hx:H x=some (HM x C od)) (tb:Tb X pins H x s.heap) (hq: ∀s',xK X pins σ H s'->UQ X pins H x (rawInt X.env.locals) s'.heap->Q () s'):wpAny M A (noteFrame (.ref x) X.env) Q E s:=by
 obtain⟨oe,vs,ge,hd,h1⟩:=tb;unfold noteFrame;simp only[hfr]
 rcases h1 with h1|⟨T,oT,ts,fl,h1,hTx,ours,gT,dT,h3,hfl⟩
 ·refine zA (xM ge hd h1 ?_);rw[zN (by decide)];exact Np I hst hfr hA hx hq
 ·refine zA (xM ge hd h1 ?_);rw[zQ (show(Value.ref T !=Value.none)=true from by simp)];refine zA (xM gT dT h3 ?_)
  rcases hfl with rfl|rfl
  ·rw[zN (show ¬((Value.none==rawInt X.env.locals)=true)from by simp[rawInt])];refine zA (qS gT dT (Array.getElem?_eq_some_iff.mp h3).1 ?_);have other: ∀b,b≠T->(s.heap.update T (Obj.mapFields (·.setIfInBounds 3 Value.none))).get? b=s.heap.get? b:=λb hb=>xT _ _ (Ne.symm hb);obtain⟨ox,ws,gx,r⟩:=HM.get I.hok hx;have I':xK X pins σ H {s with heap:=s.heap.update T (Obj.mapFields (·.setIfInBounds 3 Value.none))}:=by
    refine I.flight hx (ch:=[T]) (λb hb=>by rw[List.mem_singleton.mp hb];exact ours) (UT.ncell I gT dT) (λb o hb hc _ e=>(other b λz=>hc (by simp[z])).trans e) (λb o hb hc e=>⟨o.slots,(other b λz=>hc (by simp[z])).trans e⟩) ⟨ox,ws,(other x (Ne.symm hTx)).trans gx,r⟩
   exact Np I' hst hfr hA hx hq
  ·rw[zQ (show(rawInt X.env.locals==rawInt X.env.locals)=true from by simp)];exact zL (hq s I ⟨oe,vs,T,oT,ts,ge,hd,h1,hTx,ours,gT,dT,h3⟩)
theorem HK {M:Model}{A:Around}{E:Value->Shared->Prop}{Q:Unit->Shared->Prop}{fl:Value}{to:Option Addr}(I:xK X pins σ H s)(hx:H x=some (HM x C od))(tb:UQ X pins H x fl s.heap)
  (hq: ∀s',xK X pins σ H s'->UQ X pins H x (to.elim Value.none λf=>rawInt f) s'.heap->Q () s'):wpAny M A (setFlight (.ref x) to) Q E s:=by
 obtain⟨oe,vs,T,oT,ts,ge,hd,h1,hTx,ours,gT,dT,h3⟩:=tb;unfold setFlight;refine zA (xM ge hd h1 ?_);rw[zQ (show(Value.ref T !=Value.none)=true from by simp)];have hsz3:=(Array.getElem?_eq_some_iff.mp h3).1;refine qS gT dT hsz3 (hq _ ?_ ?_)
 ·obtain⟨ox,ws,gx,r⟩:=HM.get I.hok hx;exact I.flight hx (ch:=[T]) (λb hb=>by rw[List.mem_singleton.mp hb];exact ours) (UT.ncell I gT dT) (λb o hb hc _ e=>(xT _ _ (λz=>hc (by simp[z]))).trans e) (λb o hb hc e=>⟨o.slots,(xT _ _ (λz=>hc (by simp[z]))).trans e⟩) ⟨ox,ws,(xT _ _ hTx).trans gx,r⟩
 ·exact⟨oe,vs,T,_,_,(xT _ _ hTx).trans ge,hd,h1,hTx,ours,kK _ gT (qU (jY dT _)),jY dT _,by simp[hsz3]⟩
end
def Fx (P:Program)(w:World):JX:=λouter H s E e s'=> ∃x C d H',e=.ref x/\s'.os=s.os/\AllBare s'.gens/\Un (frs outer) [] H H' s.heap s'.heap/\HL P w H' s'.heap/\H' x=some (HM x C d)/\
 (∃oe vs T oT ts,s'.heap.get? x=some oe/\oe.data=.fields vs/\vs[1]? =some (.ref T)/\T≠x/\H' T=none/\s.heap.objs.size<=T/\s'.heap.get? T=some oT/\oT.data=.fields ts/\ts[3]? =some .none)/\E (.ref C) d H'
theorem QD {P:Program}{w:World}{outer:List Env}{H:Hp}{s:Shared}{e:Value}{s':Shared}(h:Fx P w outer H s (λ_ _ _=>False) e s'):False:=by
 obtain⟨_,_,_,_,_,_,_,_,_,_,_,z⟩:=h;exact z
def Sf (X:Cx)(E:XK):Value->Shared->Prop:=λe s1=> ∃x C d pins σ H,e=.ref x/\xK X pins σ H s1/\H x=some (HM x C d)/\Tb X pins H x s1.heap/\E (.ref C) d H
abbrev Cx.exc (X:Cx)(E:XK):Cx:=X.wish (Sf X E)
section
variable {X:Cx}{E:XK}
theorem Zu {P:Program}{w:World}:Bv (Fx P w) X E0:=λ_ _ _ _ _ _ _ h=>(QD h).elim
theorem YR {pins:List (Addr×Obj)}{σ:St}{H:Hp}{s s':Shared}{e:Value}(I:xK X pins σ H s)(h:Fx X.prog X.w X.stack H s E e s'):Sf X E e s':=by
 obtain⟨x,C,d,H',rfl,ho,hg,u,hok,hx,⟨oe,vs,T,oT,ts,ge,hd,h1,hTx,hT,lo,gT,dT,h3⟩,q⟩:=h;have I':xK X pins σ H' s':=I.call' (ch:=[]) ho u hok hg λb z=>(nomatch z);refine⟨x,C,d,pins,σ,H',rfl,I',hx,⟨oe,vs,ge,hd,.inr ⟨T,oT,ts,.none,h1,hTx,⟨hT,yO I.sz lo,vU (yJ I.lt lo),λp hp z=>?_⟩,gT,dT,h3,.inl rfl⟩⟩,q⟩;have:=zS (I.pin p hp).1;rw[z]at this;exact absurd (yJ this lo) (jS _)
theorem kZ:Bv (Fx X.prog X.w) (X.exc E) E:=λpins σ H s e s' I h=>YR I.unwish h
theorem UB {e:Value}{s1:Shared}{E':Value->Shared->Prop}(hst:X.stack=X.env::X.outer)(hfr:X.env.frame=some X.env.locals)(hex:X.ex=[])(h:Sf X E e s1):
  wpAny (model X.prog X.w) X.A (leaving X.env e) (λ_ s''=>Fx X.prog X.w X.outer X.H₀ X.s₀ E e s'') E' s1:=by
 obtain⟨x,C,d,pins,σ,H,rfl,I,hx,tb,q⟩:=h;unfold leaving;refine zA (Jh I hst hfr I.ok.frames hx tb λs2 I2 t2=>HK (to:=none) I2 hx t2 λs3 I3 t3=>?_);obtain⟨oe,vs,T,oT,ts,ge,hd,h1,hTx,ours,gT,dT,h3⟩:=t3;have b:=I3.base;rw[hex]at b;exact⟨x,C,d,H,rfl,I3.os,I3.bare,b,I3.hok,hx,⟨oe,vs,T,oT,ts,ge,hd,h1,hTx,ours.1,ours.2.1,gT,dT,h3⟩,q⟩
theorem Jb (hst:X.stack=X.env::X.outer)(hfr:X.env.frame=some X.env.locals):PassesOwn (model X.prog X.w) X.A X.env (Sf X E):=λe s1 h=>by
 obtain⟨x,C,d,pins,σ,H,rfl,I,hx,tb,q⟩:=h;refine Jh I hst hfr I.ok.frames hx tb λs2 I2 t2=>?_;have t2':=t2;obtain⟨oe,vs,T,oT,ts,ge,hd,h1,hTx,ours,gT,dT,h3⟩:=t2;unfold cameBackBy;refine zA (xM ge hd h1 ?_);rw[zN (show ¬((Value.ref T==Value.none)=true)from by simp)];rw[hfr];exact HK (to:=some X.env.locals) I2 hx t2' λs3 I3 t3=>⟨x,C,d,pins,σ,H,rfl,I3,hx,t3.tb (.inr rfl),q⟩
end
section
variable {P:Program}{w:World}{K:PySem.W.Frag}{mg:Str->Option Value}{base:Heap}
theorem wE.okN {CX:JX}{x qual:Str}{st:Stmt}{f:Addr}{fd:FuncData}{N ps:List Str}{k:Nat}{sp:Sp}(F:wE K x qual st f fd)(S:yK N ps (zR st))(len: ∀vs H Q E,sp vs H Q E->vs.length=ps.length)
  (hbody: ∀(cdv:Value) (A:Around) (outer:List Env) (s:Shared) (H:Hp) (vs:List V) (Q:VK) (E:XK),vY k (A.deeper (envOfC qual (zR st) s.heap.objs.size f cdv))->sp vs H Q E->
   ∃t,Mh (LY CX P w K mg base N qual (zR st) f cdv A outer s H E).nox (uP st) t/\t {nx:=λ_ H'=>Q .non H',rt:=Q} (GG N vs) H):Bb P w K mg base CX (k+1) f fd ps sp:=by
 obtain⟨oc,od,kV,doc,pm,an,cdv,ct,osl,rfl,lk,hcd⟩:=F.ex;refine ZD lk hcd S len λA outer s H vs Q E hr hsp=>?_;obtain⟨t,h,q⟩:=hbody cdv A outer s H vs Q E hr hsp;exact⟨t,h.nox,q⟩
theorem wE.okX {x qual:Str}{st:Stmt}{f:Addr}{fd:FuncData}{N ps:List Str}{k:Nat}{sp:Sp}(F:wE K x qual st f fd)(S:yK N ps (zR st))(len: ∀vs H Q E,sp vs H Q E->vs.length=ps.length)
  (hbody: ∀(cdv:Value) (A:Around) (outer:List Env) (s:Shared) (H:Hp) (vs:List V) (Q:VK) (E:XK),vY k (A.deeper (envOfC qual (zR st) s.heap.objs.size f cdv))->sp vs H Q E->
   ∃t,Mh ((LY (Fx P w) P w K mg base N qual (zR st) f cdv A outer s H E).exc E) (uP st) t/\t {nx:=λ_ H'=>Q .non H',rt:=Q} (GG N vs) H):Bb P w K mg base (Fx P w) (k+1) f fd ps sp:=by
 obtain⟨oc,od,kV,doc,pm,an,cdv,ct,osl,rfl,lk,hcd⟩:=F.ex;refine ZD lk hcd S len λA outer s H vs Q E hr hsp=>?_;obtain⟨t,h,q⟩:=hbody cdv A outer s H vs Q E hr hsp;refine⟨t,⟨λpins s1 σ H1 D I hw=>?_⟩,q⟩;refine qX (h pins s1 σ H1 D (I.wish _) hw) (λfl s2 hs=>hs.unwish) λe s2 fl=>?_;exact UB rfl rfl rfl fl
end
abbrev Do:List Value:=[.type "ValueError",.type "Exception",.type "BaseException",.type "object"]
structure Sg (K:PySem.W.Frag)(C f:Addr):Prop where
 cls: ∃(B nw ini:String) (bmB:List Value),ExcBaseFacts B nw ini bmB/\bmB.contains (.type "BaseException")=true/\ ∃nm q N bs bm hdct sn sub ab col dd k0 k1 k2 k3 k5,K.lookup C=some (excClassObj nm q C N bs bm hdct sn sub ab col dd k0 k1 k2 k3 k5 nw)/\ ∀h,K.In h->OwnTail h bmB bm
 init:PySem.W.findIn K (.ref C) "__init__"=some (some (.ref f))
 fn:PySem.W.typeIn K (.ref f)=some (.type "function")
 kp:PySem.W.keepIn K (.ref C)=true
 ec:EF K C
theorem Sg.ofValue {K:PySem.W.Frag}{C f:Addr}(h: ∃nm q N bs bm hdct sn sub ab col dd k0 k1 k2 k3 k5,K.lookup C=some (excClassObj nm q C N bs bm hdct sn sub ab col dd k0 k1 k2 k3 k5 "ValueError.__new__")/\ ∀h,K.In h->OwnTail h Do bm)
  (i:PySem.W.findIn K (.ref C) "__init__"=some (some (.ref f))) (fn:PySem.W.typeIn K (.ref f)=some (.type "function")) (kp:PySem.W.keepIn K (.ref C)=true) (ec:EF K C):Sg K C f:=
 ⟨⟨_,_,_,Do,F.excBase_ValueError,by decide,h⟩,i,fn,kp,ec⟩
section
variable {X:Cx}{pins:List (Addr×Obj)}{σ:St}{H:Hp}{s:Shared}
theorem xK.excMade (I:xK X pins σ H s)(C:Addr)(us:List Value):xK X pins σ (upd H (s.heap.objs.size+1) (Mf (s.heap.objs.size+1) C none)) {s with heap:=Dn s.heap C us}:=by
 have gx:(Dn s.heap C us).get? (s.heap.objs.size+1)=some (RO C s.heap.objs.size):=by heap_get
 refine I.laid (t':=s.toks) (λb o e=>zC _ (zC _ e)) (vV _) (Mf.ok gx rfl rfl rfl (show 6<=6 by decide) rfl)
theorem XU {CX:JX}{k:Nat}{f C:Addr}{fd:FuncData}{ps:List Str}{sp:Sp}{E:XK}{Q:Addr->Hp->Prop}{us:List Value}{vs:List V}(M:Sg X.K C f)(G:Bb X.prog X.w X.K X.mg X.base CX k f fd ps sp)(hr:vY (k+1) X.A)(hb:An X.K fd ps [])
  (hx:Bv CX X E) (I:xK X pins σ H s) (r:jK vs us) (hz:us.length<=sizeLine)
  (h: ∀x,H x=none->sp (.ref x::vs) (upd H x (Mf x C none)) (λv H2=>v=.non/\Q x H2) E):
  wpAny (model X.prog X.w) X.A (call (.ref C) us) (λu s'=> ∃x H',u=.ref x/\xK X pins σ H' s'/\Q x H') X.xe s:=by
 have hq:=h (s.heap.objs.size+1) (I.hok.fresh (vV _));have I2:=I.excMade C us;have r2:jK (V.ref (s.heap.objs.size+1)::vs) (Value.ref (s.heap.objs.size+1)::us):=.cons rfl r;have hl:(Value.ref (s.heap.objs.size+1)::us++[]).length =ps.length:=by
  have e:=r2.length;rw[G.len _ _ _ _ hq]at e;rw[yV];exact e.symm
 obtain⟨_,_,_,bmB,BF,hcb,nm,q,N,bs,bm,hdct,sn,sub,ab,col,dd,k0,k1,k2,k3,k5,hC,T⟩:=M.cls;have KI:=I.kIn;have bd:=hb {s with heap:=Dn s.heap C us} (Value.ref (s.heap.objs.size+1)::us) I2.kIn hl;rw[yV]at bd;obtain⟨hh,g,d,t,os⟩:=s;refine Bw (Xg KI (KI _ _ hC) BF (T _ KI) M.init M.fn hz (AK (G.run _ X.stack _ _ ⟨Value.ref (hh.objs.size+1)::us,[]⟩ _ _ _ E (hr.make C us []) (I2.env0.make C us []) bd r2 hq) λr s' hq'=>?_));cases r with
 |error e=>exact hx pins σ _ _ e s' I2 hq'
 |ok fl=>
  cases fl with
  |ret u=>
   obtain⟨v,H',I3,rv,ev,q3⟩:=I2.after hq';subst ev;exact⟨rv,hh.objs.size+1,H',rfl,I3,q3⟩
  |next=>exact False.elim hq'
  |brk=>exact False.elim hq'
  |cont=>exact False.elim hq'
theorem Rf {M:Model}{A:Around}{E:Value->Shared->Prop}{env:Env}{xs:Sem Value}{Q:Flow->Shared->Prop}{K:PySem.W.Frag}{C:Addr}{s:Shared}{f:Addr}(hM:Sg K C f)(hh:A.handled=none)
  (h:wpAny M A xs (λv s1=> ∃x oe vs,v=.ref x/\K.In s1.heap/\s1.heap.get? x=some oe/\oe.cls=.ref C/\oe.data=.fields vs/\vs[1]? =some .none/\E (.ref x) s1) E s):
  wpAny M A (raiseStmt env (some xs) none) Q E s:=by
 obtain⟨_,_,_,bmB,BF,hcb,nm,q,N,bs,bm,hdct,sn,sub,ab,col,dd,k0,k1,k2,k3,k5,hC,T⟩:=hM.cls;unfold raiseStmt;refine zA (qV h λv s1 h1=>?_);obtain⟨x,oe,vs,rfl,KI,ge,hcl,hd,h1,hE⟩:=h1;have hC1:=KI _ _ hC;have hcB:(Value.ref C::bm).contains (.type "BaseException")=true:=by rw[List.contains_cons,(T _ KI).hasType hcb,Bool.or_true]
 obtain⟨hp,g,d,tk,os⟩:=s1
 repeat (first|(with_reducible refine BU ge ?_;try rw[hcl])|with_reducible refine BU hC1 ?_ |(with_reducible refine wpAny_isSubtype_exc hC1 ?_;rw[hcB])|with_reducible refine xM ge hd h1 ?_ |wp_step)
 exact wpAny_raiseNew_none hh hE
theorem xK.excFlies {x C d:Addr}(I:xK X pins σ H s)(hx:H x=some (Mf x C (some d))):xK X pins σ (upd H x (HM x C (some d))) s:=by
 obtain⟨o,vs,g,r1,r2,r3,r4,r5⟩:=Mf.get I.hok hx;exact I.write (h':=s.heap) (t':=s.toks) (x:=x) (e:=x) (by rw[hx];exact True.intro) (.inl rfl) (λ_ _ _ q=>q) ⟨o,g⟩ (HM.ok g r1 r2 r3 r4)
end
def Vn (C:Addr)(sp:Sp)(E:XK)(t:TA):TS:=λ_ σ H=>t σ H λvs H1=>vs.length<=sizeLine/\ ∀x,H1 x=none->
 sp (.ref x::vs) (upd H1 x (Mf x C none)) (λv H2=>v=.non/\ ∃d,H2 x=some (Mf x C (some d))/\E (.ref C) (some d) (upd H2 x (HM x C (some d)))) E
section
variable {X:Cx}{E:XK}{k:Nat}{f C:Addr}{fd:FuncData}{ps:List Str}{sp:Sp}{x:Str}{np cpos pos:Pos}{e:Expr}{es:List Expr}{t:TA}
theorem VJ (M:Sg X.K C f)(G:Bb X.prog X.w X.K X.mg X.base (Fx X.prog X.w) k f fd ps sp)(hr:vY (k+1) X.A)(hg:Gl (X.exc E) x)(hm:X.mg x=some (.ref C))(hb:An X.K fd ps [])(ha:PA (X.exc E) (e::es) t)(hc:X.calm=true:=by rfl)
  (hdb:(x==("__debug__":Str))=false:=by decide) (he:starEach (e::es) X.env=(false,eval e X.env)::starEach es X.env:=by rfl) (hpl:(backTo cpos (starEach es X.env)).any (·.1)=false:=by rfl):
  PS (X.exc E) (.Raise (some (.Call (.Name x np) (e::es) [] cpos)) none pos) (Vn C sp E t):=by
 refine⟨?_⟩;intro pins s σ H D I h;have cal:wpAny (model X.prog X.w) X.A (eval (.Call (.Name x np) (e::es) [] cpos) X.env) (λv s1=> ∃y oe vs,v=.ref y/\X.K.In s1.heap/\s1.heap.get? y=some oe/\oe.cls=.ref C/\oe.data=.fields vs/\vs[1]? =some .none/\Sf X E (.ref y) s1) (Sf X E) s:=by
  refine qZ (Ej (X:=X.exc E) I hg hm ?_ hdb);refine uV (h₀:=X.base) I.ok.mod.kin M.kp (qV (ha cpos pins s σ H _ I h) λus s1 ⟨vs,H1,I1,r,hz,q⟩=>⟨I1.kIn,?_⟩) he hpl;refine qV (XU (X:=X.exc E) (Q:=λy H2=> ∃d,H2 y=some (Mf y C (some d))/\E (.ref C) (some d) (upd H2 y (HM y C (some d)))) M G hr hb kZ I1 r (by have:=r.length;rw[jI];lia) q) λv s2 ⟨y,H2,ev,I2,d,hy,qe⟩=>?_
  ·subst ev;obtain⟨o,ws,g,r1,r2,r3,r4,r5⟩:=Mf.get I2.hok hy;exact⟨y,o,ws,rfl,I2.kIn,g,r1,r3,r5,y,C,some d,pins,σ,_,rfl,I2.unwish.excFlies hy,zH,⟨o,ws,g,r3,.inl r5⟩,qe⟩
 show wpAny _ _ (exec (.Raise (some (.Call (.Name x np) (e::es) [] cpos)) none pos) X.env) _ _ _;rw[arm_exec_Raise];refine zA (Bd (Rf (K:=X.K) M (I.ok.hd hc) ?_));exact zA (qV cal λv s1 h1=>zA (Bd (zL h1)))
end
section
variable {X:Cx}{pins:List (Addr×Obj)}{σ:St}{H:Hp}{s:Shared}
theorem MX {M:Model}{A:Around}{E:Value->Shared->Prop}{i:Nat}{n:Str}{pos:Pos}{Q:Unit->Shared->Prop}(I:xK X pins σ H s)(hN:X.N.Nodup)(hi:X.N[i]? =some n)(hl:X.env.scope.names.lookup n=some .local)
  (h: ∀s',xK X pins (σ.set i none) H s'->Q () s'):wpAny M A (do bindName X.env n .none;unbindBehindTheSuite X.env n pos) Q E s:=by
 obtain⟨m,hn,hlk⟩:=id I.loc;have hcls:(X.env.scope.kind== .class || (X.env.scope.kind== .module&&X.env.locals !=X.env.globals))=false:=by rw[I.ok.kind];rfl
 have hiσ:i<σ.length:=by rw[I.len];exact(List.getElem?_eq_some_iff.mp hi).1
 refine wpAny_nameGoes_keeps hl hn hcls λh' v hn' hs=>h _ ?_;have neL: ∀b o,X.s₀.heap.get? b=some o->b≠X.env.locals:=λb o e=>xA (yJ (zS e) I.ok.above);refine⟨I.ok,I.os,I.bare,⟨λb o e n hb hx=>(hs.2 b (neL b o e)).trans (I.base.keep b o e n hb hx),λb o e n hb hx=>?_,I.base.free,λb o e hx=>?_,I.base.tups,I.base.frzs,I.base.tbls⟩,⟨_,hn',λj y v' e1 e2 e3=>?_⟩,λy c e=>?_,I.free,I.freeC,λp hp=>?_,λb u e=>?_,by simpa using I.len⟩
 ·obtain⟨sl,e1⟩:=I.base.slot b o e n hb hx;exact⟨sl,(hs.2 b (neL b o e)).trans e1⟩
 ·obtain⟨o',e1⟩:=I.base.there b o e hx;exact⟨o',(hs.2 b (neL b o e)).trans e1⟩
 ·by_cases hj:j=i
  ·subst hj;rw[CA hiσ]at e2;cases e2
  ·rw[DA (Ne.symm hj)]at e2;obtain⟨u',r',q⟩:=hlk j y v' e1 e2 e3;refine⟨u',r',?_⟩
   rcases q with⟨k,e⟩|⟨k,c,e,z⟩
   ·refine .inl ⟨k,?_⟩;have:y≠n:=λe=>hj (Lx hN e1 (e▸hi))
    simp[this,e]
   ·exact .inr ⟨k,c,e,z.sameBut hs (I.cne y c e)⟩
 ·obtain⟨w',z⟩:=I.cell y c e;exact⟨w',z.sameBut hs (I.cne y c e)⟩
 ·obtain⟨e,n,ne,nf,d⟩:=I.pin p hp;exact⟨(hs.2 p.1 ne).trans e,n,ne,nf,d⟩
 ·refine(I.hok b u e).stay (λc w' hc q=>(hs.2 c ?_).trans q) (λ_ q=>q) λ_ _ q=>q;rintro rfl
  rcases hc with rfl|hc
  ·rw[I.free]at e;cases e
  ·rw[I.free]at hc;cases hc
abbrev Cx.mark (X:Cx)(v:Value):Cx:={X with A:=X.A.mark (some v),calm:=false,xe:=λ_ _=>False}
theorem xK.mark (I:xK X pins σ H s)(v:Value):xK (X.mark v) pins σ H s:=
 ⟨⟨I.ok.mod,I.ok.kind,I.ok.glob,I.ok.blt,I.ok.above,I.ok.inj,I.ok.has,I.ok.cab,λz=>(nomatch z),I.ok.frames,I.ok.stk,I.ok.exf,I.ok.bs,I.ok.bsz,I.ok.noex,I.ok.exfs,I.ok.funs,I.ok.frf⟩,I.os,I.bare,I.base,I.loc,I.cell,I.free,I.freeC,I.pin,I.hok,I.len⟩
theorem xK.unmark {v:Value}(hd:X.calm=true->X.A.handled=none)(I:xK (X.mark v) pins σ H s):xK X pins σ H s:=
 ⟨⟨I.ok.mod,I.ok.kind,I.ok.glob,I.ok.blt,I.ok.above,I.ok.inj,I.ok.has,I.ok.cab,hd,I.ok.frames,I.ok.stk,I.ok.exf,I.ok.bs,I.ok.bsz,I.ok.noex,I.ok.exfs,I.ok.funs,I.ok.frf⟩,I.os,I.bare,I.base,I.loc,I.cell,I.free,I.freeC,I.pin,I.hok,I.len⟩
abbrev Cx.pinned (X:Cx)(pn:List (Addr×Obj)):Cx:={X with pn:=pn}
theorem xK.topin (I:xK X pins σ H s):xK (X.pinned (X.pn++pins)) [] σ H s:=
 ⟨⟨I.ok.mod,I.ok.kind,I.ok.glob,I.ok.blt,I.ok.above,I.ok.inj,I.ok.has,I.ok.cab,I.ok.hd,I.ok.frames,I.ok.stk,I.ok.exf,I.ok.bs,I.ok.bsz,I.ok.noex,I.ok.exfs,I.ok.funs,I.ok.frf⟩,I.os,I.bare,I.base,I.loc,I.cell,I.free,I.freeC,λp hp=>I.pin p (by rw[yV]at hp;exact hp),I.hok,I.len⟩
theorem xK.unpin {pins':List (Addr×Obj)}(I:xK (X.pinned (X.pn++pins)) pins' σ H s):xK X pins σ H s:=
 ⟨⟨I.ok.mod,I.ok.kind,I.ok.glob,I.ok.blt,I.ok.above,I.ok.inj,I.ok.has,I.ok.cab,I.ok.hd,I.ok.frames,I.ok.stk,I.ok.exf,I.ok.bs,I.ok.bsz,I.ok.noex,I.ok.exfs,I.ok.funs,I.ok.frf⟩,I.os,I.bare,I.base,I.loc,I.cell,I.free,I.freeC,λp hp=>I.pin p (wG _ hp),I.hok,I.len⟩
end
structure Mch (K:PySem.W.Frag)(C CE:Addr):Prop where
 sub:PySem.W.subIn K (.ref C) (.ref CE)=some true
 ty:PySem.W.typeIn K (.ref CE)=some (.type "type")
 cl:(PySem.W.clsIn K CE).isSome =true
 base:PySem.W.subIn K (.ref CE) (.type "BaseException")=some true
theorem Kh {M:Model}{A:Around}{E:Value->Shared->Prop}{K:PySem.W.Frag}{s:Shared}{x C CE:Addr}{oe:Obj}{Q:Bool->Shared->Prop}(KI:K.In s.heap)(m:Mch K C CE)(ge:s.heap.get? x=some oe)(hcl:oe.cls=.ref C)(hq:Q true s):
  wpAny M A (excMatches (.ref x) (.ref CE)) Q E s:=by
 obtain⟨h,g,d,t,os⟩:=s;have kc:PySem.W.kitCls K (.ref C) (.ref CE)=some true:=by
  unfold PySem.W.kitCls;simp only[m.cl,m.ty,kD,Bool.and_self,Bm];exact m.sub
 obtain⟨L1,L2',L3⟩:=PySem.W.kit_cls (M:=M) (h:=h) KI kc;have L4:=PySem.W.looks_subIn (M:=M) (h:=h) KI m.base;have L5:PySem.W.Looks M h (typeOf (.ref x)) (.ref C):=hcl▸(PySem.W.Looks.ld ge).andThen .now;have L6:PySem.W.Looks M h (isInstance (.ref CE) (.type "tuple")) false:=L1.andThen (PySem.W.Looks.of_pure tc_notTuple);have L7:PySem.W.Looks M h (isExcClass (.ref CE)) true:=L2'.andThen L4;unfold excMatches;refine zA (L6.at (zA (zL (zA ?_))));show wpAny M A (forIn [Value.ref CE] PUnit.unit _) _ E _;simp only[Bn,List.forIn_nil];refine zA (zA (L7.at ?_));refine zL (zL (zA (L5.at (zA (zA (zA (L3.at ?_)))))));exact zL (zL (zL hq))
def behind (D:Gz)(i:Nat):Gz:={nx:=λσ H=>D.nx (σ.set i none) H,rt:=D.rt,bk:=λσ H=>D.bk (σ.set i none) H,ct:=λσ H=>D.ct (σ.set i none) H}
def zFu (K:PySem.W.Frag)(N i:Nat)(CE:Addr)(tb:XK->TS)(th:TS):TS:=λD σ H=>
 tb (λcls dx H1=> ∃C d,cls=.ref C/\dx=some d/\Mch K C CE/\ ∀(x:Addr) (σ1:St),H1 x=some (HM x C (some d))->σ1.length=N->th (behind D i) (σ1.set i (some (.ref x))) H1) D σ H
section
variable {X:Cx}
theorem zAn {body suite:List Stmt}{b0:Stmt}{x n:Str}{i:Nat}{CE:Addr}{tb:XK->TS}{th:TS}{np hpos pos:Pos}(hN:X.N.Nodup)(hi:X.N[i]? =some n)(hl:X.env.scope.names.lookup n=some .local)(hg:Gl X x)(hm:X.mg x=some (.ref CE))
  (hb: ∀pn E',Mh ((X.pinned pn).exc E') body (tb E')) (hh: ∀v,Mh (X.mark v) (b0::suite) th)
  (hst:X.stack=X.env::X.outer:=by rfl) (hfr:X.env.frame=some X.env.locals:=by rfl) (hdb:(x==("__debug__":Str))=false:=by decide):
  PS X (.Try body [.ExceptHandler (some (.Name x np)) (some n) (b0::suite) hpos] [] [] pos) (zFu X.K X.N.length i CE tb th):=by
 refine⟨?_⟩;intro pins s σ H D I h;refine wpAny_Try_except ?_;refine qX (hb (X.pn++pins) _ [] s σ H D (I.topin.wish _) h) (λf s1 h1=>?_) λe s1 h1=>?_
 ·cases f with
  |next=>obtain⟨σ1,H1,I1,q⟩:=h1;exact uY ⟨σ1,H1,I1.unwish.unpin,q⟩
  |brk=>obtain⟨σ1,H1,I1,q⟩:=h1;exact⟨σ1,H1,I1.unwish.unpin,q⟩
  |cont=>obtain⟨σ1,H1,I1,q⟩:=h1;exact⟨σ1,H1,I1.unwish.unpin,q⟩
  |ret u=>obtain⟨v,σ1,H1,I1,r,q⟩:=h1;exact⟨v,σ1,H1,I1.unwish.unpin,r,q⟩
 ·obtain⟨y,C0,d0,pins1,σ1,H1,rfl,I1,hy,tb1,C,d,ec,ed,mc,q⟩:=h1;cases ec;cases ed;refine Jh (X:=X.pinned (X.pn++pins)) I1 hst hfr I1.ok.frames hy tb1 λs2 I2 t2=>HK (to:=none) I2 hy t2 λs3 I3 t3=>?_;obtain⟨oe,vs,ge,hcl,hdi,hda,hz⟩:=HM.get I3.hok hy;have J3:xK X pins σ1 H1 s3:=I3.unpin;refine wpAny_handleBy_cons (codeAny_handlers_test ?_) (by intro z;cases z);refine Ej (X:=X.mark (.ref y)) (J3.mark _) hg hm ?_ hdb;refine Kh J3.kIn mc ge hcl ?_;refine codeAny_handlers_suite_as ?_;refine HK (X:=(X.pinned (X.pn++pins))) (to:=none) I3 hy t3 λs4 I4 t4=>?_;have J4:xK X pins σ1 H1 s4:=I4.unpin;refine IL (X:=X.mark (.ref y)) (J4.mark _) hN hi (.inl hl) (v:=.ref y) rfl (λs5 I5=>?_) (.inr hl);refine qX (hh (.ref y) pins s5 _ H1 (behind D i) I5 (q y σ1 hy I1.len)) (λf s6 h6=>?_) λ_ _ z=>z.elim;have go: ∀{σ6:St} {H6:Hp} {P:Flow->Shared->Prop},xK (X.mark (.ref y)) pins σ6 H6 s6->(∀s7,xK X pins (σ6.set i none) H6 s7->P f s7)->wpAny (model X.prog X.w) X.A (do bindName X.env n .none;unbindBehindTheSuite X.env n hpos) (λ_ s7=>P f s7) X.xe s6:=
   fun{σ6 H6 P} I6 k=>MX (xK.unmark I.ok.hd I6) hN hi hl k
  cases f with
  |next=>obtain⟨σ6,H6,I6,q6⟩:=h6;exact go (P:=SP X pins D) I6 λs7 I7=>⟨_,H6,I7,q6⟩
  |brk=>obtain⟨σ6,H6,I6,q6⟩:=h6;exact go (P:=SP X pins D) I6 λs7 I7=>⟨_,H6,I7,q6⟩
  |cont=>obtain⟨σ6,H6,I6,q6⟩:=h6;exact go (P:=SP X pins D) I6 λs7 I7=>⟨_,H6,I7,q6⟩
  |ret u=>obtain⟨v,σ6,H6,I6,r,q6⟩:=h6;exact go (P:=SP X pins D) I6 λs7 I7=>⟨v,_,H6,I7,r,q6⟩
end
def EqD (K:PySem.W.Frag)(H:Hp):Nat->V->V->Prop
 |0,x,y=>AZ x=true/\x=y
 |n+1,x,y=>(AZ x=true/\x=y)\/ ∃a b xs ys,x=.ref a/\y=.ref b/\((kS K H a xs/\kS K H b ys)\/(uS K H a xs/\uS K H b ys))/\Paired (EqD K H n) xs ys
theorem Qz: ∀{x:V},AZ x=true->Jp x x=true
 | .non,_=>rfl
 | .bl b,_=>kD b
 | .int i,_=>kD i
 | .str z,_=>kD z
theorem Paired.get {α β:Type}{F:α->β->Prop}: ∀{xs:List α} {ys:List β},Paired F xs ys-> ∀(j:Nat) (x:α) (y:β),xs[j]? =some x->ys[j]? =some y->F x y
 |_,_,.nil,j,x,y,h,_=>by simp at h
 |_,_,.cons r t,0,x,y,h,q=>by simp at h q;subst h;subst q;exact r
 |_,_,.cons r t,j+1,x,y,h,q=>Paired.get t j x y (by simpa using h) (by simpa using q)
theorem Paired.len {α β:Type}{F:α->β->Prop}: ∀{xs:List α} {ys:List β},Paired F xs ys->xs.length=ys.length
 |_,_,.nil=>rfl
 |_,_,.cons _ t=>by simp[Paired.len t]
theorem Paired.imp {α β:Type}{F G:α->β->Prop}(h: ∀x y,F x y->G x y): ∀{xs:List α} {ys:List β},Paired F xs ys->Paired G xs ys
 |_,_,.nil=>.nil
 |_,_,.cons r t=>.cons (h _ _ r) (Paired.imp h t)
theorem FT (n:Nat):(List.range n).all (λ_=>true)=true:=List.all_eq_true.mpr λ_ _=>rfl
section
variable {X:Cx}{pins:List (Addr×Obj)}{σ:St}{H:Hp}{s:Shared}
theorem En {K:PySem.W.Frag}{xs ys:List V}{us vs:List Value}{R:V->V->Prop}(p:Paired R xs ys)(r:jK xs us)(q:jK ys vs)(P:Value->Value->Prop)(h: ∀x y u v,R x y->kI x u->kI y v->P u v):
  us.toArray.size=vs.toArray.size/\ ∀j (h1:j<us.toArray.size) (h2:j<vs.toArray.size),P us.toArray[j] vs.toArray[j]:=by
 refine⟨?_,λj h1 h2=>?_⟩
 ·have e1:=r.length;have e2:=q.length;have e3:=Paired.len p;simp only[zU];lia
 ·have l1:j<us.length:=by simpa using h1
  have l2:j<vs.length:=by simpa using h2
  have e1:=r.length;have e2:=q.length;have g1:xs[j]? =some xs[j]:=zG (by lia);have g2:ys[j]? =some ys[j]:=zG (by lia);simp only[List.getElem_toArray];exact h _ _ _ _ (Paired.get p j _ _ g1 g2) (Paired.get r j _ _ g1 (zG l1)) (Paired.get q j _ _ g2 (zG l2))
theorem JQ (I:xK X pins σ H s): ∀(n:Nat) (x y:V) (u v:Value) (A:Around),EqD X.K H n x y->kI x u->kI y v->A.units+n<=cLine->SeqAt.EqAt A s u v true
 |0,x,y,u,v,A,⟨f,e⟩,ru,rv,_=>by subst e;rw[<-Qz f];exact LX ru rv f f
 |n+1,x,y,u,v,A,.inl ⟨f,e⟩,ru,rv,_=>by subst e;rw[<-Qz f];exact LX ru rv f f
 |n+1,x,y,u,v,A,.inr ⟨a,b,xs,ys,ex,ey,hs,p⟩,ru,rv,hu=>by
  subst ex ey;cases ru;cases rv
  by_cases hab:a=b
  ·subst hab;exact SeqAt.EqAt.same _
  refine SeqAt.EqAt.of_refs hab ?_
  rcases hs with⟨ha,hb⟩|⟨ha,hb⟩
  ·obtain⟨us,r,pa,_⟩:=I.list ha;obtain⟨vs,q,pb,_⟩:=I.list hb;obtain⟨sz,he⟩:=En (K:=X.K) p r q (λu v=>SeqAt.EqAt A.in1 s u v true) λx y u v e ru rv=>JQ I n x y u v A.in1 e ru rv (by show A.units+1+n<=_;lia);have:=SeqAt.RcAt.lists (e:=λ_=>true) pa.isList pb.isList sz (by lia) he
   rwa [FT]at this
  ·obtain⟨us,r,pa,_⟩:=I.tuple ha;obtain⟨vs,q,pb,_⟩:=I.tuple hb;obtain⟨sz,he⟩:=En (K:=X.K) p r q (λu v=>SeqAt.EqAt A.in1 s u v true) λx y u v e ru rv=>JQ I n x y u v A.in1 e ru rv (by show A.units+1+n<=_;lia);have:=SeqAt.RcAt.tuples (e:=λ_=>true) pa pb (by lia) he;rw[FT,sz,kD]at this;exact this
inductive zAk (K:PySem.W.Frag) (k:Bool) (x:V) (y:V) (H:Hp) (Q:VK):Prop
 |mk (a b xs ys n:_) (h0:x=.ref a) (h1:y=.ref b) (h2:((kS K H a xs/\kS K H b ys)\/(uS K H a xs/\uS K H b ys))) (h3:Paired (EqD K H n) xs ys) (h4:n<=100) (h5:Q (.bl k) H):zAk K k x y H Q
theorem zBa {k:Nat}(hr:vY k X.A):IE X (compareOp .Eq) (zAk X.K true):=by
 intro pins s σ H x y v u Q I rx ry h;obtain⟨a,b,xs,ys,n,rfl,rfl,hs,p,hn,q⟩:=h;cases rx;cases ry;have hu:=hr.un
 rcases hs with⟨ha,hb⟩|⟨ha,hb⟩
 ·obtain⟨us,r,pa,_⟩:=I.list ha;obtain⟨vs,q',pb,_⟩:=I.list hb;obtain⟨sz,he⟩:=En (K:=X.K) p r q' (λu v=>SeqAt.EqAt X.A.in1 s u v true) λx y u v e ru rv=>JQ I n x y u v X.A.in1 e ru rv (by show X.A.units+1+n<=_;lia);have:=SeqAt.RcAt.lists (e:=λ_=>true) pa.isList pb.isList sz (by lia) he;rw[FT]at this;exact this _ _ _ _ ⟨.bl true,H,I,rfl,q⟩
 ·obtain⟨us,r,pa,_⟩:=I.tuple ha;obtain⟨vs,q',pb,_⟩:=I.tuple hb;obtain⟨sz,he⟩:=En (K:=X.K) p r q' (λu v=>SeqAt.EqAt X.A.in1 s u v true) λx y u v e ru rv=>JQ I n x y u v X.A.in1 e ru rv (by show X.A.units+1+n<=_;lia);have:=SeqAt.RcAt.tuples (e:=λ_=>true) pa pb (by lia) he;rw[FT,sz,kD]at this;exact this _ _ _ _ ⟨.bl true,H,I,rfl,q⟩
theorem zAz {k:Nat}(hr:vY k X.A):IE X (compareOp .NotEq) (zAk X.K false):=by
 intro pins s σ H x y v u Q I rx ry h;obtain⟨a,b,xs,ys,n,rfl,rfl,hs,p,hn,q⟩:=h;cases rx;cases ry;have hu:=hr.un
 rcases hs with⟨ha,hb⟩|⟨ha,hb⟩
 ·obtain⟨us,r,pa,_⟩:=I.list ha;obtain⟨vs,q',pb,_⟩:=I.list hb;obtain⟨sz,he⟩:=En (K:=X.K) p r q' (λu v=>SeqAt.EqAt X.A.in1 s u v true) λx y u v e ru rv=>JQ I n x y u v X.A.in1 e ru rv (by show X.A.units+1+n<=_;lia);have:=SeqAt.RcNeAt.lists (e:=λ_=>true) pa.isList pb.isList sz (by lia) he;rw[FT]at this;exact this _ _ _ _ ⟨.bl false,H,I,rfl,q⟩
 ·obtain⟨us,r,pa,_⟩:=I.tuple ha;obtain⟨vs,q',pb,_⟩:=I.tuple hb;obtain⟨sz,he⟩:=En (K:=X.K) p r q' (λu v=>SeqAt.EqAt X.A.in1 s u v true) λx y u v e ru rv=>JQ I n x y u v X.A.in1 e ru rv (by show X.A.units+1+n<=_;lia);have:=SeqAt.RcNeAt.tuples (e:=λ_=>true) pa pb (by lia) he;rw[FT,sz,kD]at this;exact this _ _ _ _ ⟨.bl false,H,I,rfl,q⟩
def ZL (i j:Int):Prop:=0<j/\j.natAbs.log2<8000
theorem FF:IE X (binaryOp .FloorDiv) (rI ZL λi j=>.int (i / j)):=opI λi j _ _ _ _ _ hc q=>by
 rw[<-Int.fdiv_eq_ediv_of_nonneg i (by have:=hc.1;lia)]at q;exact floordiv_int (by have:=hc.1;lia) q (.inl (PyProof.noPylong_of_log2 (by have:=hc.2;lia)))
def zGa (t:TS):TS:=λD σ H=> ∃P:St->Hp->Prop,t {D with nx:=P} σ H/\ ∀σ' H',P σ' H'->D.nx σ' H'
theorem Lp {st:Stmt}{t:TS}(h:PS X st t):PS X st (zGa t):=by
 refine⟨?_⟩;intro pins s σ H D I hw;obtain⟨P,h1,h2⟩:=hw;refine qX (h pins s σ H _ I h1) (λf s' q=>?_) λ_ _ z=>z;cases f with
 |next=>obtain⟨σ1,H1,I1,q⟩:=q;exact⟨σ1,H1,I1,h2 _ _ q⟩
 |brk=>exact q
 |cont=>exact q
 |ret u=>exact q
structure MB (P:Program)(w:World)(K:PySem.W.Frag)(mg:Str->Option Value)(base:Heap)(CX:JX)(k:Nat)(C:Addr)(m:Str)(ps:List Str)(sp:Sp):Prop where
 ex: ∃f fd,Bb P w K mg base CX k f fd ps sp/\Sl K C/\Za K C m f/\An K fd ps []
end
section
variable {X:Cx}{o e:Expr}{es:List Expr}{m:Str}{apos pos:Pos}{ta:TE}{t:TA}{E:XK}{C:Addr}
theorem Du {CX:JX}{k n:Nat}{ps:List Str}{sp:Sp}{pl:Sem Bool}(he:PE X o ta)(G:MB X.prog X.w X.K X.mg X.base CX k C m ps sp)(hr:vY n X.A)(ha:PA X (e::es) t)(hx:Bv CX X E)(hk:k<=n:=by first|decide|lia)
  (hst:starEach (e::es) X.env=(false,eval e X.env)::starEach es X.env:=by rfl) (hpl:(backTo pos (starEach es X.env)).any (·.1)=false:=by rfl)
  (ht:eval (.Call (.Attribute o m apos) (e::es) [] pos) X.env=(do
   let ov<-eval o X.env
   standAt apos.atName
   let(f,first)<-holding [ov] (getMethod ov m pl)
   callWith pos f first (backTo pos (starEach (e::es) X.env)) (backToKw pos (keywordEach [] X.env))):=by rfl):
  PE X (.Call (.Attribute o m apos) (e::es) [] pos) (Ss C m sp [] E ta t):=by
 obtain⟨f,fd,F,c,hm,hb⟩:=G.ex;exact Yf he c hm F (hr.mono hk) hb .nil hx ha hst hpl ht
theorem MP {CX:JX}{k n:Nat}{ps:List Str}{sp:Sp}{pl:Sem Bool}(he:PE X o ta)(G:MB X.prog X.w X.K X.mg X.base CX k C m ps sp)(hr:vY n X.A)(hx:Bv CX X E)(hk:k<=n:=by first|decide|lia)
  (ht:eval (.Call (.Attribute o m apos) [] [] pos) X.env=(do
   let ov<-eval o X.env
   standAt apos.atName
   let(f,first)<-holding [ov] (getMethod ov m pl)
   callWith pos f first (backTo pos (starEach [] X.env)) (backToKw pos (keywordEach [] X.env))):=by rfl):
  PE X (.Call (.Attribute o m apos) [] [] pos) (Ss C m sp [] E ta NG):=by
 obtain⟨f,fd,F,c,hm,hb⟩:=G.ex;exact VW he c hm F (hr.mono hk) hb .nil hx ht
theorem IY {f:Str}{te:TE}(K:PySem.W.Frag)(hK:X.K=K)(he:PE X e te)(hb:attributeBase e f X.env (eval e X.env)=eval e X.env:=by rfl):PE X (.Attribute e f pos) (Zj K te f):=by
 subst hK;exact Yh he hb
structure QJ (P:Program)(w:World)(K:PySem.W.Frag)(mg:Str->Option Value)(base:Heap)(CX:JX)(k:Nat)(x:Str)(C:Addr)(ps:List Str)(sp:Sp):Prop where
 ex: ∃f fd,Mk K C f/\Bb P w K mg base CX k f fd ps sp/\mg x=some (.ref C)/\An K fd ps []
theorem Pt {x:Str}{p:Pos}{CX:JX}{k n:Nat}{ps:List Str}{sp:Sp}(G:QJ X.prog X.w X.K X.mg X.base CX k x C ps sp)(hr:vY n X.A)(hg:Gl X x)(ha:PA X (e::es) t)(hx:Bv CX X E)(hk:k+1<=n:=by first|decide|lia)
  (hdb:(x==("__debug__":Str))=false:=by decide) (he:starEach (e::es) X.env=(false,eval e X.env)::starEach es X.env:=by rfl) (hpl:(backTo pos (starEach es X.env)).any (·.1)=false:=by rfl):
  PE X (.Call (.Name x p) (e::es) [] pos) (Su C sp [] E t):=by
 obtain⟨f,fd,M,F,hm,hb⟩:=G.ex;exact Yg M F (hr.mono hk) hg hm hb .nil hx ha hdb he hpl
structure Sm (P:Program)(w:World)(K:PySem.W.Frag)(mg:Str->Option Value)(base:Heap)(k:Nat)(x:Str)(C:Addr)(ps:List Str)(sp:Sp):Prop where
 ex: ∃f fd,Sg K C f/\Bb P w K mg base (Fx P w) k f fd ps sp/\mg x=some (.ref C)/\An K fd ps []
theorem FD {x:Str}{np cpos:Pos}{k n:Nat}{ps:List Str}{sp:Sp}(G:Sm X.prog X.w X.K X.mg X.base k x C ps sp)(hr:vY n X.A)(hg:Gl (X.exc E) x)(ha:PA (X.exc E) (e::es) t)(hc:X.calm=true:=by rfl)(hk:k+1<=n:=by first|decide|lia)
  (hdb:(x==("__debug__":Str))=false:=by decide) (he:starEach (e::es) X.env=(false,eval e X.env)::starEach es X.env:=by rfl) (hpl:(backTo cpos (starEach es X.env)).any (·.1)=false:=by rfl):
  PS (X.exc E) (.Raise (some (.Call (.Name x np) (e::es) [] cpos)) none pos) (Vn C sp E t):=by
 obtain⟨f,fd,M,F,hm,hb⟩:=G.ex;exact VJ M F (hr.mono hk) hg hm hb ha hc hdb he hpl
end
end L2
namespace L2
open PySem
abbrev Ko:=Nat×Str
abbrev wC:=List (Int×Int)
inductive Nd where
 |mk (kind:Int) (place:Nat) (own:List Int) (parts:List Nd)
def GF (ns:List Int)(p:Nat):Except Ko Int:=match ns[p]? with
 |some n=>.ok n
 |none=>.error (p,"end")
def kB (ns:List Int)(p:Nat)(lo hi:Int):Except Ko Int:=match ns[p]? with
 |some n=>if n<lo\/hi<n then .error (p,"range")else .ok n
 |none=>.error (p,"end")
def vF (ns:List Int):Nat->Int->Nat->Except Ko wC
 |0,_,_=>.ok []
 |n+1,most,p=>match kB ns p 0 most with
  | .error b=>.error b
  | .ok a=>match kB ns (p+1) a 12 with
   | .error b=>.error b
   | .ok c=>match vF ns n 4 (p+2)with
    | .error b=>.error b
    | .ok r=>.ok ((a,c)::r)
def wW (ns:List Int):Except Ko wC:=match kB ns 0 1 16 with
 | .error b=>.error b
 | .ok n=>vF ns n.toNat 0 1
def Mn (r:Except Ko Int):Except Ko (List Int):=match r with
 | .ok n=>.ok [n]
 | .error b=>.error b
def FE (ns:List Int)(heads:wC)(boxes k:Int)(p:Nat):Except Ko (List Int):=
 if k=0 then Mn (GF ns p)else if k=1\/k=2 then Mn (kB ns p 0 (boxes-1))else if k=3 then Mn (kB ns p 1 12)else if k=4 then Mn (kB ns p 2 12)else if k=6 then Mn (kB ns p 0 ((heads.length:Int)-1))else .ok []
def partsN:List Int:=[1,2,2,2,2,2,2,2,2,2,3,1,0]
def Fm (heads:wC)(k:Int)(own:List Int):Int:=
 if k=0\/k=1 then 0 else if k=2 then 1 else if k=3 then own.headD 0 else if k=4 then 1+own.headD 0 else if k=5 then 2 else if k=6 then(heads.getD (own.headD 0).toNat (0,0)).1 else partsN.getD (k-7).toNat 0
def wY (f:Nat->Except Ko (Nd×Nat)):Nat->Nat->Except Ko (List Nd×Nat)
 |0,p=>.ok ([],p)
 |n+1,p=>match f p with
  | .error b=>.error b
  | .ok a=>match wY f n a.2 with
   | .error b=>.error b
   | .ok r=>.ok (a.1::r.1,r.2)
def At (ns:List Int)(heads:wC)(boxes:Int):Nat->Nat->Except Ko (Nd×Nat)
 |0,p=>.error (p,"deep")
 |d+1,p=>match kB ns p 0 19 with
  | .error b=>.error b
  | .ok k=>match FE ns heads boxes k (p+1)with
   | .error b=>.error b
   | .ok own=>match wY (At ns heads boxes d) (Fm heads k own).toNat (p+1+own.length)with
    | .error b=>.error b
    | .ok r=>.ok (.mk k p own r.1,r.2)
def qL (ns:List Int)(heads:wC):wC->Nat->Except Ko (List Nd×Nat)
 |[],p=>.ok ([],p)
 |h::r,p=>match At ns heads h.2 10 p with
  | .error b=>.error b
  | .ok a=>match qL ns heads r a.2 with
   | .error b=>.error b
   | .ok z=>.ok (a.1::z.1,z.2)
def jL (ns:List Int):Except Ko (wC×List Nd):=match wW ns with
 | .error b=>.error b
 | .ok hs=>match qL ns hs hs (1+2*hs.length)with
  | .error b=>.error b
  | .ok r=>if r.2<ns.length then .error (r.2,"over")else .ok (hs,r.1)
def qA (H:Hp):Nat->V->Nd->Prop
 |0,_,_=>False
 |d+1,v,.mk k p own ps=> ∃t o q vs,v=.ref t/\H t=some (.tup [.int k,.int p,.ref o,.ref q])/\H o=some (.tup (own.map V.int))/\H q=some (.tup vs)/\Paired (qA H d) vs ps
def UW (H:Hp)(v:V)(f:(Int×Int)×Nd):Prop:= ∃t b,v=.ref t/\H t=some (.tup [.int f.1.1,.int f.1.2,b])/\qA H 10 b f.2
def QI (H:Hp)(l:Addr)(r:wC×List Nd):Prop:= ∃rs,H l=some (.lst rs)/\r.1.length=r.2.length/\Paired (UW H) rs (r.1.zip r.2)
def JU (H:Hp)(v:V)(h:Int×Int):Prop:= ∃t,v=.ref t/\H t=some (.tup [.int h.1,.int h.2])
def Gx (H:Hp)(hd:Addr)(hs:wC):Prop:= ∃rs,H hd=some (.lst rs)/\Paired (JU H) rs hs
def Aw (CL dx a:Addr)(p:Nat):HO:=.ins CL dx [("numbers",.ref a),("place",.int p)]
def AT (H H':Hp):Prop:= ∀b xs,H b=some (.tup xs)->H' b=some (.tup xs)
theorem AT.same {H H':Hp}(h:yU H H'):AT H H':=λ_ _ e=>h _ _ e
theorem AT.keep {lk CL dx a:Addr}{p:Nat}{H H':Hp}(e:H lk=some (Aw CL dx a p))(k:jX lk H H'):AT H H':=λb xs q=>k b _ (λz=>by rw[z,e]at q;cases q) q
theorem qA.tups {H H':Hp}(h:AT H H'): ∀{d:Nat} {v:V} {n:Nd},qA H d v n->qA H' d v n
 |0,_,_,z=>z.elim
 |d+1,v,.mk k p own ps,⟨t,o,q,vs,e,h1,h2,h3,r⟩=>⟨t,o,q,vs,e,h _ _ h1,h _ _ h2,h _ _ h3,Paired.imp (λ_ _ z=>qA.tups h z) r⟩
theorem JU.tups {H H':Hp}(h:AT H H'){v:V}{n:Int×Int}:JU H v n->JU H' v n:=fun⟨t,e,q⟩=>⟨t,e,h _ _ q⟩
theorem UW.tups {H H':Hp}(h:AT H H'){v:V}{n:(Int×Int)×Nd}:UW H v n->UW H' v n:=fun⟨t,b,e,q,z⟩=>⟨t,b,e,h _ _ q,z.tups h⟩
theorem Gx.keep {lk CL dx a hd:Addr}{p:Nat}{H H':Hp}{hs:wC}(e:H lk=some (Aw CL dx a p))(k:jX lk H H')(h:Gx H hd hs):Gx H' hd hs:=by
 obtain⟨rs,q,r⟩:=h;exact⟨rs,k hd _ (λz=>by rw[z,e]at q;cases q) q,Paired.imp (λ_ _ z=>z.tups (.keep e k)) r⟩
theorem QI.same {l:Addr}{r:wC×List Nd}{H H':Hp}(h:yU H H'):QI H l r->QI H' l r:=fun⟨rs,q,e,z⟩=>⟨rs,h _ _ q,e,Paired.imp (λ_ _ y=>y.tups (.same h)) z⟩
def Jm {α:Type}(r:Except Ko α)(ok:α->Prop)(bad:Nat->Str->Prop):Prop:=(∀a,r=.ok a->ok a)/\ ∀p w,r=.error (p,w)->bad p w
def Hx (CN lk:Addr)(H:Hp)(E:XK)(p:Nat)(w:Str):Prop:= ∀d H',jX lk H H'->H' d=some (Mg d [("place",.int p),("word",.str w)])->E (.ref CN) (some d) H'
theorem Hx.keep {CN lk:Addr}{H H1:Hp}{E:XK}{p:Nat}{w:Str}(f:Hx CN lk H E p w)(k:jX lk H H1):Hx CN lk H1 E p w:=λd H' k' e=>f d H' (k.trans k') e
def Looks (CL:Addr)(H:Hp)(lk dx a:Addr)(p:Nat)(ns:List Int):Prop:=H lk=some (Aw CL dx a p)/\H a=some (.lst (ns.map V.int))
theorem Looks.go {CL lk dx a:Addr}{p p':Nat}{ns:List Int}{H H':Hp}(l:Looks CL H lk dx a p ns)(k:jX lk H H')(e:H' lk=some (Aw CL dx a p')):Looks CL H' lk dx a p' ns:=
 ⟨e,k a _ (λz=>by have:=l.1;rw[<-z,l.2]at this;cases this) l.2⟩
inductive EO (C:Addr) (vs:List V) (H:Hp) (Q:VK) (E:XK):Prop
 |mk (x y z:_) (h0:vs=[.ref x,y,z]) (h1:H x=some (Mf x C none)) (h2: ∀d H',d≠x->H d=none->(∀b o,b≠x->H b=some o->H' b=some o)->H' x=some (Mf x C (some d))->H' d=some (Mg d [("place",y),("word",z)])->Q .non H'):EO C vs H Q E
inductive NO (CL:Addr) (vs:List V) (H:Hp) (Q:VK) (E:XK):Prop
 |mk (x dx a:_) (h0:vs=[.ref x,.ref a]) (h1:H x=some (.ins CL dx [])) (h2: ∀H',jX x H H'->H' x=some (Aw CL dx a 0)->Q .non H'):NO CL vs H Q E
inductive NH (vs:List V) (H:Hp) (Q:VK) (E:XK):Prop
 |mk (i:Int) (h0:vs=[.int i]) (h1:Q (.bl true) H):NH vs H Q E
inductive XO (CL CN:Addr) (vs:List V) (H:Hp) (Q:VK) (E:XK):Prop
 |mk (lk dx a p ns:_) (h0:vs=[.ref lk]) (h1:Looks CL H lk dx a p ns) (h2:Jm (GF ns p) (λn=>Q (.int n) (upd H lk (Aw CL dx a (p+1)))) (Hx CN lk H E)):XO CL CN vs H Q E
inductive Fy (CL CN:Addr) (vs:List V) (H:Hp) (Q:VK) (E:XK):Prop
 |mk (lk dx a p ns lo hi:_) (h0:vs=[.ref lk,.int lo,.int hi]) (h1:Looks CL H lk dx a p ns) (h2:Jm (kB ns p lo hi) (λn=>Q (.int n) (upd H lk (Aw CL dx a (p+1)))) (Hx CN lk H E)):Fy CL CN vs H Q E
inductive NQ (CL CN:Addr) (vs:List V) (H:Hp) (Q:VK) (E:XK):Prop
 |mk (lk dx a ns:_) (h0:vs=[.ref lk]) (h1:Looks CL H lk dx a 0 ns) (h2:Jm (wW ns) (λhs=> ∀hd H',jX lk H H'->H' lk=some (Aw CL dx a (1+2*hs.length))->Gx H' hd hs->Q (.ref hd) H') (Hx CN lk H E)):NQ CL CN vs H Q E
inductive Sv (CL CN:Addr) (vs:List V) (H:Hp) (Q:VK) (E:XK):Prop
 |mk (lk dx a p ns hd hs boxes k:_) (h0:vs=[.ref lk,.int k,.ref hd,.int boxes]) (h1:Looks CL H lk dx a p ns) (h2:Gx H hd hs) (h3:Jm (FE ns hs boxes k p) (λown=> ∀t H',jX lk H H'->H' lk=some (Aw CL dx a (p+own.length))->H' t=some (.tup (own.map V.int))->Q (.ref t) H') (Hx CN lk H E)):Sv CL CN vs H Q E
def Xx (heads:wC)(k:Int)(own:List Int):Prop:=0<=k/\k<=19/\(k=3\/k=4\/k=6-> ∃n,own=[n]/\0<=n/\(k=6->n<heads.length)/\(k≠6->n<=12))
def Tx (hs:wC):Prop:= ∀h∈hs,0<=h.1/\h.1<=4
inductive Sz (vs:List V) (H:Hp) (Q:VK) (E:XK):Prop
 |mk (k t own hd hs:_) (h0:vs=[.int k,.ref t,.ref hd]) (h1:H t=some (.tup (own.map V.int))) (h2:Gx H hd hs) (h3:Xx hs k own) (h4:Q (.int (Fm hs k own)) H):Sz vs H Q E
inductive Jw (CL CN:Addr) (d:Nat) (vs:List V) (H:Hp) (Q:VK) (E:XK):Prop
 |mk (lk dx a p ns hd hs boxes:_) (h0:vs=[.ref lk,.ref hd,.int boxes,.int (11-(d:Int))]) (h1:Looks CL H lk dx a p ns) (h2:Gx H hd hs) (h3:Tx hs) (h4:Jm (At ns hs boxes d p) (λr=> ∀v H',jX lk H H'->H' lk=some (Aw CL dx a r.2)->qA H' d v r.1->Q v H') (Hx CN lk H E)):Jw CL CN d vs H Q E
inductive HX (CN:Addr) (vs:List V) (H:Hp) (Q:VK) (E:XK):Prop
 |mk (a ns:_) (h0:vs=[.ref a]) (h1:H a=some (.lst (ns.map V.int))) (h2:Jm (jL ns) (λr=> ∀l H',yU H H'->H l=none->QI H' l r->Q (.ref l) H') (λp w=> ∀d H',yU H H'->H' d=some (Mg d [("place",.int p),("word",.str w)])->E (.ref CN) (some d) H')):HX CN vs H Q E
inductive Kx (vs:List V) (H:Hp) (Q:VK) (E:XK):Prop
 |mk (a ns:_) (h0:vs=[.ref a]) (h1:H a=some (.lst (ns.map V.int))) (h2:Jm (jL ns) (λ_=> ∀H',yU H H'->Q .non H') (λp w=> ∀t H',yU H H'->H' t=some (.tup [.int (p:Nat),.str w])->Q (.ref t) H')):Kx vs H Q E
theorem jM {ns:List Int}{p:Nat}{lo hi n:Int}(h:kB ns p lo hi=.ok n):ns[p]? =some n/\lo<=n/\n<=hi:=by
 unfold kB at h;cases e:ns[p]? with
 |none=>rw[e]at h;cases h
 |some m=>
  rw[e]at h;simp only at h
  by_cases c:m<lo\/hi<m
  ·rw[zQ c]at h;cases h
  ·rw[zN c]at h;cases h;exact⟨rfl,by lia,by lia⟩
theorem AF {r:Except Ko Int}{own:List Int}(h:Mn r=.ok own): ∃n,r=.ok n/\own=[n]:=by
 unfold Mn at h;cases r with
 |error b=>cases h
 |ok n=>cases h;exact⟨n,rfl,rfl⟩
theorem zAx {ns:List Int}{hs:wC}{boxes k:Int}{p:Nat}{own:List Int}(h0:0<=k)(h1:k<=19)(h:FE ns hs boxes k p=.ok own):Xx hs k own:=by
 refine⟨h0,h1,λhk=>?_⟩;unfold FE at h
 rcases hk with rfl|rfl|rfl
 ·rw[zN (by decide),zN (by decide),zQ rfl]at h;obtain⟨n,e,rfl⟩:=AF h;obtain⟨_,a,b⟩:=jM e;exact⟨n,rfl,by lia,λz=>by lia,λ_=>b⟩
 ·rw[zN (by decide),zN (by decide),zN (by decide),zQ rfl]at h;obtain⟨n,e,rfl⟩:=AF h;obtain⟨_,a,b⟩:=jM e;exact⟨n,rfl,by lia,λz=>by lia,λ_=>b⟩
 ·rw[zN (by decide),zN (by decide),zN (by decide),zN (by decide),zQ rfl]at h;obtain⟨n,e,rfl⟩:=AF h;obtain⟨_,a,b⟩:=jM e;exact⟨n,rfl,by lia,λ_=>by lia,λz=>absurd rfl z⟩
theorem Ub: ∀k:Nat,0<=partsN.getD k 0/\partsN.getD k 0<=3:=by
 intro k
 by_cases h:k<13
 ·have: ∀k:Fin 13,0<=partsN.getD k.1 0/\partsN.getD k.1 0<=3:=by decide
  exact this ⟨k,h⟩
 ·have:partsN[k]? =none:=vE (by show 13<=k;lia);rw[xV,this];decide
theorem zBu {hs:wC}{k:Int}{own:List Int}(o:Xx hs k own)(hh:Tx hs):0<=Fm hs k own/\Fm hs k own<=13:=by
 obtain⟨h0,h1,h2⟩:=o;unfold Fm
 by_cases c1:k=0\/k=1
 ·rw[zQ c1];decide
 rw[zN c1]
 by_cases c2:k=2
 ·rw[zQ c2];decide
 rw[zN c2]
 by_cases c3:k=3
 ·rw[zQ c3];obtain⟨n,rfl,a,_,b⟩:=h2 (.inl c3);have:=b (by lia);show 0<=n/\n<=13;lia
 rw[zN c3]
 by_cases c4:k=4
 ·rw[zQ c4];obtain⟨n,rfl,a,_,b⟩:=h2 (.inr (.inl c4));have:=b (by lia);show 0<=1+n/\1+n<=13;lia
 rw[zN c4]
 by_cases c5:k=5
 ·rw[zQ c5];decide
 rw[zN c5]
 by_cases c6:k=6
 ·rw[zQ c6];obtain⟨n,rfl,a,b,_⟩:=h2 (.inr (.inr c6));have hn:=b c6;show 0<=(hs.getD n.toNat (0,0)).1/\(hs.getD n.toNat (0,0)).1<=13;have hl:n.toNat<hs.length:=by lia
  rw[xV,zG hl];have:=hh _ (kY hl);simp only[Option.getD_some];lia
 rw[zN c6];have:=Ub (k-7).toNat;lia
theorem Nk {ns:List Int}: ∀{n:Nat} {most:Int} {p:Nat} {hs:wC},most<=4->vF ns n most p=.ok hs->Tx hs/\hs.length=n
 |0,_,_,_,_,h=>by cases h;exact⟨λ_ z=>(nomatch z),rfl⟩
 |n+1,most,p,hs,hm,h=>by
  unfold vF at h;cases e1:kB ns p 0 most with
  |error b=>rw[e1]at h;cases h
  |ok a=>
   rw[e1]at h;simp only at h;cases e2:kB ns (p+1) a 12 with
   |error b=>rw[e2]at h;cases h
   |ok c=>
    rw[e2]at h;simp only at h;cases e3:vF ns n 4 (p+2)with
    |error b=>rw[e3]at h;cases h
    |ok r=>
     rw[e3]at h;cases h;obtain⟨q,l⟩:=Nk (Int.le_refl _) e3;obtain⟨_,a0,a1⟩:=jM e1;exact⟨λz hz=>by
      rcases List.mem_cons.mp hz with rfl|hz
      ·exact⟨a0,by show a<=4;lia⟩
      ·exact q z hz,by simp[l]⟩
theorem Jg {ns:List Int}{hs:wC}(h:wW ns=.ok hs):Tx hs/\ns[0]? =some (hs.length:Int)/\1<=hs.length/\hs.length<=16/\vF ns hs.length 0 1=.ok hs:=by
 unfold wW at h;cases e1:kB ns 0 1 16 with
 |error b=>rw[e1]at h;cases h
 |ok n=>
  rw[e1]at h;simp only at h;obtain⟨q,l⟩:=Nk (by decide) h;obtain⟨e,a,b⟩:=jM e1;rw[l];refine⟨q,?_,by lia,by lia,h⟩;rw[e];congr 1;lia
def Zx {α:Type}(done:List α)(r:Except Ko (List α)):Except Ko (List α):=match r with
 | .ok r=>.ok (done++r)
 | .error b=>.error b
theorem Ux {α:Type}(r:Except Ko (List α)):Zx [] r=r:=by cases r<;>rfl
def WJ {α:Type}(done:List α)(r:Except Ko (List α×Nat)):Except Ko (List α×Nat):=match r with
 | .ok r=>.ok (done++r.1,r.2)
 | .error b=>.error b
theorem Ng {α:Type}(r:Except Ko (List α×Nat)):WJ [] r=r:=by cases r<;>rfl
theorem jX.fresh {lk hd:Addr}{H H':Hp}{o:HO}(k:jX lk H H')(h:H hd=none):jX lk H (L2.upd H' hd o):=λb u nb e=>by rw[zW (zZ e h)];exact k b u nb e
theorem AT.upd {b:Addr}{ys:List V}{H:Hp}{o:HO}(h:H b=some (.lst ys)):AT H (L2.upd H b o):=λc xs e=>by rw[zW (λz=>by rw[z,h]at e;cases e)];exact e
theorem AT.trans {H H1 H2:Hp}(a:AT H H1)(b:AT H1 H2):AT H H2:=λc xs e=>b c xs (a c xs e)
theorem AT.new {b:Addr}{H:Hp}{o:HO}(h:H b=none):AT H (L2.upd H b o):=.same (zM h o)
theorem Lk {C lk:Addr}{H H1:Hp}{E E':XK}{p:Nat}{w:Str}(f:Hx C lk H E p w)(k:jX lk H H1): ∀x,H1 x=none->
  EO C [.ref x,.int (p:Int),.str w] (upd H1 x (Mf x C none)) (λv H2=>v=.non/\ ∃d,H2 x=some (Mf x C (some d))/\E (.ref C) (some d) (upd H2 x (HM x C (some d)))) E':=by
 intro x hx;refine⟨x,_,_,rfl,zH,λd H' dx hd kp ex ed=>⟨rfl,d,ex,f d _ (λb o nb e=>?_) ?_⟩⟩
 ·have e1:=k b o nb e;have nx:b≠x:=zZ e1 hx;rw[zW nx];exact kp b o nx (by rw[zW nx];exact e1)
 ·rw[zW dx];exact ed
def Sub (ns:List Int):Nat->List Int->Prop
 |_,[]=>True
 |p,z::zs=>ns[p]? =some z/\Sub ns (p+1) zs
theorem Sub.append {ns:List Int}: ∀{xs ys:List Int} {p:Nat},Sub ns p (xs++ys)->Sub ns p xs/\Sub ns (p+xs.length) ys
 |[],_,_,h=>⟨trivial,h⟩
 |x::xs,ys,p,h=>by
  have q:=Sub.append h.2;refine⟨⟨h.1,q.1⟩,?_⟩;rw[show p+(x::xs).length =p+1+xs.length by simp;lia];exact q.2
theorem Sub.behind: ∀(zs pre:List Int),Sub (pre++zs) pre.length zs
 |[],_=>trivial
 |z::zs,pre=>by
  refine⟨by simp,?_⟩;have:=Sub.behind zs (pre++[z])
  simpa using this
theorem Sub.self (ns:List Int):Sub ns 0 ns:=Sub.behind ns []
def Hw (hs:wC)(boxes k:Int)(own:List Int):Prop:=
 (k=0/\ ∃n,own=[n])\/((k=1\/k=2)/\ ∃n,own=[n]/\0<=n/\n<=boxes-1)\/(k=3/\ ∃n,own=[n]/\1<=n/\n<=12)\/(k=4/\ ∃n,own=[n]/\2<=n/\n<=12)\/(k=6/\ ∃n,own=[n]/\0<=n/\n<=(hs.length:Int)-1)\/((k=5\/7<=k)/\own=[])
theorem Ig {ns:List Int}{p:Nat}{lo hi n:Int}(h:ns[p]? =some n)(h0:lo<=n)(h1:n<=hi):kB ns p lo hi=.ok n:=by
 unfold kB;rw[h];exact zN (by lia)
structure Gy (hs:wC):Prop where
 lo:1<=hs.length
 hi:hs.length<=16
 all: ∀(i:Nat) (h:Int×Int),hs[i]? =some h->0<=h.1/\h.1<=4/\h.1<=h.2/\h.2<=12/\(i=0->h.1=0)
def Mz:wC->List Int
 |[]=>[]
 |h::r=>h.1::h.2::Mz r
theorem LU: ∀hs:wC,(Mz hs).length =2*hs.length
 |[]=>rfl
 |h::r=>by simp[Mz,LU r];lia
theorem Kg {ns:List Int}: ∀{hs:wC} {most:Int} {p:Nat},(∀(i:Nat) (h:Int×Int),hs[i]? =some h->0<=h.1/\h.1<=4/\h.1<=h.2/\h.2<=12/\(i=0->h.1<=most))->Sub ns p (Mz hs)->vF ns hs.length most p=.ok hs
 |[],_,_,_,_=>rfl
 |h::r,most,p,a,s=>by
  obtain⟨a0,a1,a2,a3,a4⟩:=a 0 h rfl;unfold vF;show(match kB ns p 0 most with| .error b=>_| .ok a=>_)=_;rw[Ig s.1 a0 (a4 rfl)];simp only;rw[Ig s.2.1 a2 a3];simp only;rw[Kg (most:=4) (λi x e=>by have:=a (i+1) x (by simpa using e);lia) s.2.2]
theorem Gy.heads {ns:List Int}{hs:wC}{p:Nat}(g:Gy hs)(s:Sub ns p (Mz hs)):vF ns hs.length 0 p=.ok hs:=Kg (λi h e=>by have:=g.all i h e;lia) s
def PB (hs todo:wC)(zs:List Int):Prop:= ∀ns p,Sub ns p zs-> ∃nds,nds.length=todo.length/\qL ns hs todo p=.ok (nds,p+zs.length)
theorem zEn {j:Int}(h0:0<j)(h1:j<2^256):ZL i j:=by
 refine⟨h0,?_⟩;have:j.natAbs.log2<256:=(Nat.log2_lt (by lia)).mpr (by lia);lia
theorem Drawn.free {K:PySem.W.Frag}{st p:Addr}{H H':Hp}(d:Drawn K st H H')(h:H' p=none):H p=none:=by
 cases e:H p with
 |none=>rfl
 |some o=>
  by_cases z:p=st
  ·obtain⟨a,ns,k,c,e',_⟩:=d.draw;rw[z,e']at h;cases h
  ·rw[d.keep p o z e]at h;cases h
def CW (n:Nat)(Pv:Nat->St->Hp->Prop)(i m:Nat)(σ:St)(H:Hp):Prop:=i<=n/\m=n-i/\Pv i σ H
theorem CW.next {n:Nat}{Pv:Nat->St->Hp->Prop}{i:Nat}{σ:St}{H:Hp}(hi:i<n)(h:Pv (i+1) σ H): ∃m',m'<n-i/\CW n Pv (i+1) m' σ H:=⟨n-(i+1),by lia,by lia,rfl,h⟩
theorem LZ {K:PySem.W.Frag}{a p:Addr}{xs:List V}{g:TG}{tt:TT}{te:TE}{R:Hp->Prop}{σ0:St}{H0:Hp}(Pv:Nat->St->Hp->Prop)(h0:Pv 0 σ0 H0)(hl: ∀i σ H,i<=xs.length->Pv i σ H->uS K H a xs)
  (hs: ∀i x σ H,i<xs.length->xs[i]? =some x->Pv i σ H->g x σ H λσ3 H3=>tt σ3 H3 λb H4=>
   if b=true then te σ3 H4 λv H5=> ∃ys,H5 p=some (.lst ys)/\ys.length<sizeLine/\ ∃m',m'<xs.length-i/\CW xs.length Pv (i+1) m' σ3 (upd H5 p (.lst (ys++[v])))
   else ∃m',m'<xs.length-i/\CW xs.length Pv (i+1) m' σ3 H4)
  (hd: ∀σ H,Pv xs.length σ H->R H):JW (ZJ K a) p σ0 H0 g tt te R:=by
 refine⟨CW xs.length Pv,⟨_,xH _,rfl,h0⟩,λi m σ' H' w=>?_⟩;obtain⟨hi,rfl,hp⟩:=w;have q:=hl i σ' H' hi hp
 by_cases hlt:i<xs.length
 ·refine .inr ⟨⟨xs,xs[i],q,by simp[hlt]⟩,λx H2 y=>?_⟩;obtain⟨e,y⟩:=y;subst e;exact hs i x σ' _ hlt (y xs q) hp
 ·have e:i=xs.length:=by lia
  subst e;exact .inl ⟨⟨xs,q,zP _⟩,hd σ' H' hp⟩
theorem Hu {K:PySem.W.Frag}{a p:Addr}{xs:List V}{g:TG}{tt:TT}{te:TE}{R:Hp->Prop}{σ0:St}{H0:Hp}(Pv:Nat->St->Hp->Prop)(h0:Pv 0 σ0 H0)(hl: ∀i σ H,i<=xs.length->Pv i σ H->kS K H a xs)
  (hs: ∀i x σ H,i<xs.length->xs[i]? =some x->Pv i σ H->g x σ H λσ3 H3=>tt σ3 H3 λb H4=>
   if b=true then te σ3 H4 λv H5=> ∃ys,H5 p=some (.lst ys)/\ys.length<sizeLine/\ ∃m',m'<xs.length-i/\CW xs.length Pv (i+1) m' σ3 (upd H5 p (.lst (ys++[v])))
   else ∃m',m'<xs.length-i/\CW xs.length Pv (i+1) m' σ3 H4)
  (hd: ∀σ H,Pv xs.length σ H->R H):JW (ZK K a) p σ0 H0 g tt te R:=by
 refine⟨CW xs.length Pv,⟨_,xH _,rfl,h0⟩,λi m σ' H' w=>?_⟩;obtain⟨hi,rfl,hp⟩:=w;have q:=hl i σ' H' hi hp
 by_cases hlt:i<xs.length
 ·refine .inr ⟨⟨xs,xs[i],q,by simp[hlt]⟩,λx H2 y=>?_⟩;obtain⟨e,y⟩:=y;subst e;exact hs i x σ' _ hlt (y xs q) hp
 ·have e:i=xs.length:=by lia
  subst e;exact .inl ⟨⟨xs,q,zP _⟩,hd σ' H' hp⟩
theorem Vk {ns:List Int}{p:Nat}{n:Int}(h:GF ns p=.ok n):ns[p]? =some n:=by
 unfold GF at h;cases e:ns[p]? with
 |none=>rw[e]at h;cases h
 |some m=>rw[e]at h;cases h;rfl
theorem Wb {ns:List Int}{hs:wC}{boxes k:Int}{p:Nat}{own:List Int}(h0:0<=k)(h:FE ns hs boxes k p=.ok own):
  ((k<5\/k=6)/\ ∃n,own=[n]/\ns[p]? =some n)\/(¬(k<5\/k=6)/\own=[]):=by
 unfold FE at h
 by_cases c0:k=0
 ·rw[zQ c0]at h;obtain⟨n,e,rfl⟩:=AF h;exact .inl ⟨by lia,n,rfl,Vk e⟩
 rw[zN c0]at h
 by_cases c1:k=1\/k=2
 ·rw[zQ c1]at h;obtain⟨n,e,rfl⟩:=AF h;exact .inl ⟨by lia,n,rfl,(jM e).1⟩
 rw[zN c1]at h
 by_cases c3:k=3
 ·rw[zQ c3]at h;obtain⟨n,e,rfl⟩:=AF h;exact .inl ⟨by lia,n,rfl,(jM e).1⟩
 rw[zN c3]at h
 by_cases c4:k=4
 ·rw[zQ c4]at h;obtain⟨n,e,rfl⟩:=AF h;exact .inl ⟨by lia,n,rfl,(jM e).1⟩
 rw[zN c4]at h
 by_cases c6:k=6
 ·rw[zQ c6]at h;obtain⟨n,e,rfl⟩:=AF h;exact .inl ⟨by lia,n,rfl,(jM e).1⟩
 rw[zN c6]at h;cases h;exact .inr ⟨by lia,rfl⟩
theorem Nl {ns:List Int}: ∀{n:Nat} {most:Int} {p:Nat} {hs:wC},vF ns n most p=.ok hs-> ∀(i:Nat) (h:Int×Int),hs[i]? =some h->ns[p+2*i]? =some h.1/\ns[p+2*i+1]? =some h.2
 |0,_,_,_,e,i,h,q=>by cases e;simp at q
 |n+1,most,p,hs,e,i,h,q=>by
  unfold vF at e;cases e1:kB ns p 0 most with
  |error b=>rw[e1]at e;cases e
  |ok a=>
   rw[e1]at e;simp only at e;cases e2:kB ns (p+1) a 12 with
   |error b=>rw[e2]at e;cases e
   |ok c=>
    rw[e2]at e;simp only at e;cases e3:vF ns n 4 (p+2)with
    |error b=>rw[e3]at e;cases e
    |ok r=>
     rw[e3]at e;cases e;cases i with
     |zero=>cases q;exact⟨(jM e1).1,(jM e2).1⟩
     |succ i=>
      have:=Nl e3 i h (by simpa using q);rw[show p+2*(i+1)=p+2+2*i by lia];exact this
theorem OG {ns:List Int}{hs:wC}{boxes:Int}{d p z:Nat}{nd:Nd}(h:At ns hs boxes (d+1) p=.ok (nd,z)):
  ∃k own ps,nd=.mk k p own ps/\0<=k/\k<=19/\ns[p]? =some k/\FE ns hs boxes k (p+1)=.ok own/\wY (At ns hs boxes d) (Fm hs k own).toNat (p+1+own.length)=.ok (ps,z):=by
 unfold At at h;cases e1:kB ns p 0 19 with
 |error b=>rw[e1]at h;cases h
 |ok k=>
  rw[e1]at h;simp only at h;cases e2:FE ns hs boxes k (p+1)with
  |error b=>rw[e2]at h;cases h
  |ok own=>
   rw[e2]at h;simp only at h;cases e3:wY (At ns hs boxes d) (Fm hs k own).toNat (p+1+own.length)with
   |error b=>rw[e3]at h;cases h
   |ok r=>
    rw[e3]at h;cases h;obtain⟨a,b,c⟩:=jM e1;exact⟨k,own,r.1,rfl,b,c,a,e2,e3⟩
theorem Pw {f:Nat->Except Ko (Nd×Nat)}: ∀{n p z:Nat} {ps:List Nd},wY f n p=.ok (ps,z)->ps.length=n
 |0,_,_,_,h=>by cases h;rfl
 |n+1,p,z,ps,h=>by
  unfold wY at h;cases e1:f p with
  |error b=>rw[e1]at h;cases h
  |ok a=>
   rw[e1]at h;simp only at h;cases e2:wY f n a.2 with
   |error b=>rw[e2]at h;cases h
   |ok r=>rw[e2]at h;cases h;simp[Pw (show wY f n a.2=.ok (r.1,r.2)from e2)]
theorem IB {f:Nat->Except Ko (Nd×Nat)}{n p z:Nat}{a:Nd}{ps:List Nd}(h:wY f (n+1) p=.ok (a::ps,z)): ∃q,f p=.ok (a,q)/\wY f n q=.ok (ps,z):=by
 unfold wY at h;cases e1:f p with
 |error b=>rw[e1]at h;cases h
 |ok a=>
  rw[e1]at h;simp only at h;cases e2:wY f n a.2 with
  |error b=>rw[e2]at h;cases h
  |ok r=>rw[e2]at h;cases h;exact⟨a.2,rfl,e2⟩
theorem JN {f:Nat->Except Ko (Nd×Nat)}{n p z:Nat}(h:wY f n p=.ok ([],z)):n=0/\z=p:=by
 cases n with
 |zero=>cases h;exact⟨rfl,rfl⟩
 |succ n=>have:=Pw h;simp at this
theorem Xs {ns:List Int}{p:Nat}{n:Int}(h:ns[p]? =some n):p<ns.length:=(List.getElem?_eq_some_iff.mp h).1
theorem Px {f:Nat->Except Ko (Nd×Nat)}{L:Nat}(hf: ∀p nd z,f p=.ok (nd,z)->p<z/\z<=L): ∀{n p z:Nat} {ps:List Nd},p<=L->wY f n p=.ok (ps,z)->p<=z/\z<=L
 |0,_,_,_,hp,h=>by cases h;exact⟨zP _,hp⟩
 |n+1,p,z,ps,hp,h=>by
  cases ps with
  |nil=>exact absurd (JN h).1 (by lia)
  |cons a ps=>
   obtain⟨q,e1,e2⟩:=IB h;have:=hf _ _ _ e1;have:=Px hf (by lia) e2;lia
theorem SS {ns:List Int}{hs:wC}{boxes:Int}: ∀{d p z:Nat} {nd:Nd},At ns hs boxes d p=.ok (nd,z)->p<z/\z<=ns.length
 |0,_,_,_,h=>by cases h
 |d+1,p,z,nd,h=>by
  obtain⟨k,own,ps,rfl,k0,k1,ek,eo,ep⟩:=OG h;have h1:=Xs ek;have h2:p+1+own.length<=ns.length:=by
   rcases Wb k0 eo with⟨_,n,rfl,en⟩|⟨_,rfl⟩
   ·have:=Xs en;simp;lia
   ·simp;lia
  have:=Px (λp nd z e=>SS (d:=d) e) h2 ep;lia
theorem Ny {ns:List Int}{hs:wC}: ∀{todo:wC} {p z:Nat} {nds:List Nd},p<=ns.length->qL ns hs todo p=.ok (nds,z)->z<=ns.length/\nds.length=todo.length
 |[],_,_,_,hp,h=>by cases h;exact⟨hp,rfl⟩
 |x::todo,p,z,nds,hp,h=>by
  unfold qL at h;cases e1:At ns hs x.2 10 p with
  |error b=>rw[e1]at h;cases h
  |ok y=>
   rw[e1]at h;simp only at h;cases e2:qL ns hs todo y.2 with
   |error b=>rw[e2]at h;cases h
   |ok u=>
    rw[e2]at h;cases h;have:=Ny (SS (show At ns hs x.2 10 p=.ok (y.1,y.2)from e1)).2 (show qL ns hs todo y.2=.ok (u.1,u.2)from e2);exact⟨this.1,by simp[this.2]⟩
theorem WT {ns:List Int}{hs:wC}(h:wW ns=.ok hs):1+2*hs.length<=ns.length:=by
 obtain⟨_,_,l1,_,e⟩:=Jg h;have q:hs[hs.length-1]? =some hs[hs.length-1]:=zG (by lia);have:=Xs (Nl e _ _ q).2;lia
theorem Xe {ns:List Int}{r:wC×List Nd}(h:jL ns=.ok r):wW ns=.ok r.1/\qL ns r.1 r.1 (1+2*r.1.length)=.ok (r.2,ns.length)/\r.2.length=r.1.length:=by
 unfold jL at h;cases e1:wW ns with
 |error b=>rw[e1]at h;cases h
 |ok hs=>
  rw[e1]at h;simp only at h;cases e2:qL ns hs hs (1+2*hs.length)with
  |error b=>rw[e2]at h;cases h
  |ok z=>
   rw[e2]at h;simp only at h;have le:=Ny (WT e1) (show qL ns hs hs (1+2*hs.length)=.ok (z.1,z.2)from e2)
   by_cases c:z.2<ns.length
   ·rw[zQ c]at h;cases h
   ·rw[zN c]at h;cases h;refine⟨rfl,?_,le.2⟩;show qL ns hs hs (1+2*hs.length)=_;have:ns.length=z.2:=by lia
    rw[e2,this]
theorem Kk {ns:List Int}{hs todo:wC}{h:Int×Int}{p z:Nat}{nds:List Nd}(e:qL ns hs (h::todo) p=.ok (nds,z)): ∃nd r q,nds=nd::r/\At ns hs h.2 10 p=.ok (nd,q)/\qL ns hs todo q=.ok (r,z):=by
 unfold qL at e;cases e1:At ns hs h.2 10 p with
 |error b=>rw[e1]at e;cases e
 |ok y=>
  rw[e1]at e;simp only at e;cases e2:qL ns hs todo y.2 with
  |error b=>rw[e2]at e;cases e
  |ok u=>rw[e2]at e;cases e;exact⟨y.1,u.1,y.2,rfl,rfl,e2⟩
end L2
namespace L2
open PySem PySem.Spec PyProof.Rows PySem.W
theorem SQ {K:Frag}{N:Addr}{c:Value}{d:Option Addr}{es:Array DictEntry}{n:Nat}{sl:Array (Option Value)}(h:K.lookup N=some ⟨c,d,.dict es n,sl⟩)(q:(es.toList.all λe=>match e.key with| .str _ _=>true|_=>false)=true):nsOkIn K N=true:=by
 unfold nsOkIn;rw[h];rw[Array.all_toList]at q;exact q
theorem Qw {K:Frag}{CE nsC:Addr}{c:Value}{dd:Option Addr}{cd:ClassData}{sl:Array (Option Value)}(h:K.lookup CE=some ⟨c,dd,.cls cd,sl⟩)(hn:cd.ns=nsC)(ok:nsOkIn K nsC=true)(ni:nsIn K nsC "__init__"=some none)(h':Heap)(X:K.In h'):OwnTail h' Do (.ref CE::Do):=by
 subst hn;exact .own (X _ _ h) (.of_isNs (isNs_of_in X ok)) (nsMap_none_of_in X ok ni) .base
theorem Xh {K:Frag}{C CE N:Addr}{nm q:Str}{bs:List Value}{sn:List Str}{sub:List Value}{ab:Bool}{col:Option Bool}{dd:Option Addr}{k0 k1 k2 k3 k5:Option Value}{newId:String}(h:K.lookup C=some (excClassObj nm q C N bs (.ref CE::Do) true sn sub ab col dd k0 k1 k2 k3 k5 newId)):
  ∃cd,clsIn K C=some cd/\cd.hasDict=true/\ ∀self,refuseLoop self "__setattr__" cd.mro=pure ():=by
 refine⟨_,by unfold clsIn;rw[h],rfl,λself=>?_⟩;show refuseLoop self "__setattr__" (.ref C:: .ref CE::Do)=_;rw[refuseLoop_ref,refuseLoop_ref];exact F.store_ValueError.passes self
theorem Xf {P:Program}{w:World}{K:Frag}{mg:Str->Option Value}{base:Heap}{CX:JX}{k:Nat}{f:Addr}{fd:FuncData}{ps:List Str}:Bb P w K mg base CX k f fd ps (λ_ _ _ _=>False):=
 ⟨λ_ _ _ _ z=>z.elim,λ_ _ _ _ _ _ _ _ _ _ _ _ _ z=>z.elim⟩
def Dg (K:Frag)(g x q:Str)(st:Stmt)(f:Addr):Prop:=nsIn K mainGlobals g=some (some (.ref f))/\ ∃fd,wE K x q st f fd
def Dm (K:Frag)(c:Addr)(x q:Str)(st:Stmt)(f:Addr):Prop:=findIn K (.ref c) x=some (some (.ref f))/\ ∃fd,wE K x q st f fd
theorem dg_mk {K:Frag}{g x q:Str}{st:Stmt}{f:Addr}{oc:Value}{od an:Option Addr}{osl:Array (Option Value)}{kV doc pm cdv ct:Value}(a:nsIn K mainGlobals g=some (some (.ref f)))(l:K.lookup f=some ⟨oc,od,.func (fnOf x q (BR st) (uP st) (zR st) .none kV doc pm an cdv ct),osl⟩)(c:codeIn K cdv q=true)(k:keepIn K (.ref f)=true):Dg K g x q st f:=
 ⟨a,_,Xa l c k⟩
theorem dm_mk {K:Frag}{C:Addr}{x q:Str}{st:Stmt}{f:Addr}{oc:Value}{od an:Option Addr}{osl:Array (Option Value)}{kV doc pm cdv ct:Value}(a:findIn K (.ref C) x=some (some (.ref f)))(l:K.lookup f=some ⟨oc,od,.func (fnOf x q (BR st) (uP st) (zR st) .none kV doc pm an cdv ct),osl⟩)(c:codeIn K cdv q=true)(k:keepIn K (.ref f)=true):Dm K C x q st f:=
 ⟨a,_,Xa l c k⟩
theorem AY {us:List Value}{n:Nat}(h:us.length=n+1): ∃u r,us=u::r/\r.length=n:=by
 cases us with
 |nil=>cases h
 |cons u r=>exact⟨u,r,rfl,Nat.succ.inj h⟩
theorem KD {us:List Value}(h:us.length=0):us=[]:=List.length_eq_zero_iff.mp h
theorem wE.b1 {K:Frag}{x q:Str}{st:Stmt}{f:Addr}{fd:FuncData}(F:wE K x q st f fd)(p0:Str)(h: ∀(kV doc pm:Value) (an:Option Addr) (cdv ct:Value) (u0:Value),bindArgs (fnOf x q (BR st) (uP st) (zR st) .none kV doc pm an cdv ct) ⟨[u0],[]⟩=pure [(p0,u0)]):An K fd [p0] []:=
 F.binds λa b c d e g us hl=>by
  obtain⟨u0,r0,rfl,h0⟩:=AY hl;cases KD h0;exact h a b c d e g u0
theorem wE.b2 {K:Frag}{x q:Str}{st:Stmt}{f:Addr}{fd:FuncData}(F:wE K x q st f fd)(p0 p1:Str)(h: ∀(kV doc pm:Value) (an:Option Addr) (cdv ct:Value) (u0 u1:Value),bindArgs (fnOf x q (BR st) (uP st) (zR st) .none kV doc pm an cdv ct) ⟨[u0,u1],[]⟩=pure [(p0,u0),(p1,u1)]):An K fd [p0,p1] []:=
 F.binds λa b c d e g us hl=>by
  obtain⟨u0,r0,rfl,h0⟩:=AY hl;obtain⟨u1,r1,rfl,h1⟩:=AY h0;cases KD h1;exact h a b c d e g u0 u1
theorem wE.b3 {K:Frag}{x q:Str}{st:Stmt}{f:Addr}{fd:FuncData}(F:wE K x q st f fd)(p0 p1 p2:Str)(h: ∀(kV doc pm:Value) (an:Option Addr) (cdv ct:Value) (u0 u1 u2:Value),bindArgs (fnOf x q (BR st) (uP st) (zR st) .none kV doc pm an cdv ct) ⟨[u0,u1,u2],[]⟩=pure [(p0,u0),(p1,u1),(p2,u2)]):An K fd [p0,p1,p2] []:=
 F.binds λa b c d e g us hl=>by
  obtain⟨u0,r0,rfl,h0⟩:=AY hl;obtain⟨u1,r1,rfl,h1⟩:=AY h0;obtain⟨u2,r2,rfl,h2⟩:=AY h1;cases KD h2;exact h a b c d e g u0 u1 u2
theorem wE.b4 {K:Frag}{x q:Str}{st:Stmt}{f:Addr}{fd:FuncData}(F:wE K x q st f fd)(p0 p1 p2 p3:Str)(h: ∀(kV doc pm:Value) (an:Option Addr) (cdv ct:Value) (u0 u1 u2 u3:Value),bindArgs (fnOf x q (BR st) (uP st) (zR st) .none kV doc pm an cdv ct) ⟨[u0,u1,u2,u3],[]⟩=pure [(p0,u0),(p1,u1),(p2,u2),(p3,u3)]):An K fd [p0,p1,p2,p3] []:=
 F.binds λa b c d e g us hl=>by
  obtain⟨u0,r0,rfl,h0⟩:=AY hl;obtain⟨u1,r1,rfl,h1⟩:=AY h0;obtain⟨u2,r2,rfl,h2⟩:=AY h1;obtain⟨u3,r3,rfl,h3⟩:=AY h2;cases KD h3;exact h a b c d e g u0 u1 u2 u3
theorem wE.law {K:Frag}{x q:Str}{st:Stmt}{f:Addr}{fd:FuncData}(F:wE K x q st f fd)(p:Str)(h: ∀(kV doc pm:Value) (an:Option Addr) (cdv ct v:Value),bindArgs (fnOf x q (BR st) (uP st) (zR st) .none kV doc pm an cdv ct) ⟨[v],[]⟩=pure [(p,v)])(s:Shared)(v:Value):BindsTo s fd ⟨[v],[]⟩ [(p,v)]:=by
 obtain⟨oc,od,kV,doc,pm,an,cdv,ct,osl,rfl,lk,hcd⟩:=F.ex;exact .of_eq (h kV doc pm an cdv ct v)
theorem Cl {P:Program}{w:World}{K:Frag}{h:Heap}{mg:Str->Option Value}{base:Heap}{CX:JX}(X:K.In h)(G:h.Ns mainGlobals mg){x q g:Str}{st:Stmt}{f:Addr}{fd:FuncData}{k:Nat}{ps:List Str}{sp:Sp}(a:nsIn K mainGlobals g=some (some (.ref f)))(F:wE K x q st f fd)(b:An K fd ps [])(o:Bb P w K mg base CX k f fd ps sp):QK P w K mg base CX k g ps sp:=
 ⟨⟨_,_,o,mg_of X G a,F.kp,b⟩⟩
end L2
namespace L2
open PySem PySem.Spec PyProof.Rows
namespace Rv
theorem owner:Manifest.owners.lookup (String.ofList ['d','e','s','r','e','v','e','r'].reverse)=some Manifest.sig_reversed:=by kernel_rfl
theorem slot_next:Slot "reversed" "__next__" "reversed.__next__":=
 .of (owner:="reversed") (n:="__next__") (by rw[DR,Aj];kernel_rfl) (by decide+kernel) (by decide+kernel) (by decide+kernel)
  (by first|exact .inl (by decide+kernel)|exact .inr (by decide+kernel)) (by rw[BX];kernel_rfl)
theorem entry_next:entryFor table "reversed.__next__"=some Builtin.«reversed.__next__»:=entryFor_of_tree (by kernel_rfl)
theorem args_next (a:Value):argsOk "reversed.__next__" ⟨[a],[]⟩:=by
 unfold argsOk;rw[signature?_of (id:="reversed.__next__") (n:=['_','_','t','x','e','n','_','_']) (o:=['d','e','s','r','e','v','e','r']) (by kernel_rfl) owner];kernel_rfl
theorem slot_iter:Slot "reversed" "__iter__" "reversed.__iter__":=
 .of (owner:="reversed") (n:="__iter__") (by rw[DR,Aj];kernel_rfl) (by decide+kernel) (by decide+kernel) (by decide+kernel)
  (by first|exact .inl (by decide+kernel)|exact .inr (by decide+kernel)) (by rw[BX];kernel_rfl)
theorem args_iter (a:Value):argsOk "reversed.__iter__" ⟨[a],[]⟩:=by
 unfold argsOk;rw[signature?_of (id:="reversed.__iter__") (n:=['_','_','r','e','t','i','_','_']) (o:=['d','e','s','r','e','v','e','r']) (by kernel_rfl) owner];kernel_rfl
theorem entry_iter:entryFor table "reversed.__iter__"=some Builtin.«dict_keyiterator.__iter__»:=
 entryFor_alias (id':="dict_keyiterator.__iter__") (by kernel_rfl) (by first|rfl|decide+kernel|(unfold String.splitOn;simp+decide [String.splitOnAux])) (by decide+kernel) (by kernel_rfl)
theorem TM:Slot "reversed" "__init__" "object.__init__":=
 .of (owner:="object") (n:="__init__") (by rw[DR,Aj];kernel_rfl) (by decide+kernel) (by decide+kernel) (by decide+kernel)
  (by first|exact .inl (by decide+kernel)|exact .inr (by decide+kernel)) (by rw[BX];kernel_rfl)
theorem called:TypeCalled "reversed" "reversed.__new__" "object.__init__":=
 ⟨by decide+kernel,by decide+kernel,⟨_,_,F.mro_reversed⟩,F.made_reversed,by decide+kernel,by rw[BX];kernel_rfl,TM⟩
theorem tuple_no_rev:typeLookup (.type "tuple") "__reversed__"=pure none:=by rw[DR,Aj];kernel_rfl
theorem tuple_no_dict:isSubtype (.type "tuple") (.type "dict")=pure false:=by rw[BX];kernel_rfl
end Rv
end L2
namespace L2
open PySem PySem.Spec PyProof.Rows
section
variable {prog:Program}{w:World}{A:Around}{E:Value->Shared->Prop}{s:Shared}
def Pk (l:Addr)(i:Int):Obj:={cls:=.type "reversed",data:=.fields #[.ref l,rawInt i]}
def ED (h:Heap)(a l:Addr)(i:Int):Prop:= ∃o,h.get? a=some o/\o.cls=.type "reversed"/\o.data=.fields #[.ref l,rawInt i]
theorem ED.typeIs {a l:Addr}{i:Int}(x:ED s.heap a l i):s.TypeIs (.ref a) "reversed":=let⟨o,ho,hc,_⟩:=x;⟨o,ho,hc⟩
theorem ED.at {h h':Heap}{a l:Addr}{i:Int}(x:ED h a l i)(e: ∀o,h.get? a=some o->h'.get? a=some o):ED h' a l i:=let⟨o,ho,r⟩:=x;⟨o,e _ ho,r⟩
theorem UL {l:Addr}{items:Array Value}{Q₁:Value->Shared->Prop}(hl:s.heap.IsTuple l items)(hfit:(items.size:Int)<2^63)
  (h: ∀tk,Q₁ (.ref s.heap.objs.size) {s with heap:=s.heap.push (Pk l ((items.size:Int)-1)),toks:=tk}):
  codeAny (model prog w) A (.call (.builtin "reversed.__new__") ⟨[.type "reversed",.ref l],[]⟩) (wants Q₁ E) s:=by
 have hT:s.TypeIs (.ref l) "tuple":=by obtain⟨o,ho,hc,_⟩:=hl;exact⟨o,ho,hc⟩
 refine codeAny_of_tree ?_;show wpAny _ A.in1 (do checkBuiltinCall "reversed.__new__" ⟨[.type "reversed",.ref l],[]⟩;again (.builtin "reversed.__new__" ⟨[.type "reversed",.ref l],[]⟩)) _ _ s;refine zA (vT (F.newCall_reversed_1 _) (zL ⟨plainId_quiet F.plain_reversed_new _,codeAny_builtin F.entry_reversed_new ?_⟩));rw[DC F.plain_reversed_new _];unfold Builtin.«reversed.__new__»;refine zA (vT (newClass_reversed _) ?_)
 try dsimp only
 refine zA (vT (a:=()) (by first|rfl|kernel_rfl) ?_);refine zA (vT (a:=()) (by first|rfl|kernel_rfl) ?_)
 try dsimp only
 refine zA (Bl hT Rv.tuple_no_rev ?_)
 try dsimp only
 refine zA ?_;show wpAny _ _ (isInstance (.ref l) (.type "dict")>>=_) _ _ s;refine zA (Da hT Rv.tuple_no_dict ?_)
 try dsimp only
 show wpAny _ _ (specialOf (.ref l) "__getitem__">>=_) _ _ s;refine zA (Bl hT F.slot_tuple_getitem.lookup ?_)
 try dsimp only
 show wpAny _ _ (if(["tuple.__getitem__","str.__getitem__","bytes.__getitem__","bytearray.__getitem__","memoryview.__getitem__","numpy.ndarray.__getitem__","sqlite3.Row.__getitem__"].contains "tuple.__getitem__")=true then _ else _) _ _ s;rw[zQ (by decide)];refine zL ?_
 try dsimp only
 rw[zN (show ¬((!true)=true)from yB)];refine zA (len_tuple hl hfit ?_);refine zA (vT (a:=some (items.size:Int)) rfl ?_)
 try dsimp only
 refine zA ?_;show wpAny _ _ (newObj (.type "reversed") (.fields #[.ref l,rawInt ((items.size:Int)-1)])) _ _ _;refine jG ?_ (by size_fits);exact zL (h _)
theorem UN {l:Addr}{items:Array Value}{Q:Value->Shared->Prop}(hl:s.heap.IsTuple l items)(hfit:(items.size:Int)<2^63)
  (h: ∀tk,Q (.ref s.heap.objs.size) {s with heap:=s.heap.push (Pk l ((items.size:Int)-1)),toks:=tk}):wpAny (model prog w) A (call (.type "reversed") [.ref l]) Q E s:=by
 refine callType_codes (Q₁:=λobj s₁=>obj=.ref s.heap.objs.size/\ ∃tk,s₁={s with heap:=s.heap.push (Pk l ((items.size:Int)-1)),toks:=tk}) Rv.called (F.typeCall_reversed_1 _) F.entry_object_init (UL hl hfit λtk=>⟨rfl,tk,rfl⟩) ?_;rintro obj s₁ ⟨rfl,tk,rfl⟩;have hT:Shared.TypeIs {s with heap:=s.heap.push (Pk l ((items.size:Int)-1)),toks:=tk} (.ref s.heap.objs.size) "reversed":=⟨_,zT _ rfl,rfl⟩;exact⟨hT,F.args_object_init_2 _ _,object_init_meets Rv.called.init.lookup Rv.called.made (by decide) prog w A.in1 _ _ ⟨hT,rfl,h tk⟩⟩
theorem Lz {it l:Addr}{i:Nat}{items:Array Value}{x:Value}{Q:Option Value->Shared->Prop}(hit:ED s.heap it l (i:Int))(hl:s.heap.IsTuple l items)(hx:items[i]? =some x)(hfit:(items.size:Int)<2^63)
  (hQ: ∀h' tk,ED h' it l ((i:Int)-1)->Heap.SameBut it s.heap h'->Q (some x) {s with heap:=h',toks:=tk}):wpAny (model prog w) A (pyNext (.ref it)) Q E s:=by
 obtain⟨o,ho,hc,hd⟩:=id hit;have hT:s.TypeIs (.ref l) "tuple":=by obtain⟨o,ho,hc,_⟩:=hl;exact⟨o,ho,hc⟩
 have hi:i<items.size:=(Array.getElem?_eq_some_iff.mp hx).1;unfold pyNext;refine zA (wT (xY (name:=Str.ofString "__next__") hit.typeIs Rv.slot_next
  (jQ Rv.slot_next hit.typeIs Rv.entry_next ?_ (Rv.args_next _))))
 unfold Builtin.«reversed.__next__»;refine zA (vT (a:=(Value.ref it,[])) rfl ?_)
 try dsimp only
 refine zA (xM ho hd (x:=.ref l) rfl ?_);refine zA (xM ho hd (x:=rawInt (i:Int)) rfl ?_);show wpAny _ _ (if(i:Int)<0 then _ else _) _ _ s;rw[zN (by lia)];show wpAny _ _ (specialOf (.ref l) "__getitem__">>=_) _ _ s;refine zA (Bl hT F.slot_tuple_getitem.lookup ?_)
 try dsimp only
 rw[zN (show ¬((some (Value.builtin "tuple.__getitem__")).isNone =true)from yB)];refine zA (wpAny_mkInt ?_);refine zA (wT (getItem_tuple (j:=i) hl (by lia) (by lia) ?_ hx ?_))
 ·unfold seqIndex?;have e: ¬((i:Int)<0):=by lia
  simp only[zN e]
  simp[hi]
 try dsimp only
 refine zA (xM ho hd (x:=rawInt (i:Int)) rfl ?_);show wpAny _ _ (setField (.ref it) 1 (rawInt ((i:Int)-1))>>=_) _ _ _;refine zA (qS ho hd (by simp) (zL ⟨x,rfl,zL (hQ _ _ ?_ (uG ..))⟩));exact⟨_,kK _ ho (qU (jY hd _)),(BY ..).trans hc,by
  rw[jY hd];simp⟩
theorem Mw {it l:Addr}{Q:Option Value->Shared->Prop}(hh:A.handled=none)(hit:ED s.heap it l (-1))
  (hQ: ∀h',Heap.ExtBut it s.heap h'->Q none {s with heap:=h'}):wpAny (model prog w) A (pyNext (.ref it)) Q E s:=by
 obtain⟨o,ho,hc,hd⟩:=id hit;unfold pyNext;refine zA (wT (xY (name:=Str.ofString "__next__") hit.typeIs Rv.slot_next
  (jQ Rv.slot_next hit.typeIs Rv.entry_next ?_ (Rv.args_next _))))
 unfold Builtin.«reversed.__next__»;refine zA (vT (a:=(Value.ref it,[])) rfl ?_)
 try dsimp only
 refine zA (xM ho hd (x:=.ref l) rfl ?_);refine zA (xM ho hd (x:=rawInt (-1)) rfl ?_);show wpAny _ _ (if(-1:Int)<0 then _ else _) _ _ s;rw[zQ (by decide)];refine zA (EG ?_);refine zA ?_;show wpAny _ _ (setField (.ref it) 1 (rawInt (-1))>>=_) _ _ s;refine zA (qS ho hd (by simp) ?_);have hd3:=jY hd (·.setIfInBounds 1 (rawInt (-1)));have gx3:=kK (Obj.mapFields (·.setIfInBounds 1 (rawInt (-1)))) ho (qU hd3);refine qS gx3 hd3 (by simp) ?_;refine zA ?_;show wpAny _ _ (newExc (.type "StopIteration") []>>=_) _ _ _;refine zA ?_;simp only[newExc,newTuple];refine zA (jG ?_ (by size_fits));refine zA (m:=firstArgMember _ _) (vT (a:=Value.none) (by first|rfl|(simp only[firstArgMember];rfl)) ?_);refine jG ?_ (by size_fits);simp only[raiseNew];refine zA (wpAny_handled ?_)
 first|rw[show A.in1.handled=none from hh]|rw[hh]
 refine zA (zL (wpAny_throw ?_));refine zA (Da (T:="StopIteration") (b:=true) ⟨_,zT _ rfl,rfl⟩ isSubtype_stop ?_);refine zL (hQ _ (λb ob hb e=>zC _ (zC _ ?_)));rw[xT _ _ (Ne.symm hb),xT _ _ (Ne.symm hb)];exact e
theorem Nh {it l:Addr}{i:Int}{Q:Value->Shared->Prop}(hit:ED s.heap it l i)(h:Q (.ref it) s):wpAny (model prog w) A (pyIter (.ref it)) Q E s:=by
 refine wpAny_pyIter_slot hit.typeIs Rv.slot_iter (jQ Rv.slot_iter hit.typeIs Rv.entry_iter ?_ (Rv.args_iter _));show wpAny _ _ (ret (.ref it)) _ _ s;exact zL ⟨_,rfl,"reversed",_,hit.typeIs,Rv.slot_next.lookup,h⟩
end
def Itv (K:PySem.W.Frag)(a:Addr)(n:Nat):It:=
 ⟨λi H=> ∃xs x,uS K H a xs/\xs.length=n/\xs.reverse[i]? =some x,λi H x H'=>H'=H/\ ∀xs,uS K H a xs->xs.reverse[i]? =some x,λi H=>(∃xs,uS K H a xs/\xs.length=n)/\n<=i⟩
theorem Vh {P:Program}{w:World}{K:PySem.W.Frag}{tg:Expr}(a it:Addr)(n:Nat):Me P w K tg (Itv K a n) [it] it (λi h=>i<=n/\ED h it a ((n:Int)-1-(i:Int))) where
 mem:=by simp
 obj:=λi h st b hb=>by
  have e:b=it:=by simpa using hb
  subst e;obtain⟨_,o,e,c,d⟩:=st;exact⟨o,e,λv z=>by rw[d]at z;cases z⟩
 keep:=λi h h' st k=>⟨st.1,st.2.at λo e=>k it (by simp) o e⟩
 item:=by
  intro X hP hw hK hc i pins s σ H E I hf st hg;subst hP hw hK;obtain⟨xs,x,hq,hn,hx⟩:=hg;obtain⟨its,rv,p,hz⟩:=I.tuple hq;have hi:i<xs.length:=by
   have:=(List.getElem?_eq_some_iff.mp hx).1
   simpa using this
  have hx':xs[n-1-i]? =some x:=by
   rw[CJ hi,hn]at hx;exact hx
  obtain⟨u,hu,ru⟩:=rv.get hx';obtain⟨f0,f1,f2,f3,f4,f5⟩:=hf it (by simp);have e1:(n:Int)-1-(i:Int)=((n-1-i:Nat):Int):=by lia
  have hl:=rv.length;have h63:=Fj;refine Lz (i:=n-1-i) (by rw[<-e1];exact st.2) (show s.heap.IsTuple a its.toArray from p) (x:=u) (by simpa using hu) (by simp only[zU];lia) λh' tk st' sb=>?_;have I1:xK X pins σ H {s with heap:=h',toks:=tk}:=I.turned (t':=tk) (λb o hb e=>(sb.2 b hb).trans e) f0 f1 f3 f4 f5;obtain⟨o,e,c,d⟩:=id st';have e2:((n-1-i:Nat):Int)-1=(n:Int)-1-((i+1:Nat):Int):=by lia
  rw[e2]at st';exact⟨u,rfl,Nn (s:={s with heap:=h',toks:=tk}) e c d (by decide) ⟨x,H,I1,ru,⟨rfl,λys hy=>by rw[I.tuple_inj hy hq];exact hx⟩,⟨by lia,st'⟩,λb hb=>(hf b hb).1⟩⟩
 done:=by
  intro X hP hw hK hc i pins s σ H E I hf st hg;subst hP hw hK;obtain⟨f0,f1,f2,f3,f4,f5⟩:=hf it (by simp);have hi:i=n:=by have:=st.1;have:=hg.2;lia
  have e1:(n:Int)-1-(i:Int)= -1:=by lia
  have st2:=st.2;rw[e1]at st2;exact Mw (I.ok.hd hc) st2 λh' eb=>⟨rfl,I.turned (t':=s.toks) (λb o hb e=>eb b o hb e) f0 f1 f3 f4 f5⟩
 self:=λ_ _ _ _ _ st h=>Nh st.2 h
inductive ZB (K:PySem.W.Frag) (vs:List V) (H1:Hp) (R:It->Hp->Prop):Prop
 |mk (a xs:_) (h0:vs=[.ref a]) (h1:uS K H1 a xs) (h2:R (Itv K a xs.length) H1):ZB K vs H1 R
def zIa (K:PySem.W.Frag)(ta:TA):TI:=λσ H R=>ta σ H λvs H1=>ZB K vs H1 R
theorem zAr {X:Cx}{tg a:Expr}{ta:TA}{p pos:Pos}(hg:Gl X "reversed")(hm:X.mg "reversed"=none)(ha:PA X [a] ta)(hs:starEach [a] X.env=[(false,eval a X.env)]:=by rfl):PI X tg (.Call (.Name "reversed" p) [a] [] pos) (zIa X.K ta):=by
 refine⟨?_⟩;intro pins s σ H R I h;refine Call_ (Fk I hg hm Kj (jC (qV (ha pos pins s σ H _ I h) λus s1 ⟨vs,H1,I1,r1,q1⟩=>?_) hs rfl));obtain⟨b,xs,e,hq,q⟩:=q1;subst e;cases r1 with
 |cons r rr=>
  cases rr;cases r;obtain⟨its,rv,pl,hz⟩:=I1.tuple hq;have hl:=rv.length;have h63:=Fj;refine UN (show s1.heap.IsTuple b its.toArray from pl) (by simp only[zU];lia) λtk=>?_;have I2:xK X pins σ H1 {s1 with heap:=s1.heap.push (Pk b (((its.toArray).size:Int)-1)),toks:=tk}:=I1.kept λb o e=>zC _ e;have st:ED (s1.heap.push (Pk b (((its.toArray).size:Int)-1))) s1.heap.objs.size b ((xs.length:Int)-1-((0:Nat):Int)):=⟨_,zT _ rfl,rfl,by rw[zU,hl];simp[Pk]⟩;refine Nh (s:={s1 with heap:=s1.heap.push (Pk b (((its.toArray).size:Int)-1)),toks:=tk}) st ?_;refine⟨s1.heap.objs.size,[s1.heap.objs.size],_,_,H1,rfl,I2,Vh b _ xs.length,⟨xH _,st⟩,λc hc=>?_,q⟩;have e:c=s1.heap.objs.size:=by simpa using hc
  subst e;exact I1.fpOk (zP _) (I1.hok.fresh (zP _))
theorem YJ {K:PySem.W.Frag}{a:Addr}{xs:List V}{g:TG}{tb:TS}{D:Gz}{σ:St}{H:Hp}(Pv:Nat->St->Hp->Prop)(h0:Pv 0 σ H)(hl: ∀i σ H,i<=xs.length->Pv i σ H->uS K H a xs)
  (hs: ∀i x σ H,xs.reverse[i]? =some x->Pv i σ H->g x σ H λσ2 H2=>tb {D with nx:=Pv (i+1),ct:=Pv (i+1),bk:=D.nx} σ2 H2) (hd: ∀σ H,Pv xs.length σ H->D.nx σ H):
  ∃W:Nat->Nat->St->Hp->Prop,(∃m,W 0 m σ H)/\ ∀i m σ H,W i m σ H->
   ((Itv K a xs.length).stop i H/\D.nx σ H)\/((Itv K a xs.length).go i H/\ ∃N:St->Hp->Prop,(∀σ' H',N σ' H'-> ∃m',m'<m/\W (i+1) m' σ' H')/\ ∀x H',(Itv K a xs.length).yld i H x H'->g x σ H' λσ2 H2=>tb {D with nx:=N,ct:=N,bk:=D.nx} σ2 H2):=by
 refine⟨λi m σ H=>m=xs.length-i/\i<=xs.length/\Pv i σ H,⟨xs.length,by simp,xH _,h0⟩,?_⟩;rintro i m σ H ⟨rfl,hi,p⟩;have q:=hl i σ H hi p
 by_cases hlt:i<xs.length
 ·refine .inr ⟨⟨xs,xs.reverse[i]'(by simpa using hlt),q,rfl,by simp[hlt]⟩,Pv (i+1),λσ' H' p'=>⟨xs.length-(i+1),by lia,rfl,hlt,p'⟩,λx H' y=>?_⟩;obtain⟨e,y⟩:=y;subst e;exact hs i x σ _ (y xs q) p
 ·have e:i=xs.length:=by lia
  subst e;exact .inl ⟨⟨⟨xs,q,rfl⟩,zP _⟩,hd σ H p⟩
end L2
namespace L2
open PySem
mutual
def pre:Nd->List Nd
 | .mk k p own ps=>.mk k p own ps::jR ps
def jR:List Nd->List Nd
 |[]=>[]
 |a::r=>pre a++jR r
end
theorem uL: ∀(xs ys:List Nd),jR (xs++ys)=jR xs++jR ys
 |[],ys=>by simp[jR]
 |a::r,ys=>by simp[jR,uL r ys]
theorem Yb: ∀n:Nd,1<=(pre n).length
 | .mk k p own ps=>by simp[pre]
theorem Lq: ∀xs:List Nd,xs.length<=(jR xs).length
 |[]=>by simp[jR]
 |a::r=>by
  have:=Yb a;have:=Lq r
  simp[jR];lia
theorem Gu: ∀xs:List Nd,(jR xs.reverse).length =(jR xs).length
 |[]=>rfl
 |a::r=>by simp[jR,uL,Gu r];lia
theorem qA.more {H:Hp}: ∀{d:Nat} {v:V} {n:Nd},qA H d v n->qA H (d+1) v n
 |0,_,_,z=>z.elim
 |d+1,v,.mk k p own ps,⟨t,o,q,vs,e,h1,h2,h3,r⟩=>⟨t,o,q,vs,e,h1,h2,h3,Paired.imp (λ_ _ z=>qA.more z) r⟩
theorem Kc {f:Nat->Except Ko (Nd×Nat)}(hf: ∀p nd z,f p=.ok (nd,z)->p+(pre nd).length<=z): ∀{n p z:Nat} {ps:List Nd},wY f n p=.ok (ps,z)->p+(jR ps).length<=z
 |0,_,_,_,h=>by cases h;simp[jR]
 |n+1,p,z,ps,h=>by
  cases ps with
  |nil=>exact absurd (JN h).1 (by lia)
  |cons a ps=>
   obtain⟨q,e1,e2⟩:=IB h;have:=hf _ _ _ e1;have:=Kc hf e2
   simp[jR];lia
theorem Ly {ns:List Int}{hs:wC}{boxes:Int}: ∀{d p z:Nat} {nd:Nd},At ns hs boxes d p=.ok (nd,z)->p+(pre nd).length<=z
 |0,_,_,_,h=>by cases h
 |d+1,p,z,nd,h=>by
  obtain⟨k,own,ps,rfl,k0,k1,ek,eo,ep⟩:=OG h;have:=Kc (λp nd z e=>Ly (d:=d) e) ep
  simp[pre];lia
theorem Jl {ns:List Int}{hs:wC}: ∀{todo:wC} {p z:Nat} {nds:List Nd},qL ns hs todo p=.ok (nds,z)->p+(jR nds).length<=z
 |[],_,_,_,h=>by cases h;simp[jR]
 |x::todo,p,z,nds,h=>by
  obtain⟨nd,r,q,rfl,e1,e2⟩:=Kk h;have:=Ly e1;have:=Jl e2
  simp[jR];lia
theorem UA {ns:List Int}{r:wC×List Nd}(h:jL ns=.ok r):(jR r.2).length<=ns.length:=by
 have:=Jl (Xe h).2.1;lia
inductive Jv (vs:List V) (H:Hp) (Q:VK) (E:XK):Prop
 |mk (v nd:_) (h0:vs=[v]) (h1:qA H 10 v nd) (h2:(pre nd).length<=1000000) (h3: ∀l us H',yU H H'->H l=none->H' l=some (.lst us)->Paired (qA H' 10) us (pre nd)->Q (.ref l) H'):Jv vs H Q E
inductive NK (CN:Addr) (vs:List V) (H:Hp) (Q:VK) (E:XK):Prop
 |mk (a ns:_) (h0:vs=[.ref a]) (h1:H a=some (.lst (ns.map V.int))) (h2:ns.length<=1000000) (h3:Jm (jL ns) (λr=> ∀l us H',yU H H'->H l=none->H' l=some (.lst us)->Paired (qA H' 10) us (jR r.2)->Q (.ref l) H') (λp w=> ∀d H',yU H H'->H' d=some (Mg d [("place",.int p),("word",.str w)])->E (.ref CN) (some d) H')):NK CN vs H Q E
theorem Paired.append {α β:Type}{F:α->β->Prop}: ∀{xs zs:List α} {ys ws:List β},Paired F xs ys->Paired F zs ws->Paired F (xs++zs) (ys++ws)
 |_,_,_,_,.nil,q=>q
 |_,_,_,_,.cons r t,q=>.cons r (Paired.append t q)
theorem Paired.rev {α β:Type}{F:α->β->Prop}: ∀{xs:List α} {ys:List β},Paired F xs ys->Paired F xs.reverse ys.reverse
 |_,_,.nil=>.nil
 |_,_,.cons r t=>by
  rw[List.reverse_cons,List.reverse_cons];exact Paired.append (Paired.rev t) (.cons r .nil)
theorem Paired.unsnoc {α β:Type}{F:α->β->Prop}: ∀{xs:List α} {x:α} {ys:List β},Paired F (xs++[x]) ys-> ∃ys' y,ys=ys'++[y]/\Paired F xs ys'/\F x y
 |[],x,_,.cons r .nil=>⟨[],_,rfl,.nil,r⟩
 |a::xs,x,_,.cons r t=>by
  obtain⟨ys',y,rfl,p,f⟩:=Paired.unsnoc t;exact⟨_::ys',y,rfl,.cons r p,f⟩
theorem yU.fresh {H H':Hp}{p:Addr}{o:HO}(s:yU H H')(h:H p=none):yU H (upd H' p o):=λb u e=>by rw[zW (zZ e h)];exact s b u e
theorem Yk {ns:List Int}{hs:wC}{boxes k:Int}{p:Nat}{own:List Int}(k0:0<=k)(h:FE ns hs boxes k p=.ok own):Sub ns p own:=by
 rcases Wb k0 h with⟨_,n,rfl,e⟩|⟨_,rfl⟩
 ·exact⟨e,trivial⟩
 ·exact trivial
theorem OX {ns:List Int}: ∀{zs:List Int} {p:Nat},Sub ns p zs->ns.take (p+zs.length)=ns.take p++zs
 |[],p,_=>by simp
 |z::zs,p,h=>by
  have:=OX h.2;rw[show p+(z::zs).length =p+1+zs.length by simp;lia,this,jT,h.1]
  simp
theorem Os {X:Cx}{pos:Pos}{es:List Expr}{k:Nat}{t:YY}{n:Nat}(K:PySem.W.Frag)(hK:X.K=K)(hc:X.calm=true)(h:ZH X es t)(hn:(assignEach es X.env).length =n:=by rfl)(hst:(assignEach es X.env).findIdx? (·.1)=none:=by rfl):PG X (.Tuple es k pos) (zBt K n t):=by
 subst hK;exact uJ hc h hn hst
end L2
namespace L2
open PySem PySem.Spec PyProof.Rows
theorem QW {a b c:Int}(hc:c=2\/c=3)(ha: -(2^62)<=a)(ha':a<2^62)(hb: -(2^62)<=b)(hb':b<2^62):Builtin.Range.small a b c=true:=by
 unfold Builtin.Range.small Builtin.Range.rangeSize
 rcases hc with e|e<;>subst e<;>simp only[Builtin.Range.rangeFitsLong,qK,Bool.or_eq_true,decide_eq_true_eq,beq_iff_eq,show((2:Int) > 0)by decide,show((3:Int) > 0)by decide,Bm]<;>split<;>lia
def Itp (lo c:Int)(n:Nat):It:=⟨λi _=>i<n,λi H x H'=>H'=H/\x=.int (lo+i*c),λi _=>n<=i⟩
theorem TC {P:Program}{w:World}{K:PySem.W.Frag}{tg:Expr}(it:Addr)(lo c:Int)(n:Nat):Me P w K tg (Itp lo c n) [it] it (λi h=>IsRangeIter h it (lo+(i:Nat)*c) ((n:Int)-(i:Nat)) c) where
 mem:=by simp
 obj:=λi h st b hb=>by
  have e:b=it:=by simpa using hb
  subst e;exact⟨_,st,λv z=>by
   have z':Data.fields _=Data.cell v:=z;cases z'⟩
 keep:=λi h h' st k=>k it (by simp) _ st
 item:=by
  intro X hP hw hK hc i pins s σ H E I hf st hg;subst hP hw hK;obtain⟨f0,f1,f2,f3,f4,f5⟩:=hf it (by simp);have W:=Walks.range (prog:=X.prog) (w:=X.w) (I.ok.hd hc) it lo c n;refine W.item i s _ _ hg st λv h' tk hv st' kk=>?_;obtain⟨t,rfl⟩:=hv;have I1:xK X pins σ H {s with heap:=h',toks:=tk}:=I.turned (λb o hb e=>kk b o (by simpa using hb) e) f0 f1 f3 f4 f5;refine⟨_,rfl,Nn (s:={s with heap:=h',toks:=tk}) (n:="range_iterator") st' rfl rfl (by decide) ⟨.int (lo+i*c),H,I1,⟨t,rfl⟩,⟨rfl,rfl⟩,st',λb hb=>(hf b hb).1⟩⟩
 done:=by
  intro X hP hw hK hc i pins s σ H E I hf st hg;subst hP hw hK;obtain⟨f0,f1,f2,f3,f4,f5⟩:=hf it (by simp);exact wpAny_pyNext_range_end (I.ok.hd hc) st (by have:n<=i:=hg;lia) λh' eb=>⟨rfl,I.turned (t':=s.toks) (λb o hb e=>eb b o hb e) f0 f1 f3 f4 f5⟩
 self:=λ_ _ _ _ _ st h=>wpAny_pyIter_rangeiter st h
inductive WN (vs:List V) (H1:Hp) (R:It->Hp->Prop):Prop
 |mk (i j c:Int) (n:Nat) (h0:vs=[.int i,.int j,.int c]) (h1:(-(2^62)<=i/\i<2^62/\ -(2^62)<=j/\j<2^62)) (h2:(c=2\/c=3)) (h3:Builtin.Range.rangeSize i j c=(n:Int)) (h4:R (Itp i c n) H1):WN vs H1 R
def zEc (ta:TA):TI:=λσ H R=>ta σ H λvs H1=>WN vs H1 R
theorem Yc {X:Cx}{tg a b c:Expr}{ta:TA}{p pos:Pos}(hg:Gl X "range")(hm:X.mg "range"=none)(ha:PA X [a,b,c] ta)(hs:starEach [a,b,c] X.env=(false,eval a X.env)::starEach [b,c] X.env:=by rfl)(hpl:(backTo pos (starEach [b,c] X.env)).any (·.1)=false:=by rfl):
  PI X tg (.Call (.Name "range" p) [a,b,c] [] pos) (zEc ta):=by
 refine⟨?_⟩;intro pins s σ H R I h;refine Call_ (Fk I hg hm boot_range (jC (qV (ha pos pins s σ H _ I h) λus s1 ⟨vs,H1,I1,r1,q1⟩=>?_) hs hpl));obtain⟨i,j,c,n,e,⟨q1,q2,q3,q4⟩,hc,hn,q⟩:=q1;subst e;cases r1 with
 |cons r rr=>
  cases rr with
  |cons r' rr=>
   cases rr with
   |cons r'' rr=>
    cases rr;obtain⟨t,rfl⟩:=r;obtain⟨t',rfl⟩:=r';obtain⟨t'',rfl⟩:=r'';refine call_range_3 (by lia) ?_ (.inl (PyProof.noPylong_small (by lia)));refine wpAny_pyIter_range (IsRange.new ..) (QW hc q1 q2 q3 q4) ?_;have I2:xK X pins σ H1 {s1 with heap:=s1.heap.push {cls:=.type "range",data:=.fields #[.int i t,.int j t',.int c t'']},toks:=s1.toks}:=I1.kept λb o e=>zC _ e;refine⟨_,[_],_,_,H1,rfl,I2.kept (t':=s1.toks) λb o e=>zC _ e,TC _ i c n,?_,λb hb=>?_,q⟩
    ·have e1:i+((0:Nat):Int)*c=i:=by simp
     show IsRangeIter _ _ (i+((0:Nat):Int)*c) ((n:Int)-((0:Nat):Int)) c;rw[e1,Int.natCast_zero,Int.sub_zero,<-hn];exact zT _ rfl
    ·have e:=List.mem_singleton.mp hb;subst e;exact I2.fpOk (zP _) (I2.hok.fresh (zP _))
theorem UK {lo c:Int}{n:Nat}{g:TG}{tt:TT}{te:TE}{R:Hp->Prop}{p:Addr}{σ0:St}{H0:Hp}(Pv:Nat->St->Hp->Prop)(h0:Pv 0 σ0 H0)
  (hs: ∀i σ H,i<n->Pv i σ H->g (.int (lo+(i:Nat)*c)) σ H λσ3 H3=>tt σ3 H3 λb H4=>
   if b=true then te σ3 H4 λv H5=> ∃ys,H5 p=some (.lst ys)/\ys.length<sizeLine/\ ∃m',m'<n-i/\CW n Pv (i+1) m' σ3 (upd H5 p (.lst (ys++[v])))
   else ∃m',m'<n-i/\CW n Pv (i+1) m' σ3 H4)
  (hd: ∀σ H,Pv n σ H->R H):JW (Itp lo c n) p σ0 H0 g tt te R:=by
 refine⟨CW n Pv,⟨_,xH _,rfl,h0⟩,λi m σ' H' w=>?_⟩;obtain⟨hi,rfl,hp⟩:=w
 by_cases hlt:i<n
 ·refine .inr ⟨hlt,λx H2 y=>?_⟩;obtain⟨e,y⟩:=y;subst e y;exact hs i σ' _ hlt hp
 ·have e:i=n:=by lia
  subst e;exact .inl ⟨zP _,hd σ' H' hp⟩
theorem TV: ∀(bs:List Bool),(List.range bs.length).all (λi=>bs.getD i true)=bs.all id:=by
 intro bs;rw[vL,De,De];constructor
 ·intro h b hb;obtain⟨i,hi⟩:=List.mem_iff_getElem?.mp hb;have hl:=(List.getElem?_eq_some_iff.mp hi).1;have:=h i (List.mem_range.mpr hl);rw[xV,hi]at this;exact this
 ·intro h i hi;have hl:=List.mem_range.mp hi;have e:=zG hl;rw[xV,e];exact h _ (kY hl)
section
variable {X:Cx}
theorem FR (hc:X.calm=true):FU X (.builtin "all") (λxs H Q=> ∃(p:Addr) (bs:List Bool),xs=[.ref p]/\kS X.K H p (bs.map V.bl)/\Q (.bl (bs.all id)) H):=by
 intro pins s σ H xs us Q I r h;obtain⟨p,bs,rfl,hq,q⟩:=h;obtain⟨u,rfl,ru⟩:=JY r;cases ru;obtain⟨its,rv,pl,hz⟩:=I.list hq;have hlen:=rv.length;rw[zF]at hlen;refine call_all_walk (vS pl.isList ?_);have hp:p<s.heap.objs.size:=by
  obtain⟨o,ho,_⟩:=pl.isList;exact zS ho
 refine⟨s.heap.objs.size,[s.heap.objs.size,p],[s.heap.objs.size],its.toArray.size,_,_,λi=>bs.getD i true,rfl,Walks.list (A:=X.A.in1) (I.ok.hd hc) _ p (xA hp) its.toArray,⟨⟨_,zT _ rfl,rfl,rfl⟩,pl.isList.at λo e=>zC _ e⟩,?_,λh' tk hk=>?_⟩
 ·intro i v s1 Q1 E1 hv h1;have hv':its[i]? =some v:=by simpa using hv
  have hi:i<bs.length:=by
   have:=(List.getElem?_eq_some_iff.mp hv').1;lia
  have eb:(bs.map V.bl)[i]? =some (.bl bs[i]):=by rw[yQ,zG hi]<;>rfl
  have rel:=Paired.get rv i _ _ eb hv';obtain rfl:v=Value.bool bs[i]:=rel;have:bs.getD i true=bs[i]:=by rw[xV,zG hi]<;>rfl
  have h2:Q1 (bs.getD i true) s1:=h1;rw[this]at h2;exact zL h2
 ·have e:(List.range its.toArray.size).all (λi=>bs.getD i true)=bs.all id:=by
   rw[zU,<-hlen];exact TV bs
  rw[e];refine⟨.bl (bs.all id),H,I.kept (t':=tk) λb o eb=>hk b o ?_ (zC _ eb),rfl,q⟩;intro z;have:=zS eb;rw[List.mem_singleton.mp z]at this;exact jS _ this
def zDr (K:PySem.W.Frag):List V->Hp->VK->Prop:=λxs H Q=> ∃(a tp:Addr) (ns:List String) (b:Bool) (T:String),xs=[.ref a,.ref tp]/\H tp=some (.tup (ns.map V.ty))/\((T="list"/\ ∃ys,kS K H a ys)\/(T="tuple"/\ ∃ys,uS K H a ys))/\PySem.W.kitAny K (.type T) (ns.map Value.type)=some b/\Q (.bl b) H
theorem Sn: ∀{ns:List String} {us:List Value},jK (ns.map V.ty) us->us=ns.map Value.type
 |[],_,.nil=>rfl
 |n::ns,_,.cons h t=>by
  rw[Sn t,xG];congr 1
theorem Nv:FU X (.builtin "isinstance") (zDr X.K):=by
 intro pins s σ H xs us Q I r h;obtain⟨a,tp,ns,b,T,rfl,ht,hx,e,q⟩:=h;obtain⟨u,w',rfl,ru,rw'⟩:=IJ r;cases ru;cases rw';obtain⟨_,its2,r2,p⟩:=(show qR X.prog X.w H s.heap tp (.tup (ns.map V.ty))from I.hok tp _ ht);obtain⟨⟨oc,od,oda,osl⟩,h1,h2,n2,h3⟩:=p;dsimp only at h2 h3;subst h2 h3;have hv:=Sn r2;subst hv
 rcases hx with⟨rfl,ys,hq⟩|⟨rfl,ys,hq⟩
 ·obtain⟨its,rv,pl,hz⟩:=I.list hq;obtain⟨o,ho,hcl⟩:=pl.isList;exact PySem.W.kia_tup Fc I.kIn ⟨o,ho,hcl.1⟩ h1 e (λz=>nomatch z) λtk=>⟨.bl b,H,I.tok tk,rfl,q⟩
 ·obtain⟨its,rv,pl,hz⟩:=I.tuple hq;obtain⟨o,ho,hcl,_⟩:=pl;exact PySem.W.kia_tup PySem.W.kitx_tuple I.kIn ⟨o,ho,hcl⟩ h1 e (λz=>nomatch z) λtk=>⟨.bl b,H,I.tok tk,rfl,q⟩
end
theorem Jk:bootBuiltins "enumerate"=some (.type "enumerate"):=by decide+kernel
theorem xK.turned2 {X:Cx}{pins:List (Addr×Obj)}{σ:St}{H:Hp}{s:Shared}{h':Heap}{t':Nat}{e it:Addr}(I:xK X pins σ H s)(k: ∀b o,b≠e->b≠it->s.heap.get? b=some o->h'.get? b=some o)(f:HW X pins H e)(g:HW X pins H it):
  xK X pins σ H {s with heap:=h',toks:=t'}:=by
 obtain⟨a0,a1,a2,a3,a4,a5⟩:=f;obtain⟨b0,b1,b2,b3,b4,b5⟩:=g;have ne1: ∀b u,H b=some u->b≠e:=λb u q z=>by rw[z,a0]at q;cases q
 have ne2: ∀b u,H b=some u->b≠it:=λb u q z=>by rw[z,b0]at q;cases q
 have out: ∀{b:Addr},b∉[e,it]->b≠e/\b≠it:=fun{b} hc=>⟨λz=>hc (by simp[z]),λz=>hc (by simp[z])⟩;refine I.step (g':=s.gens) (d':=s.drawn) (ch:=[e,it]) (λb hb=>?_) (λb o _ _ hc q _=>k b o (out hc).1 (out hc).2 q) (λb o _ _ hc q _=>⟨o.slots,k b o (out hc).1 (out hc).2 q⟩) (λ_ _ _ _ n=>n)
  (λb o hc q=>⟨o,k b o (out hc).1 (out hc).2 q⟩) (λ_ _ q=>q) (λ_ _ _ q=>q) (λb ps q=>⟨#[],by rw[q];simp⟩) (λm hm=>?_) (λb u q=>?_) I.bare
 ·rcases List.mem_cons.mp hb with z|z
  ·rw[z];exact⟨a3,a1,a4,a5⟩
  ·rw[List.mem_singleton.mp z];exact⟨b3,b1,b4,b5⟩
 ·obtain⟨o,es,ep,ho,r⟩:=hm;exact⟨o,es,ep,k _ o (Ne.symm a1) (Ne.symm b1) ho,r⟩
 ·refine(I.hok b u q).stay (λc v hc x=>k c v ?_ ?_ x) (λ_ x=>x) λ_ _ x=>x
  ·rcases hc with z|z
   ·rw[z];exact ne1 b u q
   ·exact ne1 c _ z
  ·rcases hc with z|z
   ·rw[z];exact ne2 b u q
   ·exact ne2 c _ z
def Ite (K:PySem.W.Frag)(a:Addr):It:=
 ⟨λi H=> ∃xs x,kS K H a xs/\xs[i]? =some x,λi H y H'=> ∃t x,y=.ref t/\H t=none/\H'=upd H t (.tup [.int (i:Nat),x])/\ ∀xs,kS K H a xs->xs[i]? =some x,λi H=> ∃xs,kS K H a xs/\xs.length<=i⟩
theorem TH {P:Program}{w:World}{K:PySem.W.Frag}{elts:List Expr}{x1:Nat}{pos:Pos}(a e it:Addr)(hne:e≠it):
  Me P w K (.Tuple elts x1 pos) (Ite K a) [e,it] e (λi h=>(∃old,IsEnum h e it (i:Nat) old)/\h.IsListIter it a i) where
 mem:=by simp
 obj:=λi h st b hb=>by
  obtain⟨⟨old,he⟩,o,e1,c,d⟩:=st
  rcases List.mem_cons.mp hb with z|z
  ·subst z;exact⟨_,he,λv z=>by cases z⟩
  ·rw[List.mem_singleton.mp z];exact⟨o,e1,λv z=>by rw[d]at z;cases z⟩
 keep:=λi h h' st k=>⟨⟨_,k e (by simp) _ st.1.choose_spec⟩,st.2.at λo q=>k it (by simp) o q⟩
 item:=by
  intro X hP hw hK hc i pins s σ H E I hf st hg;subst hP hw hK;obtain⟨xs,x,hq,hx⟩:=hg;obtain⟨its,rv,p,hz⟩:=I.list hq;obtain⟨u,hu,ru⟩:=rv.get hx;obtain⟨⟨old,he⟩,hit⟩:=st;have fe:=hf e (by simp);have fi:=hf it (by simp);refine wpAny_pyNext_enum_item he hit p.isList (x:=u) (by simpa using hu) hne λh' out hit' htup hsz hk=>?_;have elt:e<s.heap.objs.size:=zS he;have ilt:it<s.heap.objs.size:=by
   obtain⟨o,ho,_⟩:=hit;exact zS ho
  refine⟨.ref s.heap.objs.size,rfl,wpAny_letOwnedTupleGo_enum out λh'' he'' hs''=>?_⟩;have fresh:=I.hok.fresh (zP s.heap.objs.size);have I1:=I.laid (a:=s.heap.objs.size) (o:=.tup [.int (i:Nat),x]) (h':=s.heap.push {cls:=.type "tuple",data:=.seq #[.int (i:Nat) s.toks,u]}) (t':=s.toks) (λb o q=>zC _ q) (zP _)
   ⟨sm2,[.int (i:Nat) s.toks,u],.cons ⟨_,rfl⟩ (.cons ru .nil),Gf _ _⟩
  have fe':HW X pins (upd H s.heap.objs.size (.tup [.int (i:Nat),x])) e:=⟨by rw[zW (xA elt)];exact fe.1,fe.2⟩;have fi':HW X pins (upd H s.heap.objs.size (.tup [.int (i:Nat),x])) it:=⟨by rw[zW (xA ilt)];exact fi.1,fi.2⟩;have I2:=I1.turned2 (h':=h'') (t':=s.toks+1) (λb o hbe hbi q=>?_) fe' fi'
  ·refine⟨.ref s.heap.objs.size,_,I2,rfl,⟨s.heap.objs.size,x,rfl,fresh,rfl,λys hy=>by rw[I.list_inj hy hq];exact hx⟩,⟨⟨u,he''⟩,hit'.at λo q=>(hs''.2 it (Ne.symm hne)).trans q⟩,λb hb=>?_⟩
   rcases List.mem_cons.mp hb with z|z
   ·rw[z];exact fe'.1
   ·rw[List.mem_singleton.mp z];exact fi'.1
  ·rw[hs''.2 b hbe]
   by_cases hb:b=s.heap.objs.size
   ·subst hb;rw[htup];rw[<-q];exact(zT _ rfl).symm
   ·refine hk b o hbe hbi ?_
    rcases DB q with⟨z,_⟩|z
    ·exact absurd z hb
    ·exact z
 done:=by
  intro X hP hw hK hc i pins s σ H E I hf st hg;subst hP hw hK;obtain⟨xs,hq,hx⟩:=hg;obtain⟨its,rv,p,hz⟩:=I.list hq;obtain⟨⟨old,he⟩,hit⟩:=st;have hl:=rv.length;obtain⟨f0,f1,f2,f3,f4,f5⟩:=hf it (by simp);exact wpAny_pyNext_enum_end (I.ok.hd hc) he hit p.isList (by simp;lia) λh' eb=>⟨rfl,I.turned (t':=s.toks) (λb o hb q=>eb b o hb q) f0 f1 f3 f4 f5⟩
 self:=λ_ _ _ _ _ st h=>by
  obtain⟨⟨old,he⟩,_⟩:=st;exact BT he h
inductive WR (K:PySem.W.Frag) (vs:List V) (H1:Hp) (R:It->Hp->Prop):Prop
 |mk (a xs:_) (h0:vs=[.ref a]) (h1:kS K H1 a xs) (h2:R (Ite K a) H1):WR K vs H1 R
def zEg (K:PySem.W.Frag)(ta:TA):TI:=λσ H R=>ta σ H λvs H1=>WR K vs H1 R
theorem SJ {X:Cx}{elts:List Expr}{x1:Nat}{tpos:Pos}{l:Expr}{ta:TA}{p pos:Pos}(hg:Gl X "enumerate")(hm:X.mg "enumerate"=none)(ha:PA X [l] ta)(hs:starEach [l] X.env=[(false,eval l X.env)]:=by rfl):PI X (.Tuple elts x1 tpos) (.Call (.Name "enumerate" p) [l] [] pos) (zEg X.K ta):=by
 refine⟨?_⟩;intro pins s σ H R I h;refine Call_ (Fk I hg hm Jk (jC (qV (ha pos pins s σ H _ I h) λus s1 ⟨vs,H1,I1,r1,q1⟩=>?_) hs rfl));obtain⟨a,xs,e,hq,q⟩:=q1;subst e;obtain⟨u,rfl,ru⟩:=JY r1;cases ru;obtain⟨its,rv,pl,hz⟩:=I1.list hq;refine call_enumerate_list pl.isList λh' he hit hsz hk=>?_;refine BT (s:={s1 with heap:=h'}) he ?_;have I2:xK X pins σ H1 {s1 with heap:=h'}:=I1.kept (t':=s1.toks) hk;refine⟨_,[s1.heap.objs.size+1,s1.heap.objs.size],_,_,H1,rfl,I2,TH a (s1.heap.objs.size+1) s1.heap.objs.size (Nat.succ_ne_self _),⟨⟨_,he⟩,hit⟩,λb hb=>?_,q⟩
 rcases List.mem_cons.mp hb with z|z
 ·rw[z];exact I1.fpOk (vV _) (I1.hok.fresh (vV _))
 ·rw[List.mem_singleton.mp z];exact I1.fpOk (zP _) (I1.hok.fresh (zP _))
theorem Xd {K:PySem.W.Frag}{a:Addr}{xs:List V}{g:TG}{tb:TS}{D:Gz}{σ:St}{H:Hp}(Pv:Nat->St->Hp->Prop)(h0:Pv 0 σ H)(hl: ∀i σ H,i<=xs.length->Pv i σ H->kS K H a xs)
  (hs: ∀i x σ H t,xs[i]? =some x->Pv i σ H->H t=none->g (.ref t) σ (upd H t (.tup [.int (i:Nat),x])) λσ2 H2=>tb {D with nx:=Pv (i+1),ct:=Pv (i+1),bk:=D.nx} σ2 H2) (hd: ∀σ H,Pv xs.length σ H->D.nx σ H):
  ∃W:Nat->Nat->St->Hp->Prop,(∃m,W 0 m σ H)/\ ∀i m σ H,W i m σ H->
   ((Ite K a).stop i H/\D.nx σ H)\/((Ite K a).go i H/\ ∃N:St->Hp->Prop,(∀σ' H',N σ' H'-> ∃m',m'<m/\W (i+1) m' σ' H')/\ ∀x H',(Ite K a).yld i H x H'->g x σ H' λσ2 H2=>tb {D with nx:=N,ct:=N,bk:=D.nx} σ2 H2):=by
 refine⟨λi m σ H=>m=xs.length-i/\i<=xs.length/\Pv i σ H,⟨xs.length,by simp,xH _,h0⟩,?_⟩;rintro i m σ H ⟨rfl,hi,p⟩;have q:=hl i σ H hi p
 by_cases hlt:i<xs.length
 ·refine .inr ⟨⟨xs,xs[i],q,zG hlt⟩,Pv (i+1),λσ' H' p'=>⟨xs.length-(i+1),by lia,rfl,hlt,p'⟩,λy H' yd=>?_⟩;obtain⟨t,x,rfl,ht,rfl,hx⟩:=yd;exact hs i x σ H t (hx xs q) p ht
 ·have e:i=xs.length:=by lia
  subst e;exact .inl ⟨⟨xs,q,zP _⟩,hd σ H p⟩
section
variable {κ:Type}[DecidableEq κ]
def Bo (kvs:List (κ×V))(k:κ):Option V:=(kvs.find? λkv=>decide (kv.1=k)).map (·.2)
def EA (kvs:List (κ×V))(k:κ)(v:V):List (κ×V):=
 if(kvs.any λkv=>decide (kv.1=k))=true then kvs.map (λkv=>if kv.1=k then(kv.1,v)else kv)else kvs++[(k,v)]
theorem Ap {p:κ×V}{r:List (κ×V)}{k:κ}(e:p.1=k):Bo (p::r) k=some p.2:=by simp[Bo,Aa,e]
theorem Aq {p:κ×V}{r:List (κ×V)}{k:κ}(e: ¬p.1=k):Bo (p::r) k=Bo r k:=by simp[Bo,Aa,e]
theorem IK (k:κ): ∀kvs:List (κ×V),(kvs.any λkv=>decide (kv.1=k))=(Bo kvs k).isSome
 |[]=>rfl
 |p::r=>by
  rw[Be]
  by_cases e:p.1=k
  ·simp only[Ap e,xI e,Bool.true_or,Option.isSome_some]
  ·rw[Aq e,jH e,Bool.false_or];exact IK k r
theorem OW (k j:κ)(y:V): ∀kvs:List (κ×V),Bo (kvs.map λkv=>if kv.1=k then(kv.1,y)else kv) j=(Bo kvs j).map λx=>if j=k then y else x
 |[]=>rfl
 |p::r=>by
  have ih:=OW k j y r;rw[xG]
  by_cases h:p.1=k
  ·rw[zQ h]
   by_cases e:p.1=j
   ·rw[Ap (p:=(p.1,y)) e,Ap e,DS,zQ (e.symm.trans h)]
   ·rw[Aq (p:=(p.1,y)) e,Aq e,ih]
  ·rw[zN h]
   by_cases e:p.1=j
   ·rw[Ap (p:=p) e,Ap e,DS,zN (λz=>h (e.trans z))]
   ·rw[Aq (p:=p) e,Aq e,ih]
theorem ME (k j:κ)(y:V): ∀kvs:List (κ×V),Bo kvs k=none->Bo (kvs++[(k,y)]) j=if j=k then some y else Bo kvs j
 |[],_=>by
  by_cases e:k=j
  ·rw[zQ e.symm];exact Ap (p:=(k,y)) e
  ·rw[zN (λz=>e z.symm)];exact Aq (p:=(k,y)) e
 |p::r,hn=>by
  rw[yY];have hk: ¬p.1=k:=λz=>by rw[Ap z]at hn;cases hn
  rw[Aq hk]at hn;have ih:=ME k j y r hn
  by_cases e:p.1=j
  ·rw[Ap e,Ap e,zN (λz=>hk (e.trans z))]
  ·rw[Aq e,Aq e,ih]
theorem KL (kvs:List (κ×V))(k j:κ)(y:V):Bo (EA kvs k y) j=if j=k then some y else Bo kvs j:=by
 unfold EA
 by_cases a:(kvs.any λkv=>decide (kv.1=k))=true
 ·rw[zQ a,OW];rw[IK]at a
  by_cases e:j=k
  ·obtain⟨x,hx⟩:=Option.isSome_iff_exists.mp a;rw[zQ e,e,hx,DS,zQ rfl]
  ·rw[zN e];cases Bo kvs j with
   |none=>rfl
   |some x=>rw[DS,zN e]
 ·rw[zN a];refine ME k j y kvs ?_;rw[IK]at a;cases q:Bo kvs k with
  |none=>rfl
  |some x=>rw[q]at a;exact(a rfl).elim
theorem BD (kvs:List (κ×V))(k:κ)(v:V):(EA kvs k v).length<=kvs.length+1:=by
 unfold EA;split
 ·rw[zF];lia
 ·rw[zD,zI,DW];lia
theorem EK.isSome_eq {o:Option V}{u:Option Value}(r:EK o u):o.isSome=u.isSome:=by
 cases o with
 |none=>cases u with
  |none=>rfl
  |some _=>exact(show False from r).elim
 |some _=>cases u with
  |none=>exact(show False from r).elim
  |some _=>rfl
theorem KV.val {kvs:List (κ×V)}{vs:List (κ×Value)}(r:KV kvs vs)(k:κ):EK (Bo kvs k) (valueAt vs k):=by
 unfold KV at r
 induction r with
 |nil=>exact True.intro
 |@cons p q ps qs h t ih=>
  obtain⟨h1,h2⟩:=h
  by_cases e:p.1=k
  ·have e':q.1=k:=h1.symm.trans e;have b:valueAt (q::qs) k=some q.2:=by simp[valueAt,Aa,e']
   rw[Ap e,b];exact h2
  ·have e': ¬q.1=k:=λz=>e (h1.trans z);have b:valueAt (q::qs) k=valueAt qs k:=by simp[valueAt,Aa,e']
   rw[Aq e,b];exact ih
theorem KV.any {kvs:List (κ×V)}{vs:List (κ×Value)}(r:KV kvs vs)(k:κ):(kvs.any λkv=>decide (kv.1=k))=vs.any λkv=>decide (kv.1=k):=by
 unfold KV at r
 induction r with
 |nil=>rfl
 |cons h t ih=>rw[Be,Be,ih,h.1]
theorem KV.repl {kvs:List (κ×V)}{vs:List (κ×Value)}(r:KV kvs vs)(k:κ){y:V}{u:Value}(ry:kI y u):
  KV (kvs.map λkv=>if kv.1=k then(kv.1,y)else kv) (vs.map λkv=>if kv.1=k then(kv.1,u)else kv):=by
 unfold KV at r ⊢
 induction r with
 |nil=>exact .nil
 |@cons p q ps qs h t ih=>
  rw[xG,xG];refine .cons ?_ ih;obtain⟨h1,h2⟩:=h
  by_cases e:p.1=k
  ·rw[zQ e,zQ (h1.symm.trans e)];exact⟨h1,ry⟩
  ·rw[zN e,zN (λz=>e (h1.trans z))];exact⟨h1,h2⟩
theorem KV.put {kvs:List (κ×V)}{vs:List (κ×Value)}(r:KV kvs vs)(k:κ){y:V}{u:Value}(ry:kI y u):KV (EA kvs k y) (stored vs k u):=by
 unfold EA stored;rw[r.any k]
 by_cases e:(vs.any λkv=>decide (kv.1=k))=true
 ·rw[zQ e,zQ e];exact r.repl k ry
 ·rw[zN e,zN e];exact Dy r ⟨rfl,ry⟩
theorem KV.length {kvs:List (κ×V)}{vs:List (κ×Value)}(r:KV kvs vs):kvs.length=vs.length:=Fu r
end
theorem Nf {P:Program}{w:World}{k:uT}{u:Value}(r:kI (kV k) u):(wI P w).is k u=true:=by
 cases k with
 |inl i=>obtain⟨t,e⟩:=(show ∃t,u=Value.int i t from r);subst e;exact Qf P w i t
 |inr x=>obtain⟨t,e⟩:=(show ∃t,u=Value.str x t from r);subst e;exact Qe P w x t
theorem Ni {P:Program}{w:World}: ∀{ks:List uT} {us:List Value},jK (ks.map kV) us->ItemsAre (wI P w) ks us
 |[],_,r=>by rw[List.map_nil]at r;cases r;exact .nil
 |k::ks,_,r=>by
  rw[xG]at r;cases r with
  |cons h t=>exact .cons (Nf h) (Ni t)
abbrev KT (H:Hp):List (List uT×V)->List (List uT×Addr×Value)->Prop:=Paired λp q=>p.1=q.1/\H q.2.1=some (.tup (p.1.map kV))/\kI p.2 q.2.2
theorem KT.val {H:Hp}{kvs:List (List uT×V)}{xs:List (List uT×Addr×Value)}(r:KT H kvs xs)(k:List uT):EK (Bo kvs k) ((atKey xs k).map (·.2)):=by
 induction r with
 |nil=>exact True.intro
 |@cons p q ps qs h t ih=>
  obtain⟨h1,_,h2⟩:=h
  by_cases e:p.1=k
  ·have e':q.1=k:=h1.symm.trans e;have b:atKey (q::qs) k=some q.2:=by simp[atKey,Aa,e']
   rw[Ap e,b];exact h2
  ·have e': ¬q.1=k:=λz=>e (h1.trans z);have b:atKey (q::qs) k=atKey qs k:=by simp[atKey,Aa,e']
   rw[Aq e,b];exact ih
theorem KT.repl {H:Hp}{kvs:List (List uT×V)}{xs:List (List uT×Addr×Value)}(r:KT H kvs xs)(k:List uT){y:V}{u:Value}(ry:kI y u):
  KT H (kvs.map λkv=>if kv.1=k then(kv.1,y)else kv) (xs.map (putAt k u)):=by
 induction r with
 |nil=>exact .nil
 |@cons p q ps qs h t ih=>
  rw[xG,xG];refine .cons ?_ ih;obtain⟨h1,h2,h3⟩:=h;unfold putAt
  by_cases e:p.1=k
  ·rw[zQ e,zQ (h1.symm.trans e)];exact⟨h1,h2,ry⟩
  ·rw[zN e,zN (λz=>e (h1.trans z))];exact⟨h1,h2,h3⟩
theorem KT.put {H:Hp}{kvs:List (List uT×V)}{xs:List (List uT×Addr×Value)}(r:KT H kvs xs)(k:List uT){b:Addr}{y:V}{u:Value}(hb:H b=some (.tup (k.map kV)))(ry:kI y u):
  KT H (EA kvs k y) (storedH xs k b u):=by
 have e:(kvs.any λkv=>decide (kv.1=k))=(atKey xs k).isSome:=by
  rw[IK,(r.val k).isSome_eq,Fd]
 unfold EA storedH;rw[e]
 by_cases q:(atKey xs k).isSome =true
 ·rw[zQ q,zQ q];exact r.repl k ry
 ·rw[zN q,zN q];exact Dy r ⟨rfl,hb,ry⟩
theorem KT.keeps {H H':Hp}{kvs:List (List uT×V)}{xs:List (List uT×Addr×Value)}(r:KT H kvs xs)(ht: ∀b ys,H b=some (.tup ys)->H' b=some (.tup ys)):KT H' kvs xs:=
 Paired.mapP r λ_ _ z=>⟨z.1,ht _ _ z.2.1,z.2.2⟩
section
variable {P:Program}{w:World}{H:Hp}{h:Heap}{a:Addr}
theorem Zo {u:HO}(ok:HL P w H h)(e:Rd H a u):qR P w H h a u:=e.ok ok
theorem QB {kvs:List (uT×V)}(ok:HL P w H h)(e:Rd H a (.dK kvs)):kvs.length<=sizeLine/\(a==sysModules)=false/\ ∃vs,KV kvs vs/\h.DictOf (wI P w) a vs:=
 show qR P w H h a (.dK kvs)from Zo ok e
theorem zEm {kvs:List (uT×V)}(ok:HL P w H h)(e:H a=some (.dK kvs)):kvs.length<=sizeLine/\(a==sysModules)=false/\ ∃vs,KV kvs vs/\h.DictOf (wI P w) a vs:=QB ok (.inl e)
theorem LK {ks:List uT}(ok:HL P w H h)(e:H a=some (.tup (ks.map kV))):(tupleKind (wI P w)).is h ks a:=by
 obtain⟨_,its,r,o,h1,h2,n,h3⟩:=(show qR P w H h a (.tup (ks.map kV))from ok a _ e);exact⟨o,its.toArray,n,h1,h2,h3,by simpa using Ni r⟩
theorem QA {kvs:List (List uT×V)}(ok:HL P w H h)(e:Rd H a (.dT kvs)):kvs.length<=sizeLine/\(a==sysModules)=false/\
  ∃xs,KT H kvs xs/\h.DictOfH (tupleKind (wI P w)) a xs:=by
 obtain⟨z,y,xs,r,o,es,ep,h1,h2,h3,h4,h5⟩:=(show qR P w H h a (.dT kvs)from Zo ok e);refine⟨z,y,xs,r,o,es,ep,h1,h2,h3,h4,λx hx=>?_,h5⟩;have all: ∀{l:List (List uT×V)} {m:List (List uT×Addr×Value)},KT H l m-> ∀x∈m,(tupleKind (wI P w)).is h x.1 x.2.1:=by
  intro l m q
  induction q with
  |nil=>intro x hx;exact nomatch hx
  |@cons p q ps qs hq t ih=>
   intro x hx
   rcases List.mem_cons.mp hx with e|hx
   ·subst e;exact LK ok (by rw[<-hq.1];exact hq.2.1)
   ·exact ih x hx
 exact all r x hx
theorem zEl {kvs:List (List uT×V)}(ok:HL P w H h)(e:H a=some (.dT kvs)):kvs.length<=sizeLine/\(a==sysModules)=false/\
  ∃xs,KT H kvs xs/\h.DictOfH (tupleKind (wI P w)) a xs:=QA ok (.inl e)
end
def GD (H:Hp)(a:Addr)(y:V)(r:Option V):Prop:=
 (∃kvs k,Rd H a (.dK kvs)/\y=kV k/\r=Bo kvs k)\/ ∃kvs k b,Rd H a (.dT kvs)/\y=.ref b/\H b=some (.tup (k.map kV))/\r=Bo kvs k
def Sj (H:Hp)(a:Addr)(y v:V)(H':Hp):Prop:=
 (∃kvs k,H a=some (.dK kvs)/\y=kV k/\kvs.length<sizeLine/\H'=upd H a (.dK (EA kvs k v)))\/
 ∃kvs k b,H a=some (.dT kvs)/\y=.ref b/\H b=some (.tup (k.map kV))/\kvs.length<sizeLine/\H'=upd H a (.dT (EA kvs k v))
theorem GD.k {H:Hp}{a:Addr}{kvs:List (uT×V)}{k:uT}(e:H a=some (.dK kvs)):GD H a (kV k) (Bo kvs k):=.inl ⟨kvs,k,.inl e,rfl,rfl⟩
theorem Sj.k {H:Hp}{a:Addr}{kvs:List (uT×V)}{k:uT}{v:V}(e:H a=some (.dK kvs))(hl:kvs.length<sizeLine):Sj H a (kV k) v (upd H a (.dK (EA kvs k v))):=.inl ⟨kvs,k,e,rfl,hl,rfl⟩
section
variable {X:Cx}{pins:List (Addr×Obj)}{σ:St}{H:Hp}{s:Shared}{a:Addr}{y v:V}{u r:Value}{o:Option V}{A:Around}{E:Value->Shared->Prop}
theorem xK.big (I:xK X pins σ H s):sysModules<s.heap.objs.size:=by
 have h:mainGlobals<s.heap.objs.size:=(I.mod.glob.keeps I.bk).lt;exact Em (by decide) h
theorem UI {Q:Value->Shared->Prop}(hu:A.units+1<cLine)(I:xK X pins σ H s)(g:GD H a y (some v))(ry:kI y u)(h: ∀w' s',xK X pins σ H s'->kI v w'->Q w' s'):
  wpAny (model X.prog X.w) A (getItem (.ref a) u) Q E s:=by
 rcases g with⟨kvs,k,e,ey,l⟩|⟨kvs,k,b,e,ey,eb,l⟩
 ·subst ey;obtain⟨z,hd,vs,rel,dd⟩:=QB I.hok e;obtain⟨w',hw,rw'⟩:=EK.some_of (v:=v) (o:=valueAt vs k) (by rw[l];exact rel.val k);exact wpAny_getItem_of (Nf ry) dd.mapOf hw (h w' _ (I.tok _) rw')
 ·subst ey;cases(show u=Value.ref b from ry);obtain⟨z,hd,xs,rel,dd⟩:=QA I.hok e;obtain⟨w',hw,rw'⟩:=EK.some_of (v:=v) (o:=(atKey xs k).map (·.2)) (by rw[l];exact rel.val k);obtain⟨p,hp,hp2⟩:=Option.map_eq_some_iff.mp hw;refine wpAny_getItem_heap (Bx hu) (LK I.hok eb) dd hp ?_;rw[hp2];exact h w' _ (I.tok _) rw'
theorem zId {Q:Value->Shared->Prop}(hu:A.units+1<cLine)(I:xK X pins σ H s)(g:GD H a y o)(ry:kI y u)(h: ∀s',xK X pins σ H s'->Q (.bool o.isSome) s'):
  wpAny (model X.prog X.w) A (compareOp .In u (.ref a)) Q E s:=by
 rcases g with⟨kvs,k,e,ey,l⟩|⟨kvs,k,b,e,ey,eb,l⟩
 ·subst ey;obtain⟨z,hd,vs,rel,dd⟩:=QB I.hok e;refine wpAny_in_of (Nf ry) hd dd.mapOf ?_;rw[<-(rel.val k).isSome_eq,<-l];exact h _ (I.tok _)
 ·subst ey;cases(show u=Value.ref b from ry);obtain⟨z,hd,xs,rel,dd⟩:=QA I.hok e;refine wpAny_in_heap (Bx hu) (LK I.hok eb) hd dd ?_;have q:=(rel.val k).isSome_eq;rw[Fd]at q;rw[<-q,<-l];exact h _ (I.tok _)
theorem YQ {Q:Value->Shared->Prop}(hu:A.units+1<cLine)(I:xK X pins σ H s)(g:GD H a y o)(ry:kI y u)(h: ∀s',xK X pins σ H s'->Q (.bool (!o.isSome)) s'):
  wpAny (model X.prog X.w) A (compareOp .NotIn u (.ref a)) Q E s:=by
 rcases g with⟨kvs,k,e,ey,l⟩|⟨kvs,k,b,e,ey,eb,l⟩
 ·subst ey;obtain⟨z,hd,vs,rel,dd⟩:=QB I.hok e;refine wpAny_notIn_of (Nf ry) hd dd.mapOf ?_;rw[<-(rel.val k).isSome_eq,<-l];exact h _ (I.tok _)
 ·subst ey;cases(show u=Value.ref b from ry);obtain⟨z,hd,xs,rel,dd⟩:=QA I.hok e;refine wpAny_notIn_heap (Bx hu) (LK I.hok eb) hd dd ?_;have q:=(rel.val k).isSome_eq;rw[Fd]at q;rw[<-q,<-l];exact h _ (I.tok _)
theorem Tj {h':Heap}{t':Nat}{ob:HO}(I:xK X pins σ H s)(mu:Mut (H a))(hs:Heap.SameBut a s.heap h')(he: ∃q,h'.get? a=some q)(new:qR X.prog X.w (upd H a ob) h' a ob):
  xK X pins σ (upd H a ob) {s with heap:=h',toks:=t'}:=
 I.write (x:=a) (e:=a) mu (.inl rfl) (λb q hb z=>(hs.2 b hb).trans z) he new
theorem Xi {P:Program}{w:World}{H':Hp}{h':Heap}{kvs:List (uT×V)}{vs:List (uT×Value)}(z:kvs.length<=sizeLine)(hd:(a==sysModules)=false)(rel:KV kvs vs)(dd:h'.DictOf (wI P w) a vs):
  qR P w H' h' a (.dK kvs):=⟨z,hd,vs,rel,dd⟩
theorem UH {H':Hp}{Q:Unit->Shared->Prop}(hu:A.units+1<cLine)(I:xK X pins σ H s)(g:Sj H a y v H')(ry:kI y u)(rv:kI v r)(h: ∀s',xK X pins σ H' s'->Q () s'):
  wpAny (model X.prog X.w) A (setItem (.ref a) u r) Q E s:=by
 rcases g with⟨kvs,k,e,ey,l,eH⟩|⟨kvs,k,b,e,ey,eb,l,eH⟩
 ·subst ey eH;obtain⟨z,hd,vs,rel,dd⟩:=zEm I.hok e;have hz:vs.length<=sizeLine:=by rw[<-rel.length];exact z
  have hl:(EA kvs k v).length<=sizeLine:=by have:=BD kvs k v;lia
  refine wpAny_setItem_pairs (hsz:=hz) (Nf ry) dd λh' dd' hs=>h _ ?_;have he: ∃q,h'.get? a=some q:=let⟨q,_,_,hq,_⟩:=dd';⟨q,hq⟩;exact Tj I (by rw[e];exact True.intro) hs he (Xi hl hd (rel.put k rv) dd')
 ·subst ey eH;cases(show u=Value.ref b from ry);obtain⟨z,hd,xs,rel,dd⟩:=zEl I.hok e;have hz:xs.length<=sizeLine:=by rw[<-Fu rel];exact z
  have hl:(EA kvs k v).length<=sizeLine:=by have:=BD kvs k v;lia
  refine wpAny_setItem_heap (hsz:=hz) (Bx hu) (LK I.hok eb) dd λh' dd' hs=>h _ ?_;obtain⟨q,es,ep,hq,h2,h3,h4,_,h5⟩:=dd';refine Tj I (by rw[e];exact True.intro) hs ⟨q,hq⟩ ⟨hl,hd,_,(rel.put k eb rv).keeps λc ys ec=>?_,q,es,ep,hq,h2,h3,h4,h5⟩;rw[zW (zEa ec e (λz=>nomatch z))];exact ec
end
def zEu (i:Expr):Prop:= ∀ov iv,subscripted i false ov iv=operate [ov,iv] (getItem ov iv)
theorem XN {prog:Program}{w:World}{A:Around}{E:Value->Shared->Prop}{s:Shared}{env:Env}{value slice:Expr}{pos:Pos}{T id:String}{Q:Value->Shared->Prop}
  (hl:typeLookup (.type T) "__getitem__"=pure (some (.builtin id))) (hs:zEu slice)
  (h:wpAny (model prog w) A (eval value env) (λo s₁=>wpAny (model prog w) A (eval slice env) (λi s₂=>s₂.TypeIs o T/\wpAny (model prog w) A (getItem o i) Q E s₂) E s₁) E s):
  wpAny (model prog w) A (eval (.Subscript value slice pos) env) Q E s:=by
 refine Subscript_ (qX h (λo s₁ h₁=>qX h₁ (λi s₂ h₂=>?_) λ_ _ x=>x) λ_ _ x=>x);obtain⟨hT,h₂⟩:=h₂;unfold subscriptTail;refine zA ?_;rw[getitemInPython_of_ne hT.not_modules];refine zA (Bl hT hl ?_);have fin:wpAny (model prog w) A (subscripted slice false o i) (λr s₃=>wpAny (model prog w) A (letTemporaryGo value o r>>=λ_=>pure r) Q E s₃) E s₂:=by
  rw[hs o i];exact wpAny_operating (qX h₂ (λr s₃ h₃=>zA (wpAny_letTemporaryGo (zL h₃))) λ_ _ x=>x)
 first
  |exact zL (zA fin)
  |exact zA (zL (zA fin))
  |exact zA fin
theorem QC {X:Cx}{pins:List (Addr×Obj)}{σ:St}{H:Hp}{s:Shared}{a:Addr}{y:V}{o:Option V}(I:xK X pins σ H s)(g:GD H a y o):s.TypeIs (.ref a) "dict":=by
 rcases g with⟨kvs,k,e,_,_⟩|⟨kvs,k,b,e,_,_,_⟩
 ·obtain⟨_,_,vs,_,dd⟩:=QB I.hok e;exact dd.typeIs
 ·obtain⟨_,_,xs,_,dd⟩:=QA I.hok e;exact dd.typeIs
def zDg (td ty:TE):TE:=λσ H Q=>td σ H λx H1=>ty σ H1 λy H2=> ∃a v,x=.ref a/\GD H2 a y (some v)/\Q v H2
def zFz (ty td:TE):TE:=λσ H Q=>ty σ H λy H1=>td σ H1 λx H2=> ∃a o,x=.ref a/\GD H2 a y o/\Q (.bl o.isSome) H2
def XM (ty td:TE):TE:=λσ H Q=>ty σ H λy H1=>td σ H1 λx H2=> ∃a o,x=.ref a/\GD H2 a y o/\Q (.bl (!o.isSome)) H2
def zDk (td ty tv:TE):TS:=λD σ H=>tv σ H λv H1=>td σ H1 λx H2=>ty σ H2 λy H3=> ∃a H4,x=.ref a/\Sj H3 a y v H4/\D.nx σ H4
section
variable {X:Cx}{o i e value:Expr}{pos pos' tpos:Pos}{td ty tv:TE}
theorem Ja (hu:X.A.units+1<cLine)(ho:PE X o td)(hi:PE X i ty)(hs:zEu i):PE X (.Subscript o i pos) (zDg td ty):=by
 refine⟨?_⟩;intro pins s σ H Q I h;refine XN PySem.F.slot_dict_getitem.lookup hs (qV (ho pins s σ H _ I h) λu s1 ⟨x,H1,I1,rx,q1⟩=>qV (hi pins s1 σ H1 _ I1 q1) λiv s2 hzz=>?_);obtain⟨y,H2,I2,ry,a,v,ex,g,q2⟩:=hzz;subst ex;obtain rfl:u=Value.ref a:=rx;exact⟨QC I2 g,UI hu I2 g ry λw' s3 I3 rw'=>⟨v,H2,I3,rw',q2⟩⟩
theorem VY (hu:X.A.units+1<cLine)(hi:PE X i ty)(ho:PE X o td):PC X .In i o (zFz ty td):=by
 refine⟨?_⟩;intro pins s σ H Q I h;refine qV (hi pins s σ H _ I h) λiv s1 ⟨y,H1,I1,ry,q1⟩=>qV (ho pins s1 σ H1 _ I1 q1) λu s2 hzz=>?_;obtain⟨x,H2,I2,rx,a,ov,ex,g,q2⟩:=hzz;subst ex;obtain rfl:u=Value.ref a:=rx;exact zId hu I2 g ry λs3 I3=>⟨.bl ov.isSome,H2,I3,rfl,q2⟩
theorem Ua (hu:X.A.units+1<cLine)(hi:PE X i ty)(ho:PE X o td):PC X .NotIn i o (XM ty td):=by
 refine⟨?_⟩;intro pins s σ H Q I h;refine qV (hi pins s σ H _ I h) λiv s1 ⟨y,H1,I1,ry,q1⟩=>qV (ho pins s1 σ H1 _ I1 q1) λu s2 hzz=>?_;obtain⟨x,H2,I2,rx,a,ov,ex,g,q2⟩:=hzz;subst ex;obtain rfl:u=Value.ref a:=rx;exact YQ hu I2 g ry λs3 I3=>⟨.bl (!ov.isSome),H2,I3,rfl,q2⟩
theorem Om (hu:X.A.units+1<cLine)(ho:PE X o td)(hi:PE X i ty)(hv:PE X value tv)(hs:swapsWith value (some (.Subscript o i pos')) pos.line X.env=pure false):
  PS X (.Assign [.Subscript o i pos'] value pos) (zDk td ty tv):=by
 refine⟨?_⟩;intro pins s σ H D I h;refine wpAny_Assign_Subscript (qV (hv pins s σ H _ I h) λr s1 ⟨v,H1,I1,rv,q1⟩=>qV (ho pins s1 σ H1 _ I1 q1) λu s2 ⟨x,H2,I2,rx,q2⟩=>qV (hi pins s2 σ H2 _ I2 q2) λiv s3 ⟨y,H3,I3,ry,a,H4,ex,g,q3⟩=>?_) hs;subst ex;obtain rfl:u=Value.ref a:=rx;exact UH hu I3 g ry rv λs4 I4=>⟨σ,H4,I4,q3⟩
end
theorem Xj {P:Program}{w:World}{H:Hp}(h:Heap)(hb:sysModules<h.objs.size):qR P w H (h.push {cls:=.type "dict",data:=.dict #[]}) h.objs.size (.dK []):=
 ⟨xH _,beq_eq_false_iff_ne.mpr (Ne.symm (xA hb)),[],.nil,Heap.DictOf.new h⟩
def ZW:TE:=λ_ H Q=> ∀p,H p=none->Q (.ref p) (upd H p (.dK []))
section
variable {X:Cx}{pos:Pos}
theorem IZ:PE X (.Dict [] [] pos) ZW:=⟨λpins s σ H Q I h=>
 wpAny_Dict_empty ⟨.ref s.heap.objs.size,_,I.laid (a:=s.heap.objs.size) (o:=.dK []) (t':=s.toks) (λ_ _ q=>zC _ q) (zP _) (Xj s.heap I.big),rfl,h _ (I.hok.fresh (zP _))⟩⟩
end
structure M1 (X:Cx)(o:Expr)(m:Str)(apos:Pos)(e:Expr)(cpos:Pos):Prop where
 base:attributeBase o m X.env (eval o X.env)=eval o X.env
 few:((backTo cpos (starEach [e] X.env)).all (λx=>!x.1)&&(backToKw cpos (keywordEach [] X.env)).all (λx=>x.1.isSome)
  &&decide (([e]:List Expr).length +([]:List Keyword).length +(if([]:List Keyword).isEmpty then 0 else 1)<30))=true
 line:(apos.endLine==cpos.line)=true
 trees:backTo cpos (starEach [e] X.env)=[(false,eval e X.env)]
structure M2 (X:Cx)(o:Expr)(m:Str)(apos:Pos)(e f:Expr)(cpos:Pos):Prop where
 base:attributeBase o m X.env (eval o X.env)=eval o X.env
 few:((backTo cpos (starEach [e,f] X.env)).all (λx=>!x.1)&&(backToKw cpos (keywordEach [] X.env)).all (λx=>x.1.isSome)
  &&decide (([e,f]:List Expr).length +([]:List Keyword).length +(if([]:List Keyword).isEmpty then 0 else 1)<30))=true
 line:(apos.endLine==cpos.line)=true
 trees:backTo cpos (starEach [e,f] X.env)=[(false,eval e X.env),(false,eval f X.env)]
section
variable {X:Cx}
def zFf (i j:Int):Prop:=i.natAbs<2^2000/\j.natAbs<2^2000
theorem HG:IE X (binaryOp .Mult) (rI zFf λi j=>.int (i*j)):=opI λi j _ _ _ _ _ hc q=>by
 refine mul_int q ?_;exact IntMulOk.of_le (Ga hc.1) (Ga hc.2) (by decide)
end
theorem Qr (k:Int): ∀ns:List Int,YG (.int k) (ns.map V.int)=decide (k∈ns)
 |[]=>rfl
 |n::r=>by
  have ih:=Qr k r;unfold YG at ih ⊢;rw[xG,Be,ih]
  by_cases h:n=k
  ·subst h;simp[Jp]
  ·have h2: ¬k=n:=λz=>h z.symm
   simp[Jp,h,h2]
theorem vt {a b:Int}(c:decide (V.int a=V.int b)=true):a=b:=by
 have:=zO c;injection this
theorem vf {a b:Int}(c: ¬decide (V.int a=V.int b)=true):a≠b:=λe=>c (xI (by rw[e]))
theorem df {c:Prop}[Decidable c](h: ¬decide c=true): ¬c:=of_decide_eq_false (Bool.eq_false_iff.mpr h)
end L2
namespace L2
open PySem
theorem JS:bootBuiltins "all"=some (.builtin "all"):=by decide+kernel
theorem Vw {X:Cx}(K:PySem.W.Frag)(hK:X.K=K):SlR X (zAh K):=hK▸Di
theorem Mc {X:Cx}(K:PySem.W.Frag)(hK:X.K=K):FU X (.type "tuple") (λxs H Q=> ∃p ys,xs=[.ref p]/\((kS K H p ys/\ ∀l,H l=none->Q (.ref l) (upd H l (.tup ys)))\/(uS K H p ys/\Q (.ref p) H))):=hK▸Fo
theorem EB {ta tb tc:TE}{σ:St}{H:Hp}{Q:VK}(x y z:Int)(ha: ∀R:VK,R (.int x) H->ta σ H R)(hb: ∀R:VK,R (.int y) H->tb σ H R)(hc: ∀R:VK,R (.int z) H->tc σ H R)(h: ∀r:Bool,(r=true ↔ x<=y/\y<=z)->Q (.bl r) H):
  QQ (SC λi j=>V.bl (decide (i<=j))) (SC λi j=>V.bl (decide (i<=j))) ta tb tc σ H Q:=by
 refine ha _ (hb _ ⟨x,y,rfl,rfl,_,rfl,kH (λc=>?_) (λc=>?_)⟩)
 ·exact hc _ ⟨y,z,rfl,rfl,h _ ⟨λe=>⟨zO c,zO e⟩,λe=>xI e.2⟩⟩
 ·exact h _ ⟨λe=>(nomatch e),λe=>absurd e.1 (df c)⟩
theorem FP {ta tb tc:TE}{σ:St}{H:Hp}{Q:VK}(x y z:Int)(ha: ∀R:VK,R (.int x) H->ta σ H R)(hb: ∀R:VK,R (.int y) H->tb σ H R)(hc: ∀R:VK,R (.int z) H->tc σ H R)(h: ∀r:Bool,(r=true ↔ x<=y/\y<z)->Q (.bl r) H):
  QQ (SC λi j=>V.bl (decide (i<=j))) (SC λi j=>V.bl (decide (i<j))) ta tb tc σ H Q:=by
 refine ha _ (hb _ ⟨x,y,rfl,rfl,_,rfl,kH (λc=>?_) (λc=>?_)⟩)
 ·exact hc _ ⟨y,z,rfl,rfl,h _ ⟨λe=>⟨zO c,zO e⟩,λe=>xI e.2⟩⟩
 ·exact h _ ⟨λe=>(nomatch e),λe=>absurd e.1 (df c)⟩
theorem Mm {n k:Nat}(hk:k=2\/k=3):Builtin.Range.rangeSize 0 (n:Int) (k:Int)=(((n+(k-1)) / k:Nat):Int):=by
 unfold Builtin.Range.rangeSize
 rcases hk with rfl|rfl<;>split<;>lia
def BG (op n nf nr:Int):Prop:=
 op=0\/(op=1\/op=2)/\0<=n/\n<12\/(op=4\/op=5)/\0<=n/\n<nr\/op=6/\0<=n/\n<nf\/op=10/\8<=n/\n<=19\/op=11/\2<=n/\n<=12\/(op=3\/op=7\/op=8\/op=9)/\n=0
def IG (s p b fn nr:Int):Prop:=0<=s/\s<nr/\0<=p/\p<=4/\(fn=0->p=0)/\p<=b/\b<=12
def GB (k:Nat)(ns:List Int):List (List Int):=(List.range ((ns.length+(k-1)) / k)).map λi=>(ns.drop (i*k)).take k
def Eb (H:Hp)(v:V)(zs:List Int):Prop:= ∃t,v=.ref t/\H t=some (.tup (zs.map V.int))
def wA (H:Hp)(l:Addr)(gs:List (List Int)):Prop:= ∃rs,H l=some (.lst rs)/\Paired (Eb H) rs gs
theorem QE (ns:List Int)(a b:Nat):DL (ns.map V.int) (some (a:Int)) (some (b:Int))=((ns.drop a).take (b-a)).map V.int:=by
 unfold DL;rw[HT.sIx_nat,HT.sIx_nat,zF,Ad,Ae]
 by_cases h:a<=ns.length
 ·rw[uZ h]
  by_cases h2:b<=ns.length
  ·rw[uZ h2]
  ·rw[Db (by lia),xJ (by simp),xJ (by simp;lia)]
 ·have e1:((ns.map V.int).drop (min a ns.length))=[]:=wR (by simp;lia);have e2:((ns.map V.int).drop a)=[]:=wR (by simp;lia);rw[e1,e2,List.take_nil,List.take_nil]
theorem RT (ns:List Int)(a:Nat):DL (ns.map V.int) (some (a:Int)) none=(ns.drop a).map V.int:=by
 unfold DL;rw[HT.sIx_nat,HT.sIx_none,zF,Ae]
 by_cases h:a<=ns.length
 ·rw[uZ h,xJ (by simp)]
 ·rw[Db (by lia),wR (by simp),wR (by simp;lia)]
  simp
theorem Ta (k:Nat)(ns:List Int):(GB k ns).length =(ns.length+(k-1)) / k:=by unfold GB;simp
theorem WW {k i:Nat}{ns:List Int}(h:i<(ns.length+(k-1)) / k):(GB k ns).take (i+1)=(GB k ns).take i++[(ns.drop (i*k)).take k]:=by
 have e:(GB k ns)[i]? =some ((ns.drop (i*k)).take k):=by
  unfold GB;rw[yQ,AU h]<;>rfl
 rw[wF,e]<;>rfl
theorem Eb.upd {H:Hp}{v:V}{zs:List Int}{p:Addr}{xs:List V}{o:HO}(h:Eb H v zs)(hp:H p=some (.lst xs)):Eb (upd H p o) v zs:=by
 obtain⟨t,rfl,e⟩:=h;have ne:t≠p:=λz=>by rw[z,hp]at e;cases e
 exact⟨t,rfl,by rw[zW ne];exact e⟩
theorem Eb.same {H H':Hp}{v:V}{zs:List Int}(h:Eb H v zs)(s:yU H H'):Eb H' v zs:=by
 obtain⟨t,rfl,e⟩:=h;exact⟨t,rfl,s _ _ e⟩
theorem wA.same {H H':Hp}{l:Addr}{gs:List (List Int)}(h:wA H l gs)(s:yU H H'):wA H' l gs:=by
 obtain⟨rs,e,p⟩:=h;exact⟨rs,s _ _ e,p.mono λ_ _ x=>x.same s⟩
def headNums (ns:List Int):List Int:=(ns.drop 1).take (3*(ns.headD 0).toNat)
def rowNums (ns:List Int):List Int:=ns.drop (1+3*(ns.headD 0).toNat)
theorem WU {ns ms:List Int}{n:Int}(e:ns=n::ms)(hn:0<=n):DL (ns.map V.int) (some 1) (some (1+3*n))=(headNums ns).map V.int:=by
 have h:=QE ns 1 (1+3*n.toNat);rw[show((1+3*n.toNat:Nat):Int)=1+3*n by lia,show((1:Nat):Int)=1 from rfl,Gd]at h;rw[h,e]<;>rfl
theorem XW {ns ms:List Int}{n:Int}(e:ns=n::ms)(hn:0<=n):DL (ns.map V.int) (some (1+3*n)) none=(rowNums ns).map V.int:=by
 have h:=RT ns (1+3*n.toNat);rw[show((1+3*n.toNat:Nat):Int)=1+3*n by lia]at h;rw[h,e]<;>rfl
theorem OP {ns ms:List Int}{n:Int}(e:ns=n::ms):Jq (ns.map V.int) 0=some (.int n):=by
 have:=qF (xs:=ns.map V.int) (j:=0) (v:=.int n) (by rw[e]<;>rfl);exact this
theorem zBe {n:Int}(h:0<=n)(h':n<=16):XE 3 n:=by
 unfold XE;have:n.natAbs<=16:=by lia
 lia
def RL (g:List Int)(i nr:Nat):Prop:= ∃s p b,g=[s,p,b]/\IG s p b i nr
def CH (g:List Int)(nf nr:Nat):Prop:= ∃op n,g=[op,n]/\BG op n nf nr
structure DQ (ns:List Int):Prop where
 big: ∃n ms,ns=n::ms/\1<=n/\n<=16/\3*n+2<=ms.length/\(ms.length-3*n.toNat) % 2=0
 heads: ∀i g,(GB 3 (headNums ns))[i]? =some g->RL g i ((rowNums ns).length / 2)
 rows: ∀g∈GB 2 (rowNums ns),CH g (ns.headD 0).toNat ((rowNums ns).length / 2)
theorem Paired.yonder {α β:Type}{F:α->β->Prop}: ∀{xs:List α} {ys:List β},Paired F xs ys-> ∀{j:Nat} {x:α},xs[j]? =some x-> ∃y,ys[j]? =some y/\F x y
 |_,_,.nil,j,x,h=>by cases h
 |_,_,.cons r t,0,x,h=>by cases h;exact⟨_,rfl,r⟩
 |_,_,.cons r t,j+1,x,h=>Paired.yonder t (by simpa using h)
theorem Td {k i:Nat}{ns g:List Int}(hk:k=2\/k=3)(hd:ns.length % k=0)(h:(GB k ns)[i]? =some g):g.length=k:=by
 unfold GB at h;rw[yQ]at h
 by_cases hi:i<(ns.length+(k-1)) / k
 ·rw[AU hi]at h;cases h;rw[yL,kE]
  rcases hk with rfl|rfl<;>lia
 ·rw[vE (by simp;lia)]at h;cases h
theorem zHt {g:List Int}(h:g.length=3): ∃a b c,g=[a,b,c]:=match g,h with
 |[a,b,c],_=>⟨a,b,c,rfl⟩
theorem zHu {g:List Int}(h:g.length=2): ∃a b,g=[a,b]:=match g,h with
 |[a,b],_=>⟨a,b,rfl⟩
theorem Xv {bs:List Bool}{b:Bool}:(bs++[b]).all id=true ↔ bs.all id=true/\b=true:=by simp
inductive GP (vs:List V) (H:Hp) (Q:VK) (E:XK):Prop
 |mk (t s p b fn nr:_) (h0:vs=[.ref t,.int fn,.int nr]) (h1:H t=some (.tup [.int s,.int p,.int b])) (h2: ∀r,(r=true ↔ IG s p b fn nr)->Q (.bl r) H):GP vs H Q E
inductive IN (vs:List V) (H:Hp) (Q:VK) (E:XK):Prop
 |mk (t op n nf nr:_) (h0:vs=[.ref t,.int nf,.int nr]) (h1:H t=some (.tup [.int op,.int n])) (h2: ∀r H',yU H H'->(r=true ↔ BG op n nf nr)->Q (.bl r) H'):IN vs H Q E
inductive NU (vs:List V) (H:Hp) (Q:VK) (E:XK):Prop
 |mk (op:Int) (h0:vs=[.int op]) (h1: ∀r H',yU H H'->(r=true ↔ op=3\/op=7\/op=8\/op=9)->Q (.bl r) H'):NU vs H Q E
inductive HA (vs:List V) (H:Hp) (Q:VK) (E:XK):Prop
 |mk (a:Addr) (ns:List Int) (k:Nat) (h0:vs=[.ref a,.int k]) (h1:(k=2\/k=3)) (h2:H a=some (.lst (ns.map V.int))) (h3:ns.length<=1000000) (h4: ∀l H',yU H H'->H l=none->wA H' l (GB k ns)->Q (.ref l) H'):HA vs H Q E
inductive Eo (vs:List V) (H:Hp) (Q:VK) (E:XK):Prop
 |mk (a:Addr) (ns:List Int) (h0:vs=[.ref a]) (h1:H a=some (.lst (ns.map V.int))) (h2:ns.length<=1000000) (h3:(∃n ms,ns=n::ms/\0<=n/\n<=16)) (h4: ∀l H',yU H H'->H l=none->wA H' l (GB 3 (headNums ns))->Q (.ref l) H'):Eo vs H Q E
inductive Fz (vs:List V) (H:Hp) (Q:VK) (E:XK):Prop
 |mk (a:Addr) (ns:List Int) (h0:vs=[.ref a]) (h1:H a=some (.lst (ns.map V.int))) (h2:ns.length<=1000000) (h3:(∃n ms,ns=n::ms/\0<=n/\n<=16)) (h4: ∀l H',yU H H'->H l=none->wA H' l (GB 2 (rowNums ns))->Q (.ref l) H'):Fz vs H Q E
inductive KN (vs:List V) (H:Hp) (Q:VK) (E:XK):Prop
 |mk (a:Addr) (ns:List Int) (h0:vs=[.ref a]) (h1:H a=some (.lst (ns.map V.int))) (h2:ns.length<=1000000) (h3: ∀H',yU H H'->Q (.bl true) H'):KN vs H Q E
inductive GQ (vs:List V) (H:Hp) (Q:VK) (E:XK):Prop
 |mk (a:Addr) (ns:List Int) (h0:vs=[.ref a]) (h1:H a=some (.lst (ns.map V.int))) (h2:ns.length<=1000000) (h3: ∀r H',yU H H'->(r=true ↔ DQ ns)->Q (.bl r) H'):GQ vs H Q E
end L2
namespace L2
open PySem PySem.Spec PyProof.Rows
inductive Tr where
 |mk (kind:Int) (own:List Int) (parts:List Tr)
def Kv (H:Hp):Nat->V->Tr->Prop
 |0,_,_=>False
 |d+1,v,.mk k own ps=> ∃t pl o q vs,v=.ref t/\H t=some (.tup [.int k,.int pl,.ref o,.ref q])/\H o=some (.tup (own.map V.int))/\H q=some (.tup vs)/\Paired (Kv H d) vs ps
theorem Kv.tups {H H':Hp}(h:AT H H'): ∀{d:Nat} {v:V} {n:Tr},Kv H d v n->Kv H' d v n
 |0,_,_,z=>z.elim
 |d+1,v,.mk k own ps,⟨t,pl,o,q,vs,e,h1,h2,h3,r⟩=>⟨t,pl,o,q,vs,e,h _ _ h1,h _ _ h2,h _ _ h3,Paired.imp (λ_ _ z=>Kv.tups h z) r⟩
mutual
def bare:Nd->Tr
 | .mk k _ own ps=>.mk k own (yX ps)
def yX:List Nd->List Tr
 |[]=>[]
 |a::r=>bare a::yX r
end
section
theorem Kt (l:Addr)(items:Array Value)(n:Nat)(b:Addr)(items2:Array Value)(n2:Nat)(dd:Option Addr)(sl:Array (Option Value))(hs0: ¬(!items.isEmpty&&Builtin.List.listTooLong (items.size+items2.size))=true)(hs1:items.size<=sizeLine)(hs2:items.size+items2.size<=sizeLine+1):
  Meets (Builtin.«list.extend» ⟨[.ref l,.ref b],[]⟩) (λ_ R s=>s.heap.get? l=some {cls:=.type "list",dict:=none,data:=.seq items n,slots:=#[]}/\s.heap.get? b=some ⟨.type "tuple",dd,.seq items2 n2,sl⟩/\R (.ok (.ret Value.none)) {s with heap:=s.heap.update l (Obj.mapSeq λx=>x++items2),toks:=s.toks}):=
 .of_wp λ_ _ _ _ σs hyp=>by
  obtain⟨σh,σg,σd,σt,σo⟩:=σs;obtain⟨atL,atB,fin⟩:=hyp;have r1:=AutoSeq1.idx_int;have r2:=AutoSeq1.sub_tuple_tuple;have r3:=AutoSeq1.sub_list_list;have r4:=AutoSeq1.sub_tuple_list;have r5:=AutoSeq1.sub_list_tuple;have fits:(items++items2).size<=sizeLine+1:=by simpa using hs2
  wp_walk using(wpAny_updateSeq atL rfl (hz:=hs1) (_hz':=fits)),wB atL,wB atB
  exact⟨_,rfl,fin⟩
end
section
variable {X:Cx}
inductive Ll (x:V) (vs:List V) (H:Hp) (Q:VK):Prop
 |mk (l b xs zs:_) (h0:x=.ref l) (h1:vs=[.ref b]) (h2:H l=some (.lst xs)) (h3:H b=some (.tup zs)) (h4:xs.length+zs.length<=sizeLine) (h5:Q .non (upd H l (.lst (xs++zs)))):Ll x vs H Q
theorem Rz:MtM X "list.extend" Ll:=by
 intro pins s σ H x vs v us Q I rx rv h;obtain⟨l,b,xs,zs,rfl,rfl,hH,hB,hz,q⟩:=h;cases rx;obtain⟨u,rfl,ru⟩:=rv.one;cases ru;obtain⟨z,its,n,r,hl,e⟩:=I.lstM hH;obtain⟨_,its2,r2,p⟩:=(show qR X.prog X.w H s.heap b (.tup zs)from I.hok b _ hB);obtain⟨⟨oc,od,oda,osl⟩,h1,h2,n2,h3⟩:=p;dsimp only at h2 h3;subst h2 h3;have hl2:=r2.length;have hsz:its.toArray.size+its2.toArray.size<=sizeLine:=by rw[zU,zU];lia
 have hlong: ¬(!its.toArray.isEmpty&&Builtin.List.listTooLong (its.toArray.size+its2.toArray.size))=true:=by
  rw[PV hsz,Bool.and_false];exact yB
 refine Bz F.slot_list_extend ⟨_,e,rfl⟩ F.entry_list_extend (F.args_list_extend_2 _ _)
  (Kt l its.toArray n b its2.toArray n2 od osl hlong (by rw[zU];lia) (by lia)) ⟨e,h1,?_⟩
 refine⟨.non,_,I.lset (its':=its++its2) hH e (by simp) (r.append r2) ?_,rfl,q⟩;rw[zD];lia
end
theorem wX: ∀xs:List Nd,(yX xs).length =xs.length
 |[]=>rfl
 |a::r=>by simp[yX,wX r]
theorem EY {α β:Type}{F:α->β->Prop}: ∀{xs:List α} {ys:List β},Paired F xs ys-> ∀n,Paired F (xs.take n) (ys.take n)
 |_,_,.nil,n=>by simp;exact .nil
 |_,_,.cons h t,0=>.nil
 |_,_,.cons h t,n+1=>.cons h (EY t n)
theorem EZ {α β:Type}{F:α->β->Prop}: ∀{xs:List α} {ys:List β},Paired F xs ys-> ∀n,Paired F (xs.drop n) (ys.drop n)
 |_,_,.nil,n=>by simp;exact .nil
 |_,_,.cons h t,0=>.cons h t
 |_,_,.cons h t,n+1=>EZ t n
section
variable {X:Cx}{tg:Expr}
def Sq (K:PySem.W.Frag)(H:Hp)(a:Addr)(xs:List V):Prop:=kS K H a xs\/uS K H a xs
def zHz (K:PySem.W.Frag)(tl:TE):TI:=λσ H R=>tl σ H λx H1=> ∃a,x=.ref a/\((∃xs,kS K H1 a xs)/\R (ZK K a) H1\/(∃xs,uS K H1 a xs)/\R (ZJ K a) H1)
theorem zAq {l:Expr}{tl:TE}(hl:PE X l tl):PI X tg l (zHz X.K tl):=by
 refine⟨?_⟩;intro pins s σ H R I h;refine qV (hl pins s σ H _ I h) λv s1 hzz=>?_;obtain⟨x,H1,I1,r1,q1⟩:=hzz;obtain⟨a,e,q⟩:=q1;subst e;cases r1
 rcases q with⟨⟨xs,hq⟩,q⟩|⟨⟨xs,hq⟩,q⟩
 ·obtain⟨its,rv,p,hz⟩:=I1.list hq;refine vS p.isList ?_;refine⟨s1.heap.objs.size,[s1.heap.objs.size],_,_,H1,rfl,I1.kept (t':=s1.toks) λb o e=>zC _ e,MH a _,⟨_,zT _ rfl,rfl,rfl⟩,λb hb=>?_,q⟩;have e:b=s1.heap.objs.size:=by simpa using hb
  subst e;exact I1.fpOk (zP _) (I1.hok.fresh (zP _))
 ·obtain⟨its,rv,p,hz⟩:=I1.tuple hq;refine uU (show s1.heap.IsTuple a its.toArray from p) ?_;refine⟨s1.heap.objs.size,[s1.heap.objs.size],_,_,H1,rfl,I1.kept (t':=s1.toks) λb o e=>zC _ e,KM a _,⟨_,zT _ rfl,rfl,rfl⟩,λb hb=>?_,q⟩;have e:b=s1.heap.objs.size:=by simpa using hb
  subst e;exact I1.fpOk (zP _) (I1.hok.fresh (zP _))
def VE:V->List V->Hp->VK->Prop:=λx vs H Q=>Oj x vs H Q\/Ll x vs H Q
theorem Ry:MtM X "list.extend" VE:=by
 intro pins s σ H x vs v us Q I rx rv h
 rcases h with h|h
 ·exact MY pins s σ H x vs v us Q I rx rv h
 ·exact Rz pins s σ H x vs v us Q I rx rv h
end
abbrev Wk (J:It)(g:TG)(tb:TS)(D:Gz)(σ:St)(H:Hp):Prop:= ∃W:Nat->Nat->St->Hp->Prop,(∃m,W 0 m σ H)/\ ∀i m σ H,W i m σ H->
   (J.stop i H/\D.nx σ H)\/(J.go i H/\ ∃N:St->Hp->Prop,(∀σ' H',N σ' H'-> ∃m',m'<m/\W (i+1) m' σ' H')/\ ∀x H',J.yld i H x H'->g x σ H' λσ2 H2=>tb {D with nx:=N,ct:=N,bk:=D.nx} σ2 H2)
theorem yU.seqT {K:PySem.W.Frag}{H H':Hp}{a:Addr}{xs:List V}(e:yU H H')(h:uS K H a xs):uS K H' a xs:=by
 rcases h with(h|⟨o,h⟩)|h
 ·exact .inl (.inl (e _ _ h))
 ·exact .inl (.inr ⟨o,e _ _ h⟩)
 ·exact .inr h
theorem YI {K:PySem.W.Frag}{a:Addr}{xs:List V}{g:TG}{tb:TS}{D:Gz}{σ:St}{H0 H:Hp}(hq:Sq K H0 a xs)(Pv:Nat->St->Hp->Prop)(h0:Pv 0 σ H)(hl: ∀i σ H',i<=xs.length->Pv i σ H'->yU H0 H')
  (hs: ∀i x σ H,xs[i]? =some x->Pv i σ H->g x σ H λσ2 H2=>tb {D with nx:=Pv (i+1),ct:=Pv (i+1),bk:=D.nx} σ2 H2) (hd: ∀σ H,Pv xs.length σ H->D.nx σ H):
  (∃xs,kS K H a xs)/\Wk (ZK K a) g tb D σ H\/(∃xs,uS K H a xs)/\Wk (ZJ K a) g tb D σ H:=by
 rcases hq with hq|hq
 ·exact .inl ⟨⟨xs,(hl 0 _ _ (xH _) h0).seq hq⟩,Dv Pv h0 (λi σ' H' hi p=>(hl i σ' H' hi p).seq hq) hs hd⟩
 ·exact .inr ⟨⟨xs,yU.seqT (hl 0 _ _ (xH _) h0) hq⟩,KH Pv h0 (λi σ' H' hi p=>yU.seqT (hl i σ' H' hi p) hq) hs hd⟩
def RZ (H:Hp)(v:V)(zs:List Int):Prop:= ∃t,v=.ref t/\(H t=some (.lst (zs.map V.int))\/H t=some (.tup (zs.map V.int)))
theorem RZ.same {H H':Hp}{v:V}{zs:List Int}(h:RZ H v zs)(s:yU H H'):RZ H' v zs:=by
 obtain⟨t,rfl,e|e⟩:=h
 ·exact⟨t,rfl,.inl (s _ _ e)⟩
 ·exact⟨t,rfl,.inr (s _ _ e)⟩
theorem Sq.same {K:PySem.W.Frag}{H H':Hp}{a:Addr}{xs:List V}(e:yU H H')(h:Sq K H a xs):Sq K H' a xs:=h.imp (e.seq ·) (yU.seqT e ·)
inductive KP (vs:List V) (H:Hp) (Q:VK) (E:XK):Prop
 |mk (a:Addr) (ns:List Int) (h0:vs=[.ref a]) (h1:H a=some (.lst (ns.map V.int))) (h2:ns.length<=1000000) (h3:DQ ns) (h4: ∀l H',yU H H'->H l=none->wA H' l (GB 2 (rowNums ns))->Q (.ref l) H'):KP vs H Q E
inductive KS (K:PySem.W.Frag) (vs:List V) (H:Hp) (Q:VK) (E:XK):Prop
 |mk (a:Addr) (gs:List (List Int)) (xs:List V) (k:Nat) (h0:vs=[.ref a,.int k]) (h1:Sq K H a xs) (h2:Paired (RZ H) xs gs) (h3:(∀g∈gs,g.length=k)) (h4:gs.length<=1000) (h5:k<=3) (h6: ∀l H',yU H H'->H l=none->H' l=some (.lst (gs.flatten.map V.int))->Q (.ref l) H'):KS K vs H Q E
def Ea (hs rs:List (List Int)):List Int:=(hs.length:Int)::(hs.flatten++rs.flatten)
inductive IQ (K:PySem.W.Frag) (vs:List V) (H:Hp) (Q:VK) (E:XK):Prop
 |mk (a b:Addr) (hs rs:List (List Int)) (xs ys:List V) (h0:vs=[.ref a,.ref b]) (h1:Sq K H a xs) (h2:Paired (RZ H) xs hs) (h3:(∀g∈hs,g.length=3)) (h4:hs.length<=1000) (h5:Sq K H b ys) (h6:Paired (RZ H) ys rs) (h7:(∀g∈rs,g.length=2)) (h8:rs.length<=1000) (h9:DQ (Ea hs rs)) (h10: ∀l H',yU H H'->H l=none->H' l=some (.lst ((Ea hs rs).map V.int))->Q (.ref l) H'):IQ K vs H Q E
theorem YK {gs:List (List Int)}{i:Nat}{g:List Int}(h:gs[i]? =some g):(gs.take (i+1)).flatten =(gs.take i).flatten++g:=by
 rw[wF,h,List.flatten_append]
 simp
theorem Ht {k:Nat}: ∀{gs:List (List Int)},(∀g∈gs,g.length=k)->gs.flatten.length=gs.length*k
 |[],_=>by simp
 |g::gs,h=>by
  rw[List.flatten_cons,zD,h g (yT ..),Ht (λx hx=>h x (yW _ hx)),zI,Nat.add_mul,Nat.one_mul,Nat.add_comm]
end L2
namespace L2
open PySem
theorem Paired.set {α β:Type}{F:α->β->Prop}: ∀{xs:List α} {ys:List β} (i:Nat) {x:α} {y:β},Paired F xs ys->F x y->Paired F (xs.set i x) (ys.set i y)
 |_,_,_,_,_,.nil,_=>.nil
 |_,_,0,_,_,.cons r t,h=>.cons h t
 |_,_,i+1,_,_,.cons r t,h=>.cons r (Paired.set i t h)
theorem wA.put {H:Hp}{l p:Addr}{gs:List (List Int)}{xs ys:List V}(h:wA H l gs)(hp:H p=some (.lst xs))(ne:l≠p):wA (upd H p (.lst ys)) l gs:=by
 obtain⟨rs,e,pr⟩:=h;exact⟨rs,by rw[zW ne];exact e,Paired.imp (λ_ _ x=>x.upd hp) pr⟩
theorem wA.push {H:Hp}{l:Addr}{gs:List (List Int)}{rs:List V}{v:V}{g:List Int}(e:H l=some (.lst rs))(pr:Paired (Eb H) rs gs)(tv:Eb H v g):wA (upd H l (.lst (rs++[v]))) l (gs++[g]):=
 ⟨_,zH,Paired.append (Paired.imp (λ_ _ x=>x.upd e) pr) (.cons (tv.upd e) .nil)⟩
theorem wA.setAt {H:Hp}{l:Addr}{gs:List (List Int)}{rs:List V}{v:V}{g:List Int}(i:Nat)(e:H l=some (.lst rs))(pr:Paired (Eb H) rs gs)(tv:Eb H v g):wA (upd H l (.lst (rs.set i v))) l (gs.set i g):=
 ⟨_,zH,Paired.set i (Paired.imp (λ_ _ x=>x.upd e) pr) (tv.upd e)⟩
structure vJ (hs rs:List (List Int)):Prop where
 h1:1<=hs.length
 h16:hs.length<=16
 r1:1<=rs.length
 r24:rs.length<=900
 heads: ∀i g,hs[i]? =some g->RL g i rs.length
 rows: ∀g∈rs,CH g hs.length rs.length
section
variable {X:Cx}
theorem SN:IE X (compareOp .IsNot) (λx y H Q=> ∃a b,x=.bl a/\y=.bl b/\Q (.bl (!(a==b))) H):=by
 intro pins s σ H x y v u Q I rx ry h;obtain⟨a,b,rfl,rfl,q⟩:=h;cases rx;cases ry;exact zL ⟨.bl (!(a==b)),H,I,by cases a<;>cases b<;>rfl,q⟩
end
theorem WX {k:Nat}(hk:k=2\/k=3){g rest:List Int}(hg:g.length=k):GB k (g++rest)=g::GB k rest:=by
 unfold GB;have e:((g++rest).length +(k-1)) / k=(rest.length+(k-1)) / k+1:=by
  rw[zD,hg]
  rcases hk with rfl|rfl<;>lia
 rw[e,List.range_succ_eq_map,xG,AL,Nat.zero_mul,CB];congr 1
 ·rw[Dz (by lia),xJ (by lia)]
 ·refine uF λi _=>?_;show((g++rest).drop ((i+1)*k)).take k=_;rw[Nat.add_mul,Nat.one_mul,Nat.add_comm,<-List.drop_drop,<-hg,List.drop_left]
theorem LO {k:Nat}(hk:k=2\/k=3): ∀{gs:List (List Int)},(∀g∈gs,g.length=k)->GB k gs.flatten=gs
 |[],_=>by
  unfold GB
  rcases hk with rfl|rfl<;>rfl
 |g::gs,h=>by
  rw[List.flatten_cons,WX hk (h g (yT ..)),LO hk λx hx=>h x (yW _ hx)]
theorem vJ.h3 {hs rs:List (List Int)}(c:vJ hs rs): ∀g∈hs,g.length=3:=λg hg=>by
 obtain⟨j,hj⟩:=List.mem_iff_getElem?.mp hg;obtain⟨_,_,_,rfl,_⟩:=c.heads j g hj;rfl
theorem vJ.r2 {hs rs:List (List Int)}(c:vJ hs rs): ∀g∈rs,g.length=2:=λg hg=>by
 obtain⟨_,_,rfl,_⟩:=c.rows g hg;rfl
theorem vJ.headNums {hs rs:List (List Int)}(c:vJ hs rs):headNums (Ea hs rs)=hs.flatten:=by
 show List.take (3*((hs.length:Int)).toNat) (hs.flatten++rs.flatten)=_;have:=Ht c.h3;rw[kL,Dz (by lia),xJ (by lia)]
theorem vJ.rowNums {hs rs:List (List Int)}(c:vJ hs rs):rowNums (Ea hs rs)=rs.flatten:=by
 show List.drop (1+3*((hs.length:Int)).toNat) ((hs.length:Int)::(hs.flatten++rs.flatten))=_;have:=Ht c.h3;rw[kL,Nat.add_comm,List.drop_succ_cons,show 3*hs.length=hs.flatten.length by lia,List.drop_left]
theorem vJ.ok {hs rs:List (List Int)}(c:vJ hs rs):DQ (Ea hs rs):=by
 have l3:=Ht c.h3;have l2:=Ht c.r2;have a1:=c.h1;have a2:=c.h16;have a3:=c.r1;have nr:(L2.rowNums (Ea hs rs)).length / 2=rs.length:=by rw[c.rowNums,l2];lia
 refine⟨⟨_,_,rfl,by lia,by lia,?_,?_⟩,λi g hg=>?_,λg hg=>?_⟩
 ·rw[zD,l3,l2];lia
 ·rw[zD,l3,l2,kL];lia
 ·rw[c.headNums,LO (.inr rfl) c.h3]at hg;rw[nr];exact c.heads i g hg
 ·rw[c.rowNums,LO (.inl rfl) c.r2]at hg;rw[nr];exact c.rows g hg
theorem wA.seqs {H:Hp}{rv:List V}{gs:List (List Int)}(pr:Paired (Eb H) rv gs):Paired (RZ H) rv gs:=Paired.imp (λ_ _ ⟨t,e,q⟩=>⟨t,e,.inr q⟩) pr
theorem LI {K:PySem.W.Frag}{t c:Value}{r:List Value}(h:PySem.W.kitOne K t c=some true):PySem.W.kitAny K t (c::r)=some true:=by
 unfold PySem.W.kitAny;rw[h]
theorem Ql {K:PySem.W.Frag}{t c c2:Value}{r:List Value}(h:PySem.W.kitOne K t c=some false)(h2:PySem.W.kitOne K t c2=some true):PySem.W.kitAny K t (c::c2::r)=some true:=by
 unfold PySem.W.kitAny;rw[h];exact LI h2
end L2
namespace L2
open PySem PySem.Spec PyProof.Rows
section
variable {pg:Program}{wd:World}{B:Around}{xs:Value->Shared->Prop}
theorem ZE {j l:Addr}{us:Array Value}(ne:l≠j): ∀(m k:Nat) (t:Shared) (R:List Value->Shared->Prop),t.heap.IsListIter j l k->t.heap.IsList l us->k+m<=us.size->
  (∀g,g.IsListIter j l (k+m)->Heap.SameBut j t.heap g->R ((us.toList.drop k).take m) {t with heap:=g})->wpAny (model pg wd) B (draw (.ref j) m) R xs t
 |0,k,t,R,a,_,_,q=>by
  show wpAny _ _ (pure []) R xs t;exact zL (by simpa using q t.heap a (Heap.SameBut.refl ..))
 |m+1,k,t,R,a,b,c,q=>by
  have kl:k<us.size:=by lia
  show wpAny _ _ (pyNext (.ref j)>>=_) R xs t;refine zA (BS a b (x:=us[k]) (by simp[kl]) λg1 a1 b1=>?_);refine zA (jD (ZE ne m (k+1) _ _ a1 (b.extBut b1.extBut ne) (by lia) λg2 a2 b2=>zL ?_));have e:us.toList.drop k=us[k]::us.toList.drop (k+1):=by simp[xO,kl]
  have z:=q g2 (by rw[show k+(m+1)=k+1+m by lia];exact a2) (b1.trans b2);rw[e,List.take_succ_cons]at z;exact z
theorem Ve {t:Shared}{l:Addr}{us:Array Value}{R:List Value->Shared->Prop}(hh:B.handled=none)(b:t.heap.IsList l us)
  (q: ∀g,Heap.ExtBut t.heap.objs.size t.heap g->R us.toList {t with heap:=g}):wpAny (model pg wd) B (unpackItems (.ref l) us.size none) R xs t:=by
 have ne:l≠t.heap.objs.size:=by obtain⟨o,e,_⟩:=b;exact xA (zS e)
 unfold unpackItems;refine zA ?_;unfold notIterableAtAll;refine zA (Bl b.typeIs PySem.slot_list_iter.lookup (zL ?_));rw[zN yB];refine zA (jD (vS b (zA (jD (ZE ne us.size 0 _ _ ⟨_,zT _ rfl,rfl,rfl⟩ (b.push _) (by lia) λg1 a1 s1=>?_)))));have e:List.take us.size (List.drop 0 us.toList)=us.toList:=by rw[CB];exact xJ (by simp)
 rw[e,zN (by simp)];refine zA (jD (CI hh a1 ((b.push _).extBut s1.extBut ne) (by simp) λg2 e2=>?_));rw[zN (by simp)];exact zL (q g2 λc o hc z=>e2 c o hc (s1.extBut c o hc (zC _ z)))
end
section
variable {X:Cx}{pos:Pos}
inductive zEj (K:PySem.W.Frag) (n:Nat) (t:YY) (v:V) (σ:St) (H:Hp) (Q:St->Hp->Prop):Prop
 |mk (a xs:_) (h0:v=.ref a) (h1:kS K H a xs) (h2:xs.length=n) (h3:t xs σ H Q):zEj K n t v σ H Q
theorem zAs {es:List Expr}{k:Nat}{t:YY}{n:Nat}(hc:X.calm=true)(h:ZH X es t)(hn:(assignEach es X.env).length =n:=by rfl)(hst:(assignEach es X.env).findIdx? (·.1)=none:=by rfl):PG X (.Tuple es k pos) (zEj X.K n t):=by
 refine⟨?_⟩;intro pins s σ H v u Q I r hw;obtain⟨a,zs,rfl,hq,hl,hw⟩:=hw;cases r;obtain⟨us,rv,hp,_⟩:=I.list hq;have e:(assignEach es X.env).length =us.toArray.size:=by rw[hn,<-hl,rv.length];simp
 have go:wpAny (model X.prog X.w) X.A (unpack (.ref a) (assignEach es X.env)) (λ_ s'=> ∃σ' H',xK X pins σ' H' s'/\Q σ' H') X.xe s:=by
  unfold unpack;rw[e,hst];refine zA (jD (Ve (I.ok.hd hc) hp.isList λg hx=>?_));have I1:xK X pins σ H {s with heap:=g}:=I.kept (t':=s.toks) λb o z=>hx b o (xA (zS z)) z;exact h pins _ σ H zs _ Q I1 (by simpa using rv) hw
 rw[PyProof.Rows.assign_Tuple];exact zA (Bd go)
end
section
variable {X:Cx}
theorem MC: ∀(as:List Addr),jK (as.map V.ref) (as.map Value.ref)
 |[]=>.nil
 |a::r=>.cons rfl (MC r)
theorem JL: ∀{as:List Addr} {us:List Value},jK (as.map V.ref) us->us=as.map Value.ref
 |[],_,.nil=>rfl
 |n::ns,_,.cons h t=>by
  rw[JL t,xG];congr 1
end
end L2
namespace L2
open PySem PySem.Spec PyProof.Rows PySem.W
def OR (h:Heap)(v:Value)(k:Int):Prop:= ∃(a:Addr) (o:Obj) (b c:Int) (t1 t2 t3:Tok) (n:Nat),v=.ref a/\h.get? a=some o/\o.cls=.type "tuple"/\o.data=.seq #[.int k t1,.int b t2,.int c t3] n
theorem OR.one {h:Heap}{v:Value}{k k':Int}(x:OR h v k)(y:OR h v k'):k=k':=by
 obtain⟨a,o,b,c,t1,t2,t3,n,rfl,e,_,d⟩:=x;obtain⟨a',o',b',c',u1,u2,u3,n',ea,e',_,d'⟩:=y;cases ea;rw[e]at e';cases e';rw[d]at d';injection d' with d1 d2
 have:=qI (λz:Array Value=>z[0]?) d1
 simp at this
 exact this.1
noncomputable def kf (h:Heap)(v:Value):Int:=open Classical in if e: ∃k,OR h v k then e.choose else 0
theorem Qm {h:Heap}{v:Value}{k:Int}(x:OR h v k):kf h v=k:=by
 unfold kf;rw[dif_pos ⟨k,x⟩];exact OR.one (Exists.choose_spec (p:=λk=>OR h v k) ⟨k,x⟩) x
theorem OR.kept {h h':Heap}(g: ∀b o,h.get? b=some o->h'.get? b=some o){v:Value}{k:Int}(x:OR h v k):OR h' v k:=by
 obtain⟨a,o,b,c,t1,t2,t3,n,e,g1,r⟩:=x;exact⟨a,o,b,c,t1,t2,t3,n,e,g _ _ g1,r⟩
section
variable {prog:Program}{w:World}{A:Around}{E:Value->Shared->Prop}{s:Shared}
theorem ZR {h:Heap}(eh:s.heap=h){v v':Value}{k k':Int}(tx:OR h v k)(ty:OR h v' k')(z:k≠k'){C:Bool->Shared->Prop}(q:C (decide (k<k')) s):wpAny (model prog w) A (keyLt' (tuples' true) v v') C E s:=by
 obtain⟨a,o,b,c,t1,t2,t3,n,ea,ga,_,da⟩:=tx;obtain⟨a',o',b',c',u1,u2,u3,n',eb,gb,_,db⟩:=ty;rw[ea,eb];refine kat_lt (eh▸ga) da (eh▸gb) db (kat_cons (wpAny_eqBool_int ?_));rw[show(k==k')=false from beq_eq_false_iff_ne.mpr z];exact kat_no (oneLt_int q)
def evK (ks:List Int){α:Type}:KasT α->Option α
 | .ret a=>some a
 | .ask i j k=>if i<ks.length/\j<ks.length/\ks.getD i 0≠ks.getD j 0 then evK ks (k (decide (ks.getD i 0<ks.getD j 0)))else none
theorem WI {ks:List Int}{α:Type}{cmp:Nat->Nat->(Bool->Shared->Prop)->Shared->Prop}{G:α->Shared->Prop}(h: ∀(i j:Nat) (C:Bool->Shared->Prop),i<ks.length->j<ks.length->ks.getD i 0≠ks.getD j 0->C (decide (ks.getD i 0<ks.getD j 0)) s->cmp i j C s): ∀(t:KasT α) (p:α),evK ks t=some p->G p s->t.kasWp cmp G s
 | .ret a,p,e,g=>by
  cases e;exact g
 | .ask i j k,p,e,g=>by
  unfold evK at e;split at e
  ·rename_i c;exact h i j _ c.1 c.2.1 c.2.2 (WI h _ p e g)
  ·cases e
def JZ (ks:List Int):Bool:=decide (ks.length<2) || (decide (ks.length<64)&&match evK ks (kas_sort ks.length)with
 |none=>false
 |some p=>p.toList.isPerm (List.range ks.length)&&decide ((p.toList.map λi=>ks.getD i 0).Pairwise (·<=·)))
theorem II {α:Type}: ∀l:List α,l.zip l=l.map λv=>(v,v)
 |[]=>rfl
 |x::r=>by rw[BA,II r];rfl
theorem So {h:Heap}: ∀vs:List Value,(∀v∈vs,∃k,OR h v k)-> ∃fs,KatTups h vs fs/\(∀f∈fs,∃k t,f=Value.int k t)/\fs.length=vs.length
 |[],_=>⟨[],.nil,λf hf=>(nomatch hf),rfl⟩
 |v::r,T=>by
  obtain⟨fs,a,b,c⟩:=So r λx hx=>T x (yW _ hx);obtain⟨k,ad,o,p,q,t1,t2,t3,n,rfl,g,cl,d⟩:=T v (yT ..);refine⟨.int k t1::fs,KatTups.cons g cl d rfl a,λf hf=>?_,by rw[zI,zI,c]⟩
  rcases List.mem_cons.mp hf with z|z
  ·exact⟨k,t1,z⟩
  ·exact b f z
theorem Vi {a:Addr}{vs:List Value}{n:Nat}{P:PySem.Fin->Shared->Prop}(ho:s.heap.get? a=some (seqObj "list" vs.toArray n))(sb:JZ (vs.map (kf s.heap))=true)(h64:vs.length<64)(T: ∀v∈vs,∃k,OR s.heap v k)(na: ∀k,¬OR s.heap (.ref a) k)
  (h: ∀out:Array Value,out.toList.Perm vs->(out.toList.Pairwise λx y=>kf s.heap x<=kf s.heap y)->P (.done (.ret .none)) {s with heap:=sortedHeap s.heap a vs out}):wpAny (model prog w) A (Builtin.«list.sort» ⟨[.ref a],[]⟩) P E s:=by
 have hz:vs.length<=1000000:=by lia
 have la:a<s.heap.objs.size:=zS ho;have zz:vs.length<=sizeLine:=yO hz (by decide);have z2:vs.toArray.size=vs.length:=by simp
 rw[list_sort_plain];refine zA (listItems_at ho rfl (zA (listUpdate_at ho rfl ?_ (by rw[z2];exact yO hz (by decide)) (xH _))));obtain⟨e1,g1⟩: ∃e1,(s.heap.update a (Obj.mapSeq λ_=>#[])).get? a=some (seqObj "list" #[] e1):=⟨_,get?_update_seq ho (λ_=>#[])⟩;refine zA (seqEpoch_at g1 rfl (zA (wpAny_newTuple (zA (wpAny_newList (jD ?_) (xH _))) zz)));generalize h3e:((s.heap.update a (Obj.mapSeq λ_=>#[])).push (seqObj "tuple" vs.toArray 0)).push (seqObj "list" #[] 0)=h3;have kp: ∀b o,b≠a->s.heap.get? b=some o->h3.get? b=some o:=λb o nb e=>by
  rw[<-h3e];refine zC _ (zC _ ?_);rw[Heap.get?_update_ne _ _ _ _ nb];exact e
 have g3:h3.get? a=some (seqObj "list" #[] e1):=by
  rw[<-h3e];exact zC _ (zC _ g1)
 have T3: ∀v∈vs,OR h3 v (kf s.heap v):=λv hv=>by
  obtain⟨k,x⟩:=T v hv;rw[Qm x];obtain⟨b,o,p,q,t1,t2,t3,m,e,g,r⟩:=x;refine⟨b,o,p,q,t1,t2,t3,m,e,kp b o (λz=>na k ?_) g,r⟩;rw[<-z];exact⟨b,o,p,q,t1,t2,t3,m,rfl,g,r⟩
 have kf3: ∀v∈vs,kf h3 v=kf s.heap v:=λv hv=>Qm (T3 v hv);have fin: ∀st':SortSt,(arrOf st').toList.Perm (vs.toArray.zip vs.toArray).toList->failedOf st'=none->((arrOf st').toList.Pairwise λx y=>kf h3 x.1<=kf h3 y.1)->P (.done (.ret .none)) {s with heap:=h3.update a (Obj.mapSeq λ_=>(arrOf st').map (·.2))}:=λst' p f r=>by
  have pv:((arrOf st').map (·.2)).toList.Perm vs:=by
   rw[Dh];refine(p.map _).trans ?_;rw[Df,List.map_snd_zip (zP _)]
  have same: ∀x∈(arrOf st').toList,x.1=x.2/\x.2∈vs:=λx hx=>by
   have:=p.mem_iff.mp hx;rw[Df,II]at this;obtain⟨v,hv,rfl⟩:=List.mem_map.mp this;exact⟨rfl,hv⟩
  have:=h ((arrOf st').map (·.2)) pv (by
   rw[Dh,Ao];refine vZ (fun{x y} hx hy z=>?_) r;obtain⟨a1,a2⟩:=same x hx;obtain⟨b1,b2⟩:=same y hy;rw[a1,b1,kf3 _ a2,kf3 _ b2]at z;exact z)
  unfold sortedHeap at this;rw[h3e]at this;exact this
 show wpAny (model prog w) A _ P E {s with heap:=h3};dsimp only
 by_cases c:vs.toArray.size<2
 ·rw[zQ c,zQ c];refine zA (zL ?_);rw[StateT.run_pure];refine zA (zL ?_);dsimp only;refine zA (seqEpoch_at (s:={s with heap:=h3}) g3 rfl (zA (listUpdate_at g3 rfl ?_ (xH _) (by rw[Array.size_map];show(vs.toArray.zip vs.toArray).size<=_;rw[Array.size_zip];exact yO (DU _ _) (by rw[z2];exact yO hz (by decide))))));simp only[bne_self_eq_false,BB,FX];refine zL (fin (SortSt.mk' general' (vs.toArray.zip vs.toArray) #[] 7 none) (List.Perm.refl _) rfl ?_);show((vs.toArray.zip vs.toArray).toList.Pairwise λx y=>kf h3 x.1<=kf h3 y.1);rw[Df,II];clear h T sb ho T3 kf3 fin;cases vs with
  |nil=>exact .nil
  |cons x r=>
   cases r with
   |nil=>exact List.pairwise_singleton _ _
   |cons y r=>
    rw[z2,zI,zI]at c;lia
 ·rw[zN c,zN c];obtain⟨fs,k1,k2,k3⟩:=So (h:=h3) vs λv hv=>⟨_,T3 v hv⟩;refine zA (kat_kind (s:={s with heap:=h3}) (T:=.type "int") k1 (by lia) (λv hv=>?_) rfl ?_)
  ·obtain⟨k,t,rfl⟩:=k2 v hv;exact .now
  have lk:(vs.map (kf s.heap)).length =vs.length:=zF ..;have kg: ∀i,i<vs.length->(vs.map (kf s.heap)).getD i 0=kf s.heap (vs.getD i .none)/\vs.getD i .none∈vs:=λi hi=>by
   have e:vs[i]? =some vs[i]:=zG hi;rw[xV,xV,yQ,e];exact⟨rfl,kY hi⟩
  obtain⟨p0,ev,pm,so⟩: ∃p,evK (vs.map (kf s.heap)) (kas_sort vs.length)=some p/\p.toList.Perm (List.range vs.length)/\(p.toList.map λi=>(vs.map (kf s.heap)).getD i 0).Pairwise (·<=·):=by
   unfold JZ at sb;rw[lk,Bool.or_eq_true,By]at sb
   rcases sb with sb|sb
   ·lia
   ·obtain⟨_,sb⟩:=Bool.and_eq_true_iff.mp sb;split at sb
    ·cases sb
    ·rename_i p e;obtain⟨b1,b2⟩:=Bool.and_eq_true_iff.mp sb;exact⟨p,e,List.isPerm_iff.mp b1,zO b2⟩
  have it: ∀i,kas_item (vs.toArray.zip vs.toArray) i=(vs.getD i .none,vs.getD i .none):=λi=>kat_item rfl i;refine zA (qX (kat_run (E:=E) (s:={s with heap:=h3}) (κ:=tuples' true) (ks:=vs) (vs:=vs) (Q:=λst' s'=>s'={s with heap:=h3}/\(arrOf st').toList.Perm (vs.toArray.zip vs.toArray).toList/\failedOf st'=none/\((arrOf st').toList.Pairwise λx y=>kf h3 x.1<=kf h3 y.1)) (G:=λp s'=>s'={s with heap:=h3}/\p=p0) rfl (by lia) h64 (λp st' s' a1 a2 a3 a4=>?_) (WI (ks:=vs.map (kf s.heap)) (λi j C hi hj ne q=>?_) _ p0 ev ⟨rfl,rfl⟩)) ?_ λ_ _ e=>e)
  ·obtain⟨rfl,rfl⟩:=a4;refine⟨rfl,?_,a3,?_⟩
   ·rw[a2,Dh];refine(pm.map _).trans ?_;rw[Df,II];have:(List.range vs.length).map (kas_item (vs.toArray.zip vs.toArray))=vs.map λv=>(v,v):=by
     refine List.ext_getElem? λi=>?_;rw[yQ,yQ]
     by_cases hi:i<vs.length
     ·rw[AU hi,zG hi];show some (kas_item _ i)=_;rw[it,xV,zG hi]<;>rfl
     ·rw[vE (by rw[Fe];lia),vE (by lia)]<;>rfl
    rw[this]
   ·rw[a2,Dh,Ao];rw[Ao]at so;refine vZ (fun{x y} hx hy z=>?_) so;have hx':=List.mem_range.mp (pm.mem_iff.mp hx);have hy':=List.mem_range.mp (pm.mem_iff.mp hy);rw[it,it];show kf h3 (vs.getD x .none)<=kf h3 (vs.getD y .none);rw[kf3 _ (kg x hx').2,kf3 _ (kg y hy').2,<-(kg x hx').1,<-(kg y hy').1];exact z
  ·rw[lk]at hi hj;rw[(kg i hi).1,(kg j hj).1]at ne q;exact ZR rfl (T3 _ (kg i hi).2) (T3 _ (kg j hj).2) ne q
  rintro⟨⟨⟩,st'⟩ s' ⟨rfl,a1,a2,a3⟩;dsimp only;refine zA (seqEpoch_at (s:={s with heap:=h3}) g3 rfl (zA (listUpdate_at g3 rfl ?_ (xH _) ?_)))
  ·rw[a2];simp only[bne_self_eq_false,BB,FX];exact zL (fin st' a1 a2 a3)
  ·rw[Array.size_map,<-uH,a1.length_eq,uH,Array.size_zip];exact yO (DU _ _) (by rw[z2];exact yO hz (by decide))
theorem QP {l:Addr}{vs:List Value}{Q:Value->Shared->Prop}(hl:s.heap.IsList l vs.toArray)(sb:JZ (vs.map (kf s.heap))=true)(h64:vs.length<64)(T: ∀v∈vs,∃k,OR s.heap v k)
  (h: ∀out:Array Value,out.toList.Perm vs->(out.toList.Pairwise λx y=>kf s.heap x<=kf s.heap y)->Q (.ref (s.heap.objs.size+1)) {s with heap:=sortedAll s.heap vs out}):wpAny (model prog w) A (call (.builtin "sorted") [.ref l]) Q E s:=by
 have hz:vs.length<=1000000:=by lia
 have zz:vs.length<=sizeLine:=yO hz (by decide);refine Calls.call_function_entry kind_sorted plain_sorted entry_sorted (args_sorted1 _) (show wpAny (model prog w) _ (Builtin.«sorted» _) _ _ s from ?_);unfold Builtin.«sorted»;refine zA (m:=checkCount "sorted" 1 1 _) (zL (zA (collect_list hl (zA (wpAny_newList ?_ zz)) zz)));have sz:((s.heap.push (seqObj "list" #[] 0)).update s.heap.objs.size (Obj.mapSeq (·++vs.toArray))).objs.size =s.heap.objs.size+1:=by rw[Heap.size_update,size_push']
 have g:(((s.heap.push (seqObj "list" #[] 0)).update s.heap.objs.size (Obj.mapSeq (·++vs.toArray))).push (seqObj "list" vs.toArray 0)).get? (s.heap.objs.size+1)=some (seqObj "list" vs.toArray 0):=by rw[<-sz];exact zT _ rfl
 have kp: ∀b o,s.heap.get? b=some o->(((s.heap.push (seqObj "list" #[] 0)).update s.heap.objs.size (Obj.mapSeq (·++vs.toArray))).push (seqObj "list" vs.toArray 0)).get? b=some o:=λb o e=>by
  have lt:=zS e;refine zC _ ?_;rw[Heap.get?_update_ne _ _ _ _ (xA lt)];exact zC _ e
 have kfe: ∀v∈vs,kf (((s.heap.push (seqObj "list" #[] 0)).update s.heap.objs.size (Obj.mapSeq (·++vs.toArray))).push (seqObj "list" vs.toArray 0)) v=kf s.heap v:=λv hv=>by
  obtain⟨k,x⟩:=T v hv;rw[Qm x,Qm (x.kept kp)]
 show wpAny _ _ _ _ _ {s with heap:=((s.heap.push (seqObj "list" #[] 0)).update s.heap.objs.size (Obj.mapSeq (·++vs.toArray))).push (seqObj "list" vs.toArray 0)};rw[sz];refine zA (jD (jQ slot_list_sort ⟨_,g,rfl⟩ entry_list_sort (Vi g (by rw[uF kfe];exact sb) h64 (λv hv=>?_) (λk x=>?_) λout a1 a2=>⟨_,rfl,zL ⟨_,rfl,h out a1 ?_⟩⟩) (args_list_sort _)))
 ·obtain⟨k,x⟩:=T v hv;exact⟨k,x.kept kp⟩
 ·obtain⟨b,o,p,q,t1,t2,t3,m,e,e2,c,d⟩:=x;cases e;have e2':=g.symm.trans e2;injection e2' with e2'
  rw[<-e2']at c;injection c with c
  exact absurd c (by decide)
 ·refine vZ (fun{x y} hx hy z=>?_) a2;rw[<-kfe x (a1.mem_iff.mp hx),<-kfe y (a1.mem_iff.mp hy)];exact z
end
section
variable {X:Cx}
def DO (H:Hp)(a:Addr)(x:Int×Int×Int):Prop:=H a=some (.tup [.int x.1,.int x.2.1,.int x.2.2])
inductive Pn (xs:List V) (H:Hp) (Q:VK):Prop
 |mk (l:Addr) (as:List Addr) (ls:List (Int×Int×Int)) (h0:xs=[.ref l]) (h1:H l=some (.lst (as.map V.ref))) (h2:Paired (DO H) as ls) (h3:JZ (ls.map (·.1))=true) (h4:as.length<64) (h5: ∀(p:Addr) (as':List Addr) (ls':List (Int×Int×Int)),H p=none->Paired (DO H) as' ls'->ls'.Perm ls->(ls'.Pairwise λx y=>x.1<=y.1)->Q (.ref p) (upd H p (.lst (as'.map V.ref)))):Pn xs H Q
theorem ZP {x y z:V}{us:List Value}(r:jK [x,y,z] us): ∃u v w',us=[u,v,w']/\kI x u/\kI y v/\kI z w':=by
 cases r with
 |cons h1 t1=>
  obtain⟨v,w',rfl,h2,h3⟩:=IJ t1;exact⟨_,v,w',rfl,h1,h2,h3⟩
def Mx (H:Hp)(a:Addr):Int×Int×Int:=match H a with
 |some (.tup [.int x,.int y,.int z])=>(x,y,z)
 |_=>(0,0,0)
theorem YB {H:Hp}{a:Addr}{x:Int×Int×Int}(h:DO H a x):Mx H a=x:=by
 unfold Mx;rw[h]
theorem RI {H:Hp}: ∀{as:List Addr} {ls:List (Int×Int×Int)},Paired (DO H) as ls->ls=as.map (Mx H)/\ ∀a∈as,DO H a (Mx H a)
 |[],_,.nil=>⟨rfl,λa h=>(nomatch h)⟩
 |a::as,x::ls,.cons h t=>by
  obtain⟨e,g⟩:=RI t;have ea:=YB h;refine⟨by rw[xG,ea,e],λb hb=>?_⟩
  rcases List.mem_cons.mp hb with z|z
  ·rw[z,ea];exact h
  ·exact g b z
theorem RJ {H:Hp}: ∀{as:List Addr},(∀a∈as,DO H a (Mx H a))->Paired (DO H) as (as.map (Mx H))
 |[],_=>.nil
 |a::as,h=>.cons (h a (yT ..)) (RJ λb hb=>h b (yW _ hb))
def MF:Value->Addr
 | .ref a=>a
 |_=>0
theorem ZS {pins:List (Addr×Obj)}{σ:St}{H:Hp}{s:Shared}(I:xK X pins σ H s){a:Addr}{x:Int×Int×Int}(h:DO H a x):OR s.heap (.ref a) x.1:=by
 obtain⟨its,r,⟨o,e,c,n,d⟩,_⟩:=I.tuple (.of h);obtain⟨u1,u2,u3,rfl,r1,r2,r3⟩:=ZP r;obtain⟨t1,rfl⟩:=r1;obtain⟨t2,rfl⟩:=r2;obtain⟨t3,rfl⟩:=r3;exact⟨a,o,_,_,t1,t2,t3,n,rfl,e,c,d⟩
theorem Jj:FU X (.builtin "sorted") Pn:=by
 intro pins s σ H xs us Q I r h;obtain⟨l,as,ls,rfl,hl,hp,nd,hz,q⟩:=h;obtain⟨u,rfl,ru⟩:=JY r;cases ru;obtain⟨zl,its,n,rv,hli,he⟩:=I.lstM hl;have e0:=JL rv;subst e0;obtain⟨el,gl⟩:=RI hp;have T: ∀a∈as,OR s.heap (.ref a) (Mx H a).1:=λa ha=>ZS I (gl a ha);have kfa: ∀a∈as,kf s.heap (.ref a)=(Mx H a).1:=λa ha=>Qm (T a ha);have km:(as.map Value.ref).map (kf s.heap)=ls.map (·.1):=by
  rw[el,AL,AL];exact uF λa ha=>kfa a ha
 refine QP ⟨_,he,rfl,_,rfl⟩ (by rw[km];exact nd) (by rw[zF];exact hz) (λv hv=>?_) λout p1 p2=>?_
 ·obtain⟨a,ha,rfl⟩:=List.mem_map.mp hv;exact⟨_,T a ha⟩
 have eo:out.toList=(out.toList.map MF).map Value.ref:=by
  rw[AL];have:out.toList.map (Value.ref∘MF)=out.toList.map id:=uF λv hv=>by
   obtain⟨a,ha,rfl⟩:=List.mem_map.mp (p1.mem_iff.mp hv);rfl
  rw[this,List.map_id]
 have pa:(out.toList.map MF).Perm as:=by
  have:=p1.map MF;rw[AL]at this;have e:as.map (MF∘Value.ref)=as:=List.map_id _;rw[e]at this;exact this
 generalize out.toList.map MF=as' at *
 have ga: ∀a∈as',DO H a (Mx H a):=λa ha=>gl a (pa.mem_iff.mp ha);obtain⟨e,ge⟩:=sortedAll_at s.heap (as.map Value.ref) out;have kk: ∀b o,s.heap.get? b=some o->(sortedAll s.heap (as.map Value.ref) out).get? b=some o:=λb o z=>sortedAll_old z;have eout:out=(as'.map Value.ref).toArray:=by rw[<-eo]
 have len:as'.length=as.length:=pa.length_eq;have rv':jK (as'.map V.ref) (as'.map Value.ref):=MC as';refine⟨.ref (s.heap.objs.size+1),_,I.laid (o:=.lst (as'.map V.ref)) kk (vV _) ⟨?_,_,e,rv',?_⟩,rfl,q _ as' _ (I.hok.fresh (vV _)) (RJ ga) ?_ ?_⟩
 ·rw[zF,len];exact yO (BZ hz) (by decide)
 ·rw[ge,eout]
 ·rw[el];exact pa.map _
 ·rw[Ao];rw[eo,Ao]at p2;refine vZ (fun{x y} hx hy z=>?_) p2;rw[kfa x (pa.mem_iff.mp hx),kfa y (pa.mem_iff.mp hy)]at z;exact z
end
end L2
namespace L2
open PySem PySem.W PySem.Spec PySem.Calls PyProof.Rows
section
variable {prog:Program}{w:World}{A:Around}{E:Value->Shared->Prop}{K:Frag}{C:Addr}{s:Shared}{x:Addr}{ox:Obj}{od:Option Obj}
theorem UC {Q:Option Value->Shared->Prop}(X:K.In s.heap)(I:InstAt s.heap x ox C od)(Ec:EF K C)(ha:findIn K (.ref C) "__class__"=some (some (.builtin "object.__class__")))
  (hn:specialIn K (.builtin "object.__class__") "__get__"=some (some (.builtin "getset_descriptor.__get__"))) (htk:takesIn K (.builtin "object.__class__")=some true)
  (hq:Q (some (.ref C)) {s with toks:=s.toks+1}):wpAny (model prog w) A (getAttr? (.ref x) "__class__") Q E s:=by
 have hf:findObj K C od "__class__"=some (.bind (.builtin "getset_descriptor.__get__") (.builtin "object.__class__")):=by
  obtain⟨cd,hcd,_⟩:=Ec.cd
  simp[findObj,hcd,ha,hn,htk]
 obtain⟨h,g,d,t,os⟩:=s;have L0:=I.type (M:=model prog w);have L1:=BW (M:=model prog w) X Ec.ga;have L2':=BW (M:=model prog w) X Ec.noHook;have L3:=looks_find (M:=model prog w) X I hf;have Lb:PySem.W.Looks (model prog w) h (isInstance (.ref x) (.type "BaseException")) true:=L0.andThen (looks_mroIn X Ec.base);have f3:=F.excAttr_ValueError.ga.bind (.ref x);have hk:builtinKind "BaseException.__getattribute__"=some .slot:=by decide+kernel
 have hsplit:splitId "BaseException.__getattribute__"=some ("BaseException","__getattribute__"):=by decide+kernel
 unfold getAttr? getAttrBy? getAttrBy;refine zA (wpAny_mkText (zA (wT (jD (zA (L0.at (zA (L1.at ?_))))))));show wpAny _ _ (getAttrByItsOwn _ _ _ _ _ _) _ _ _;unfold getAttrByItsOwn;refine zA (L2'.at (zA (wT (jD ?_))));unfold callGetattribute;have hx0:(false&&onTheHeap (Value.builtin "BaseException.__getattribute__"))=false:=rfl;rw[hx0];unfold boundAndCalled;show wpAny _ _ (bindSpecial _ _>>=_) _ _ _;rw[f3];refine zA (zL (Bw (Dx F.excAttr_ValueError.ga.plain F.entry_bexc_ga (@check_slot (model prog w) _ _ _ "BaseException.__getattribute__" "BaseException" "__getattribute__" (.ref x) [.str "__class__" t] [] _ hk hsplit Lb (F.args_bexc_ga _ _) ?_))));refine zA (zL (zA (zL (zA (L0.at (zA (L3.at ?_)))))));show wpAny _ _ (Builtin.ObjectAttr.bindTo (Value.builtin "getset_descriptor.__get__") (Value.builtin "object.__class__") (Value.ref x) (Value.ref C)) _ _ _;show wpAny _ _ (holding [Value.builtin "object.__class__"] (call (Value.builtin "getset_descriptor.__get__") [Value.builtin "object.__class__",Value.ref x,Value.ref C])>>=ret) _ _ _;refine zA (jD (Bw (class_get X I Ec.obj ?_)));refine zL ?_;show wpAny _ _ (handedOut (Value.ref C)) _ _ _;rw[handedOut_of (v:=Value.ref C) rfl];exact zL (zL hq)
theorem LH (Ec:EF K C)(ha:findIn K (.ref C) "__class__"=some (some (.builtin "object.__class__")))
  (hn:specialIn K (.builtin "object.__class__") "__get__"=some (some (.builtin "getset_descriptor.__get__"))) (htk:takesIn K (.builtin "object.__class__")=some true):KitX K (.ref x) (.ref C) (λh=>InstAt h x ox C od) where
 ty:=λ_ _ _ I=>I.type
 it:=λ_ _ X _=>by
  obtain⟨cdD,hcD,_⟩:=Ec.cd;unfold clsIn at hcD;split at hcD
  ·rename_i c' d' cd' sl' ho;intro A' Q' E' s' k q;unfold isType loadHead;exact zA (EH (k _ _ (X _ _ ho)) (zL q))
  ·cases hcD
 ne:=λh tp dd its n sl X htp=>by
  obtain⟨cdD,hcD,_⟩:=Ec.cd;refine Bool.eq_false_iff.mpr λq=>?_;have e:C=tp:=Value.ref.inj (beq_iff_eq.mp q);subst e;unfold clsIn at hcD;split at hcD
  ·rename_i c' d' cd' sl' ho;have z:=(X _ _ ho).symm.trans htp;cases z
  ·cases hcD
 ca:=λX I k=>UC X I Ec ha hn htk k
end
structure Tw (K:Frag)(C:Addr):Prop where
 ha:findIn K (.ref C) "__class__"=some (some (.builtin "object.__class__"))
 hn:specialIn K (.builtin "object.__class__") "__get__"=some (some (.builtin "getset_descriptor.__get__"))
 htk:takesIn K (.builtin "object.__class__")=some true
theorem Dl {K:Frag}{C D:Addr}{b:Bool}(h:subIn K (.ref C) (.ref D)=some b)(ty:typeIn K (.ref D)=some (.type "type"))(cl:(clsIn K D).isSome =true)(self:subIn K (.ref C) (.ref C)=some true):kitOne K (.ref C) (.ref D)=some b:=by
 unfold kitOne
 by_cases e:(Value.ref C==Value.ref D)=true
 ·rw[zQ e];have e2:C=D:=Value.ref.inj (beq_iff_eq.mp e);subst e2;rw[self]at h;exact h
 ·rw[zN e];unfold kitCls;simp only[cl,ty,kD,Bool.and_self,Bm];exact h
end L2
namespace L2
open PySem PySem.Spec PyProof.Rows
def zFe (X:Cx)(E:St->XK):Value->Shared->Prop:=λe s1=> ∃x C d pins σ H,e=.ref x/\xK X pins σ H s1/\H x=some (HM x C d)/\Tb X pins H x s1.heap/\E σ (.ref C) d H
abbrev Cx.excS (X:Cx)(E:St->XK):Cx:=X.wish (zFe X E)
def ZX (sp:Sp)(E:St->XK)(t:TA):TE:=λσ H Q=>t σ H λvs H1=>sp vs H1 Q (E σ)
section
variable {X:Cx}
theorem Xl {E:St->XK}{pins:List (Addr×Obj)}{σ:St}{H:Hp}{s s':Shared}{e:Value}(I:xK X pins σ H s)(h:Fx X.prog X.w X.stack H s (E σ) e s'):zFe X E e s':=by
 obtain⟨x,C,d,H',rfl,ho,hg,u,hok,hx,⟨oe,vs,T,oT,ts,ge,hd,h1,hTx,hT,lo,gT,dT,h3⟩,q⟩:=h;have I':xK X pins σ H' s':=I.call' (ch:=[]) ho u hok hg λb z=>(nomatch z);refine⟨x,C,d,pins,σ,H',rfl,I',hx,⟨oe,vs,ge,hd,.inr ⟨T,oT,ts,.none,h1,hTx,⟨hT,yO I.sz lo,vU (yJ I.lt lo),λp hp z=>?_⟩,gT,dT,h3,.inl rfl⟩⟩,q⟩;have:=zS (I.pin p hp).1;rw[z]at this;exact absurd (yJ this lo) (jS _)
theorem Lv {x:Str}{p pos:Pos}{e:Expr}{es:List Expr}{t:TA}{k n:Nat}{ps:List Str}{sp:Sp}{E:St->XK}(C:QK X.prog X.w X.K X.mg X.base (Fx X.prog X.w) k x ps sp)(hr:vY n X.A)(hg:Gl (X.excS E) x)(ha:PA (X.excS E) (e::es) t)(hk:k<=n:=by first|decide|lia)
  (hdb:(x==("__debug__":Str))=false:=by decide) (he:starEach (e::es) X.env=(false,eval e X.env)::starEach es X.env:=by rfl) (hpl:(backTo pos (starEach es X.env)).any (·.1)=false:=by rfl):
  PE (X.excS E) (.Call (.Name x p) (e::es) [] pos) (ZX sp E t):=by
 obtain⟨f,fd,F,hm,kp,hb⟩:=C.ex;refine⟨?_⟩;intro pins s σ H Q I h;refine qZ (Ej I hg hm ?_ hdb);refine uV (h₀:=X.base) I.ok.mod.kin kp (qV (ha pos pins s σ H _ I h) λus s1 ⟨vs,H1,I1,r,q⟩=>⟨I1.kIn,?_⟩) he hpl;have hl:us.length=ps.length:=by rw[<-r.length];exact F.len _ _ _ _ q
 have hb':=hb s1 us I1.kIn (by rw[yV];exact hl);rw[yV]at hb';refine Bw (AK (F.run X.A X.stack s1 H1 ⟨us,[]⟩ us vs Q (E σ) (hr.mono hk) I1.unwish.env0 hb' r q) λrr s' hq=>?_);cases rr with
 |error e=>exact Xl I1.unwish hq
 |ok fl=>
  cases fl with
  |ret u=>exact I1.after hq
  |next=>exact False.elim hq
  |brk=>exact False.elim hq
  |cont=>exact False.elim hq
end
end L2
namespace L2
open PySem PySem.Spec PyProof.Rows PySem.W
section
variable {X:Cx}{pos:Pos}{e:Expr}
theorem Yi {f:Str}{te:TE}(K:PySem.W.Frag)(hK:X.K=K)(he:PE X e te)(hb:attributeBase e f X.env (eval e X.env)=eval e X.env:=by rfl):PE X (.Attribute e f pos) (zDe K te f):=by
 subst hK;exact xW he hb
end
end L2
namespace L2
open PySem
theorem VS: ∀(n:Nat) (f:Nat->Nat),(∀i,i<=n->f i<n)-> ∃i j,i<j/\j<=n/\f i=f j
 |0,f,h=>absurd (h 0 (zP _)) (DT _)
 |n+1,f,h=>by
  by_cases hx: ∃i,i<=n/\f i=f (n+1)
  ·obtain⟨i,hi,e⟩:=hx;exact⟨i,n+1,by lia,zP _,e⟩
  have no: ∀i,i<=n->f i≠f (n+1):=λi hi e=>hx ⟨i,hi,e⟩;have top:=h (n+1) (zP _);obtain⟨i,j,hij,hj,e⟩:=VS n (λi=>if f (n+1)<f i then f i-1 else f i) λi hi=>by
   have a:=h i (by lia);have b:=no i hi;show(if f (n+1)<f i then f i-1 else f i)<n;split<;>lia
  have a:=no i (by lia);have b:=no j hj;refine⟨i,j,hij,by lia,?_⟩;have e':(if f (n+1)<f i then f i-1 else f i)=(if f (n+1)<f j then f j-1 else f j):=e;split at e'<;>split at e'<;>lia
abbrev uB:=List (Int×Int)
def Zs (rs:uB):List (List Int):=rs.map λr=>[r.1,r.2]
def SV (rs:uB)(i:Nat):Prop:= ∃n,rs[i]? =some (4,n)
instance (rs:uB)(i:Nat):Decidable (SV rs i):=
 match h:rs[i]? with
 |none=>isFalse fun⟨n,e⟩=>by rw[h]at e;cases e
 |some (op,n)=>if e:op=4 then isTrue ⟨n,by rw[h,e]⟩else isFalse fun⟨m,z⟩=>by rw[h]at z;cases z;exact e rfl
def Vu (rs:uB)(i:Nat):Nat:=match rs[i]? with
 |some (op,n)=>if op=4 then n.toNat else i
 |none=>i
def its (rs:uB):Nat->Nat->Nat
 |0,i=>i
 |k+1,i=>Vu rs (its rs k i)
def ZI (rs:uB):Prop:= ∀(i:Nat) (n:Int),rs[i]? =some (4,n)->0<=n/\n<rs.length
def QL (rs:uB)(i:Nat):Option Nat:=if its rs rs.length i<rs.length/\ ¬SV rs (its rs rs.length i)then some (its rs rs.length i)else none
def oI:Option Nat->V
 |none=>.non
 |some n=>.int (n:Nat)
theorem SV.lt {rs:uB}{i:Nat}(h:SV rs i):i<rs.length:=by
 obtain⟨n,e⟩:=h;exact(List.getElem?_eq_some_iff.mp e).1
theorem Vs {rs:uB}{i:Nat}(h: ¬SV rs i):Vu rs i=i:=by
 unfold Vu;cases e:rs[i]? with
 |none=>rfl
 |some r=>
  obtain⟨op,n⟩:=r
  by_cases z:op=4
  ·subst z;exact absurd ⟨n,e⟩ h
  ·show(if op=4 then n.toNat else i)=i;rw[zN z]
theorem Vt {rs:uB}{i:Nat}(ok:ZI rs)(h:SV rs i):Vu rs i<rs.length:=by
 obtain⟨n,e⟩:=h;have:=ok i n e;unfold Vu;rw[e];show(if(4:Int)=4 then n.toNat else i)<_;rw[zQ rfl];lia
theorem ZZ {rs:uB}{i:Nat}{n:Int}(ok:ZI rs)(e:rs[i]? =some (4,n)):((Vu rs i:Nat):Int)=n:=by
 have:=ok i n e;unfold Vu;rw[e];show(((if(4:Int)=4 then n.toNat else i):Nat):Int)=n;rw[zQ rfl];lia
theorem Qo {rs:uB}{i k:Nat}(h: ¬SV rs (its rs k i)): ∀d,its rs (k+d) i=its rs k i
 |0=>rfl
 |d+1=>by
  show Vu rs (its rs (k+d) i)=_;rw[Qo h d,Vs h]
theorem WK {rs:uB}{i:Nat}(ok:ZI rs)(h:i<=rs.length): ∀k,its rs k i<=rs.length
 |0=>h
 |k+1=>by
  show Vu rs (its rs k i)<=_
  by_cases z:SV rs (its rs k i)
  ·exact BZ (Vt ok z)
  ·rw[Vs z];exact WK ok h k
theorem SX {rs:uB}{i a b:Nat}(e:its rs a i=its rs b i): ∀d,its rs (a+d) i=its rs (b+d) i
 |0=>e
 |d+1=>qI (Vu rs) (SX e d)
theorem zHm {rs:uB}{i:Nat}(ok:ZI rs)(h: ∀j,j<rs.length->SV rs (its rs j i))(hl:0<rs.length):SV rs (its rs rs.length i):=by
 obtain⟨a,b,hab,hb,e⟩:=VS rs.length (λk=>its rs k i) λk hk=>by
  by_cases z:k<rs.length
  ·exact(h k z).lt
  ·have:k=(rs.length-1)+1:=by lia
   rw[this];exact Vt ok (h _ (by lia))
 have z:=SX e (rs.length-b);rw[show b+(rs.length-b)=rs.length by lia]at z;rw[<-z];exact h _ (by lia)
theorem Wy {rs:uB}{i k:Nat}(hk:k<=rs.length)(h: ¬SV rs (its rs k i)):QL rs i=if its rs k i<rs.length then some (its rs k i)else none:=by
 have e:=Qo h (rs.length-k);rw[show k+(rs.length-k)=rs.length by lia]at e;unfold QL;rw[e]
 by_cases z:its rs k i<rs.length
 ·rw[zQ ⟨z,h⟩,zQ z]
 ·rw[zN (λy=>z y.1),zN z]
theorem Wx {rs:uB}{i:Nat}(ok:ZI rs)(h: ∀j,j<rs.length->SV rs (its rs j i))(hl:0<rs.length):QL rs i=none:=by
 unfold QL;rw[zN (λy=>y.2 (zHm ok h hl))]
inductive NM (vs:List V) (H:Hp) (Q:VK) (E:XK):Prop
 |mk (l:Addr) (rs:uB) (i:Nat) (h0:vs=[.ref l,.int i]) (h1:wA H l (Zs rs)) (h2:ZI rs) (h3:0<rs.length) (h4:rs.length<=1000) (h5:i<=rs.length) (h6:Q (oI (QL rs i)) H):NM vs H Q E
theorem Rg {H:Hp}{vs:List V}{rs:uB}(p:Paired (Eb H) vs (Zs rs)){i:Nat}(h:i<rs.length): ∃t op n,vs[i]? =some (.ref t)/\rs[i]? =some (op,n)/\H t=some (.tup [.int op,.int n]):=by
 have hl:vs.length=rs.length:=(Paired.len p).trans (zF ..);have hx:vs[i]? =some (vs[i]'(by lia)):=zG (by lia);obtain⟨g,hg,t,e,et⟩:=Paired.yonder p hx;unfold Zs at hg;rw[yQ,zG h]at hg;cases hg;exact⟨t,_,_,by rw[hx,e],zG h,et⟩
inductive NS (K:PySem.W.Frag) (vs:List V) (H:Hp) (Q:VK) (E:XK):Prop
 |mk (a:Addr) (ns:List Int) (k:Int) (h0:vs=[.ref a,.int k]) (h1:Va K H a ns) (h2:0<=k) (h3: ∀r:Int,Q (.int r) H):NS K vs H Q E
inductive Out where
 |go (pc:Nat) (held:List Int) (br:Int)
 |bad (w:Str) (n:Int)
 |done (v:Int)
def pop (held:List Int)(f:List Int->Int->Out):Out:=match held.getLast? with
 |none=>.bad "stray" 0
 |some v=>f held.dropLast v
structure Ads where
 (m dm hd sp rw r0 r1 bd d dd bx hl:Addr)
def MO (CM:Addr)(A:Ads)(br va:Int):HO:=.ins CM A.dm [("heads",.ref A.hd),("steps",.ref A.sp),("rows",.ref A.rw),("breaths",.int br),("being_done",.ref A.bd),("value",.int va)]
structure zEy (CM:Addr)(H H':Hp)(A:Ads)(hs rs:List (List Int))(br:Int):Prop where
 keep: ∀b o,b≠A.m->H b=some o->H' b=some o
 m:H' A.m=some (MO CM A br 0)
 heads:wA H' A.hd hs
 steps:wA H' A.sp rs
 rw:H' A.rw=some (.lst [.ref A.r0,.ref A.r1])
 r1:H' A.r1=some (.lst [])
 bd:H' A.bd=some (.lst [])
 br:A.bd≠A.rw
 ba:A.bd≠A.r1
 bs:A.bd≠A.sp
 bh:A.bd≠A.hd
 nb:H A.bd=none
inductive IP (K:PySem.W.Frag) (CM:Addr) (vs:List V) (H:Hp) (Q:VK) (E:XK):Prop
 |mk (x dx co gv:Addr) (br:Int) (hs rs:List (List Int)) (gs:List V) (h0:vs=[.ref x,.ref co,.ref gv,.int br]) (h1:H x=some (.ins CM dx [])) (h2:H co=some (.lst ((Ea hs rs).map V.int))) (h3:vJ hs rs) (h4:H gv=some (.lst gs)) (h5: ∀A H',A.m=x->A.dm=dx->zEy CM H H' A hs rs br->Q .non H'):IP K CM vs H Q E
inductive Ro where
 |m|bd|hd|sp|rw
 |row (i:Nat)
 |d (i:Nat)
 |bx (i:Nat)
 |hl (i:Nat)
structure Fr where
 pc:Nat
 bx:List Int
 hl:List Int
structure MS where
 rows:List (List Int)
 frs:List Fr
 br:Int
 va:Int
structure Pl where
 ad:Ro->Addr
 dd:Nat->Addr
 dm:Addr
 uh:List V
 us:List V
def MS.f (s:MS)(i:Nat):Fr:=s.frs.getD i ⟨0,[],[]⟩
def MG (CM:Addr)(A:Pl)(br va:Int):HO:=.ins CM A.dm [("heads",.ref (A.ad .hd)),("steps",.ref (A.ad .sp)),("rows",.ref (A.ad .rw)),("breaths",.int br),("being_done",.ref (A.ad .bd)),("value",.int va)]
def DG (CD:Addr)(A:Pl)(i:Nat)(pc:Int):HO:=.ins CD (A.dd i) [("at",.int pc),("boxes",.ref (A.ad (.bx i))),("held",.ref (A.ad (.hl i)))]
def bdL (A:Pl)(n:Nat):List V:=(List.range n).map λi=>V.ref (A.ad (.d i))
def rwL (A:Pl)(n:Nat):List Addr:=(List.range n).map λi=>A.ad (.row i)
def cont (CM CD:Addr)(A:Pl)(s:MS):Ro->HO
 | .m=>MG CM A s.br s.va
 | .bd=>.lst (bdL A s.frs.length)
 | .hd=>.lst A.uh
 | .sp=>.lst A.us
 | .rw=>.lst ((rwL A s.rows.length).map V.ref)
 | .row i=>.lst ((s.rows.getD i []).map V.int)
 | .d i=>DG CD A i (s.f i).pc
 | .bx i=>.lst ((s.f i).bx.map V.int)
 | .hl i=>.lst ((s.f i).hl.map V.int)
def Vb (v:Int):Prop:=v.natAbs<2^2000
abbrev Hn:=Int×List Int
abbrev ZG:=List (Nat×Int)
def zEh:Nd->Hn
 | .mk k _ own _=>(k,own)
def zHr:Nd->Nat
 | .mk _ p _ _=>p
def uM (xs:List Hn):List Int:=xs.flatMap λx=>x.1::x.2
def OU (n:Nd):List Hn:=(pre n).map zEh
def Hs (ns:List Nd):List Hn:=(jR ns).map zEh
theorem RN (k:Int)(p:Nat)(own:List Int)(ps:List Nd):OU (.mk k p own ps)=(k,own)::Hs ps:=by
 unfold OU Hs;rw[pre,xG]<;>rfl
theorem FJ (a:Nd)(r:List Nd):Hs (a::r)=OU a++Hs r:=by
 unfold OU Hs;rw[jR,yP]
theorem Ek (xs ys:List Hn):uM (xs++ys)=uM xs++uM ys:=List.flatMap_append
theorem LV (x:Hn)(ys:List Hn):uM (x::ys)=(x.1::x.2)++uM ys:=List.flatMap_cons
theorem Sub.join {ns:List Int}: ∀{xs ys:List Int} {p:Nat},Sub ns p xs->Sub ns (p+xs.length) ys->Sub ns p (xs++ys)
 |[],_,_,_,h=>h
 |x::xs,ys,p,h,g=>⟨h.1,Sub.join h.2 (by rw[show p+1+xs.length=p+(x::xs).length by simp;lia];exact g)⟩
inductive XH (hs:wC):ZG->List Hn->ZG->Prop where
 |nil {S:ZG}:XH hs S [] S
 |cons {d:Nat} {b k:Int} {own:List Int} {r:ZG} {xs:List Hn} {S:ZG} (k0:0<=k) (k1:k<=19) (f:Hw hs b k own) (h:XH hs (List.replicate (Fm hs k own).toNat (d,b)++r) xs S):XH hs ((d+1,b)::r) ((k,own)::xs) S
theorem XH.append {hs:wC}{S S1 S2:ZG}{xs ys:List Hn}(h:XH hs S xs S1)(g:XH hs S1 ys S2):XH hs S (xs++ys) S2:=by
 induction h with
 |nil=>exact g
 |cons k0 k1 f _ ih=>exact .cons k0 k1 f (ih g)
theorem Wa {ns:List Int}{hs:wC}{b k:Int}{p:Nat}{own:List Int}(k0:0<=k)(h:FE ns hs b k p=.ok own):Hw hs b k own:=by
 unfold FE at h
 by_cases c0:k=0
 ·rw[zQ c0]at h;obtain⟨n,e,rfl⟩:=AF h;exact .inl ⟨c0,n,rfl⟩
 rw[zN c0]at h
 by_cases c1:k=1\/k=2
 ·rw[zQ c1]at h;obtain⟨n,e,rfl⟩:=AF h;exact .inr (.inl ⟨c1,n,rfl,(jM e).2⟩)
 rw[zN c1]at h
 by_cases c3:k=3
 ·rw[zQ c3]at h;obtain⟨n,e,rfl⟩:=AF h;exact .inr (.inr (.inl ⟨c3,n,rfl,(jM e).2⟩))
 rw[zN c3]at h
 by_cases c4:k=4
 ·rw[zQ c4]at h;obtain⟨n,e,rfl⟩:=AF h;exact .inr (.inr (.inr (.inl ⟨c4,n,rfl,(jM e).2⟩)))
 rw[zN c4]at h
 by_cases c6:k=6
 ·rw[zQ c6]at h;obtain⟨n,e,rfl⟩:=AF h;exact .inr (.inr (.inr (.inr (.inl ⟨c6,n,rfl,(jM e).2⟩))))
 rw[zN c6]at h;cases h;exact .inr (.inr (.inr (.inr (.inr ⟨by lia,rfl⟩))))
mutual
def UG:Nd->Nat
 | .mk _ _ _ ps=>1+YO ps
def YO:List Nd->Nat
 |[]=>0
 |a::r=>max (UG a) (YO r)
end
mutual
def XC (hs:wC)(b:Int):Nd->Prop
 | .mk k _ own ps=>0<=k/\k<=19/\Hw hs b k own/\ps.length=(Fm hs k own).toNat/\zCk hs b ps
def zCk (hs:wC)(b:Int):List Nd->Prop
 |[]=>True
 |a::r=>XC hs b a/\zCk hs b r
end
mutual
def PlN:Nat->Nd->Prop
 |p,.mk k q own ps=>q=p/\PlL (p+1+own.length) ps
def PlL:Nat->List Nd->Prop
 |_,[]=>True
 |p,a::r=>PlN p a/\PlL (p+(uM (OU a)).length) r
end
theorem MQ {ns:List Int}{hs:wC}{b:Int}{d:Nat}{f:Nat->Except Ko (Nd×Nat)}(hf: ∀p nd z,f p=.ok (nd,z)->XC hs b nd/\UG nd<=d/\PlN p nd/\Sub ns p (uM (OU nd))/\z=p+(uM (OU nd)).length):
  ∀{n p z:Nat} {ps:List Nd},wY f n p=.ok (ps,z)->ps.length=n/\zCk hs b ps/\YO ps<=d/\PlL p ps/\Sub ns p (uM (Hs ps))/\z=p+(uM (Hs ps)).length
 |0,p,z,ps,h=>by cases h;exact⟨rfl,trivial,xH _,trivial,trivial,rfl⟩
 |n+1,p,z,ps,h=>by
  cases ps with
  |nil=>exact absurd (JN h).1 (by lia)
  |cons a ps=>
   obtain⟨q,e1,e2⟩:=IB h;obtain⟨a1,a2,a3,a4,a5⟩:=hf _ _ _ e1;obtain⟨b0,b1,b2,b3,b4,b5⟩:=MQ hf e2;subst a5;refine⟨by simp[b0],⟨a1,b1⟩,by simp only[YO];lia,⟨a3,b3⟩,?_,?_⟩
   ·rw[FJ,Ek];exact Sub.join a4 b4
   ·rw[b5,FJ,Ek,zD];lia
theorem PY {ns:List Int}{hs:wC}{b:Int}: ∀{d p z:Nat} {nd:Nd},At ns hs b d p=.ok (nd,z)->XC hs b nd/\UG nd<=d/\PlN p nd/\Sub ns p (uM (OU nd))/\z=p+(uM (OU nd)).length
 |0,_,_,_,h=>by cases h
 |d+1,p,z,nd,h=>by
  obtain⟨k,own,ps,rfl,k0,k1,ek,eo,ep⟩:=OG h;obtain⟨b0,b1,b2,b3,b4,b5⟩:=MQ (λp nd z e=>PY (d:=d) e) ep;refine⟨⟨k0,k1,Wa k0 eo,b0,b1⟩,by simp only[UG];lia,⟨rfl,b3⟩,?_,?_⟩
  ·rw[RN,LV];exact Sub.join (xs:=k::own) ⟨ek,Yk k0 eo⟩ (by rw[show p+(k::own).length =p+1+own.length by simp;lia];exact b4)
  ·rw[b5,RN,LV,zD];simp only[zI];lia
def PlB:Nat->List Nd->Prop
 |_,[]=>True
 |p,a::r=>PlN p a/\PlB (p+(uM (OU a)).length) r
def zCl (hs:wC):wC->List Nd->Prop
 |[],[]=>True
 |h::todo,a::r=>XC hs h.2 a/\UG a<=10/\zCl hs todo r
 |_,_=>False
theorem Md {ns:List Int}{hs:wC}: ∀{todo:wC} {p z:Nat} {nds:List Nd},qL ns hs todo p=.ok (nds,z)->zCl hs todo nds/\PlB p nds/\Sub ns p (uM (Hs nds))/\z=p+(uM (Hs nds)).length
 |[],p,z,nds,h=>by cases h;exact⟨trivial,trivial,trivial,rfl⟩
 |x::todo,p,z,nds,h=>by
  obtain⟨nd,r,q,rfl,e1,e2⟩:=Kk h;obtain⟨a1,a2,a3,a4,a5⟩:=PY e1;subst a5;obtain⟨b1,b2,b3,b4⟩:=Md e2;refine⟨⟨a1,a2,b1⟩,⟨a3,b2⟩,?_,?_⟩
  ·rw[FJ,Ek];exact Sub.join a4 b3
  ·rw[b4,FJ,Ek,zD];lia
def Vx (hs:wC)(xs:List Hn):List Int:=(hs.length:Int)::(Mz hs++uM xs)
def Ze (hs:wC):Prop:= ∀zs:List Int,wW ((hs.length:Int)::(Mz hs++zs))=.ok hs
structure Ctx (hs:wC)(S0 R:ZG)(all:List Hn)(p0 i:Nat)(m:Nd)(e:Nat)(b:Int):Prop where
 ex: ∃X Y r,all=X++(OU m++Y)/\X.length=i/\XH hs S0 X ((e,b)::r)/\XH hs r Y R/\zHr m=p0+(uM X).length
 fit:XC hs b m
 dep:UG m<=e
theorem Ctx.before {hs:wC}{S0 R1 R:ZG}{Z all:List Hn}{p0 i:Nat}{m:Nd}{e:Nat}{b:Int}(c:Ctx hs S0 R1 all p0 i m e b)(h:XH hs R1 Z R):Ctx hs S0 R (all++Z) p0 i m e b:=by
 obtain⟨⟨X,Y,r,e1,e2,e3,e4,e5⟩,f,d⟩:=c;exact⟨⟨X,Y++Z,r,by rw[e1,yA,yA],e2,e3,e4.append h,e5⟩,f,d⟩
structure ES where
 rows:List (List Int)
 br:Int
 bx:List Int
 ct:Nat
inductive ER where
 |val (v:Int) (s:ES)
 |bad (w:Str) (n:Int) (rows:List (List Int)) (ct:Nat×Int)
mutual
def EE (hs:wC)(b:Int):Nat->Tr->Prop
 |0,_=>False
 |n+1,.mk k own ps=>0<=k/\k<=19/\Hw hs b k own/\ps.length=(Fm hs k own).toNat/\(∀v∈own,Vb v)/\uX hs b n ps
def uX (hs:wC)(b:Int):Nat->List Tr->Prop
 |_,[]=>True
 |n,a::r=>EE hs b n a/\uX hs b n r
end
theorem LN: ∀{ns:List Int} {n:Nat} {most:Int} {p:Nat} {hs:wC},most<=4->vF ns n most p=.ok hs->hs.length=n/\Sub ns p (Mz hs)/\ ∀(i:Nat) (h:Int×Int),hs[i]? =some h->0<=h.1/\h.1<=4/\h.1<=h.2/\h.2<=12/\(i=0->h.1<=most)
 |ns,0,_,_,_,_,e=>by cases e;exact⟨rfl,trivial,λi h q=>by simp at q⟩
 |ns,n+1,most,p,hs,hm,e=>by
  unfold vF at e;cases e1:kB ns p 0 most with
  |error b=>rw[e1]at e;cases e
  |ok a=>
   rw[e1]at e;simp only at e;cases e2:kB ns (p+1) a 12 with
   |error b=>rw[e2]at e;cases e
   |ok c=>
    rw[e2]at e;simp only at e;cases e3:vF ns n 4 (p+2)with
    |error b=>rw[e3]at e;cases e
    |ok r=>
     rw[e3]at e;cases e;obtain⟨a1,a2,a3⟩:=jM e1;obtain⟨c1,c2,c3⟩:=jM e2;obtain⟨l,s,g⟩:=LN (Int.le_refl 4) e3;refine⟨by simp[l],⟨a1,c1,s⟩,λi h q=>?_⟩;cases i with
     |zero=>cases q;simp only;lia
     |succ i=>
      have:=g i h (by simpa using q);lia
theorem OZ {ns:List Int}{hs:wC}{nds:List Nd}(h:jL ns=.ok (hs,nds)):Gy hs/\Ze hs/\ns=Vx hs (Hs nds)/\zCl hs hs nds/\PlB (1+2*hs.length) nds:=by
 obtain⟨h1,h2,h3⟩:=Xe h;simp only at h1 h2 h3;obtain⟨f,pl,s,ez⟩:=Md h2;have hh:=h1;unfold wW at hh;cases e1:kB ns 0 1 16 with
 |error b=>rw[e1]at hh;cases hh
 |ok n=>
  rw[e1]at hh;simp only at hh;obtain⟨n1,n2,n3⟩:=jM e1;obtain⟨l,s0,g⟩:=LN (by decide) hh;have good:Gy hs:=⟨by lia,by lia,λi x q=>by have:=g i x q;lia⟩;have el:(hs.length:Int)=n:=by lia
  refine⟨good,λzs=>?_,?_,f,pl⟩
  ·have s1:=Sub.self ((hs.length:Int)::(Mz hs++zs));unfold wW;rw[Ig s1.1 (by lia) (by lia)];simp only;rw[kL];exact good.heads (Sub.append s1.2).1
  ·have t1:=OX (Sub.join (xs:=n::Mz hs) (ys:=uM (Hs nds)) (p:=0) ⟨n1,s0⟩ (by rw[zI,LU,Nat.zero_add,Nat.add_comm];exact s));rw[uK,jI,xJ (by rw[zD,zI,LU];lia)]at t1;rw[t1];unfold Vx;rw[el,yY]
mutual
def rl:Tr->Nat
 | .mk k _ ps=>if k=3 then qH ps+(ps.length-1)else if k=4 then qH ps+2*(ps.length-1)+1 else if k=5 then qH ps+5 else qH ps+1
def qH:List Tr->Nat
 |[]=>0
 |p::r=>rl p+qH r
end
def Jn (b:Nat)(first:Bool):List Tr->List Nat
 |[]=>[]
 |p::r=>if first=true then b::Jn (b+rl p) false r else(b+1)::Jn (b+1+rl p) false r
def HP (k:Int)(own:List Int):List Int:=
 if k=0\/k=1\/k=2 then[k,own.headD 0]else if k=6 then[6,own.headD 0]else if k=7 then[8,0]else[10,k]
mutual
def Ei (b:Nat):Tr->List (List Int)
 | .mk k own ps=>if k=3 then JO b true ps else if k=4 then Zw b ps else if k=5 then Yy b ps else MZ b ps++[HP k own]
def MZ (b:Nat):List Tr->List (List Int)
 |[]=>[]
 |p::r=>Ei b p++MZ (b+rl p) r
def JO (b:Nat)(first:Bool):List Tr->List (List Int)
 |[]=>[]
 |p::r=>if first=true then Ei b p++JO (b+rl p) false r else[3,0]::(Ei (b+1) p++JO (b+1+rl p) false r)
def Jo (b last:Nat)(first:Bool):List Tr->List (List Int)
 |[]=>[]
 |p::r=>if first=true then Ei b p++Jo (b+rl p) last false r else[4,(last:Int)]::(Ei (b+1) p++Jo (b+1+rl p) last false r)
def Zw (b:Nat):List Tr->List (List Int)
 |[]=>[]
 |p::r=>Ei b p++([11,(r.length:Int)]::((Jn (b+rl p+r.length+2) true r).map (λs:Nat=>[4,(s:Int)])++([4,((b+rl p+r.length+2+qH r+(r.length-1):Nat):Int)]::Jo (b+rl p+r.length+2) (b+rl p+r.length+1) true r)))
def Yy (b:Nat):List Tr->List (List Int)
 |[]=>[]
 |x::r=>[9,0]::(Ei (b+1) x++([5,((b+rl x+qH r+4:Nat):Int)]::(MZ (b+rl x+2) r++[[3,0],[4,(b:Int)],[0,0]])))
end
theorem IX: ∀(ps:List Tr) (b:Nat) (f:Bool),(Jn b f ps).length =ps.length
 |[],_,_=>by unfold Jn;rfl
 |p::r,b,f=>by
  unfold Jn;split
  ·rw[zI,IX r,zI]
  ·rw[zI,IX r,zI]
mutual
def XB:Tr->Prop
 | .mk k _ ps=>(k=3->ps≠[])/\(k=4->2<=ps.length)/\(k=5->ps.length=2)/\DP ps
def DP:List Tr->Prop
 |[]=>True
 |p::r=>XB p/\DP r
end
mutual
theorem AG: ∀(t:Tr) (b:Nat),XB t->(Ei b t).length =rl t
 | .mk k own ps,b,h=>by
  unfold XB at h;obtain⟨h3,h4,h5,hp⟩:=h;unfold Ei rl
  by_cases c3:k=3
  ·rw[zQ c3,zQ c3,KC ps b true hp,zQ rfl]
  rw[zN c3,zN c3]
  by_cases c4:k=4
  ·rw[zQ c4,zQ c4,Yz ps b hp (h4 c4)]
  rw[zN c4,zN c4]
  by_cases c5:k=5
  ·rw[zQ c5,zQ c5,Yx ps b hp (h5 c5)]
  rw[zN c5,zN c5,zD,Jd ps b hp];rfl
theorem Jd: ∀(ps:List Tr) (b:Nat),DP ps->(MZ b ps).length =qH ps
 |[],b,_=>by unfold MZ qH;rfl
 |p::r,b,h=>by
  unfold DP at h;unfold MZ qH;rw[zD,AG p b h.1,Jd r _ h.2]
theorem KC: ∀(ps:List Tr) (b:Nat) (f:Bool),DP ps->(JO b f ps).length =qH ps+(if f=true then ps.length-1 else ps.length)
 |[],b,f,_=>by unfold JO qH;cases f<;>rfl
 |p::r,b,f,h=>by
  unfold DP at h;unfold JO qH;cases f with
  |true=>
   rw[zQ rfl,zQ rfl,zD,AG p b h.1,KC r _ false h.2,zN (by decide),zI];lia
  |false=>
   rw[zN (by decide),zN (by decide),zI,zD,AG p _ h.1,KC r _ false h.2,zN (by decide),zI];lia
theorem Je: ∀(ps:List Tr) (b l:Nat) (f:Bool),DP ps->(Jo b l f ps).length =qH ps+(if f=true then ps.length-1 else ps.length)
 |[],b,l,f,_=>by unfold Jo qH;cases f<;>rfl
 |p::r,b,l,f,h=>by
  unfold DP at h;unfold Jo qH;cases f with
  |true=>
   rw[zQ rfl,zQ rfl,zD,AG p b h.1,Je r _ l false h.2,zN (by decide),zI];lia
  |false=>
   rw[zN (by decide),zN (by decide),zI,zD,AG p _ h.1,Je r _ l false h.2,zN (by decide),zI];lia
theorem Yz: ∀(ps:List Tr) (b:Nat),DP ps->2<=ps.length->(Zw b ps).length =qH ps+2*(ps.length-1)+1
 |[],b,_,z=>by cases z
 |p::r,b,h,z=>by
  unfold DP at h;unfold Zw qH;rw[zI]at z ⊢;rw[zD,AG p b h.1,zI,zD,zF,IX,zI,Je r _ _ true h.2,zQ rfl];lia
theorem Yx: ∀(ps:List Tr) (b:Nat),DP ps->ps.length=2->(Yy b ps).length =qH ps+5
 |[],b,_,z=>by cases z
 |x::r,b,h,z=>by
  unfold DP at h;unfold Yy qH;rw[zI,zD,AG x _ h.1,zI,zD,Jd r _ h.2];show rl x+(qH r+3+1)+1=_;lia
end
theorem XX {n:Int}{nf nr:Nat}(h0:0<=n)(h1:n<(nr:Int)):CH [4,n] nf nr:=⟨4,n,rfl,.inr (.inr (.inl ⟨.inl rfl,h0,h1⟩))⟩
theorem zHl {n:Int}{nf nr:Nat}(h0:0<=n)(h1:n<(nr:Int)):CH [5,n] nf nr:=⟨5,n,rfl,.inr (.inr (.inl ⟨.inr rfl,h0,h1⟩))⟩
theorem zDn {n:Int}{nf nr:Nat}:CH [0,n] nf nr:=⟨0,n,rfl,.inl rfl⟩
theorem zDl {nf nr:Nat}:CH [3,0] nf nr:=⟨3,0,rfl,by unfold BG;lia⟩
theorem zHk {nf nr:Nat}:CH [7,0] nf nr:=⟨7,0,rfl,by unfold BG;lia⟩
theorem zHj {nf nr:Nat}:CH [9,0] nf nr:=⟨9,0,rfl,by unfold BG;lia⟩
theorem zDm {n:Int}{nf nr:Nat}(h0:2<=n)(h1:n<=12):CH [11,n] nf nr:=⟨11,n,rfl,by unfold BG;lia⟩
theorem XV {hs:wC}{bx k:Int}{own:List Int}{nr:Nat}(of:Hw hs bx k own)(k0:0<=k)(k19:k<=19)(h3:k≠3)(h4:k≠4)(h5:k≠5)(hb:bx<=12):CH (HP k own) hs.length nr:=by
 rcases of with⟨rfl,n,rfl⟩|⟨hk,n,rfl,a,b⟩|⟨rfl,_⟩|⟨rfl,_⟩|⟨rfl,n,rfl,a,b⟩|⟨hk,rfl⟩
 ·exact zDn
 ·refine⟨k,n,?_,?_⟩
  ·unfold HP;rw[zQ (by lia)];rfl
  ·unfold BG;lia
 ·exact absurd rfl h3
 ·exact absurd rfl h4
 ·exact⟨6,n,rfl,by unfold BG;lia⟩
 ·by_cases c:k=7
  ·subst c;exact⟨8,0,rfl,by unfold BG;lia⟩
  ·refine⟨10,k,?_,by unfold BG;lia⟩;unfold HP;rw[zN (by lia),zN (by lia),zN c]
theorem Rj: ∀(ps:List Tr) (b:Nat) (f:Bool),∀s∈Jn b f ps,s<=b+qH ps+(if f=true then ps.length-1 else ps.length)
 |[],b,f,s,h=>by unfold Jn at h;cases h
 |p::r,b,f,s,h=>by
  unfold Jn at h;unfold qH;rw[zI];cases f with
  |true=>
   rw[zQ rfl]at h ⊢
   rcases List.mem_cons.mp h with z|z
   ·lia
   ·have:=Rj r _ _ s z;rw[zN (by decide)]at this;lia
  |false=>
   rw[zN (by decide)]at h ⊢
   rcases List.mem_cons.mp h with z|z
   ·lia
   ·have:=Rj r _ _ s z;rw[zN (by decide)]at this;lia
mutual
theorem Fl {hs:wC}{bx:Int}: ∀(d:Nat) (t:Tr),EE hs bx d t->XB t
 |0,t,h=>by unfold EE at h;exact h.elim
 |d+1,.mk k own ps,h=>by
  unfold EE at h;obtain⟨k0,k1,of,lp,_,fp⟩:=h;unfold XB;refine⟨λz=>?_,λz=>?_,λz=>?_,KJ d ps fp⟩
  ·subst z
   rcases of with⟨z,_⟩|⟨z,_⟩|⟨_,n,rfl,a,b⟩|⟨z,_⟩|⟨z,_⟩|⟨z,_⟩<;>try lia
   intro e;rw[e]at lp;have:(Fm hs 3 [n]).toNat =n.toNat:=rfl;rw[this]at lp;show False
   simp at lp
   lia
  ·subst z
   rcases of with⟨z,_⟩|⟨z,_⟩|⟨z,_⟩|⟨_,n,rfl,a,b⟩|⟨z,_⟩|⟨z,_⟩<;>try lia
   have:(Fm hs 4 [n]).toNat =(1+n).toNat:=rfl;rw[this]at lp;lia
  ·subst z;exact lp
theorem KJ {hs:wC}{bx:Int}: ∀(d:Nat) (ts:List Tr),uX hs bx d ts->DP ts
 |_,[],_=>by unfold DP;trivial
 |d,a::r,h=>by
  unfold uX at h;unfold DP;exact⟨Fl d a h.1,KJ d r h.2⟩
end
section
variable {hs:wC}{bx:Int}{nr:Nat}
mutual
theorem Hl (hb:bx<=12): ∀(d:Nat) (t:Tr) (b:Nat),EE hs bx d t->b+rl t<nr-> ∀g∈Ei b t,CH g hs.length nr
 |0,t,b,h,_=>by unfold EE at h;exact h.elim
 |d+1,.mk k own ps,b,h,hn=>by
  have gd:=Fl (d+1) _ h;unfold XB at gd;unfold EE at h;obtain⟨k0,k1,of,lp,_,fp⟩:=h;unfold Ei;unfold rl at hn
  by_cases c3:k=3
  ·rw[zQ c3]at hn ⊢;exact RD hb d ps b true fp (by rw[zQ rfl];lia)
  rw[zN c3]at hn ⊢
  by_cases c4:k=4
  ·rw[zQ c4]at hn ⊢;subst c4
   rcases of with⟨z,_⟩|⟨z,_⟩|⟨z,_⟩|⟨_,n,rfl,a,b'⟩|⟨z,_⟩|⟨z,_⟩<;>try lia
   have:(Fm hs 4 [n]).toNat =(1+n).toNat:=rfl;rw[this]at lp;exact zBi hb d ps b fp (by lia) (by lia) (by lia)
  rw[zN c4]at hn ⊢
  by_cases c5:k=5
  ·rw[zQ c5]at hn ⊢;exact zBh hb d ps b fp (by lia)
  rw[zN c5]at hn ⊢;intro g hg
  rcases List.mem_append.mp hg with z|z
  ·exact RB hb d ps b fp (by lia) g z
  ·rw[List.mem_singleton.mp z];exact XV of k0 k1 c3 c4 c5 hb
theorem RB (hb:bx<=12): ∀(d:Nat) (ps:List Tr) (b:Nat),uX hs bx d ps->b+qH ps<nr-> ∀g∈MZ b ps,CH g hs.length nr
 |_,[],b,_,_,g,hg=>by unfold MZ at hg;cases hg
 |d,p::r,b,h,hn,g,hg=>by
  unfold uX at h;unfold qH at hn;unfold MZ at hg
  rcases List.mem_append.mp hg with z|z
  ·exact Hl hb d p b h.1 (by lia) g z
  ·exact RB hb d r _ h.2 (by lia) g z
theorem RD (hb:bx<=12): ∀(d:Nat) (ps:List Tr) (b:Nat) (f:Bool),uX hs bx d ps->b+qH ps+(if f=true then ps.length-1 else ps.length)<nr-> ∀g∈JO b f ps,CH g hs.length nr
 |_,[],b,f,_,_,g,hg=>by unfold JO at hg;cases hg
 |d,p::r,b,f,h,hn,g,hg=>by
  unfold uX at h;unfold qH at hn;rw[zI]at hn;unfold JO at hg;cases f with
  |true=>
   rw[zQ rfl]at hg hn
   rcases List.mem_append.mp hg with z|z
   ·exact Hl hb d p b h.1 (by lia) g z
   ·exact RD hb d r _ false h.2 (by rw[zN (by decide)];lia) g z
  |false=>
   rw[zN (by decide)]at hg hn
   rcases List.mem_cons.mp hg with z|z
   ·rw[z];exact zDl
   rcases List.mem_append.mp z with z|z
   ·exact Hl hb d p _ h.1 (by lia) g z
   ·exact RD hb d r _ false h.2 (by rw[zN (by decide)];lia) g z
theorem RC (hb:bx<=12): ∀(d:Nat) (ps:List Tr) (b l:Nat) (f:Bool),uX hs bx d ps->b+qH ps+(if f=true then ps.length-1 else ps.length)<nr->l<nr-> ∀g∈Jo b l f ps,CH g hs.length nr
 |_,[],b,l,f,_,_,_,g,hg=>by unfold Jo at hg;cases hg
 |d,p::r,b,l,f,h,hn,hl,g,hg=>by
  unfold uX at h;unfold qH at hn;rw[zI]at hn;unfold Jo at hg;cases f with
  |true=>
   rw[zQ rfl]at hg hn
   rcases List.mem_append.mp hg with z|z
   ·exact Hl hb d p b h.1 (by lia) g z
   ·exact RC hb d r _ l false h.2 (by rw[zN (by decide)];lia) hl g z
  |false=>
   rw[zN (by decide)]at hg hn
   rcases List.mem_cons.mp hg with z|z
   ·rw[z];exact XX (by lia) (by lia)
   rcases List.mem_append.mp z with z|z
   ·exact Hl hb d p _ h.1 (by lia) g z
   ·exact RC hb d r _ l false h.2 (by rw[zN (by decide)];lia) hl g z
theorem zBi (hb:bx<=12): ∀(d:Nat) (ps:List Tr) (b:Nat),uX hs bx d ps->3<=ps.length->ps.length<=13->b+qH ps+2*(ps.length-1)+1<nr-> ∀g∈Zw b ps,CH g hs.length nr
 |_,[],b,_,z,_,_,_,_=>by cases z
 |d,p::r,b,h,z2,z13,hn,g,hg=>by
  unfold uX at h;unfold qH at hn;rw[zI]at hn z2 z13;unfold Zw at hg
  rcases List.mem_append.mp hg with z|z
  ·exact Hl hb d p b h.1 (by lia) g z
  rcases List.mem_cons.mp z with z|z
  ·rw[z];exact zDm (by lia) (by lia)
  rcases List.mem_append.mp z with z|z
  ·obtain⟨s,hs',rfl⟩:=List.mem_map.mp z;have:=Rj r _ _ s hs';rw[zQ rfl]at this;exact XX (by lia) (by lia)
  rcases List.mem_cons.mp z with z|z
  ·rw[z];exact XX (by lia) (by lia)
  ·exact RC hb d r _ _ true h.2 (by rw[zQ rfl];lia) (by lia) g z
theorem zBh (hb:bx<=12): ∀(d:Nat) (ps:List Tr) (b:Nat),uX hs bx d ps->b+qH ps+5<nr-> ∀g∈Yy b ps,CH g hs.length nr
 |_,[],b,_,_,g,hg=>by unfold Yy at hg;cases hg
 |d,x::r,b,h,hn,g,hg=>by
  unfold uX at h;unfold qH at hn;unfold Yy at hg
  rcases List.mem_cons.mp hg with z|z
  ·rw[z];exact zHj
  rcases List.mem_append.mp z with z|z
  ·exact Hl hb d x _ h.1 (by lia) g z
  rcases List.mem_cons.mp z with z|z
  ·rw[z];exact zHl (by lia) (by lia)
  rcases List.mem_append.mp z with z|z
  ·exact RB hb d r _ h.2 (by lia) g z
  rcases List.mem_cons.mp z with z|z
  ·rw[z];exact zDl
  rcases List.mem_cons.mp z with z|z
  ·rw[z];exact XX (by lia) (by lia)
  rw[List.mem_singleton.mp z];exact zDn
end
end
def Wv (k:Int)(m i b:Nat)(t:Tr):Nat:=b+rl t+(if k=3\/k=5 then 1 else if k=4 then(if i=0 then m+2 else 1)else 0)
mutual
def Kr (b:Nat):Nd->List (List Int)
 | .mk k p own ps=>Hg k (ps.length-1) 0 (b+if k=5 then 1 else 0) ps++[[(p:Int),(b:Int),((b+rl (.mk k own (yX ps)):Nat):Int)]]
def Hg (k:Int)(m i b:Nat):List Nd->List (List Int)
 |[]=>[]
 |t::r=>Kr b t++Hg k m (i+1) (Wv k m i b (bare t)) r
end
mutual
def MW:Nd->Nat
 | .mk _ _ _ ps=>1+Kd ps
def Kd:List Nd->Nat
 |[]=>0
 |t::r=>MW t+Kd r
end
def Ts (k:Int)(m i b:Nat):List Tr->Nat
 |[]=>b
 |t::r=>Ts k m (i+1) (Wv k m i b t) r
theorem AI: ∀(a b:List Nd),yX (a++b)=yX a++yX b
 |[],b=>by unfold yX;rfl
 |x::r,b=>by
  rw[yY];unfold yX;rw[AI r b,yY];cases b<;>rfl
theorem IW (k:Int)(m:Nat): ∀(l:List Nd) (x:Nd) (i b:Nat),Hg k m i b (l++[x])=Hg k m i b l++Kr (Ts k m i b (yX l)) x
 |[],x,i,b=>by
  rw[jI];unfold Hg yX Ts;unfold Hg;rw[yV,jI]
 |t::r,x,i,b=>by
  rw[yY];unfold Hg yX Ts;rw[IW k m r x,yA]
theorem uI (p:Tr)(r:List Tr):qH (p::r)=rl p+qH r:=by rw[qH]
theorem Au (p:Nd)(r:List Nd):Kd (p::r)=MW p+Kd r:=by rw[Kd]
theorem LS (p:Tr)(r:List Tr):DP (p::r)=(XB p/\DP r):=by rw[DP]
theorem IU: ∀a b:List Tr,qH (a++b)=qH a+qH b
 |[],b=>by
  rw[jI];show qH b=qH []+qH b;have:qH []=0:=by unfold qH;rfl
  lia
 |x::r,b=>by
  rw[yY,uI,uI,IU r b];lia
theorem Jc: ∀a b:List Nd,Kd (a++b)=Kd a+Kd b
 |[],b=>by
  rw[jI];have:Kd []=0:=by unfold Kd;rfl
  lia
 |x::r,b=>by
  rw[yY,Au,Au,Jc r b];lia
theorem Tq (m:Nat): ∀(l:List Tr) (i b:Nat),Ts 3 m i b l=b+qH l+l.length
 |[],i,b=>by unfold Ts qH;rfl
 |t::r,i,b=>by
  unfold Ts qH;rw[Tq m r];unfold Wv;rw[zQ (.inl rfl),zI];lia
theorem Tp {k:Int}(h3:k≠3)(h4:k≠4)(h5:k≠5)(m:Nat): ∀(l:List Tr) (i b:Nat),Ts k m i b l=b+qH l
 |[],i,b=>by unfold Ts qH;rfl
 |t::r,i,b=>by
  unfold Ts qH;rw[Tp h3 h4 h5 m r];unfold Wv;rw[zN (by lia),zN h4];lia
theorem QG (m:Nat): ∀(l:List Tr) (i b:Nat),0<i->Ts 4 m i b l=b+qH l+l.length
 |[],i,b,_=>by unfold Ts qH;rfl
 |t::r,i,b,h=>by
  unfold Ts qH;rw[QG m r _ _ (Nat.succ_pos _)];unfold Wv;rw[zN (by decide),zQ rfl,zN (by lia),zI];lia
theorem Te: ∀a b:List Tr,DP (a++b)->DP a/\DP b
 |[],b,h=>⟨by unfold DP;trivial,h⟩
 |x::r,b,h=>by
  rw[yY,LS]at h;obtain⟨h1,h2⟩:=h;obtain⟨a1,a2⟩:=Te r b h2;rw[LS];exact⟨⟨h1,a1⟩,a2⟩
theorem Qa: ∀(l:List Tr) (x:Tr) (b:Nat),MZ b (l++[x])=MZ b l++Ei (b+qH l) x
 |[],x,b=>by
  rw[jI];unfold MZ qH;unfold MZ;rw[yV];rfl
 |p::r,x,b=>by
  rw[yY];unfold MZ qH;rw[Qa r x,yA,show b+rl p+qH r=b+(rl p+qH r)by lia]
theorem Qd: ∀(l:List Tr) (x:Tr) (b:Nat),JO b false (l++[x])=JO b false l++([3,0]::Ei (b+qH l+l.length+1) x)
 |[],x,b=>by
  rw[jI];unfold JO qH;rw[zN (by decide)];unfold JO;rw[yV];rfl
 |p::r,x,b=>by
  rw[yY];unfold JO qH;rw[zN (by decide),zN (by decide),Qd r x,zI,yY,yA,show b+1+rl p+qH r+r.length+1=b+(rl p+qH r)+(r.length+1)+1 by lia]
theorem WB (p:Tr)(l:List Tr)(x:Tr)(b:Nat):JO b true (p::l++[x])=JO b true (p::l)++([3,0]::Ei (b+qH (p::l)+(p::l).length) x):=by
 rw[yY];unfold JO;rw[zQ rfl,zQ rfl,Qd l x,yA];congr 4;rw[zI];show b+rl p+qH l+l.length+1=b+(rl p+qH l)+(l.length+1);lia
theorem Qb (la:Nat): ∀(l:List Tr) (x:Tr) (b:Nat),Jo b la false (l++[x])=Jo b la false l++([4,(la:Int)]::Ei (b+qH l+l.length+1) x)
 |[],x,b=>by
  rw[jI];unfold Jo qH;rw[zN (by decide)];unfold Jo;rw[yV];rfl
 |p::r,x,b=>by
  rw[yY];unfold Jo qH;rw[zN (by decide),zN (by decide),Qb la r x,zI,yY,yA,show b+1+rl p+qH r+r.length+1=b+(rl p+qH r)+(r.length+1)+1 by lia]
theorem Wz (la:Nat)(l:List Tr)(x:Tr)(b:Nat):Jo b la true (l++[x])=Jo b la true l++((if l.length=0 then[]else[[4,(la:Int)]])++Ei (b+qH l+l.length) x):=by
 cases l with
 |nil=>
  rw[jI];unfold Jo;rw[zQ rfl];unfold Jo;rw[yV,jI];have:qH []=0:=by unfold qH;rfl
  show Ei b x=[]++Ei (b+qH []+0) x;rw[this];rfl
 |cons p r=>
  rw[yY];unfold Jo;rw[zQ rfl,zQ rfl,Qb la r x,yA,zI,zN (by lia),uI,show b+rl p+qH r+r.length+1=b+(rl p+qH r)+(r.length+1)by lia];rfl
theorem Pr: ∀(l:List Tr) (x:Tr) (b:Nat),Jn b false (l++[x])=Jn b false l++[b+qH l+l.length+1]
 |[],x,b=>by
  rw[jI];unfold Jn;rw[zN (by decide)];unfold Jn qH;rfl
 |p::r,x,b=>by
  rw[yY];unfold Jn qH;rw[zN (by decide),zN (by decide),Pr r x,zI,yY,show b+1+rl p+qH r+r.length+1=b+(rl p+qH r)+(r.length+1)+1 by lia]
theorem VQ (l:List Tr)(x:Tr)(b:Nat):Jn b true (l++[x])=Jn b true l++[b+qH l+l.length]:=by
 cases l with
 |nil=>
  rw[jI];unfold Jn;rw[zQ rfl];unfold Jn;have:qH []=0:=by unfold qH;rfl
  rw[this];rfl
 |cons p r=>
  rw[yY];unfold Jn;rw[zQ rfl,zQ rfl,Pr r x,yY,zI,uI,show b+rl p+qH r+r.length+1=b+(rl p+qH r)+(r.length+1)by lia]
abbrev Jr:=(Int×Int)×Nd
def GC:List Jr->Nat
 |[]=>0
 |f::r=>rl (bare f.2)+1+GC r
def Na (b:Nat):List Jr->List (List Int)
 |[]=>[]
 |f::r=>Ei b (bare f.2)++([7,0]::Na (b+rl (bare f.2)+1) r)
def OJ (b:Nat):List Jr->List (List Int)
 |[]=>[]
 |f::r=>[(b:Int),f.1.1,f.1.2]::OJ (b+rl (bare f.2)+1) r
def Rh (b:Nat):List Jr->List (List Int)
 |[]=>[]
 |f::r=>Kr b f.2++Rh (b+rl (bare f.2)+1) r
def OT:List Jr->Nat
 |[]=>0
 |f::r=>MW f.2+OT r
theorem Oh: ∀a b:List Jr,GC (a++b)=GC a+GC b
 |[],b=>by rw[jI];show GC b=0+GC b;lia
 |x::r,b=>by
  show rl (bare x.2)+1+GC (r++b)=rl (bare x.2)+1+GC r+GC b;rw[Oh r b];lia
theorem OH: ∀a b:List Jr,OT (a++b)=OT a+OT b
 |[],b=>by rw[jI];show OT b=0+OT b;lia
 |x::r,b=>by
  show MW x.2+OT (r++b)=MW x.2+OT r+OT b;rw[OH r b];lia
theorem Qc: ∀(l:List Jr) (x:Jr) (b:Nat),Na b (l++[x])=Na b l++(Ei (b+GC l) (bare x.2)++[[7,0]])
 |[],x,b=>rfl
 |f::r,x,b=>by
  show Ei b (bare f.2)++([7,0]::Na (b+rl (bare f.2)+1) (r++[x]))=Ei b (bare f.2)++([7,0]::Na (b+rl (bare f.2)+1) r)++(Ei (b+(rl (bare f.2)+1+GC r)) (bare x.2)++[[7,0]]);rw[Qc r x,show b+rl (bare f.2)+1+GC r=b+(rl (bare f.2)+1+GC r)by lia,yA];rfl
theorem Qs: ∀(l:List Jr) (x:Jr) (b:Nat),OJ b (l++[x])=OJ b l++[[((b+GC l:Nat):Int),x.1.1,x.1.2]]
 |[],x,b=>rfl
 |f::r,x,b=>by
  show _::OJ (b+rl (bare f.2)+1) (r++[x])=_::OJ (b+rl (bare f.2)+1) r++[[((b+(rl (bare f.2)+1+GC r):Nat):Int),x.1.1,x.1.2]];rw[Qs r x,show b+rl (bare f.2)+1+GC r=b+(rl (bare f.2)+1+GC r)by lia];rfl
theorem Pq: ∀(l:List Jr) (x:Jr) (b:Nat),Rh b (l++[x])=Rh b l++Kr (b+GC l) x.2
 |[],x,b=>by show Kr b x.2++[]=[]++Kr (b+0) x.2;rw[yV];rfl
 |f::r,x,b=>by
  show Kr b f.2++Rh (b+rl (bare f.2)+1) (r++[x])=Kr b f.2++Rh (b+rl (bare f.2)+1) r++Kr (b+(rl (bare f.2)+1+GC r)) x.2;rw[Pq r x,show b+rl (bare f.2)+1+GC r=b+(rl (bare f.2)+1+GC r)by lia,yA]
end L2
namespace L2
open PySem PySem.Spec PyProof.Rows
theorem Nr {xs:List V}(n:Nat):DL xs none (some (n:Int))=xs.take n:=by
 unfold DL;rw[HT.sIx_none,HT.sIx_nat,CB,Nat.sub_zero]
 by_cases h:n<=xs.length
 ·rw[uZ h]
 ·rw[Db (by lia),xZ,xJ (by lia)]
theorem FO {xs:List V}(n:Nat):DL xs (some (n:Int)) none=xs.drop n:=by
 unfold DL;rw[HT.sIx_none,HT.sIx_nat]
 by_cases h:n<=xs.length
 ·rw[uZ h,xJ (by rw[kE];lia)]
 ·rw[Db (by lia),El,uK,List.drop_eq_nil_of_le (by lia)]
section
variable {prog:Program}{w:World}{A:Around}{E:Value->Shared->Prop}{s:Shared}
theorem Rw {it t:Addr}{i:Nat}{items:Array Value}{x:Value}{Q:Value->Shared->Prop}(hit:s.heap.IsTupleIter it t i)(ht:s.heap.IsTuple t items)(hx:items[i]? =some x)
  (q: ∀h',h'.IsTupleIter it t (i+1)->Heap.SameBut it s.heap h'->Q x {s with heap:=h'}):wpAny (model prog w) A (Builtin.SmallTypes.nextOf (.ref it)) Q E s:=by
 obtain⟨o,g,cl,da⟩:=id hit;obtain⟨ot,gt,_,nt,dt⟩:=ht;unfold Builtin.SmallTypes.nextOf;refine zA (xY (name:=Str.ofString "__next__") hit.typeIs jJ (jQ jJ hit.typeIs wS (show wpAny _ _ (field (.ref it) 0>>=_) _ _ s from ?_) (wN _)));refine zA (xM g da (x:=.ref t) rfl (show wpAny _ _ (if(Value.ref t==Value.none)=true then _ else _) _ _ s from ?_));rw[zN (by exact yB)];refine zA (m:=field (.ref it) 1) (xM g da (x:=.int i 0) rfl (zA (m:=seqItems? (.ref t)) (qE gt dt ?_)));simp only[kL,hx];refine zA (qS g da (by simp) (zL ⟨x,rfl,zL (q _ ⟨_,kK _ g (qU (jY da _)),(BY ..).trans cl,?_⟩ (uG ..))⟩));rw[jY da]
 simp[rawInt]
theorem Hk {it t:Addr}{i:Nat}{items:Array Value}{Q:Value->Shared->Prop}(hh:A.handled=none)(hit:s.heap.IsTupleIter it t i)(ht:s.heap.IsTuple t items)(hx:items[i]? =none)
  (q: ∀h' e,Heap.ExtBut it s.heap h'->(∃o,h'.get? e=some o/\o.cls=.type "StopIteration")->E (.ref e) {s with heap:=h'}):wpAny (model prog w) A (Builtin.SmallTypes.nextOf (.ref it)) Q E s:=by
 obtain⟨o,g,cl,da⟩:=id hit;obtain⟨ot,gt,_,nt,dt⟩:=ht;unfold Builtin.SmallTypes.nextOf;refine zA (xY (name:=Str.ofString "__next__") hit.typeIs jJ (jQ jJ hit.typeIs wS (show wpAny _ _ (field (.ref it) 0>>=_) _ _ s from ?_) (wN _)));refine zA (xM g da (x:=.ref t) rfl (show wpAny _ _ (if(Value.ref t==Value.none)=true then _ else _) _ _ s from ?_));rw[zN (by exact yB)];refine zA (m:=field (.ref it) 1) (xM g da (x:=.int i 0) rfl (zA (m:=seqItems? (.ref t)) (qE gt dt ?_)));simp only[kL,hx];refine zA (EG (zA (qS g da (by simp) (show wpAny _ _ (newExc (.type "StopIteration") []>>=_) _ _ _ from zA ?_))));simp only[newExc,newTuple];refine zA (jG (zA (m:=firstArgMember _ _) (vT (a:=Value.none) (by first|rfl|(simp only[firstArgMember];rfl)) (jG ?_ (by size_fits)))) (by size_fits));simp only[raiseNew];refine zA (wpAny_handled ?_)
 first|rw[show A.in1.handled=none from hh]|rw[hh]
 exact zA (zL (wpAny_throw (q _ _ (((uG ..).extBut.push _).push _) ⟨_,zT _ rfl,rfl⟩)))
theorem UD (hh:A.handled=none)(it t:Addr)(hne:t≠it)(items:Array Value):Draws prog w A it [it,t] items.size (λi v=>items[i]? =some v) (λi h=>h.IsTupleIter it t i/\h.IsTuple t items) where
 live:=λ_ _ st=>by obtain⟨⟨o,ho,_⟩,_⟩:=st;exact⟨o,ho⟩
 frame:=λ_ _ _ st hk=>by
  obtain⟨⟨o,ho,r⟩,o2,ho2,r2⟩:=st;exact⟨⟨o,hk it (by simp) _ ho,r⟩,o2,hk t (by simp) _ ho2,r2⟩
 item:=λi s Q E hi st hQ=>Rw st.1 st.2 (x:=items[i]) (by simp[hi]) λh' a b=>hQ _ h' s.toks (by simp[hi]) ⟨a,st.2.extBut b.extBut hne⟩ b
 done:=λs Q E st hE=>Hk hh st.1 st.2 (by simp) hE
theorem Qg (l:Addr)(items:Array Value)(n:Nat)(dct:Option Addr)(sl:Array (Option Value)):Meets (Builtin.«enumerate.__new__» ⟨[.type "enumerate",.ref l],[]⟩) (λ_ R s=>s.heap.get? l=some {cls:=.type "tuple",dict:=dct,data:=.seq items n,slots:=sl}/\
  R (.ok (.ret (.ref (s.heap.push {cls:=.type "tuple_iterator",data:=.fields #[.ref l,.int 0 0]}).objs.size))) {s with heap:=(s.heap.push {cls:=.type "tuple_iterator",data:=.fields #[.ref l,.int 0 0]}).push {cls:=.type "enumerate",data:=.fields #[.none,.bool false,.ref s.heap.objs.size,rawInt 0,.none,.none]}}):=
 .of_wp λprog w A R s h=>by
  obtain⟨hp,g,d,tk,os⟩:=s;obtain⟨hl,h⟩:=h;have hsub:=sub_enumerate;have tt:Heap.IsTuple (Shared.heap ⟨hp,g,d,tk,os⟩) l items:=⟨_,hl,rfl,n,rfl⟩
  wp_walk using wB hl
  refine wpAny_stack_any λst=>zL ?_;split
  ·rename_i c _ _ _ _ _;cases(c==Value.type "enumerate")
   all_goals
    wp_walk using wB hl,uU tt
    exact⟨_,rfl,h⟩
  ·wp_walk using wB hl,uU tt
   exact⟨_,rfl,h⟩
theorem RV {l:Addr}{items:Array Value}{Q:Value->Shared->Prop}(hT:s.heap.IsTuple l items)
  (q: ∀h',IsEnum h' (s.heap.objs.size+1) s.heap.objs.size 0 .none->h'.IsTupleIter s.heap.objs.size l 0->h'.objs.size=s.heap.objs.size+2->(∀b o,s.heap.get? b=some o->h'.get? b=some o)->Q (.ref (s.heap.objs.size+1)) {s with heap:=h'}):wpAny (model prog w) A (call (.type "enumerate") [.ref l]) Q E s:=by
 obtain⟨⟨c,dct,dt,sl⟩,hl,hc,n,hd⟩:=hT;dsimp only at hc hd;subst hc hd;refine callType_new F.called_enumerate (by decide) (F.typeCall_enumerate_1 _) (F.newCall_enumerate_1 _) (λobj=>F.args_object_init_2 obj _) F.entry_enumerate_new (Qg l items n dct sl) ⟨hl,?_⟩;have z1:(s.heap.push {cls:=.type "tuple_iterator",data:=.fields #[.ref l,.int 0 0]}).objs.size =s.heap.objs.size+1:=vA ..;show _/\_;rw[z1];have he:IsEnum ((s.heap.push {cls:=.type "tuple_iterator",data:=.fields #[.ref l,.int 0 0]}).push {cls:=.type "enumerate",data:=.fields #[.none,.bool false,.ref s.heap.objs.size,rawInt 0,.none,.none]}) (s.heap.objs.size+1) s.heap.objs.size 0 .none:=by
  have:=zT (s.heap.push {cls:=.type "tuple_iterator",data:=.fields #[.ref l,.int 0 0]}) (o:={cls:=.type "enumerate",data:=.fields #[.none,.bool false,.ref s.heap.objs.size,rawInt 0,.none,.none]}) rfl;rw[z1]at this;exact this
 exact⟨⟨_,he,rfl⟩,q _ he ⟨_,zC _ (zT _ rfl),rfl,rfl⟩ (by rw[vA,z1]) λb o x=>zC _ (zC _ x)⟩
end
theorem QT {prog:Program}{w:World}{A:Around}{E:Value->Shared->Prop}{s:Shared}(hh:A.in1.handled=none){e it t:Addr}{k:Int}{i:Nat}{items:Array Value}{old:Value}{Q:Option Value->Shared->Prop}(he:IsEnum s.heap e it k old)(hit:s.heap.IsTupleIter it t i)(ht:s.heap.IsTuple t items)(hx:items[i]? =none)
  (q: ∀h',Heap.ExtBut it s.heap h'->Q none {s with heap:=h'}):wpAny (model prog w) A (pyNext (.ref e)) Q E s:=by
 have ty:s.TypeIs (.ref e) "enumerate":=⟨_,he,rfl⟩;unfold pyNext;refine zA (wT (xY (name:=Str.ofString "__next__") ty F.slot_enumerate_next (jQ F.slot_enumerate_next ty F.entry_enumerate_next (show wpAny _ _ (field (.ref e) 2>>=_) _ _ _ from zA (xM he rfl (x:=.ref it) rfl (zA (Hk hh hit ht hx λh' x a b=>?_)))) (F.args_enumerate_next_1 _))));obtain⟨o,ho,hc⟩:=b;exact zA (Da (T:="StopIteration") (b:=true) ⟨o,ho,hc⟩ isSubtype_stop (zL (q _ a)))
def Xz (K:PySem.W.Frag)(a:Addr):It:=
 ⟨λi H=> ∃xs x,uS K H a xs/\xs[i]? =some x,λi H y H'=> ∃t x,y=.ref t/\H t=none/\H'=upd H t (.tup [.int (i:Nat),x])/\ ∀xs,uS K H a xs->xs[i]? =some x,λi H=> ∃xs,uS K H a xs/\xs.length<=i⟩
theorem QO {P:Program}{w:World}{K:PySem.W.Frag}{elts:List Expr}{x1:Nat}{pos:Pos}(a e it:Addr)(hne:e≠it):
  Me P w K (.Tuple elts x1 pos) (Xz K a) [e,it] e (λi h=>(∃old,IsEnum h e it (i:Nat) old)/\h.IsTupleIter it a i) where
 mem:=by simp
 obj:=λi h st b hb=>by
  obtain⟨⟨old,he⟩,o,e1,c,d⟩:=st
  rcases List.mem_cons.mp hb with z|z
  ·subst z;exact⟨_,he,λv z=>by cases z⟩
  ·rw[List.mem_singleton.mp z];exact⟨o,e1,λv z=>by rw[d]at z;cases z⟩
 keep:=λi h h' st k=>⟨⟨_,k e (by simp) _ st.1.choose_spec⟩,(by obtain⟨o9,g9,r9⟩:=st.2;exact⟨o9,k it (by simp) o9 g9,r9⟩)⟩
 item:=by
  intro X hP hw hK hc i pins s σ H E I hf st hg;subst hP hw hK;obtain⟨xs,x,hq,hx⟩:=hg;obtain⟨its,rv,p,hz⟩:=I.tuple hq;obtain⟨u,hu,ru⟩:=rv.get hx;obtain⟨⟨old,he⟩,hit⟩:=st;have fe:=hf e (by simp);have fi:=hf it (by simp);have lt:i<its.toArray.size:=by
   have:=(List.getElem?_eq_some_iff.mp hu).1
   simpa using this
  have na:a≠it:=λz=>by
   obtain⟨o1,g1,c1,_⟩:=hit;obtain⟨o2,g2,c2,_⟩:=p;rw[z,g1]at g2;cases g2;rw[c1]at c2;injection c2 with c2
   exact absurd c2 (by decide)
  have ne':e≠a:=λz=>by
   obtain⟨o2,g2,c2,_⟩:=p;rw[<-z]at g2;have g3:=he.symm.trans g2;injection g3 with g3
   rw[<-g3]at c2;injection c2 with c2
   exact absurd c2 (by decide)
  refine wpAny_pyNext_enum_itemD (UD (show X.A.in1.handled=none from I.ok.hd hc) it a na its.toArray) he ⟨hit,p⟩ lt hne (by simp[hne,ne']) λx' h' tk px out st' htup hsz hk=>?_;have hit':=st'.1;have ex:x'=u:=by
   rw[show its.toArray[i]? =some u by simpa using hu]at px;injection px with px
   exact px.symm
  subst ex;have elt:e<s.heap.objs.size:=zS he;have ilt:it<s.heap.objs.size:=by
   obtain⟨o,ho,_⟩:=hit;exact zS ho
  refine⟨.ref s.heap.objs.size,rfl,wpAny_letOwnedTupleGo_enum out λh'' he'' hs''=>?_⟩;have fresh:=I.hok.fresh (zP s.heap.objs.size);have I1:=I.laid (a:=s.heap.objs.size) (o:=.tup [.int (i:Nat),x]) (h':=s.heap.push {cls:=.type "tuple",data:=.seq #[.int (i:Nat) tk,x']}) (t':=s.toks) (λb o q=>zC _ q) (zP _)
   ⟨sm2,[.int (i:Nat) tk,x'],.cons ⟨_,rfl⟩ (.cons ru .nil),Gf _ _⟩
  have fe':HW X pins (upd H s.heap.objs.size (.tup [.int (i:Nat),x])) e:=⟨by rw[zW (xA elt)];exact fe.1,fe.2⟩;have fi':HW X pins (upd H s.heap.objs.size (.tup [.int (i:Nat),x])) it:=⟨by rw[zW (xA ilt)];exact fi.1,fi.2⟩;have I2:=I1.turned2 (h':=h'') (t':=tk+1) (λb o hbe hbi q=>?_) fe' fi'
  ·refine⟨.ref s.heap.objs.size,_,I2,rfl,⟨s.heap.objs.size,x,rfl,fresh,rfl,λys hy=>by rw[I.tuple_inj hy hq];exact hx⟩,⟨⟨_,he''⟩,(by obtain⟨o9,g9,r9⟩:=hit';exact⟨o9,(hs''.2 it (Ne.symm hne)).trans g9,r9⟩)⟩,λb hb=>?_⟩
   rcases List.mem_cons.mp hb with z|z
   ·rw[z];exact fe'.1
   ·rw[List.mem_singleton.mp z];exact fi'.1
  ·rw[hs''.2 b hbe]
   by_cases hb:b=s.heap.objs.size
   ·subst hb;rw[htup];rw[<-q];exact(zT _ rfl).symm
   ·refine hk b o hbe hbi ?_
    rcases DB q with⟨z,_⟩|z
    ·exact absurd z hb
    ·exact z
 done:=by
  intro X hP hw hK hc i pins s σ H E I hf st hg;subst hP hw hK;obtain⟨xs,hq,hx⟩:=hg;obtain⟨its,rv,p,hz⟩:=I.tuple hq;obtain⟨⟨old,he⟩,hit⟩:=st;have hl:=rv.length;obtain⟨f0,f1,f2,f3,f4,f5⟩:=hf it (by simp);exact QT (show X.A.in1.handled=none from I.ok.hd hc) he hit p (by simp;lia) λh' eb=>⟨rfl,I.turned (t':=s.toks) (λb o hb q=>eb b o hb q) f0 f1 f3 f4 f5⟩
 self:=λ_ _ _ _ _ st h=>by
  obtain⟨⟨old,he⟩,_⟩:=st;exact BT he h
inductive SZ (K:PySem.W.Frag) (vs:List V) (H1:Hp) (R:It->Hp->Prop):Prop
 |mk (a xs:_) (h0:vs=[.ref a]) (h1:uS K H1 a xs) (h2:R (Xz K a) H1):SZ K vs H1 R
def zBq (K:PySem.W.Frag)(ta:TA):TI:=λσ H R=>ta σ H λvs H1=>SZ K vs H1 R
theorem Ps {X:Cx}{elts:List Expr}{x1:Nat}{tpos:Pos}{l:Expr}{ta:TA}{p pos:Pos}(hg:Gl X "enumerate")(hm:X.mg "enumerate"=none)(ha:PA X [l] ta)(hs:starEach [l] X.env=[(false,eval l X.env)]:=by rfl):PI X (.Tuple elts x1 tpos) (.Call (.Name "enumerate" p) [l] [] pos) (zBq X.K ta):=by
 refine⟨?_⟩;intro pins s σ H R I h;refine Call_ (Fk I hg hm Jk (jC (qV (ha pos pins s σ H _ I h) λus s1 ⟨vs,H1,I1,r1,q1⟩=>?_) hs rfl));obtain⟨a,xs,e,hq,q⟩:=q1;subst e;obtain⟨u,rfl,ru⟩:=JY r1;cases ru;obtain⟨its,rv,pl,hz⟩:=I1.tuple hq;refine RV pl λh' he hit hsz hk=>?_;refine BT (s:={s1 with heap:=h'}) he ?_;have I2:xK X pins σ H1 {s1 with heap:=h'}:=I1.kept (t':=s1.toks) hk;refine⟨_,[s1.heap.objs.size+1,s1.heap.objs.size],_,_,H1,rfl,I2,QO a (s1.heap.objs.size+1) s1.heap.objs.size (Nat.succ_ne_self _),⟨⟨_,he⟩,hit⟩,λb hb=>?_,q⟩
 rcases List.mem_cons.mp hb with z|z
 ·rw[z];exact I1.fpOk (vV _) (I1.hok.fresh (vV _))
 ·rw[List.mem_singleton.mp z];exact I1.fpOk (zP _) (I1.hok.fresh (zP _))
theorem No {K:PySem.W.Frag}{a:Addr}{xs:List V}{g:TG}{tb:TS}{D:Gz}{σ:St}{H:Hp}(Pv:Nat->St->Hp->Prop)(h0:Pv 0 σ H)(hl: ∀i σ H,i<=xs.length->Pv i σ H->uS K H a xs)
  (hs: ∀i x σ H t,xs[i]? =some x->Pv i σ H->H t=none->g (.ref t) σ (upd H t (.tup [.int (i:Nat),x])) λσ2 H2=>tb {D with nx:=Pv (i+1),ct:=Pv (i+1),bk:=D.nx} σ2 H2) (hd: ∀σ H,Pv xs.length σ H->D.nx σ H):
  ∃W:Nat->Nat->St->Hp->Prop,(∃m,W 0 m σ H)/\ ∀i m σ H,W i m σ H->
   ((Xz K a).stop i H/\D.nx σ H)\/((Xz K a).go i H/\ ∃N:St->Hp->Prop,(∀σ' H',N σ' H'-> ∃m',m'<m/\W (i+1) m' σ' H')/\ ∀x H',(Xz K a).yld i H x H'->g x σ H' λσ2 H2=>tb {D with nx:=N,ct:=N,bk:=D.nx} σ2 H2):=by
 refine⟨λi m σ H=>m=xs.length-i/\i<=xs.length/\Pv i σ H,⟨xs.length,by simp,xH _,h0⟩,?_⟩;rintro i m σ H ⟨rfl,hi,p⟩;have q:=hl i σ H hi p
 by_cases hlt:i<xs.length
 ·refine .inr ⟨⟨xs,xs[i],q,zG hlt⟩,Pv (i+1),λσ' H' p'=>⟨xs.length-(i+1),by lia,rfl,hlt,p'⟩,λy H' yd=>?_⟩;obtain⟨t,x,rfl,ht,rfl,hx⟩:=yd;exact hs i x σ H t (hx xs q) p ht
 ·have e:i=xs.length:=by lia
  subst e;exact .inl ⟨⟨xs,q,zP _⟩,hd σ H p⟩
end L2
namespace L2
open PySem
def Eg:Tr->Option Int
 | .mk k own _=>if k=0 then own.head? else none
def Se:Nat->Tr->Prop
 |0,_=>False
 |d+1,.mk k own ps=>(k=0-> ∃n,own=[n])/\(8<=k->k<=14->none∈ps.map Eg/\ps.length<=10)/\ ∀p,p∈ps->Se d p
def oZ:Option Int->V
 |none=>.non
 |some n=>.int n
inductive Gg (d:Nat) (vs:List V) (H:Hp) (Q:VK) (E:XK):Prop
 |mk (v:V) (t:Tr) (h0:vs=[v]) (h1:Kv H d v t) (h2:Se d t) (h3: ∀H',yU H H'->Q (oZ (Eg t)) H'):Gg d vs H Q E
def NL:Sp:=λ_ _ _ _=>False
theorem Tf {P:Program}{w:World}{K:PySem.W.Frag}{mg:Str->Option Value}{base:Heap}{CX:JX}{k:Nat}{f:Addr}{fd:FuncData}{ps:List Str}{sp:Sp}(h: ∀vs H Q E,¬sp vs H Q E):Bb P w K mg base CX k f fd ps sp:=
 ⟨λ_ _ _ _ z=>(h _ _ _ _ z).elim,λ_ _ _ _ _ _ _ _ _ _ _ _ _ z=>(h _ _ _ _ z).elim⟩
theorem Yw: ∀{os:List (Option Int)},none∈os->YG .non (os.map oZ)=true/\(os.map oZ).all AZ=true
 |os,h=>⟨List.any_eq_true.mpr ⟨.non,wP (f:=oZ) h,rfl⟩,List.all_eq_true.mpr λx hx=>by
   obtain⟨o,_,rfl⟩:=List.mem_map.mp hx;cases o<;>rfl⟩
end L2
namespace L2
open PySem PySem.Spec
section
variable {X:Cx}
inductive Zq (K:PySem.W.Frag) (x:V) (y:V) (H:Hp) (Q:VK):Prop
 |mk (a b:Addr) (i j k:Int) (z:V) (h0:x=.ref a) (h1:y=.ref b) (h2:uS K H a [.int i,.int j]) (h3:uS K H b [.int k,z]) (h4:AZ z=true) (h5:Q (.bl (!(i==k&&Jp (.int j) z))) H):Zq K x y H Q
theorem Ym {k:Nat}(hr:vY k X.A):IE X (compareOp .NotEq) (Zq X.K):=by
 intro pins s σ H x y v u Q I rx ry h;obtain⟨a,b,i,j,k',z,rfl,rfl,ha,hb,fz,q⟩:=h;cases rx;cases ry;have hu:=hr.un;obtain⟨us,r,pa,_⟩:=I.tuple ha;obtain⟨vs,q',pb,_⟩:=I.tuple hb;obtain⟨u1,u2,rfl,r1,r2⟩:=r.two;obtain⟨w1,w2,rfl,t1,t2⟩:=q'.two;have:=SeqAt.RcNeAt.tuples (A:=X.A) (s:=s) (e:=λn=>if n=0 then Jp (.int i) (.int k')else Jp (.int j) z) pa pb (by lia) (λn h1 h2=>by
  have h1:n<2:=h1
  rcases(by lia:n=0\/n=1)with rfl|rfl
  ·exact LX r1 t1 rfl rfl
  ·exact LX r2 t2 rfl fz)
 have e:(!((List.range (min 2 2)).all (λn=>if n=0 then Jp (.int i) (.int k')else Jp (.int j) z)&&(2==2)))=!(i==k'&&Jp (.int j) z):=by
  show(!((Jp (.int i) (.int k')&&(Jp (.int j) z&&true))&&true))=_;rw[Bool.and_true,Bool.and_true];rfl
 have this:SeqAt.RcNeAt X.A s (Value.ref a) (Value.ref b) (!(i==k'&&Jp (.int j) z)):=e▸this;exact this _ _ _ _ ⟨.bl _,H,I,rfl,q⟩
end
def Pj (rs:uB)(a:Option Nat):Option Nat:=a.bind λi=>if i<rs.length then QL rs i else none
def kF (rs:uB)(a b:Option Nat):Bool:=(Pj rs a).isSome&&decide (Pj rs a=Pj rs b)
def uR (rs:uB)(a:Option Nat)(op n:Int):Option Nat:=(Pj rs a).bind λl=>if rs[l]? =some (op,n)then some (l+1)else none
theorem zBg {rs:uB}{i l:Nat}(h:QL rs i=some l):l<rs.length:=by
 unfold QL at h;split at h
 ·rename_i c;cases h;exact c.1
 ·cases h
theorem VA {rs:uB}{a:Option Nat}{l:Nat}(h:Pj rs a=some l):l<rs.length:=by
 cases a with
 |none=>cases h
 |some i=>
  have h:(if i<rs.length then QL rs i else none)=some l:=h;split at h
  ·exact zBg h
  ·cases h
def CkO (C dx r l d q:Addr):HO:=.ins C dx [("rows",.ref r),("leads",.ref l),("lines",.ref d),("right",.ref q)]
def LnV (H:Hp):Option V->Option (Nat×Nat)->Prop
 |none,none=>True
 |some v,some be=> ∃t,v=.ref t/\H t=some (.tup [.int (be.1:Nat),.int (be.2:Nat)])
 |_,_=>False
structure IH (C:Addr)(H:Hp)(c dx r l d q:Addr)(rs:uB)(L:Int->Option (Nat×Nat))(R:Int->Option Bool):Prop where
 ob:H c=some (CkO C dx r l d q)
 rows:wA H r (Zs rs)
 leads:H l=some (.lst ((List.range rs.length).map λi=>oI (QL rs i)))
 lines: ∃kvs:List (uT×V),H d=some (.dK kvs)/\ ∀p:Int,LnV H (Bo kvs (.inl p)) (L p)
 right: ∃kvs:List (uT×V),H q=some (.dK kvs)/\ ∀p:Int,Bo kvs (.inl p)=(R p).map V.bl
theorem LnV.same {H H':Hp}(s:yU H H'): ∀{o:Option V} {b:Option (Nat×Nat)},LnV H o b->LnV H' o b
 |none,none,_=>trivial
 |some _,some _,⟨t,e,h⟩=>⟨t,e,s _ _ h⟩
 |none,some _,h=>h.elim
 |some _,none,h=>h.elim
theorem IH.same {C:Addr}{H H':Hp}{c dx r l d q:Addr}{rs:uB}{L:Int->Option (Nat×Nat)}{R:Int->Option Bool}(s:yU H H')(h:IH C H c dx r l d q rs L R):IH C H' c dx r l d q rs L R:=by
 obtain⟨kv,e1,e2⟩:=h.lines;obtain⟨kr,e3,e4⟩:=h.right;obtain⟨vs,e5,e6⟩:=h.rows;exact⟨s _ _ h.ob,⟨vs,s _ _ e5,Paired.imp (λ_ _ ⟨t,a,b⟩=>⟨t,a,s _ _ b⟩) e6⟩,s _ _ h.leads,⟨kv,s _ _ e1,λp=>(e2 p).same s⟩,⟨kr,s _ _ e3,e4⟩⟩
theorem IH.line {C:Addr}{H:Hp}{c dx r l d q:Addr}{rs:uB}{L:Int->Option (Nat×Nat)}{R:Int->Option Bool}(h:IH C H c dx r l d q rs L R){p:Int}{b e:Nat}(hp:L p=some (b,e)): ∃t,GD H d (.int p) (some (.ref t))/\H t=some (.tup [.int (b:Nat),.int (e:Nat)]):=by
 obtain⟨kv,e1,e2⟩:=h.lines;have z:=e2 p;rw[hp]at z;cases w:Bo kv (.inl p)with
 |none=>rw[w]at z;exact z.elim
 |some v=>
  rw[w]at z;obtain⟨t,rfl,et⟩:=z;exact⟨t,w▸GD.k (k:=.inl p) e1,et⟩
theorem IH.has {C:Addr}{H:Hp}{c dx r l d q:Addr}{rs:uB}{L:Int->Option (Nat×Nat)}{R:Int->Option Bool}(h:IH C H c dx r l d q rs L R)(p:Int): ∃o,GD H d (.int p) o/\o.isSome=(L p).isSome:=by
 obtain⟨kv,e1,e2⟩:=h.lines;refine⟨Bo kv (.inl p),GD.k (k:=.inl p) e1,?_⟩;have z:=e2 p;cases w:Bo kv (.inl p)<;>cases y:L p<;>rw[w,y]at z<;>first|rfl|exact z.elim
theorem IH.rt {C:Addr}{H:Hp}{c dx r l d q:Addr}{rs:uB}{L:Int->Option (Nat×Nat)}{R:Int->Option Bool}(h:IH C H c dx r l d q rs L R){p:Int}{b:Bool}(hp:R p=some b):GD H q (.int p) (some (.bl b)):=by
 obtain⟨kv,e1,e2⟩:=h.right;have z:=e2 p;rw[hp]at z;have z:Bo kv (.inl p)=some (.bl b):=z;exact z▸GD.k (k:=.inl p) e1
theorem IH.lead {C:Addr}{H:Hp}{c dx r l d q:Addr}{rs:uB}{L:Int->Option (Nat×Nat)}{R:Int->Option Bool}(h:IH C H c dx r l d q rs L R){i:Nat}(hi:i<rs.length):((List.range rs.length).map λi=>oI (QL rs i))[i]? =some (oI (QL rs i)):=by
 rw[yQ,AU hi];rfl
inductive Er (C:Addr) (vs:List V) (H:Hp) (Q:VK) (E:XK):Prop
 |mk (c dx r l d q:Addr) (rs:uB) (L:Int->Option (Nat×Nat)) (R:Int->Option Bool) (a:Option Nat) (h0:vs=[.ref c,oI a]) (h1:IH C H c dx r l d q rs L R) (h2:Q (oI (Pj rs a)) H):Er C vs H Q E
inductive Es (C:Addr) (vs:List V) (H:Hp) (Q:VK) (E:XK):Prop
 |mk (c dx r l d q:Addr) (rs:uB) (L:Int->Option (Nat×Nat)) (R:Int->Option Bool) (a b:Option Nat) (h0:vs=[.ref c,oI a,oI b]) (h1:IH C H c dx r l d q rs L R) (h2:Q (.bl (kF rs a b)) H):Es C vs H Q E
def QH (rs:uB)(a:Option Nat)(op:Int)(n:Option Int):Option Nat:=n.bind λm=>uR rs a op m
inductive Dp (C:Addr) (vs:List V) (H:Hp) (Q:VK) (E:XK):Prop
 |mk (c dx r l d q:Addr) (rs:uB) (L:Int->Option (Nat×Nat)) (R:Int->Option Bool) (a:Option Nat) (t:Addr) (op:Int) (n:Option Int) (h0:vs=[.ref c,oI a,.ref t]) (h1:IH C H c dx r l d q rs L R) (h2:H t=some (.tup [.int op,oZ n])) (h3:Q (oI (QH rs a op n)) H):Dp C vs H Q E
inductive Af (C:Addr) (f:Nat×Nat->Nat) (vs:List V) (H:Hp) (Q:VK) (E:XK):Prop
 |mk (c dx r l d q:Addr) (rs:uB) (L:Int->Option (Nat×Nat)) (R:Int->Option Bool) (tn:Addr) (k p:Int) (x y:V) (be:Nat×Nat) (h0:vs=[.ref c,.ref tn]) (h1:IH C H c dx r l d q rs L R) (h2:H tn=some (.tup [.int k,.int p,x,y])) (h3:L p=some be) (h4:Q (.int (f be:Nat)) H):Af C f vs H Q E
inductive BI (C:Addr) (f:Nat×Nat->Nat) (vs:List V) (H:Hp) (Q:VK) (E:XK):Prop
 |mk (c dx r l d q:Addr) (rs:uB) (L:Int->Option (Nat×Nat)) (R:Int->Option Bool) (tn tp:Addr) (k p k' p':Int) (x y x' y':V) (be be':Nat×Nat) (h0:vs=[.ref c,.ref tn,.ref tp]) (h1:IH C H c dx r l d q rs L R) (h2:H tn=some (.tup [.int k,.int p,x,y])) (h3:L p=some be) (h4:H tp=some (.tup [.int k',.int p',x',y'])) (h5:L p'=some be') (h6:Q (.bl (kF rs (some (f be')) (some (f be)))) H):BI C f vs H Q E
def RtV (H:Hp)(R:Int->Option Bool)(v:V)(b:Bool):Prop:= ∃(t:Addr) (k p:Int) (x y:V),v=.ref t/\H t=some (.tup [.int k,.int p,x,y])/\R p=some b
inductive Im (C:Addr) (vs:List V) (H:Hp) (Q:VK) (E:XK):Prop
 |mk (c dx r l d q:Addr) (rs:uB) (L:Int->Option (Nat×Nat)) (R:Int->Option Bool) (pt:Addr) (pvs:List V) (bs:List Bool) (h0:vs=[.ref c,.ref pt]) (h1:IH C H c dx r l d q rs L R) (h2:H pt=some (.tup pvs)) (h3:Paired (RtV H R) pvs bs) (h4:pvs.length<=1000) (h5: ∀H',yU H H'->Q (.bl (bs.all id)) H'):Im C vs H Q E
def GA (rs:uB)(a:Option Nat):Option Nat:=(Pj rs a).bind λl=>match rs[l]? with
 |some (5,n)=>some n.toNat
 |_=>none
def UOk (rs:uB):Prop:= ∀(i:Nat) (n:Int),rs[i]? =some (5,n)->0<=n
inductive QV (C:Addr) (vs:List V) (H:Hp) (Q:VK) (E:XK):Prop
 |mk (c dx r l d q:Addr) (rs:uB) (L:Int->Option (Nat×Nat)) (R:Int->Option Bool) (a:Option Nat) (h0:vs=[.ref c,oI a]) (h1:IH C H c dx r l d q rs L R) (h2:UOk rs) (h3:Q (oI (GA rs a)) H):QV C vs H Q E
def LnP (H:Hp)(L:Int->Option (Nat×Nat))(v:V)(be:Nat×Nat):Prop:= ∃(t:Addr) (k p:Int) (x y:V),v=.ref t/\H t=some (.tup [.int k,.int p,x,y])/\L p=some be
def XZ (rs:uB)(be:Nat×Nat)(v:Int):Bool:=kF rs (uR rs (some be.1) 0 v) (some be.2)
def CS (rs:uB)(at_:Nat):List (Nat×Nat)->Option Nat
 |[]=>some at_
 |b::r=>if kF rs (some at_) (some b.1)=true then CS rs b.2 r else none
inductive NJ (C:Addr) (vs:List V) (H:Hp) (Q:VK) (E:XK):Prop
 |mk (c dx r l d q:Addr) (rs:uB) (L:Int->Option (Nat×Nat)) (R:Int->Option Bool) (tn:Addr) (k p:Int) (x:V) (pt:Addr) (pvs:List V) (be:Nat×Nat) (bes:List (Nat×Nat)) (h0:vs=[.ref c,.ref tn]) (h1:IH C H c dx r l d q rs L R) (h2:H tn=some (.tup [.int k,.int p,x,.ref pt])) (h3:H pt=some (.tup pvs)) (h4:L p=some be) (h5:Paired (LnP H L) pvs bes) (h6:Q (oI (CS rs be.1 bes)) H):NJ C vs H Q E
def pvM (rs:uB)(be:Nat×Nat):Option Int->Bool
 |none=>false
 |some n=>XZ rs be n
inductive KQ (C:Addr) (e:Nat) (vs:List V) (H:Hp) (Q:VK) (E:XK):Prop
 |mk (c dx r l d q:Addr) (rs:uB) (L:Int->Option (Nat×Nat)) (R:Int->Option Bool) (tn:Addr) (k p:Int) (x y:V) (t:Tr) (be:Nat×Nat) (h0:vs=[.ref c,.ref tn]) (h1:IH C H c dx r l d q rs L R) (h2:H tn=some (.tup [.int k,.int p,x,y])) (h3:Kv H e (.ref tn) t) (h4:Se e t) (h5:L p=some be) (h6: ∀H',yU H H'->Q (.bl (pvM rs be (Eg t))) H'):KQ C e vs H Q E
def VR (v:Int)(n:Nat):Nat:=if v<0\/v ≥ (n:Int)-1 then n-1 else 1+v.toNat
theorem zAp {v:Int}{n:Nat}(h:0<n):VR v n<n:=by
 unfold VR;split
 ·lia
 ·lia
inductive KR (vs:List V) (H:Hp) (Q:VK) (E:XK):Prop
 |mk (v:Int) (pt:Addr) (pvs:List V) (x:V) (h0:vs=[.int v,.ref pt]) (h1:H pt=some (.tup pvs)) (h2:0<pvs.length) (h3:pvs[VR v pvs.length]? =some x) (h4:Q x H):KR vs H Q E
def PtV (H:Hp)(L:Int->Option (Nat×Nat))(R:Int->Option Bool)(v:V)(i:Bool×Nat×Nat):Prop:= ∃(t:Addr) (k p:Int) (x y:V),v=.ref t/\H t=some (.tup [.int k,.int p,x,y])/\R p=some i.1/\(i.1=true->L p=some i.2)
def YX (rs:uB)(be:Nat×Nat)(is:List (Bool×Nat×Nat)):Option Int->Bool
 |none=>false
 |some v=>match is[VR v is.length]? with
  |some i=>i.1&&(kF rs (some i.2.1) (some be.1)&&kF rs (some i.2.2) (some be.2))
  |none=>false
inductive KW (C:Addr) (e:Nat) (vs:List V) (H:Hp) (Q:VK) (E:XK):Prop
 |mk (c dx r l d q:Addr) (rs:uB) (L:Int->Option (Nat×Nat)) (R:Int->Option Bool) (tn:Addr) (k p:Int) (x:V) (pt:Addr) (pvs:List V) (is:List (Bool×Nat×Nat)) (v0:V) (t0:Tr) (be:Nat×Nat) (h0:vs=[.ref c,.ref tn]) (h1:IH C H c dx r l d q rs L R) (h2:H tn=some (.tup [.int k,.int p,x,.ref pt])) (h3:H pt=some (.tup pvs)) (h4:L p=some be) (h5:Paired (PtV H L R) pvs is) (h6:pvs[0]? =some v0) (h7:Kv H e v0 t0) (h8:Se e t0) (h9: ∀H',yU H H'->Q (.bl (YX rs be is (Eg t0))) H'):KW C e vs H Q E
def SM (rs:uB)(be:Nat×Nat)(bes:List (Nat×Nat))(k:Int)(g:List Int):Bool:=
 let after:=uR rs (CS rs be.1 bes) (g.headD 0) (g.getD 1 0)
 if k=7 then after.isSome else kF rs after (some be.2)
end L2
namespace L2
open PySem PySem.Spec PyProof.Rows
structure Nx (prog:Program)(w:World)(it a:Addr)(xs:Array Value)(St:Nat->Heap->Prop):Prop where
 item: ∀{A:Around} {E:Value->Shared->Prop} {k:Nat} {s:Shared} {x:Value} {Q:Value->Shared->Prop},St k s.heap->xs[k]? =some x->(∀h',St (k+1) h'->Heap.SameBut it s.heap h'->Q x {s with heap:=h'})->wpAny (model prog w) A (Builtin.SmallTypes.nextOf (.ref it)) Q E s
 stop: ∀{A:Around} {E:Value->Shared->Prop} {k:Nat} {s:Shared} {Q:Value->Shared->Prop},A.handled=none->St k s.heap->xs[k]? =none->(∀h' e,Heap.ExtBut it s.heap h'->(∃o,h'.get? e=some o/\o.cls=.type "StopIteration")->E (.ref e) {s with heap:=h'})->wpAny (model prog w) A (Builtin.SmallTypes.nextOf (.ref it)) Q E s
 keep: ∀{k:Nat} {h h':Heap},St k h->(∀o,h.get? it=some o->h'.get? it=some o)->(∀o,h.get? a=some o->h'.get? a=some o)->St k h'
 here: ∀{k:Nat} {h:Heap},St k h->(∃o,h.get? it=some o/\ ∀v,o.data≠ .cell v)/\ ∃o,h.get? a=some o
section
variable {prog:Program}{w:World}{it a:Addr}{xs:Array Value}
theorem Nx.list (ne:a≠it):Nx prog w it a xs (λk h=>h.IsListIter it a k/\h.IsList a xs) where
 item:=λst hx q=>wpAny_nextOf_list_item st.1 st.2 hx λh' i sb=>q h' ⟨i,st.2.extBut sb.extBut ne⟩ sb
 stop:=λhh st hx q=>wpAny_nextOf_list_end hh st.1 st.2 hx q
 keep:=λst k1 k2=>by
  obtain⟨⟨o,e,r⟩,o2,e2,r2⟩:=st;exact⟨⟨o,k1 o e,r⟩,o2,k2 o2 e2,r2⟩
 here:=λst=>by
  obtain⟨⟨o,e,r1,r2⟩,o2,e2,_⟩:=st;exact⟨⟨o,e,λv z=>by rw[r2]at z;cases z⟩,o2,e2⟩
theorem Ru {A:Around}{E:Value->Shared->Prop}{k:Nat}{s:Shared}{x:Value}{Q:Value->Shared->Prop}(hit:s.heap.IsTupleIter it a k)(ht:s.heap.IsTuple a xs)(hx:xs[k]? =some x)(q: ∀h',h'.IsTupleIter it a (k+1)->Heap.SameBut it s.heap h'->Q x {s with heap:=h'}):
  wpAny (model prog w) A (Builtin.SmallTypes.nextOf (.ref it)) Q E s:=by
 obtain⟨o,ho,hc,hd⟩:=id hit;obtain⟨ol,hol,_,nl,hdl⟩:=ht;unfold Builtin.SmallTypes.nextOf;refine zA (xY (name:=Str.ofString "__next__") hit.typeIs jJ (jQ jJ hit.typeIs wS ?_ (wN _)));show wpAny _ _ (field (.ref it) 0>>=_) _ _ s;refine zA (xM ho hd (x:=.ref a) rfl ?_);show wpAny _ _ (if(Value.ref a==Value.none)=true then _ else _) _ _ s;rw[zN (show ¬((Value.ref a==Value.none)=true)from yB)];show wpAny _ _ (field (.ref it) 1>>=_) _ _ s;refine zA (xM ho hd (x:=.int k 0) rfl ?_);show wpAny _ _ (seqItems? (.ref a)>>=_) _ _ s;refine zA (qE hol hdl ?_);simp only[kL,hx];refine zA (qS ho hd (by simp) (zL ⟨x,rfl,zL (q _ ?_ (uG ..))⟩));exact⟨_,kK _ ho (qU (jY hd _)),(BY ..).trans hc,by rw[jY hd];simp[rawInt]⟩
theorem QS {A:Around}{E:Value->Shared->Prop}{k:Nat}{s:Shared}{Q:Value->Shared->Prop}(hh:A.handled=none)(hit:s.heap.IsTupleIter it a k)(ht:s.heap.IsTuple a xs)(hx:xs[k]? =none)
  (q: ∀h' e,Heap.ExtBut it s.heap h'->(∃o,h'.get? e=some o/\o.cls=.type "StopIteration")->E (.ref e) {s with heap:=h'}):wpAny (model prog w) A (Builtin.SmallTypes.nextOf (.ref it)) Q E s:=by
 obtain⟨o,ho,hc,hd⟩:=id hit;obtain⟨ol,hol,_,nl,hdl⟩:=ht;unfold Builtin.SmallTypes.nextOf;refine zA (xY (name:=Str.ofString "__next__") hit.typeIs jJ (jQ jJ hit.typeIs wS ?_ (wN _)));show wpAny _ _ (field (.ref it) 0>>=_) _ _ s;refine zA (xM ho hd (x:=.ref a) rfl ?_);show wpAny _ _ (if(Value.ref a==Value.none)=true then _ else _) _ _ s;rw[zN (show ¬((Value.ref a==Value.none)=true)from yB)];show wpAny _ _ (field (.ref it) 1>>=_) _ _ s;refine zA (xM ho hd (x:=.int k 0) rfl ?_);show wpAny _ _ (seqItems? (.ref a)>>=_) _ _ s;refine zA (qE hol hdl ?_);simp only[kL,hx];refine zA (EG (zA (qS ho hd (by simp) ?_)));show wpAny _ _ (newExc (.type "StopIteration") []>>=_) _ _ _;refine zA ?_;simp only[newExc,newTuple];refine zA (jG ?_ (by size_fits));refine zA (m:=firstArgMember _ _) (vT (a:=Value.none) (by first|rfl|(simp only[firstArgMember];rfl)) ?_);refine jG ?_ (by size_fits);simp only[raiseNew];refine zA (wpAny_handled ?_);rw[show A.in1.handled=none from hh];refine zA (zL (wpAny_throw ?_));exact q _ _ (((uG ..).extBut.push _).push _) ⟨_,zT _ rfl,rfl⟩
theorem Nx.tuple (ne:a≠it):Nx prog w it a xs (λk h=>h.IsTupleIter it a k/\h.IsTuple a xs) where
 item:=λst hx q=>Ru st.1 st.2 hx λh' i sb=>q h' ⟨i,st.2.extBut sb.extBut ne⟩ sb
 stop:=λhh st hx q=>QS hh st.1 st.2 hx q
 keep:=λst k1 k2=>by
  obtain⟨⟨o,e,r⟩,o2,e2,r2⟩:=st;exact⟨⟨o,k1 o e,r⟩,o2,k2 o2 e2,r2⟩
 here:=λst=>by
  obtain⟨⟨o,e,r1,r2⟩,o2,e2,_⟩:=st;exact⟨⟨o,e,λv z=>by rw[r2]at z;cases z⟩,o2,e2⟩
end
structure ZA (z TI TO i1 i2 a1 a2:Addr):Prop where
 TIz:TI≠z
 TOz:TO≠z
 i1z:i1≠z
 i2z:i2≠z
 TITO:TI≠TO
 TIi1:TI≠i1
 TIi2:TI≠i2
 TOi1:TO≠i1
 TOi2:TO≠i2
 i12:i1≠i2
 a1z:a1≠z
 a1TO:a1≠TO
 a1i1:a1≠i1
 a1i2:a1≠i2
 a2z:a2≠z
 a2TO:a2≠TO
 a2i1:a2≠i1
 a2i2:a2≠i2
section
variable {prog:Program}{w:World}{A:Around}{E:Value->Shared->Prop}{s:Shared}{z TI TO i1 i2 a1 a2:Addr}{xs ys:Array Value}{S1 S2:Nat->Heap->Prop}{k:Nat}{u v:Value}
def K4 (z TO i1 i2:Addr)(h h':Heap):Prop:= ∀c o,c≠z->c≠TO->c≠i1->c≠i2->h.get? c=some o->h'.get? c=some o
theorem Vd (D:ZA z TI TO i1 i2 a1 a2)(N1:Nx prog w i1 a1 xs S1)(N2:Nx prog w i2 a2 ys S2){x y:Value}{Q:Value->Shared->Prop}(hz:IsZip s.heap z TI TO .none)(hTI:IsPair s.heap TI (.ref i1) (.ref i2))(hTO:IsPair s.heap TO u v)
  (s1:S1 k s.heap) (s2:S2 k s.heap) (hx:xs[k]? =some x) (hy:ys[k]? =some y)
  (q: ∀h',IsZip h' z TI TO (rawInt s.heap.objs.size)->IsPair h' TO x y->S1 (k+1) h'->S2 (k+1) h'->IsPair h' s.heap.objs.size x y->K4 z TO i1 i2 s.heap h'->Q (.ref s.heap.objs.size) {s with heap:=h'}):
  wpAny (model prog w) A (Builtin.«zip.__next__» ⟨[.ref z],[]⟩) (λfin s'=> ∃v,fin=.done (.ret v)/\Q v s') E s:=by
 show wpAny _ _ (field (.ref z) 2>>=_) _ _ _;refine zA (xM hz rfl (x:=.bool false) rfl ?_);show wpAny _ _ (field (.ref z) 3>>=_) _ _ _;refine zA (xM hz rfl (x:=.ref TI) rfl (zA (qE hTI rfl ?_)));show wpAny _ _ (Builtin.SmallTypes.ownedTupleIsFree (.ref z)>>=_) _ _ _;unfold Builtin.SmallTypes.ownedTupleIsFree;refine zA (zA (xM hz rfl (x:=.none) rfl (zL ?_)));simp only[Bm];refine zA (EG (zA (xM hz rfl (x:=.ref TO) rfl (zA (wZ hz (by simp) λh1 z1 b1=>zA ?_)))));have z1:IsZip h1 z TI TO .ellipsis:=z1;simp only[List.zipIdx_cons,List.zipIdx_nil,Bn,List.forIn_nil];refine zA (zA (Fp ?_));show wpAny _ _ (Builtin.SmallTypes.nextOf (.ref i1)>>=_) _ _ _;have p1:S1 k h1:=N1.keep s1 (λo e=>b1.extBut _ _ D.i1z e) (λo e=>b1.extBut _ _ D.a1z e);refine zA (N1.item p1 hx λh2 p2 b2=>zL ?_);have t2:IsPair h2 TO u v:=b2.extBut _ _ D.TOi1 (b1.extBut _ _ D.TOz hTO);refine zA (qE t2 rfl (zA (Dw t2 λh3 t3 b3=>zA (wpAny_letGo (zL ?_)))));have t3:IsPair h3 TO x v:=t3;refine zA (zA (Fp ?_));show wpAny _ _ (Builtin.SmallTypes.nextOf (.ref i2)>>=_) _ _ _;have r3:S2 k h3:=N2.keep s2 (λo e=>b3.extBut _ _ (Ne.symm D.TOi2) (b2.extBut _ _ (Ne.symm D.i12) (b1.extBut _ _ D.i2z e))) (λo e=>b3.extBut _ _ D.a2TO (b2.extBut _ _ D.a2i1 (b1.extBut _ _ D.a2z e)));refine zA (N2.item r3 hy λh4 r4 b4=>zL ?_);have t4:IsPair h4 TO x v:=b4.extBut _ _ D.TOi2 t3;refine zA (qE t4 rfl (zA (Dw t4 λh5 t5 b5=>zA (wpAny_letGo (zL (zL ?_))))));have t5:IsPair h5 TO x y:=t5;refine zA (qE t5 rfl (zA (wpAny_newTuple ?_)));have sz:h5.objs.size=s.heap.objs.size:=by rw[b5.1,b4.1,b3.1,b2.1,b1.1]
 have z5:IsZip h5 z TI TO .ellipsis:=b5.extBut _ _ (Ne.symm D.TOz) (b4.extBut _ _ (Ne.symm D.i2z) (b3.extBut _ _ (Ne.symm D.TOz) (b2.extBut _ _ (Ne.symm D.i1z) z1)));have k5:K4 z TO i1 i2 s.heap h5:=λc o c1 c2 c3 c4 e=>b5.extBut _ _ c2 (b4.extBut _ _ c4 (b3.extBut _ _ c2 (b2.extBut _ _ c3 (b1.extBut _ _ c1 e))));have p5:S1 (k+1) h5:=N1.keep p2 (λo e=>b5.extBut _ _ (Ne.symm D.TOi1) (b4.extBut _ _ D.i12 (b3.extBut _ _ (Ne.symm D.TOi1) e))) (λo e=>b5.extBut _ _ D.a1TO (b4.extBut _ _ D.a1i2 (b3.extBut _ _ D.a1TO e)));have r5:S2 (k+1) h5:=N2.keep r4 (λo e=>b5.extBut _ _ (Ne.symm D.TOi2) e) (λo e=>b5.extBut _ _ D.a2TO e);have zl:z<h5.objs.size:=zS z5;show wpAny _ _ (Builtin.SmallTypes.ownedTupleHandOut (.ref z) (.ref h5.objs.size)>>=_) _ _ _;unfold Builtin.SmallTypes.ownedTupleHandOut;have z6:IsZip (h5.push {cls:=.type "tuple",data:=.seq #[x,y]}) z TI TO .ellipsis:=zC _ z5;refine zA (zA (wZ z6 (by simp) λh7 z7 b7=>?_));have z7:IsZip h7 z TI TO (rawInt h5.objs.size):=z7;refine wZ z7 (by simp) λh8 z8 b8=>?_;have z8:IsZip h8 z TI TO (rawInt h5.objs.size):=z8;have up: ∀c o,c≠z->h5.get? c=some o->h8.get? c=some o:=λc o c1 e=>b8.extBut _ _ c1 (b7.extBut _ _ c1 (zC _ e));have t8:IsPair h8 h5.objs.size x y:=b8.extBut _ _ (vU zl) (b7.extBut _ _ (vU zl) (zT _ rfl));rw[sz]at z8 t8;refine zL ⟨_,rfl,?_⟩;show Q (.ref h5.objs.size) _;rw[sz];exact q h8 z8 (up _ _ D.TOz t5) (N1.keep p5 (λo e=>up _ o D.i1z e) (λo e=>up _ o D.a1z e)) (N2.keep r5 (λo e=>up _ o D.i2z e) (λo e=>up _ o D.a2z e)) t8 λc o c1 c2 c3 c4 e=>up c o c1 (k5 c o c1 c2 c3 c4 e)
theorem Vc (hh:A.handled=none)(D:ZA z TI TO i1 i2 a1 a2)(N1:Nx prog w i1 a1 xs S1)(N2:Nx prog w i2 a2 ys S2){Q:Fin->Shared->Prop}(hz:IsZip s.heap z TI TO .none)(hTI:IsPair s.heap TI (.ref i1) (.ref i2))(hTO:IsPair s.heap TO u v)
  (s1:S1 k s.heap) (s2:S2 k s.heap) (he:xs[k]? =none\/ys[k]? =none)
  (q: ∀h' e,K4 z TO i1 i2 s.heap h'->(∃o,h'.get? e=some o/\o.cls=.type "StopIteration")->E (.ref e) {s with heap:=h'}):wpAny (model prog w) A (Builtin.«zip.__next__» ⟨[.ref z],[]⟩) Q E s:=by
 show wpAny _ _ (field (.ref z) 2>>=_) _ _ _;refine zA (xM hz rfl (x:=.bool false) rfl ?_);show wpAny _ _ (field (.ref z) 3>>=_) _ _ _;refine zA (xM hz rfl (x:=.ref TI) rfl (zA (qE hTI rfl ?_)));show wpAny _ _ (Builtin.SmallTypes.ownedTupleIsFree (.ref z)>>=_) _ _ _;unfold Builtin.SmallTypes.ownedTupleIsFree;refine zA (zA (xM hz rfl (x:=.none) rfl (zL ?_)));simp only[Bm];refine zA (EG (zA (xM hz rfl (x:=.ref TO) rfl (zA (wZ hz (by simp) λh1 z1 b1=>zA ?_)))));have z1:IsZip h1 z TI TO .ellipsis:=z1;simp only[List.zipIdx_cons,List.zipIdx_nil,Bn,List.forIn_nil];refine zA (zA (Fp ?_));show wpAny _ _ (Builtin.SmallTypes.nextOf (.ref i1)>>=_) _ _ _;have p1:S1 k h1:=N1.keep s1 (λo e=>b1.extBut _ _ D.i1z e) (λo e=>b1.extBut _ _ D.a1z e);cases hx:xs[k]? with
 |none=>
  refine zA (N1.stop hh p1 hx λh2 e b2 hzz=>?_);obtain⟨oe,hoe,hce⟩:=hzz;have z2:IsZip h2 z TI TO .ellipsis:=b2 _ _ (Ne.symm D.i1z) z1;have ez:e≠z:=λx=>by subst x;rw[z2]at hoe;cases hoe;simp at hce
  exact wZ z2 (by simp) λh3 _ b3=>q h3 e (λc o c1 _ c3 _ x=>b3.extBut _ _ c1 (b2 _ _ c3 (b1.extBut _ _ c1 x))) ⟨oe,b3.extBut _ _ ez hoe,hce⟩
 |some x=>
  have hy:ys[k]? =none:=he.resolve_left (by rw[hx];exact λz=>nomatch z);refine zA (N1.item p1 hx λh2 p2 b2=>zL ?_);have t2:IsPair h2 TO u v:=b2.extBut _ _ D.TOi1 (b1.extBut _ _ D.TOz hTO);refine zA (qE t2 rfl (zA (Dw t2 λh3 t3 b3=>zA (wpAny_letGo (zL ?_)))));refine zA (zA (Fp ?_));show wpAny _ _ (Builtin.SmallTypes.nextOf (.ref i2)>>=_) _ _ _;have r3:S2 k h3:=N2.keep s2 (λo e=>b3.extBut _ _ (Ne.symm D.TOi2) (b2.extBut _ _ (Ne.symm D.i12) (b1.extBut _ _ D.i2z e))) (λo e=>b3.extBut _ _ D.a2TO (b2.extBut _ _ D.a2i1 (b1.extBut _ _ D.a2z e)));refine zA (N2.stop hh r3 hy λh4 e b4 hzz=>?_);obtain⟨oe,hoe,hce⟩:=hzz;have z4:IsZip h4 z TI TO .ellipsis:=b4 _ _ (Ne.symm D.i2z) (b3.extBut _ _ (Ne.symm D.TOz) (b2.extBut _ _ (Ne.symm D.i1z) z1));have ez:e≠z:=λx=>by subst x;rw[z4]at hoe;cases hoe;simp at hce
  exact wZ z4 (by simp) λh5 _ b5=>q h5 e (λc o c1 c2 c3 c4 x=>b5.extBut _ _ c1 (b4 _ _ c4 (b3.extBut _ _ c2 (b2.extBut _ _ c3 (b1.extBut _ _ c1 x))))) ⟨oe,b5.extBut _ _ ez hoe,hce⟩
theorem Ww (D:ZA z TI TO i1 i2 a1 a2)(N1:Nx prog w i1 a1 xs S1)(N2:Nx prog w i2 a2 ys S2){x y:Value}{Q:Option Value->Shared->Prop}(hz:IsZip s.heap z TI TO .none)(hTI:IsPair s.heap TI (.ref i1) (.ref i2))(hTO:IsPair s.heap TO u v)
  (s1:S1 k s.heap) (s2:S2 k s.heap) (hx:xs[k]? =some x) (hy:ys[k]? =some y)
  (q: ∀h',IsZip h' z TI TO (rawInt s.heap.objs.size)->IsPair h' TO x y->S1 (k+1) h'->S2 (k+1) h'->IsPair h' s.heap.objs.size x y->K4 z TO i1 i2 s.heap h'->Q (some (.ref s.heap.objs.size)) {s with heap:=h'}):
  wpAny (model prog w) A (pyNext (.ref z)) Q E s:=by
 have hT:s.TypeIs (.ref z) "zip":=⟨_,hz,rfl⟩;unfold pyNext;exact zA (wT (xY (name:=Str.ofString "__next__") hT DY (jQ DY hT F.entry_zip_next
  (Vd D N1 N2 hz hTI hTO s1 s2 hx hy λh' e1 e2 e3 e4 e5 e6=>zL (q h' e1 e2 e3 e4 e5 e6)) (F.args_zip_next_1 _))))
theorem YM (hh:A.handled=none)(D:ZA z TI TO i1 i2 a1 a2)(N1:Nx prog w i1 a1 xs S1)(N2:Nx prog w i2 a2 ys S2){Q:Option Value->Shared->Prop}(hz:IsZip s.heap z TI TO .none)(hTI:IsPair s.heap TI (.ref i1) (.ref i2))(hTO:IsPair s.heap TO u v)
  (s1:S1 k s.heap) (s2:S2 k s.heap) (he:xs[k]? =none\/ys[k]? =none) (q: ∀h',K4 z TO i1 i2 s.heap h'->Q none {s with heap:=h'}):wpAny (model prog w) A (pyNext (.ref z)) Q E s:=by
 have hT:s.TypeIs (.ref z) "zip":=⟨_,hz,rfl⟩;unfold pyNext;refine zA (wT (xY (name:=Str.ofString "__next__") hT DY (jQ DY hT F.entry_zip_next
  (Vc (A:=A.in1) hh D N1 N2 hz hTI hTO s1 s2 he λh' e hk ⟨o,ho,hc⟩=>?_) (F.args_zip_next_1 _))))
 refine zA (Da (T:="StopIteration") (b:=true) ⟨o,ho,hc⟩ isSubtype_stop ?_);exact zL (q _ hk)
end
def RY (b:Bool)(K:PySem.W.Frag)(H:Hp)(a:Addr)(xs:List V):Prop:=if b=true then uS K H a xs else kS K H a xs
def IF (b:Bool)(h:Heap)(a:Addr)(xs:Array Value):Prop:=if b=true then h.IsTuple a xs else h.IsList a xs
def SI (b:Bool)(h:Heap)(it a:Addr)(k:Nat):Prop:=if b=true then h.IsTupleIter it a k else h.IsListIter it a k
def Qp (b:Bool)(a:Addr):Obj:={cls:=.type (if b=true then "tuple_iterator" else "list_iterator"),data:=.fields #[.ref a,.int 0 0]}
section
variable {prog:Program}{w:World}{A:Around}{E:Value->Shared->Prop}{s:Shared}{b:Bool}{it a:Addr}{xs:Array Value}{k:Nat}{h h':Heap}
theorem SY {Q:Value->Shared->Prop}(hl:IF b s.heap a xs)(hQ:Q (.ref s.heap.objs.size) {s with heap:=s.heap.push (Qp b a)}):wpAny (model prog w) A (pyIter (.ref a)) Q E s:=by
 cases b with
 |true=>exact uU (show s.heap.IsTuple a xs from hl) hQ
 |false=>exact vS (show s.heap.IsList a xs from hl) hQ
theorem Nx.sq (ne:a≠it):Nx prog w it a xs (λk h=>SI b h it a k/\IF b h a xs):=by
 cases b with
 |true=>exact Nx.tuple ne
 |false=>exact Nx.list ne
theorem SI.keep (st:SI b h it a k)(k1: ∀o,h.get? it=some o->h'.get? it=some o):SI b h' it a k:=by
 cases b with
 |true=>obtain⟨o,e,r⟩:=(show h.IsTupleIter it a k from st);exact⟨o,k1 o e,r⟩
 |false=>obtain⟨o,e,r⟩:=(show h.IsListIter it a k from st);exact⟨o,k1 o e,r⟩
theorem SI.obj (st:SI b h it a k): ∃o,h.get? it=some o/\ ∀v,o.data≠ .cell v:=by
 cases b with
 |true=>obtain⟨o,e,_,r⟩:=(show h.IsTupleIter it a k from st);exact⟨o,e,λv z=>by rw[r]at z;cases z⟩
 |false=>obtain⟨o,e,_,r⟩:=(show h.IsListIter it a k from st);exact⟨o,e,λv z=>by rw[r]at z;cases z⟩
theorem SI.new {h:Heap}(g:h.get? it=some (Qp b a)):SI b h it a 0:=by
 cases b with
 |true=>exact⟨_,g,rfl,rfl⟩
 |false=>exact⟨_,g,rfl,rfl⟩
theorem IF.push {o:Obj}(x:IF b h a xs):IF b (h.push o) a xs:=by
 cases b with
 |true=>obtain⟨q,e,r⟩:=(show h.IsTuple a xs from x);exact⟨q,zC _ e,r⟩
 |false=>obtain⟨q,e,r⟩:=(show h.IsList a xs from x);exact⟨q,zC _ e,r⟩
theorem IF.lt (x:IF b h a xs):a<h.objs.size:=by
 cases b with
 |true=>obtain⟨q,e,r⟩:=(show h.IsTuple a xs from x);exact zS e
 |false=>obtain⟨q,e,r⟩:=(show h.IsList a xs from x);exact zS e
end
section
variable {X:Cx}{pins:List (Addr×Obj)}{σ:St}{H:Hp}{s:Shared}{b:Bool}{a:Addr}{xs ys:List V}
theorem xK.sq (I:xK X pins σ H s)(h:RY b X.K H a xs): ∃its:List Value,jK xs its/\IF b s.heap a its.toArray/\xs.length<=sizeLine:=by
 cases b with
 |true=>
  obtain⟨its,r,p,z⟩:=I.tuple (show uS X.K H a xs from h);exact⟨its,r,p,z⟩
 |false=>
  obtain⟨its,r,p,z⟩:=I.list (show kS X.K H a xs from h);exact⟨its,r,p.isList,z⟩
theorem xK.sq_inj (I:xK X pins σ H s)(h:RY b X.K H a xs)(h':RY b X.K H a ys):xs=ys:=by
 cases b with
 |true=>exact I.tuple_inj h h'
 |false=>exact I.list_inj h h'
theorem xK.turnedL {h':Heap}{t':Nat}{L:List Addr}(I:xK X pins σ H s)(k: ∀b o,b∉L->s.heap.get? b=some o->h'.get? b=some o)(f: ∀b∈L,HW X pins H b):xK X pins σ H {s with heap:=h',toks:=t'}:=by
 have ne: ∀b u,H b=some u->b∉L:=λb u q z=>by
  have:=(f b z).1;rw[this]at q;cases q
 have nl:X.env.locals∉L:=λz=>(f _ z).2.1 rfl;refine I.step (g':=s.gens) (d':=s.drawn) (ch:=L) (λb hb=>⟨(f b hb).2.2.2.1,(f b hb).2.1,(f b hb).2.2.2.2.1,(f b hb).2.2.2.2.2⟩) (λb o _ _ hc q _=>k b o hc q) (λb o _ _ hc q _=>⟨o.slots,k b o hc q⟩) (λ_ _ _ _ n=>n)
  (λb o hc q=>⟨o,k b o hc q⟩) (λ_ _ q=>q) (λ_ _ _ q=>q) (λb ps q=>⟨#[],by rw[q];simp⟩) (λm hm=>?_) (λb u q=>?_) I.bare
 ·obtain⟨o,es,ep,ho,r⟩:=hm;exact⟨o,es,ep,k _ o nl ho,r⟩
 ·refine(I.hok b u q).stay (λc v hc x=>k c v ?_ x) (λ_ x=>x) λ_ _ x=>x
  rcases hc with z|z
  ·rw[z];exact ne b u q
  ·exact ne c _ z
end
def Itz (K : PySem.W.Frag) (b1 b2 : Bool) (a1 a2 : Addr) : It :=
  ⟨λi H => ∃ xs ys x y, RY b1 K H a1 xs /\ RY b2 K H a2 ys /\ xs[i]? = some x /\ ys[i]? = some y, λi H v H' => ∃ t x y, v = .ref t /\ H t = none /\ H' = upd H t (.tup [x, y]) /\ ∀ xs ys, RY b1 K H a1 xs -> RY b2 K H a2 ys -> xs[i]? = some x /\ ys[i]? = some y,
   λi H => ∃ xs ys, RY b1 K H a1 xs /\ RY b2 K H a2 ys /\ (xs.length <= i \/ ys.length <= i)⟩
def ZSt (b1 b2:Bool)(z TI TO i1 i2 a1 a2:Addr)(i:Nat)(h:Heap):Prop:=IsZip h z TI TO .none/\IsPair h TI (.ref i1) (.ref i2)/\(∃u v,IsPair h TO u v)/\SI b1 h i1 a1 i/\SI b2 h i2 a2 i
theorem Vg {P:Program}{w:World}{K:PySem.W.Frag}{elts:List Expr}{x1:Nat}{pos:Pos}{b1 b2:Bool}{z TI TO i1 i2 a1 a2:Addr}(D:ZA z TI TO i1 i2 a1 a2):
  Me P w K (.Tuple elts x1 pos) (Itz K b1 b2 a1 a2) [z,TI,TO,i1,i2] z (ZSt b1 b2 z TI TO i1 i2 a1 a2) where
 mem:=by simp
 obj:=λi h st b hb=>by
  obtain⟨hz,hTI,⟨u,v,hTO⟩,s1,s2⟩:=st
  rcases List.mem_cons.mp hb with e|hb
  ·rw[e];exact⟨_,hz,λv z=>by cases z⟩
  rcases List.mem_cons.mp hb with e|hb
  ·rw[e];exact⟨_,hTI,λv z=>by cases z⟩
  rcases List.mem_cons.mp hb with e|hb
  ·rw[e];exact⟨_,hTO,λv z=>by cases z⟩
  rcases List.mem_cons.mp hb with e|hb
  ·rw[e];exact s1.obj
  ·rw[List.mem_singleton.mp hb];exact s2.obj
 keep:=λi h h' st k=>by
  obtain⟨hz,hTI,⟨u,v,hTO⟩,s1,s2⟩:=st;exact⟨k z (by simp) _ hz,k TI (by simp) _ hTI,⟨u,v,k TO (by simp) _ hTO⟩,s1.keep λo e=>k i1 (by simp) o e,s2.keep λo e=>k i2 (by simp) o e⟩
 item:=by
  intro X hP hw hK hc i pins s σ H E I hf st hg;subst hP hw hK;obtain⟨xs,ys,x,y,q1,q2,hx,hy⟩:=hg;obtain⟨hz,hTI,⟨u,v,hTO⟩,s1,s2⟩:=st;obtain⟨its1,r1,p1,z1⟩:=I.sq q1;obtain⟨its2,r2,p2,z2⟩:=I.sq q2;obtain⟨u1,hu1,ru1⟩:=r1.get hx;obtain⟨u2,hu2,ru2⟩:=r2.get hy;refine Ww D (Nx.sq (b:=b1) (xs:=its1.toArray) D.a1i1) (Nx.sq (b:=b2) (xs:=its2.toArray) D.a2i2) hz hTI hTO ⟨s1,p1⟩ ⟨s2,p2⟩ (x:=u1) (y:=u2) (by simpa using hu1) (by simpa using hu2) λh' z' t' n1 n2 tp k4=>?_;refine⟨.ref s.heap.objs.size,rfl,wpAny_letOwnedTupleGo_zip z' λh'' z'' sb=>?_⟩;have fresh:=I.hok.fresh (zP s.heap.objs.size);have I1:=I.laid (a:=s.heap.objs.size) (o:=.tup [x,y]) (h':=s.heap.push {cls:=.type "tuple",data:=.seq #[u1,u2]}) (t':=s.toks) (λb o q=>zC _ q) (zP _)
   ⟨sm2,[u1,u2],.cons ru1 (.cons ru2 .nil),Gf _ _⟩
  have lt: ∀b∈[z,TI,TO,i1,i2],b<s.heap.objs.size:=λb hb=>by
   rcases List.mem_cons.mp hb with e|hb
   ·rw[e];exact zS hz
   rcases List.mem_cons.mp hb with e|hb
   ·rw[e];exact zS hTI
   rcases List.mem_cons.mp hb with e|hb
   ·rw[e];exact zS hTO
   rcases List.mem_cons.mp hb with e|hb
   ·rw[e];obtain⟨o,e,_⟩:=s1.obj;exact zS e
   ·rw[List.mem_singleton.mp hb];obtain⟨o,e,_⟩:=s2.obj;exact zS e
  have f': ∀b∈[z,TI,TO,i1,i2],HW X pins (upd H s.heap.objs.size (.tup [x,y])) b:=λb hb=>⟨by rw[zW (xA (lt b hb))];exact(hf b hb).1,(hf b hb).2⟩;have I2:=I1.turnedL (h':=h'') (t':=s.toks) (L:=[z,TI,TO,i1,i2]) (λb o hb q=>?_) f'
  ·refine⟨.ref s.heap.objs.size,_,I2,rfl,⟨s.heap.objs.size,x,y,rfl,fresh,rfl,λxs' ys' e1 e2=>?_⟩,⟨z'',sb.extBut _ _ D.TIz (k4 _ _ D.TIz D.TITO D.TIi1 D.TIi2 hTI),⟨_,_,sb.extBut _ _ D.TOz t'⟩,n1.1.keep λo e=>sb.extBut _ _ D.i1z e,n2.1.keep λo e=>sb.extBut _ _ D.i2z e⟩,λb hb=>(f' b hb).1⟩;rw[I.sq_inj e1 q1,I.sq_inj e2 q2];exact⟨hx,hy⟩
  ·have nz:b≠z:=λe=>hb (by simp[e]);refine sb.extBut _ _ nz ?_
   by_cases e:b=s.heap.objs.size
   ·subst e;rw[tp,<-q];exact(zT _ rfl).symm
   ·rcases DB q with⟨c,_⟩|c
    ·exact absurd c e
    ·exact k4 b o nz (λe=>hb (by simp[e])) (λe=>hb (by simp[e])) (λe=>hb (by simp[e])) c
 done:=by
  intro X hP hw hK hc i pins s σ H E I hf st hg;subst hP hw hK;obtain⟨xs,ys,q1,q2,he⟩:=hg;obtain⟨hz,hTI,⟨u,v,hTO⟩,s1,s2⟩:=st;obtain⟨its1,r1,p1,z1⟩:=I.sq q1;obtain⟨its2,r2,p2,z2⟩:=I.sq q2;have l1:=r1.length;have l2:=r2.length;refine YM (I.ok.hd hc) D (Nx.sq (b:=b1) (xs:=its1.toArray) D.a1i1) (Nx.sq (b:=b2) (xs:=its2.toArray) D.a2i2) hz hTI hTO ⟨s1,p1⟩ ⟨s2,p2⟩ (he.imp (λh=>by simp;lia) (λh=>by simp;lia)) λh' k4=>⟨rfl,I.turnedL (t':=s.toks) (L:=[z,TI,TO,i1,i2]) (λb o hb q=>?_) hf⟩;exact k4 b o (λe=>hb (by simp[e])) (λe=>hb (by simp[e])) (λe=>hb (by simp[e])) (λe=>hb (by simp[e])) q
 self:=λ_ _ _ _ _ st h=>wpAny_pyIter_zip st.1 h
theorem zCy {n a1 a2:Nat}(m1:a1<n)(m2:a2<n):ZA (n+4) (n+2) (n+3) n (n+1) a1 a2:=by
 constructor<;>(show _≠(_:Nat);lia)
abbrev zq1 (h:Heap)(b1:Bool)(a1:Addr):Heap:=h.push (Qp b1 a1)
abbrev zq2 (h:Heap)(b1 b2:Bool)(a1 a2:Addr):Heap:=(zq1 h b1 a1).push (Qp b2 a2)
abbrev zq3 (h:Heap)(b1 b2:Bool)(a1 a2:Addr):Heap:=(zq2 h b1 b2 a1 a2).push {cls:=.type "tuple",data:=.seq #[.ref h.objs.size,.ref (zq1 h b1 a1).objs.size]}
abbrev zq4 (h:Heap)(b1 b2:Bool)(a1 a2:Addr):Heap:=(zq3 h b1 b2 a1 a2).push {cls:=.type "tuple",data:=.seq #[.none,.none]}
abbrev ZO (h:Heap)(b1 b2:Bool)(a1 a2:Addr):Heap:=(zq4 h b1 b2 a1 a2).push {cls:=.type "zip",data:=.fields #[.none,.bool false,.bool false,.ref (zq2 h b1 b2 a1 a2).objs.size,.ref (zq3 h b1 b2 a1 a2).objs.size]}
theorem RE (b1 b2:Bool)(a1 a2:Addr)(xs ys:Array Value):Meets (Builtin.«zip.__new__» ⟨[.type "zip",.ref a1,.ref a2],[]⟩) (λ_ R s=>IF b1 s.heap a1 xs/\IF b2 s.heap a2 ys/\
  R (.ok (.ret (.ref (zq4 s.heap b1 b2 a1 a2).objs.size))) {s with heap:=ZO s.heap b1 b2 a1 a2}):=
 .of_wp λprog w A R s h=>by
  obtain⟨hp,g,d,tk,os⟩:=s;obtain⟨l1,l2,h⟩:=h;have hsub:=sub_zip;have L1:IF b1 (Shared.heap ⟨hp,g,d,tk,os⟩) a1 xs:=l1;have L2:IF b2 (Shared.heap ⟨hp.push (Qp b1 a1),g,d,tk,os⟩) a2 ys:=IF.push l2
  wp_walk using SY L1,SY L2
  exact⟨_,rfl,h⟩
section
variable {prog:Program}{w:World}{A:Around}{E:Value->Shared->Prop}{s:Shared}{b1 b2:Bool}{a1 a2:Addr}{xs ys:Array Value}
theorem UM {Q:Value->Shared->Prop}(l1:IF b1 s.heap a1 xs)(l2:IF b2 s.heap a2 ys)
  (q: ∀h' z TI TO i1 i2,ZA z TI TO i1 i2 a1 a2->ZSt b1 b2 z TI TO i1 i2 a1 a2 0 h'->(∀c∈[z,TI,TO,i1,i2],s.heap.objs.size<=c)->(∀c o,s.heap.get? c=some o->h'.get? c=some o)->Q (.ref z) {s with heap:=h'}):
  wpAny (model prog w) A (call (.type "zip") [.ref a1,.ref a2]) Q E s:=by
 refine callType_new F.called_zip (by decide) (F.typeCall_zip_2 _ _) (F.newCall_zip_2 _ _) (λobj=>F.args_object_init_3 obj _ _) F.entry_zip_new (RE b1 b2 a1 a2 xs ys) ⟨l1,l2,?_⟩;have z1:(zq1 s.heap b1 a1).objs.size =s.heap.objs.size+1:=vA ..;have z2:(zq2 s.heap b1 b2 a1 a2).objs.size =s.heap.objs.size+2:=by rw[vA,z1]
 have z3:(zq3 s.heap b1 b2 a1 a2).objs.size =s.heap.objs.size+3:=by rw[vA,z2]
 have z4:(zq4 s.heap b1 b2 a1 a2).objs.size =s.heap.objs.size+4:=by rw[vA,z3]
 have g5:(ZO s.heap b1 b2 a1 a2).get? (zq4 s.heap b1 b2 a1 a2).objs.size =some _:=zT _ rfl;have g4:(ZO s.heap b1 b2 a1 a2).get? (zq3 s.heap b1 b2 a1 a2).objs.size =some _:=zC _ (zT _ rfl);have g3:(ZO s.heap b1 b2 a1 a2).get? (zq2 s.heap b1 b2 a1 a2).objs.size =some _:=zC _ (zC _ (zT _ rfl));have g2:(ZO s.heap b1 b2 a1 a2).get? (zq1 s.heap b1 a1).objs.size =some _:=zC _ (zC _ (zC _ (zT _ (by cases b2<;>rfl))));have g1:(ZO s.heap b1 b2 a1 a2).get? s.heap.objs.size=some _:=zC _ (zC _ (zC _ (zC _ (zT _ (by cases b1<;>rfl)))));have m1:=l1.lt;have m2:=l2.lt;have up: ∀c o,s.heap.get? c=some o->(ZO s.heap b1 b2 a1 a2).get? c=some o:=λc o x=>zC _ (zC _ (zC _ (zC _ (zC _ x))));rw[z2,z3,z4]at g5;rw[z1,z2]at g3;rw[z3]at g4;rw[z1]at g2;show _/\_;rw[z4];refine⟨⟨_,g5,rfl⟩,q _ (s.heap.objs.size+4) (s.heap.objs.size+2) (s.heap.objs.size+3) s.heap.objs.size (s.heap.objs.size+1) ?_ ⟨g5,g3,⟨_,_,g4⟩,SI.new g1,SI.new g2⟩ (λc hc=>?_) up⟩
 ·exact zCy m1 m2
 ·simp at hc
  rcases hc with e|e|e|e|e<;>(rw[e];lia)
end
theorem zBz:bootBuiltins "zip"=some (.type "zip"):=by decide+kernel
inductive Zy (K:PySem.W.Frag) (b1 b2:Bool) (vs:List V) (H1:Hp) (R:It->Hp->Prop):Prop
 |mk (a1 a2 xs ys:_) (h0:vs=[.ref a1,.ref a2]) (h1:RY b1 K H1 a1 xs) (h2:RY b2 K H1 a2 ys) (h3:R (Itz K b1 b2 a1 a2) H1):Zy K b1 b2 vs H1 R
def zHx (K:PySem.W.Frag)(b1 b2:Bool)(ta:TA):TI:=λσ H R=>ta σ H λvs H1=>Zy K b1 b2 vs H1 R
section
variable {X:Cx}
theorem VU (b1 b2:Bool){elts:List Expr}{x1:Nat}{tpos:Pos}{l m:Expr}{ta:TA}{p pos:Pos}(hg:Gl X "zip")(hm:X.mg "zip"=none)(ha:PA X [l,m] ta)(hs:starEach [l,m] X.env=(false,eval l X.env)::starEach [m] X.env:=by rfl)(hpl:(backTo pos (starEach [m] X.env)).any (·.1)=false:=by rfl):
  PI X (.Tuple elts x1 tpos) (.Call (.Name "zip" p) [l,m] [] pos) (zHx X.K b1 b2 ta):=by
 refine⟨?_⟩;intro pins s σ H R I h;refine Call_ (Fk I hg hm zBz (jC (qV (ha pos pins s σ H _ I h) λus s1 ⟨vs,H1,I1,r1,q1⟩=>?_) hs hpl));obtain⟨a1,a2,xs,ys,e,k1,k2,q⟩:=q1;subst e;obtain⟨u1,u2,rfl,ru1,ru2⟩:=IJ r1;cases ru1;cases ru2;obtain⟨i1,r1,p1,z1⟩:=I1.sq k1;obtain⟨i2,r2,p2,z2⟩:=I1.sq k2;refine UM p1 p2 λh' z TI TO j1 j2 D st lt hk=>?_;refine wpAny_pyIter_zip (s:={s1 with heap:=h'}) st.1 ?_;exact⟨z,[z,TI,TO,j1,j2],_,_,H1,rfl,I1.kept (t':=s1.toks) hk,Vg D,st,λb hb=>I1.fpOk (lt b hb) (I1.hok.fresh (lt b hb)),q⟩
theorem Xn {K:PySem.W.Frag}{b1 b2:Bool}{a1 a2 p:Addr}{xs ys:List V}{g:TG}{tt:TT}{te:TE}{R:Hp->Prop}{σ0:St}{H0:Hp}(Pv:Nat->St->Hp->Prop)(h0:Pv 0 σ0 H0)(hle:xs.length=ys.length)(hl: ∀i σ H,i<=xs.length->Pv i σ H->RY b1 K H a1 xs/\RY b2 K H a2 ys)
  (hs: ∀i x y σ H t,i<xs.length->xs[i]? =some x->ys[i]? =some y->Pv i σ H->H t=none->g (.ref t) σ (upd H t (.tup [x,y])) λσ3 H3=>tt σ3 H3 λb H4=>
   if b=true then te σ3 H4 λv H5=> ∃us,H5 p=some (.lst us)/\us.length<sizeLine/\ ∃m',m'<xs.length-i/\CW xs.length Pv (i+1) m' σ3 (upd H5 p (.lst (us++[v])))
   else ∃m',m'<xs.length-i/\CW xs.length Pv (i+1) m' σ3 H4)
  (hd: ∀σ H,Pv xs.length σ H->R H):JW (Itz K b1 b2 a1 a2) p σ0 H0 g tt te R:=by
 refine⟨CW xs.length Pv,⟨_,xH _,rfl,h0⟩,λi m σ' H' w=>?_⟩;obtain⟨hi,rfl,hp⟩:=w;obtain⟨q1,q2⟩:=hl i σ' H' hi hp
 by_cases hlt:i<xs.length
 ·refine .inr ⟨⟨xs,ys,xs[i],ys[i],q1,q2,zG hlt,zG (by lia)⟩,λv H2 yd=>?_⟩;obtain⟨t,x,y,rfl,ht,rfl,hx⟩:=yd;obtain⟨e1,e2⟩:=hx xs ys q1 q2;exact hs i x y σ' H' t hlt e1 e2 hp ht
 ·have e:i=xs.length:=by lia
  subst e;exact .inl ⟨⟨xs,ys,q1,q2,.inl (zP _)⟩,hd σ' H' hp⟩
end
end L2
namespace L2
open PySem
theorem Xb {K:PySem.W.Frag}{b1 b2:Bool}{a1 a2:Addr}{xs ys:List V}{g:TG}{tb:TS}{D:Gz}{σ:St}{H:Hp}(Pv:Nat->St->Hp->Prop)(h0:Pv 0 σ H)(hle:ys.length<=xs.length)(hl: ∀i σ H,i<=ys.length->Pv i σ H->RY b1 K H a1 xs/\RY b2 K H a2 ys)
  (hs: ∀i x y σ H t,xs[i]? =some x->ys[i]? =some y->Pv i σ H->H t=none->g (.ref t) σ (upd H t (.tup [x,y])) λσ2 H2=>tb {D with nx:=Pv (i+1),ct:=Pv (i+1),bk:=D.nx} σ2 H2) (hd: ∀σ H,Pv ys.length σ H->D.nx σ H):
  ∃W:Nat->Nat->St->Hp->Prop,(∃m,W 0 m σ H)/\ ∀i m σ H,W i m σ H->
   ((Itz K b1 b2 a1 a2).stop i H/\D.nx σ H)\/((Itz K b1 b2 a1 a2).go i H/\ ∃N:St->Hp->Prop,(∀σ' H',N σ' H'-> ∃m',m'<m/\W (i+1) m' σ' H')/\ ∀x H',(Itz K b1 b2 a1 a2).yld i H x H'->g x σ H' λσ2 H2=>tb {D with nx:=N,ct:=N,bk:=D.nx} σ2 H2):=by
 refine⟨λi m σ H=>m=ys.length-i/\i<=ys.length/\Pv i σ H,⟨ys.length,by simp,xH _,h0⟩,?_⟩;rintro i m σ H ⟨rfl,hi,p⟩;obtain⟨q1,q2⟩:=hl i σ H hi p
 by_cases hlt:i<ys.length
 ·refine .inr ⟨⟨xs,ys,xs[i],ys[i],q1,q2,zG (by lia),zG hlt⟩,Pv (i+1),λσ' H' p'=>⟨ys.length-(i+1),by lia,rfl,hlt,p'⟩,λv H' yd=>?_⟩;obtain⟨t,x,y,rfl,ht,rfl,hx⟩:=yd;obtain⟨e1,e2⟩:=hx xs ys q1 q2;exact hs i x y σ H t e1 e2 p ht
 ·have e:i=ys.length:=by lia
  subst e;exact .inl ⟨⟨xs,ys,q1,q2,.inr (zP _)⟩,hd σ H p⟩
end L2
namespace L2
open PySem PySem.Spec PyProof.Rows
def Itw (K:PySem.W.Frag)(a:Addr)(n:Nat):It:=
 ⟨λi H=> ∃xs x,kS K H a xs/\xs.length=n/\xs.reverse[i]? =some x,λi H x H'=>H'=H/\ ∀xs,kS K H a xs->xs.reverse[i]? =some x,λi H=>(∃xs,kS K H a xs/\xs.length=n)/\n<=i⟩
theorem TD {P:Program}{w:World}{K:PySem.W.Frag}{tg:Expr}(a it:Addr)(n:Nat):Me P w K tg (Itw K a n) [it] it (λi h=>i<=n/\Heap.IsRevIter h it a ((n:Int)-1-(i:Int))) where
 mem:=by simp
 obj:=λi h st b hb=>by
  have e:b=it:=by simpa using hb
  subst e;obtain⟨_,o,e,c,d⟩:=st;exact⟨o,e,λv z=>by rw[d]at z;cases z⟩
 keep:=λi h h' st k=>⟨st.1,st.2.at λo e=>k it (by simp) o e⟩
 item:=by
  intro X hP hw hK hc i pins s σ H E I hf st hg;subst hP hw hK;obtain⟨xs,x,hq,hn,hx⟩:=hg;obtain⟨its,rv,p,hz⟩:=I.list hq;have hi:i<xs.length:=by
   have:=(List.getElem?_eq_some_iff.mp hx).1
   simpa using this
  have hx':xs[n-1-i]? =some x:=by
   rw[CJ hi,hn]at hx;exact hx
  obtain⟨u,hu,ru⟩:=rv.get hx';obtain⟨f0,f1,f2,f3,f4,f5⟩:=hf it (by simp);have e1:(n:Int)-1-(i:Int)=((n-1-i:Nat):Int):=by lia
  have hl:=rv.length;have h63:=Fj;refine wpAny_pyNext_rev_item (i:=n-1-i) (by rw[<-e1];exact st.2) (show s.heap.IsList a its.toArray from p.isList) (x:=u) (by simpa using hu) λh' st' sb=>?_;have I1:xK X pins σ H {s with heap:=h'}:=I.turned (t':=s.toks) (λb o hb e=>(sb.2 b hb).trans e) f0 f1 f3 f4 f5;obtain⟨o,e,c,d⟩:=id st';have e2:((n-1-i:Nat):Int)-1=(n:Int)-1-((i+1:Nat):Int):=by lia
  rw[e2]at st';exact⟨u,rfl,Nn (s:={s with heap:=h'}) e c d (by decide) ⟨x,H,I1,ru,⟨rfl,λys hy=>by rw[I.list_inj hy hq];exact hx⟩,⟨by lia,st'⟩,λb hb=>(hf b hb).1⟩⟩
 done:=by
  intro X hP hw hK hc i pins s σ H E I hf st hg;subst hP hw hK;obtain⟨f0,f1,f2,f3,f4,f5⟩:=hf it (by simp);have hi:i=n:=by have:=st.1;have:=hg.2;lia
  have e1:(n:Int)-1-(i:Int)= -1:=by lia
  have st2:=st.2;rw[e1]at st2;exact wpAny_pyNext_rev_end (I.ok.hd hc) st2 λh' eb=>⟨rfl,I.turned (t':=s.toks) (λb o hb e=>eb b o hb e) f0 f1 f3 f4 f5⟩
 self:=λ_ _ _ _ _ st h=>wpAny_pyIter_revIter st.2 h
inductive WP (K:PySem.W.Frag) (vs:List V) (H1:Hp) (R:It->Hp->Prop):Prop
 |mk (a xs:_) (h0:vs=[.ref a]) (h1:kS K H1 a xs) (h2:R (Itw K a xs.length) H1):WP K vs H1 R
def zEe (K:PySem.W.Frag)(ta:TA):TI:=λσ H R=>ta σ H λvs H1=>WP K vs H1 R
theorem Yd {X:Cx}{tg a:Expr}{ta:TA}{p pos:Pos}(hg:Gl X "reversed")(hm:X.mg "reversed"=none)(ha:PA X [a] ta)(hs:starEach [a] X.env=[(false,eval a X.env)]:=by rfl):PI X tg (.Call (.Name "reversed" p) [a] [] pos) (zEe X.K ta):=by
 refine⟨?_⟩;intro pins s σ H R I h;refine Call_ (Fk I hg hm Kj (jC (qV (ha pos pins s σ H _ I h) λus s1 ⟨vs,H1,I1,r1,q1⟩=>?_) hs rfl));obtain⟨b,xs,e,hq,q⟩:=q1;subst e;cases r1 with
 |cons r rr=>
  cases rr;cases r;obtain⟨its,rv,pl,hz⟩:=I1.list hq;have hl:=rv.length;have h63:=Fj;refine call_reversed_list (show s1.heap.IsList b its.toArray from pl.isList) ?_;have I2:xK X pins σ H1 {s1 with heap:=s1.heap.push (revObj b (((its.toArray).size:Int)-1))}:=I1.kept λb o e=>zC _ e;have st:Heap.IsRevIter (s1.heap.push (revObj b (((its.toArray).size:Int)-1))) s1.heap.objs.size b ((xs.length:Int)-1-((0:Nat):Int)):=⟨_,zT _ rfl,rfl,by rw[zU,hl];simp[revObj]⟩;refine wpAny_pyIter_revIter (s:={s1 with heap:=s1.heap.push (revObj b (((its.toArray).size:Int)-1))}) st ?_;refine⟨s1.heap.objs.size,[s1.heap.objs.size],_,_,H1,rfl,I2,TD b _ xs.length,⟨xH _,st⟩,λc hc=>?_,q⟩;have e:c=s1.heap.objs.size:=by simpa using hc
  subst e;exact I1.fpOk (zP _) (I1.hok.fresh (zP _))
theorem Xc {K:PySem.W.Frag}{a:Addr}{xs:List V}{g:TG}{tb:TS}{D:Gz}{σ:St}{H:Hp}(Pv:Nat->St->Hp->Prop)(h0:Pv 0 σ H)(hl: ∀i σ H,i<=xs.length->Pv i σ H->kS K H a xs)
  (hs: ∀i x σ H,xs.reverse[i]? =some x->Pv i σ H->g x σ H λσ2 H2=>tb {D with nx:=Pv (i+1),ct:=Pv (i+1),bk:=D.nx} σ2 H2) (hd: ∀σ H,Pv xs.length σ H->D.nx σ H):
  ∃W:Nat->Nat->St->Hp->Prop,(∃m,W 0 m σ H)/\ ∀i m σ H,W i m σ H->
   ((Itw K a xs.length).stop i H/\D.nx σ H)\/((Itw K a xs.length).go i H/\ ∃N:St->Hp->Prop,(∀σ' H',N σ' H'-> ∃m',m'<m/\W (i+1) m' σ' H')/\ ∀x H',(Itw K a xs.length).yld i H x H'->g x σ H' λσ2 H2=>tb {D with nx:=N,ct:=N,bk:=D.nx} σ2 H2):=by
 refine⟨λi m σ H=>m=xs.length-i/\i<=xs.length/\Pv i σ H,⟨xs.length,by simp,xH _,h0⟩,?_⟩;rintro i m σ H ⟨rfl,hi,p⟩;have q:=hl i σ H hi p
 by_cases hlt:i<xs.length
 ·refine .inr ⟨⟨xs,xs.reverse[i]'(by simpa using hlt),q,rfl,by simp[hlt]⟩,Pv (i+1),λσ' H' p'=>⟨xs.length-(i+1),by lia,rfl,hlt,p'⟩,λx H' y=>?_⟩;obtain⟨e,y⟩:=y;subst e;exact hs i x σ _ (y xs q) p
 ·have e:i=xs.length:=by lia
  subst e;exact .inl ⟨⟨⟨xs,q,rfl⟩,zP _⟩,hd σ H p⟩
theorem LB:typeLookup (.type "list") "keys"=pure none:=am_miss_of_fast (by decide+kernel)
section
variable {prog:Program}{w:World}{A:Around}{E:Value->Shared->Prop}{s:Shared}{a:Addr}
theorem Uu {xs:Array Value}{k:Nat}{sl:Array (Option Value)}{Q:Option Value->Shared->Prop}(hA:A.handled=none)(hx:s.heap.get? a=some {cls:=.type "list",dict:=none,data:=.seq xs k,slots:=sl})
  (h: ∀h' tk e,Heap.NewExcOf s.heap h' e "AttributeError"->Q none {s with heap:=h',toks:=tk}):wpAny (model prog w) A (getAttr? (.ref a) "keys") Q E s:=by
 obtain⟨hp,g,d,tk,os⟩:=s;have hT: ∀tk',(⟨hp,g,d,tk',os⟩:Shared).TypeIs (.ref a) "list":=λ_=>⟨_,hx,rfl⟩;have f1:=sub_AttributeError;have f3:=F.slot_list_getattribute.lookup;have f4:=F.slot_list_getattribute.bind (.ref a);have f5:=am_list_getattr_none;unfold getAttr? getAttrBy? getAttrBy
 repeat (any_goals (first|assumption|exact hT _|((with_reducible show wpAny _ _ (call (Value.builtin "list.__getattribute__") _ _) _ _ _);refine Bz F.slot_list_getattribute (hT _) am_entry_list_getattribute (F.args_list_getattribute_2 _ _) (meets_getattribute_miss_list a xs k sl "keys" _ LB (by decide+kernel) (by decide+kernel)) ⟨hx,hA,λh' tk' e hx'=>?_⟩)|wp_step))
 obtain⟨t',u',he⟩:=hx'.there;show wpAny _ _ (getattributeRaised _ _ _ _ _ _ _) _ _ _;unfold getattributeRaised
 repeat (any_goals (first|assumption|wp_step))
 exact h _ _ _ hx'.of
end
theorem QR {K:Type}[DecidableEq K](vs:List (K×Value))(k:K)(v:Value):(stored vs k v).length<=vs.length+1:=by
 unfold stored;split
 ·rw[zF];exact vV _
 ·rw[zD];exact zP _
structure PNx (prog:Program)(w:World)(d it:Addr)(fp:List Addr)(ps:List (Value×Value))(St:Nat->Heap->Prop):Prop where
 item: ∀{A:Around} {E:Value->Shared->Prop} {i:Nat} {s:Shared} {k v:Value} {Q:Option Value->Shared->Prop},St i s.heap->ps[i]? =some (k,v)->(∀h' t,St (i+1) h'->h'.IsTuple t #[k,v]->(∀c o,c∉fp->s.heap.get? c=some o->h'.get? c=some o)->Q (some (.ref t)) {s with heap:=h'})->
  wpAny (model prog w) A (pyNext (.ref it)) Q E s
 stop: ∀{A:Around} {E:Value->Shared->Prop} {s:Shared} {Q:Option Value->Shared->Prop},A.handled=none->St ps.length s.heap->(∀h',(∀c o,c∉fp->s.heap.get? c=some o->h'.get? c=some o)->Q none {s with heap:=h'})->wpAny (model prog w) A (pyNext (.ref it)) Q E s
 keep: ∀{i:Nat} {h h':Heap},St i h->(∀c o,c≠d->h.get? c=some o->h'.get? c=some o)->(∃o,h'.get? d=some o)->St i h'
 out:d∉fp
theorem BQ:entryFor table "dict.update.loop"=some Builtin.«dict.update.loop»:=entryFor_of_tree (by kernel_rfl)
theorem wQ:plainId "dict.update.loop"=true:=by decide+kernel
section
variable {prog:Program}{w:World}{K:Type}[DecidableEq K]{knd:KeyKind prog w K}{A:Around}{d it:Addr}{fp:List Addr}{St:Nat->Heap->Prop}
theorem UE {ps:List (Value×Value)}(N:PNx prog w d it fp ps St)(hh:A.in1.handled=none){ks:List K}(hl:ks.length=ps.length)(hk: ∀(i:Nat) (k:K) (p:Value×Value),ks[i]? =some k->ps[i]? =some p->knd.is k p.1=true){R:Result->Shared->Prop}:
  ∀(m i:Nat) (s:Shared) (vs:List (K×Value)),ps.length-i=m->i<=ps.length->St i s.heap->s.heap.DictOf knd d vs->vs.length+m<=sizeLine->
  (∀(h':Heap) (t':Nat),h'.DictOf knd d (((ks.zip (ps.map (·.2))).drop i).foldl (λacc x=>stored acc x.1 x.2) vs)->(∀c o,c≠d->c∉fp->s.heap.get? c=some o->h'.get? c=some o)->R (.ok (.ret .none)) {s with heap:=h',toks:=t'})->
  codeAny (model prog w) A (.builtin "dict.update.loop" ⟨[.ref d,.ref it,rawInt i,.none],[]⟩) R s:=by
 intro m
 induction m with
 |zero=>
  intro i s vs hm hi st hd hz hR;have e:i=ps.length:=by lia
  subst e;refine codeAny_builtin BQ ?_;rw[DC wQ _];show wpAny _ A.in1 (pyNext (.ref it)>>=_) _ _ s;refine zA (N.stop hh st λh' hk'=>?_);show wpAny _ A.in1 (Builtin.Dict.addKeywords d []>>=_) _ _ _;refine zA (zL (zL ?_));refine hR h' s.toks ?_ λc o _ c2 e=>hk' c o c2 e;rw[wR (by rw[wM,zF];lia)];obtain⟨o,es,ep,ho,r⟩:=hd;exact⟨o,es,ep,hk' d o N.out ho,r⟩
 |succ m ih=>
  intro i s vs hm hi st hd hz hR;have hi2:i<ps.length:=by lia
  rcases hp:ps[i]with⟨k,v⟩
  have ep:ps[i]? =some (k,v):=by rw[zG hi2,hp]
  have ek:ks[i]? =some ks[i]:=zG (by lia);have hkk:=hk i _ _ ek ep;have ed:(ks.zip (ps.map (·.2))).drop i=(ks[i],v)::(ks.zip (ps.map (·.2))).drop (i+1):=by
   have lz:i<(ks.zip (ps.map (·.2))).length:=by rw[wM,zF];lia
   rw[xO lz];congr 1;rw[List.getElem_zip,List.getElem_map,hp]
  rw[ed,DX]at hR;refine codeAny_builtin BQ ?_;rw[DC wQ _];show wpAny _ A.in1 (pyNext (.ref it)>>=_) _ _ s;refine zA (N.item st ep λh1 t st1 ht hk1=>?_);have hd1:h1.DictOf knd d vs:=by
   obtain⟨o,es,ep,ho,r⟩:=hd;exact⟨o,es,ep,hk1 d o N.out ho,r⟩
  obtain⟨ot,hot,hct,nt,hdt⟩:=ht;have hT:({s with heap:=h1}:Shared).TypeIs (.ref t) "tuple":=⟨_,hot,hct⟩;show wpAny _ A.in1 (holding [.ref t] _>>=_) _ _ _;refine zA (jD (zA (wpAny_tryCatch ?_)));unfold Builtin.Dict.pairItems;refine zA (wpAny_typeOf hT ?_);rw[zQ (by decide)];refine zA (qE hot hdt (zL ?_));show wpAny _ _ (holding [k,v] (dictSet d k v)) _ _ _;refine jD (wpAny_dictSet_pairs (hsz:=by lia) hkk hd1 λh2 hd2 sb=>?_);refine zL ⟨plainId_quiet wQ _,?_⟩;have ln:(stored vs ks[i] v).length<=vs.length+1:=QR _ _ _;refine ih (i+1) _ _ (by lia) hi2 (N.keep st1 (λc o c1 e=>(sb.2 c c1).trans e) (by obtain⟨o,es,ep,ho,r⟩:=hd2;exact⟨o,ho⟩)) hd2 (by lia) λh' t' hd' hk'=>?_;exact hR h' t' hd' λc o c1 c2 e=>hk' c o c1 c2 ((sb.2 c c1).trans (hk1 c o c2 e))
end
theorem KV.fold: ∀{ks:List uT} {vs:List V} {us:List Value} {kvs:List (uT×V)} {ws:List (uT×Value)},jK vs us->KV kvs ws->KV ((ks.zip vs).foldl (λacc x=>EA acc x.1 x.2) kvs) ((ks.zip us).foldl (λacc x=>stored acc x.1 x.2) ws)
 |[],_,_,_,_,_,h=>h
 |k::ks,_,_,_,_,.nil,h=>h
 |k::ks,_,_,_,_,.cons r t,h=>by
  rw[BA,BA,DX,DX];exact KV.fold t (KV.put h k r)
theorem Qt: ∀(xs:List (uT×V)) (acc:List (uT×V)),(xs.foldl (λacc x=>EA acc x.1 x.2) acc).length<=acc.length+xs.length
 |[],acc=>zP _
 |x::r,acc=>by
  rw[DX,zI];have h1:=Qt r (EA acc x.1 x.2);have h2:=BD acc x.1 x.2;lia
section
variable {prog:Program}{w:World}
theorem PNx.list {d it src:Addr}{as:List Addr}{ps:List (Value×Value)}(hl:as.length=ps.length)(nd:d≠it)(ns:src≠it)(nsd:src≠d)(na: ∀a∈as,a≠it/\a≠d):
  PNx prog w d it [it] ps (λi h=>h.IsListIter it src i/\h.IsList src (as.map Value.ref).toArray/\ ∀(j:Nat) (a:Addr) (p:Value×Value),as[j]? =some a->ps[j]? =some p->h.IsTuple a #[p.1,p.2]) where
 item:=fun{A E i s k v Q} st hp q=>by
  obtain⟨h1,h2,h3⟩:=st;have hi:=(List.getElem?_eq_some_iff.mp hp).1;have ea:as[i]? =some as[i]:=zG (by lia);refine BS h1 h2 (x:=.ref as[i]) (by simp[show i<as.length by lia]) λh' i' sb=>?_;have up: ∀{c:Addr} {o:Obj},c≠it->s.heap.get? c=some o->h'.get? c=some o:=λn e=>sb.extBut _ _ n e;have tu: ∀(j:Nat) (a:Addr) (p:Value×Value),as[j]? =some a->ps[j]? =some p->h'.IsTuple a #[p.1,p.2]:=λj a p e1 e2=>by
   obtain⟨o,e,r⟩:=h3 j a p e1 e2;exact⟨o,up (na a (xL e1)).1 e,r⟩
  exact q h' as[i] ⟨i',h2.extBut sb.extBut ns,tu⟩ (tu i _ _ ea hp) λc o n e=>up (λz=>n (by simp[z])) e
 stop:=fun{A E s Q} hh st q=>by
  obtain⟨h1,h2,h3⟩:=st;exact CI hh h1 h2 (by simp[hl]) λh' eb=>q h' λc o n e=>eb c o (λz=>n (by simp[z])) e
 keep:=fun{i h h'} st k _=>by
  obtain⟨⟨o,e,r⟩,⟨o2,e2,r2⟩,h3⟩:=st;refine⟨⟨o,k _ _ (Ne.symm nd) e,r⟩,⟨o2,k _ _ nsd e2,r2⟩,λj a p e1 e2=>?_⟩;obtain⟨o,e,r⟩:=h3 j a p e1 e2;exact⟨o,k _ _ (na a (xL e1)).2 e,r⟩
 out:=by simp[nd]
end
section
variable {prog:Program}{w:World}{A:Around}{E:Value->Shared->Prop}{s:Shared}{src:Addr}{ps:List (Value×Value)}
structure Src (prog:Program)(w:World)(s:Shared)(src:Addr)(fp0:List Addr)(ps:List (Value×Value)):Prop where
 ty: ∃T,s.TypeIs (.ref src) T/\(Value.type T != .type "dict")=true
 keys: ∀{B:Around} {E:Value->Shared->Prop} {s':Shared} {Q:Option Value->Shared->Prop},B.handled=none->(∀c o,s.heap.get? c=some o->s'.heap.get? c=some o)->(∀h' tk,(∀c o,s'.heap.get? c=some o->h'.get? c=some o)->Q none {s' with heap:=h',toks:=tk})->
  wpAny (model prog w) B (getAttr? (.ref src) "keys") Q E s'
 iter: ∀{B:Around} {E:Value->Shared->Prop} {s':Shared} {Q:Value->Shared->Prop},(∀c o,s.heap.get? c=some o->s'.heap.get? c=some o)->(∃o,s'.heap.get? s.heap.objs.size=some o)->(∀h' it fp St,PNx prog w s.heap.objs.size it fp ps St->St 0 h'->(∀c∈fp,c∈fp0\/s.heap.objs.size<c)->(∀c o,s'.heap.get? c=some o->h'.get? c=some o)->Q (.ref it) {s' with heap:=h'})->
  wpAny (model prog w) B (pyIter (.ref src)) Q E s'
theorem ON {fp0:List Addr}(S:Src prog w s src fp0 ps){ks:List uT}(hA:A.handled=none)(hl:ks.length=ps.length)(hk: ∀(i:Nat) (k:uT) (p:Value×Value),ks[i]? =some k->ps[i]? =some p->(wI prog w).is k p.1=true)(hz:ps.length<=sizeLine)
  {Q:Value->Shared->Prop} (q: ∀h' t',h'.DictOf (wI prog w) s.heap.objs.size ((ks.zip (ps.map (·.2))).foldl (λacc x=>stored acc x.1 x.2) [])->(∀c o,c∉fp0->s.heap.get? c=some o->h'.get? c=some o)->Q (.ref s.heap.objs.size) {s with heap:=h',toks:=t'}):
  wpAny (model prog w) A (call (.type "dict") [.ref src]) Q E s:=by
 refine callType_codes (Q₁:=λobj s₁=>obj=.ref s.heap.objs.size/\s₁={s with heap:=s.heap.push {cls:=.type "dict",data:=.dict #[]}}) F.kt_called_dict (F.kt_typeCall_dict_1 _) F.entry_dict_init (kt_code_dict_new _ ⟨rfl,rfl⟩) ?_;rintro obj s₁ ⟨rfl,rfl⟩;have hnew:(s.heap.push {cls:=.type "dict",data:=.dict #[]}).DictOf (wI prog w) s.heap.objs.size []:=Heap.DictOf.new s.heap;refine⟨hnew.typeIs,F.args_dict_init_2 _ _,?_⟩;unfold Builtin.«dict.__init__»;refine zA ?_;unfold Builtin.Dict.selfAndRest;refine zA (wpAny_notOrdered_dict hnew.typeIs ?_);show wpAny _ _ (pure (s.heap.objs.size,[Value.ref src])) _ _ _;refine zL ?_;show wpAny _ _ (Builtin.Dict.updateFrom "dict.__init__" s.heap.objs.size (.ref src) [] .none) _ _ _;unfold Builtin.Dict.updateFrom;obtain⟨T,hT,hnT⟩:=S.ty;obtain⟨oT,hoT,hcT⟩:=hT;have k1: ∀c o,s.heap.get? c=some o->(s.heap.push {cls:=.type "dict",data:=.dict #[]}).get? c=some o:=λc o e=>zC _ e;refine zA (wpAny_typeOf (s:={s with heap:=s.heap.push {cls:=.type "dict",data:=.dict #[]}}) ⟨oT,k1 _ _ hoT,hcT⟩ ?_);rw[zQ hnT];refine zA (S.keys (B:=A.in1.in1) (s':={s with heap:=s.heap.push {cls:=.type "dict",data:=.dict #[]}}) hA k1 λh1 tk1 k2=>?_);rw[zQ (show(none:Option Value).isNone =true from rfl)];refine zA (EG ?_);have g1:h1.get? s.heap.objs.size=some {cls:=.type "dict",data:=.dict #[]}:=k2 _ _ (zT _ rfl);refine zA (S.iter (s':={s with heap:=h1,toks:=tk1}) (λc o e=>k2 c o (k1 c o e)) ⟨_,g1⟩ λh2 it fp St N st fp1 k3=>?_);refine zL ⟨plainId_quiet wQ _,?_⟩;have hd:h2.DictOf (wI prog w) s.heap.objs.size []:=by
  obtain⟨o,es,ep,ho,r⟩:=hnew;exact⟨o,es,ep,k3 _ _ (k2 _ _ ho),r⟩
 refine UE (A:=A.in1) N hA hl hk ps.length 0 _ [] (Nat.sub_zero _) (xH _) st hd (by show 0+_<=_;lia) λh' t' hd' hk'=>⟨rfl,?_⟩;rw[CB]at hd';refine q h' t' hd' λc o n e=>hk' c o (xA (zS e)) (λz=>?_) (k3 _ _ (k2 _ _ (k1 _ _ e)))
 rcases fp1 c z with y|y
 ·exact n y
 ·exact absurd (zS e) (Nat.not_lt_of_gt y)
end
section
variable {prog:Program}{w:World}{s:Shared}
theorem Vv {src:Addr}{as:List Addr}{n:Nat}{sl:Array (Option Value)}{ps:List (Value×Value)}(hs:s.heap.get? src=some {cls:=.type "list",dict:=none,data:=.seq (as.map Value.ref).toArray n,slots:=sl})(hl:as.length=ps.length)(ht: ∀(j:Nat) (a:Addr) (p:Value×Value),as[j]? =some a->ps[j]? =some p->s.heap.IsTuple a #[p.1,p.2]):Src prog w s src [] ps where
 ty:=⟨"list",⟨_,hs,rfl⟩,by decide⟩
 keys:=λhA k q=>Uu hA (k _ _ hs) λh' tk e x=>q h' tk x.keeps
 iter:=fun{B E s' Q} k ⟨ob,gb⟩ q=>by
  have lt:=zS gb;have hl':s'.heap.IsList src (as.map Value.ref).toArray:=⟨_,k _ _ hs,rfl,_,rfl⟩;refine vS hl' ?_;have ls:=zS hs;have la: ∀a∈as,a<s.heap.objs.size:=λa ha=>by
   obtain⟨j,hj⟩:=List.getElem?_of_mem ha;have hjl:=(List.getElem?_eq_some_iff.mp hj).1;obtain⟨o,e,_⟩:=ht j a _ hj (zG (by lia));exact zS e
  refine q _ s'.heap.objs.size [s'.heap.objs.size] _ (PNx.list (src:=src) (as:=as) hl (xA lt) (xA (Em ls lt)) (xA ls) λa ha=>⟨xA (Em (la a ha) lt),xA (la a ha)⟩) ⟨⟨_,zT _ rfl,rfl,rfl⟩,hl'.push _,λj a p e1 e2=>?_⟩ (λc hc=>.inr (by rw[List.mem_singleton.mp hc];exact lt)) λc o e=>zC _ e;obtain⟨o,e,r⟩:=ht j a p e1 e2;exact⟨o,zC _ (k _ _ e),r⟩
end
def Hf (kvs:List (uT×V)):List (uT×V):=kvs.foldl (λacc x=>EA acc x.1 x.2) []
theorem TB (kvs:List (uT×V)):(kvs.map (·.1)).zip (kvs.map (·.2))=kvs:=by
 induction kvs with
 |nil=>rfl
 |cons x r ih=>rw[xG,xG,BA,ih]
section
variable {X:Cx}
theorem UF {pins:List (Addr×Obj)}{σ:St}{H:Hp}{s0:Shared}{kvs:List (uT×V)}{us:List Value}{Q:VK}{h':Heap}{t':Nat}{d:Addr}(I:xK X pins σ H s0)(ru:jK (kvs.map (·.2)) us)(hz:kvs.length<=sizeLine)(hd:s0.heap.objs.size<=d)
  (dd:h'.DictOf (wI X.prog X.w) d (((kvs.map (·.1)).zip us).foldl (λacc x=>stored acc x.1 x.2) [])) (k: ∀c o,s0.heap.get? c=some o->h'.get? c=some o) (q: ∀p,H p=none->Q (.ref p) (upd H p (.dK (Hf kvs)))):EP X pins σ Q (.ref d) {s0 with heap:=h',toks:=t'}:=by
 have rel:KV (Hf kvs) (((kvs.map (·.1)).zip us).foldl (λacc x=>stored acc x.1 x.2) []):=by
  have:=KV.fold (ks:=kvs.map (·.1)) (kvs:=[]) (ws:=[]) ru .nil;rw[TB]at this;exact this
 have hl:(Hf kvs).length<=sizeLine:=by
  have:=Qt kvs [];show(kvs.foldl _ []).length<=_;have e:([]:List (uT×V)).length =0:=rfl;lia
 have ns:(d==sysModules)=false:=by
  have h1:sysModules<d:=yJ I.big hd;have h2:d≠sysModules:=vU h1
  simpa using h2
 exact⟨.ref d,_,I.laid (o:=.dK (Hf kvs)) k hd (Xi hl ns rel dd),rfl,q d (I.hok.fresh hd)⟩
theorem RW (hc:X.calm=true):FU X (.type "dict") (λxs H Q=> ∃(l:Addr) (as:List Addr) (kvs:List (uT×V)),xs=[.ref l]/\H l=some (.lst (as.map V.ref))/\Paired (λa kv=>H a=some (.tup [kV kv.1,kv.2])) as kvs/\ ∀p,H p=none->Q (.ref p) (upd H p (.dK (Hf kvs)))):=by
 intro pins s σ H xs us Q I r h;obtain⟨l,as,kvs,rfl,hl,ha,q⟩:=h;obtain⟨u,rfl,ru⟩:=JY r;cases ru;obtain⟨zl,its,n,rv,hli,he⟩:=I.lstM hl;have e0:=JL rv;subst e0;have key: ∀{as:List Addr} {kvs:List (uT×V)},Paired (λa kv=>H a=some (.tup [kV kv.1,kv.2])) as kvs-> ∃ps:List (Value×Value),as.length=ps.length/\kvs.length=ps.length/\jK (kvs.map (·.2)) (ps.map (·.2))/\(∀(j:Nat) (a:Addr) (p:Value×Value),as[j]? =some a->ps[j]? =some p->s.heap.IsTuple a #[p.1,p.2])/\
   ∀(i:Nat) (k:uT) (p:Value×Value),(kvs.map (·.1))[i]? =some k->ps[i]? =some p->(wI X.prog X.w).is k p.1=true:=fun{as kvs} h=>by
  induction h with
  |nil=>exact⟨[],rfl,rfl,.nil,λj a p h=>by simp at h,λi k p h=>by simp at h⟩
  |@cons a kv as kvs h t ih=>
   obtain⟨ps,e1,e2,rs,g1,g2⟩:=ih;obtain⟨zz,its,rt,pt⟩:=(show qR X.prog X.w H s.heap a (.tup [kV kv.1,kv.2])from I.hok a _ h);obtain⟨u1,u2,rfl,r1,r2⟩:=IJ rt;refine⟨(u1,u2)::ps,by rw[zI,zI,e1],by rw[zI,zI,e2],.cons r2 rs,λj b p h1 h2=>?_,λi k p h1 h2=>?_⟩
   ·cases j with
    |zero=>
     have e1:a=b:=by simpa using h1
     have e2:(u1,u2)=p:=by simpa using h2
     subst e1 e2;exact pt
    |succ j=>exact g1 j b p (by simpa using h1) (by simpa using h2)
   ·cases i with
    |zero=>
     have e1:kv.1=k:=by simpa using h1
     have e2:(u1,u2)=p:=by simpa using h2
     subst e1 e2;exact Nf r1
    |succ i=>exact g2 i k p (by simpa using h1) (by simpa using h2)
 obtain⟨ps,e1,e2,rs,g1,g2⟩:=key ha;have hlk:=Paired.len ha;rw[zF]at zl;refine ON (ks:=kvs.map (·.1)) (Vv he e1 g1) (I.ok.hd hc) (by rw[zF,e2]) g2 (by lia) λh' t' dd k=>?_;exact UF I rs (by lia) (zP _) dd (λc o e=>k c o (λz=>nomatch z) e) q
theorem YS:bootBuiltins "dict"=some (.type "dict"):=by decide+kernel
end
theorem qR.here {P:Program}{w:World}{H:Hp}{h:Heap}{a:Addr}{o:HO}(x:qR P w H h a o): ∃u,h.get? a=some u:=by
 cases o with
 |lst xs=>obtain⟨_,_,_,_,e⟩:=x;exact⟨_,e⟩
 |tup xs=>obtain⟨_,_,_,o,e,_⟩:=x;exact⟨_,e⟩
 |dK kvs=>obtain⟨_,_,_,_,o,_,_,e,_⟩:=x;exact⟨_,e⟩
 |dT kvs=>obtain⟨_,_,_,_,o,_,_,e,_⟩:=x;exact⟨_,e⟩
 |set S n=>obtain⟨o,_,_,_,e,_⟩:=x;exact⟨_,e⟩
 |ins C dx fs=>obtain⟨_,_,_,e,_⟩:=x;exact⟨_,e⟩
 |own y=>exact x
 |xd fs=>obtain⟨_,⟨_,_,_,e,_⟩,_⟩:=x;exact⟨_,e⟩
 |rng lo hi=>obtain⟨_,_,_,e⟩:=x;exact⟨_,e⟩
 |frz ob u=>obtain⟨e,_⟩:=x;exact⟨_,e⟩
 |tbl ps=>exact⟨_,x⟩
 |met f y=>exact⟨_,x⟩
 |ext φ=>exact x.2.1
section
variable {X:Cx}{pins:List (Addr×Obj)}{σ:St}{H:Hp}{s:Shared}{h':Heap}
theorem xK.laidAt {a:Addr}{o:HO}{t':Nat}(I:xK X pins σ H s)(k: ∀b u,s.heap.get? b=some u->h'.get? b=some u)(hp:s.heap.get? a=none)(new:qR X.prog X.w (upd H a o) h' a o):
  H a=none/\xK X pins σ (upd H a o) {s with heap:=h',toks:=t'}:=by
 have hn:H a=none:=by
  cases q:H a with
  |none=>rfl
  |some u=>obtain⟨v,e⟩:=qR.here (I.hok a u q);rw[hp]at e;cases e
 refine⟨hn,I.un ⟨λb u e _ _ _=>k b u e,λb u e _ _ _=>⟨u.slots,k b u e⟩,λb u e n _=>?_,λb u e _=>⟨u,k b u e⟩,λb xs e=>?_,λb u xs e=>?_,λb ps e=>?_⟩ λb u e=>?_⟩
 ·rw[zW (λz=>by rw[z,hp]at e;cases e)];exact n
 ·rw[zW (zZ e hn)];exact e
 ·rw[zW (zZ e hn)];exact e
 ·exact⟨#[],by rw[zW (zZ e hn),e];simp⟩
 ·by_cases z:b=a
  ·subst z;rw[zH]at e;cases e;exact new
  ·rw[zW z]at e;refine(I.hok b u e).stay (λc v _ q=>k c v q) (λc q=>?_) λc xs q=>?_
   ·rw[zW (zZ q hn)];exact q
   ·rw[zW (zZ q hn)];exact q
end
structure Sh (K:PySem.W.Frag)(C:Addr):Prop where
 cls: ∃nm q N bs bm hdct sn sub ab col dd k0 k1 k2 k3 k5,K.lookup C=some (excClassObj nm q C N bs bm hdct sn sub ab col dd k0 k1 k2 k3 k5 "ValueError.__new__")/\bm.contains (.type "BaseException")=true/\(∀h,K.In h->OwnTail h Do bm)/\ ∀h,K.In h-> ∃mN,h.Ns N mN/\mN "__init__"=none
def XJ (C:Addr)(E:XK):TS:=λ_ _ H=> ∀x,H x=none->E (.ref C) none (upd H x (HM x C none))
section
variable {X:Cx}{E:XK}{C:Addr}{x:Str}{np cpos pos:Pos}
theorem MM (M:Sh X.K C)(hg:Gl (X.exc E) x)(hm:X.mg x=some (.ref C))(hc:X.calm=true:=by rfl)(hdb:(x==("__debug__":Str))=false:=by decide):
  PS (X.exc E) (.Raise (some (.Call (.Name x np) [] [] cpos)) none pos) (XJ C E):=by
 refine⟨?_⟩;intro pins s σ H D I h;obtain⟨nm,q,N,bs,bm,hdct,sn,sub,ab,col,dd,k0,k1,k2,k3,k5,hC,hb,T,hN⟩:=M.cls;obtain⟨mN,nsN,ni⟩:=hN _ I.kIn;show wpAny (model X.prog X.w) X.A (exec _ X.env) _ (Sf X E) s;refine wpAny_Raise_call_subT F.excBase_ValueError hb (I.ok.hd hc) rfl ni (C:=C) (nm:=nm) (q:=q) (N:=N) (bs:=bs) (hdct:=hdct) (sn:=sn) (sub:=sub) (ab:=ab) (col:=col) (dd:=dd) (k0:=k0) (k1:=k1) (k2:=k2) (k3:=k3) (k5:=k5) (Ej (X:=X.exc E) I hg hm ⟨rfl,?_⟩ hdb);refine PySem.evalArgs_none ⟨rfl,xH _,I.kIn _ _ hC,nsN,T _ I.kIn,λh' e me=>?_⟩;obtain⟨t,he,_,_⟩:=me.there;obtain⟨hn,I2⟩:=I.unwish.laidAt (t':=s.toks) (a:=e) (o:=HM e C none) me.keeps me.new (HM.ok he rfl rfl rfl (show 6<=6 by decide));exact⟨e,C,none,pins,σ,_,rfl,I2,zH,⟨_,_,he,rfl,.inl rfl⟩,h e hn⟩
end
def zDa (K:PySem.W.Frag)(N i:Nat)(CE:Addr)(tb:(St->XK)->TS)(th:TS):TS:=λD σ H=>
 tb (λσ1 cls dx H1=> ∃C,cls=.ref C/\Mch K C CE/\ ∀(x:Addr),H1 x=some (HM x C dx)->th (behind D i) (σ1.set i (some (.ref x))) H1) D σ H
section
variable {X:Cx}
theorem Ya {body suite:List Stmt}{b0:Stmt}{x n:Str}{i:Nat}{CE:Addr}{tb:(St->XK)->TS}{th:TS}{np hpos pos:Pos}(hN:X.N.Nodup)(hi:X.N[i]? =some n)(hl:X.env.scope.names.lookup n=some .local)(hg:Gl X x)(hm:X.mg x=some (.ref CE))
  (hb: ∀pn E',Mh ((X.pinned pn).excS E') body (tb E')) (hh: ∀v,Mh (X.mark v) (b0::suite) th)
  (hst:X.stack=X.env::X.outer:=by rfl) (hfr:X.env.frame=some X.env.locals:=by rfl) (hdb:(x==("__debug__":Str))=false:=by decide):
  PS X (.Try body [.ExceptHandler (some (.Name x np)) (some n) (b0::suite) hpos] [] [] pos) (zDa X.K X.N.length i CE tb th):=by
 refine⟨?_⟩;intro pins s σ H D I h;refine wpAny_Try_except ?_;refine qX (hb (X.pn++pins) _ [] s σ H D (I.topin.wish _) h) (λf s1 h1=>?_) λe s1 h1=>?_
 ·cases f with
  |next=>obtain⟨σ1,H1,I1,q⟩:=h1;exact uY ⟨σ1,H1,I1.unwish.unpin,q⟩
  |brk=>obtain⟨σ1,H1,I1,q⟩:=h1;exact⟨σ1,H1,I1.unwish.unpin,q⟩
  |cont=>obtain⟨σ1,H1,I1,q⟩:=h1;exact⟨σ1,H1,I1.unwish.unpin,q⟩
  |ret u=>obtain⟨v,σ1,H1,I1,r,q⟩:=h1;exact⟨v,σ1,H1,I1.unwish.unpin,r,q⟩
 ·obtain⟨y,C0,d0,pins1,σ1,H1,rfl,I1,hy,tb1,C,ec,mc,q⟩:=h1;cases ec;refine Jh (X:=X.pinned (X.pn++pins)) I1 hst hfr I1.ok.frames hy tb1 λs2 I2 t2=>HK (to:=none) I2 hy t2 λs3 I3 t3=>?_;obtain⟨oe,vs,ge,hcl,hdi,hda,hz⟩:=HM.get I3.hok hy;have J3:xK X pins σ1 H1 s3:=I3.unpin;refine wpAny_handleBy_cons (codeAny_handlers_test ?_) (by intro z;cases z);refine Ej (X:=X.mark (.ref y)) (J3.mark _) hg hm ?_ hdb;refine Kh J3.kIn mc ge hcl ?_;refine codeAny_handlers_suite_as ?_;refine HK (X:=(X.pinned (X.pn++pins))) (to:=none) I3 hy t3 λs4 I4 t4=>?_;have J4:xK X pins σ1 H1 s4:=I4.unpin;refine IL (X:=X.mark (.ref y)) (J4.mark _) hN hi (.inl hl) (v:=.ref y) rfl (λs5 I5=>?_) (.inr hl);refine qX (hh (.ref y) pins s5 _ H1 (behind D i) I5 (q y hy)) (λf s6 h6=>?_) λ_ _ z=>z.elim;have go: ∀{σ6:St} {H6:Hp} {P:Flow->Shared->Prop},xK (X.mark (.ref y)) pins σ6 H6 s6->(∀s7,xK X pins (σ6.set i none) H6 s7->P f s7)->wpAny (model X.prog X.w) X.A (do bindName X.env n .none;unbindBehindTheSuite X.env n hpos) (λ_ s7=>P f s7) X.xe s6:=
   fun{σ6 H6 P} I6 k=>MX (xK.unmark I.ok.hd I6) hN hi hl k
  cases f with
  |next=>obtain⟨σ6,H6,I6,q6⟩:=h6;exact go (P:=SP X pins D) I6 λs7 I7=>⟨_,H6,I7,q6⟩
  |brk=>obtain⟨σ6,H6,I6,q6⟩:=h6;exact go (P:=SP X pins D) I6 λs7 I7=>⟨_,H6,I7,q6⟩
  |cont=>obtain⟨σ6,H6,I6,q6⟩:=h6;exact go (P:=SP X pins D) I6 λs7 I7=>⟨_,H6,I7,q6⟩
  |ret u=>obtain⟨v,σ6,H6,I6,r,q6⟩:=h6;exact go (P:=SP X pins D) I6 λs7 I7=>⟨v,_,H6,I7,r,q6⟩
end
section
open PySem.W
def Tz (K:Frag)(H:Hp)(x C:Addr):Prop:= ∃dx,H x=some (HM x C dx)/\(∀d,dx=some d-> ∃fs,H d=some (Mg d fs))/\EF K C/\Tw K C
theorem Tz.inst {X:Cx}{pins:List (Addr×Obj)}{σ:St}{H:Hp}{s:Shared}{x C:Addr}(I:xK X pins σ H s)(h:Tz X.K H x C): ∃ox od,InstAt s.heap x ox C od/\EF X.K C/\Tw X.K C:=by
 obtain⟨dx,hx,hd,Ec,Ic⟩:=h;obtain⟨ox,vs,ge,hcl,hdi,hda,_⟩:=HM.get I.hok hx;cases dx with
 |none=>exact⟨ox,none,⟨ge,hcl,by unfold notCls;rw[hda],by rw[hdi];trivial⟩,Ec,Ic⟩
 |some d=>
  obtain⟨fs,hf⟩:=hd d rfl;obtain⟨mA,n,_,_⟩:=Mg.get I.hok hf;obtain⟨od,hod,hl⟩:=HH n;exact⟨ox,some od,⟨ge,hcl,by unfold notCls;rw[hda],by rw[hdi];exact hod⟩,Ec,Ic⟩
def zHp (K:Frag):List V->Hp->VK->Prop:=λxs H Q=> ∃x C b,Tz K H x C/\
 ((∃n,xs=[.ref x,.ty n]/\kitOne K (.ref C) (.type n)=some b)\/(∃D,xs=[.ref x,.ref D]/\kitOne K (.ref C) (.ref D)=some b)\/ ∃(tp:Addr) (Ds:List Addr),xs=[.ref x,.ref tp]/\H tp=some (.tup (Ds.map V.ref))/\kitAny K (.ref C) (Ds.map Value.ref)=some b)/\Q (.bl b) H
theorem OV: ∀{ns:List Addr} {us:List Value},jK (ns.map V.ref) us->us=ns.map Value.ref
 |[],_,.nil=>rfl
 |n::ns,_,.cons h t=>by
  rw[OV t,xG];congr 1
theorem FQ {X:Cx}:FU X (.builtin "isinstance") (zHp X.K):=by
 intro pins s σ H xs us Q I r h;obtain⟨x,C,b,hx,hxs,q⟩:=h;obtain⟨ox,od,J,Ec,Ic⟩:=hx.inst I
 rcases hxs with⟨n,rfl,e⟩|⟨D,rfl,e⟩|⟨tp,Ds,rfl,ht,e⟩
 ·obtain⟨u,w',rfl,ru,rw'⟩:=IJ r;cases ru;cases rw';exact kia_one (LH Ec Ic.ha Ic.hn Ic.htk) I.kIn J e (λz=>nomatch z) λtk=>⟨.bl b,H,I.tok tk,rfl,q⟩
 ·obtain⟨u,w',rfl,ru,rw'⟩:=IJ r;cases ru;cases rw';exact kia_one (LH Ec Ic.ha Ic.hn Ic.htk) I.kIn J e (λz=>nomatch z) λtk=>⟨.bl b,H,I.tok tk,rfl,q⟩
 ·obtain⟨u,w',rfl,ru,rw'⟩:=IJ r;cases ru;cases rw';obtain⟨_,its2,r2,p⟩:=(show qR X.prog X.w H s.heap tp (.tup (Ds.map V.ref))from I.hok tp _ ht);obtain⟨⟨oc,od',oda,osl⟩,h1,h2,n2,h3⟩:=p;dsimp only at h2 h3;subst h2 h3;have hv:=OV r2;subst hv;exact kia_tup (LH Ec Ic.ha Ic.hn Ic.htk) I.kIn J h1 e (λz=>nomatch z) λtk=>⟨.bl b,H,I.tok tk,rfl,q⟩
end
end L2
namespace L2
open PySem
def BP:List String:=["int","bool","str","NoneType","list","tuple","dict"]
structure Zb (K:PySem.W.Frag):Prop where
 ki: ∀t∈BP,PySem.W.kitOne K (.type t) (.type "int")=some (t=="int" || t=="bool")
 kb: ∀t∈BP,PySem.W.kitOne K (.type t) (.type "bool")=some (t=="bool")
 kl: ∀t∈BP,PySem.W.kitOne K (.type t) (.type "list")=some (t=="list")
 ks: ∀t∈BP,PySem.W.kitAny K (.type t) (["list","tuple"].map Value.type)=some (t=="list" || t=="tuple")
def Kn (K:PySem.W.Frag)(H:Hp)(v:V):Prop:= ∃t∈BP,CZ K H v (.type t)
def HQ:V->Bool
 | .int _=>true
 |_=>false
theorem CZ.same {K:PySem.W.Frag}{H H':Hp}{v:V}{t:Value}(h:CZ K H v t)(g:yU H H'):CZ K H' v t:=by
 cases h with
 |non=>exact .non
 |bl x=>exact .bl x
 |int i=>exact .int i
 |str x=>exact .str x
 |flt x=>exact .flt x
 |lst e=>exact .lst (g _ _ e)
 |frz e=>exact .frz (g _ _ e)
 |tup e=>exact .tup (g _ _ e)
 |dK e=>exact .dK (g _ _ e)
 |dT e=>exact .dT (g _ _ e)
 |ins e a b c d m=>exact .ins (g _ _ e) a b c d m
theorem Kn.same {K:PySem.W.Frag}{H H':Hp}{v:V}(h:Kn K H v)(g:yU H H'):Kn K H' v:=by
 obtain⟨t,m,ty⟩:=h;exact⟨t,m,ty.same g⟩
theorem CZ.wh {K:PySem.W.Frag}{H:Hp}{v:V}{t:String}(h:CZ K H v (.type t)):HQ v=(t=="int"):=by
 cases h<;>rfl
theorem Kn.int {K:PySem.W.Frag}{H:Hp}(i:Int):Kn K H (.int i):=⟨"int",by decide,.int i⟩
inductive Ba (K:PySem.W.Frag) (H:Hp):V->Option (List V)->Prop where
 |no {v:V} {t:String} (m:t∈BP) (n:t≠"list") (ty:CZ K H v (.type t)):Ba K H v none
 |yes {a:Addr} {xs:List V} (e:H a=some (.lst xs)) (k: ∀x∈xs,Kn K H x) (l:xs.length<=1000000):Ba K H (.ref a) (some xs)
theorem Ba.same {K:PySem.W.Frag}{H H':Hp}{v:V}{o:Option (List V)}(h:Ba K H v o)(g:yU H H'):Ba K H' v o:=by
 cases h with
 |no m n ty=>exact .no m n (ty.same g)
 |yes e k l=>exact .yes (g _ _ e) (λx m=>(k x m).same g) l
theorem Ba.ints {K:PySem.W.Frag}{H:Hp}{a:Addr}{ns:List Int}(e:H a=some (.lst (ns.map V.int)))(l:ns.length<=1000000):Ba K H (.ref a) (some (ns.map V.int)):=.yes e (λx m=>by
 obtain⟨n,_,rfl⟩:=List.mem_map.mp m;exact Kn.int n) (by rw[zF];exact l)
def Ib (o:Option (List V)):Prop:= ∃ns:List Int,o=some (ns.map V.int)/\DQ ns
theorem Xu: ∀{xs:List V},xs.all HQ=true-> ∃ns:List Int,xs=ns.map V.int
 |[],_=>⟨[],rfl⟩
 |x::r,h=>by
  rw[Fw,qK]at h;obtain⟨ns,e⟩:=Xu h.2;cases x with
  |int i=>exact⟨i::ns,by rw[e]<;>rfl⟩
  |_=>cases h.1
theorem YF (ns:List Int):(ns.map V.int).all HQ=true:=by
 rw[De];intro x m;obtain⟨n,_,rfl⟩:=List.mem_map.mp m;rfl
theorem Qq: ∀{ns ms:List Int},ns.map V.int=ms.map V.int->ns=ms
 |[],[],_=>rfl
 |[],_::_,e=>by cases e
 |_::_,[],e=>by cases e
 |a::r,b::t,e=>by
  rw[xG,xG]at e;injection e with e1 e2
  injection e1 with e1
  rw[e1,Qq e2]
theorem codeV_ints {ns:List Int}:Ib (some (ns.map V.int)) ↔ DQ ns:=by
 constructor
 ·rintro⟨ms,e,h⟩;injection e with e
  have:ns=ms:=Qq e;rw[this];exact h
 ·exact λh=>⟨ns,rfl,h⟩
def NE:Option (List V)->Bool
 |none=>false
 |some xs=>xs.all HQ
inductive IM (K:PySem.W.Frag) (vs:List V) (H:Hp) (Q:VK) (E:XK):Prop
 |mk (v:_) (h0:vs=[v]) (h1:Kn K H v) (h2:Q (.bl (HQ v)) H):IM K vs H Q E
inductive Hy (K:PySem.W.Frag) (vs:List V) (H:Hp) (Q:VK) (E:XK):Prop
 |mk (v o:_) (h0:vs=[v]) (h1:Ba K H v o) (h2: ∀H',yU H H'->Q (.bl (NE o)) H'):Hy K vs H Q E
inductive JB (K:PySem.W.Frag) (vs:List V) (H:Hp) (Q:VK) (E:XK):Prop
 |mk (v o:_) (h0:vs=[v]) (h1:Ba K H v o) (h2:(∀ns:List Int,o≠some (ns.map V.int))) (h3: ∀H',yU H H'->Q (.bl false) H'):JB K vs H Q E
inductive FB (K:PySem.W.Frag) (vs:List V) (H:Hp) (Q:VK) (E:XK):Prop
 |mk (v o:_) (h0:vs=[v]) (h1:Ba K H v o) (h2: ∀r H',yU H H'->(r=true ↔ Ib o)->Q (.bl r) H'):FB K vs H Q E
inductive Il (K:PySem.W.Frag) (CC:Addr) (vs:List V) (H:Hp) (Q:VK) (E:XK):Prop
 |mk (v o:_) (h0:vs=[v]) (h1:Ba K H v o) (h2:(∀ns:List Int,o=some (ns.map V.int)->DQ ns-> ∀l H',yU H H'->H l=none->wA H' l (GB 3 (headNums ns))->Q (.ref l) H')) (h3:(¬Ib o-> ∀H',yU H H'->E (.ref CC) none H')):Il K CC vs H Q E
inductive Hz (K:PySem.W.Frag) (CC:Addr) (vs:List V) (H:Hp) (Q:VK) (E:XK):Prop
 |mk (v o:_) (h0:vs=[v]) (h1:Ba K H v o) (h2:(∀ns:List Int,o=some (ns.map V.int)->DQ ns-> ∀l H',yU H H'->H l=none->wA H' l (GB 2 (rowNums ns))->Q (.ref l) H')) (h3:(¬Ib o-> ∀H',yU H H'->E (.ref CC) none H')):Hz K CC vs H Q E
def UR (σ:St)(te:TE)(v:V):Prop:= ∀H1 (Q:VK),Q v H1->te σ H1 Q
def AJ (σ:St)(ta:TA)(vs:List V):Prop:= ∀H1 (Q:List V->Hp->Prop),Q vs H1->ta σ H1 Q
def Stb (P:Hp->V->Prop):Prop:= ∀H H' v,yU H H'->P H v->P H' v
def HS (P:Hp->V->Prop)(σ:St)(H:Hp)(te:TE):Prop:= ∀H1,yU H H1-> ∀Q:VK,(∀v H',yU H1 H'->P H' v->Q v H')->te σ H1 Q
def wH (P:Hp->V->Prop)(σ:St)(H:Hp)(ta:TA)(m:Nat):Prop:= ∀H1,yU H H1-> ∀Q:List V->Hp->Prop,(∀vs H',yU H1 H'->(∀v∈vs,P H' v)->vs.length=m->Q vs H')->ta σ H1 Q
section
variable {σ:St}{H:Hp}{P:Hp->V->Prop}
theorem UR.c {v:V}:UR σ (tC v) v:=λH1 Q q=>q
theorem UR.v {i:Nat}{v:V}(e:σ[i]? =some (some v)):UR σ (Vl i) v:=λH1 Q q=>⟨_,e,q⟩
theorem UR.neg {te:TE}{n:Int}(h:UR σ te (.int n)):UR σ (tUn (rU λi=>.int (-i)) te) (.int (-n)):=λH1 Q q=>h H1 _ ⟨n,rfl,q⟩
theorem UR.add {a b:TE}{n m:Int}(h:UR σ a (.int n))(g:UR σ b (.int m)):UR σ (Zh (SC λi j=>.int (i+j)) a b) (.int (n+m)):=λH1 Q q=>h H1 _ (g H1 _ ⟨n,m,rfl,rfl,q⟩)
theorem AJ.nil:AJ σ NG []:=λH1 Q q=>q
theorem AJ.cons {te:TE}{ta:TA}{v:V}{vs:List V}(h:UR σ te v)(g:AJ σ ta vs):AJ σ (MI te ta) (v::vs):=λH1 Q q=>h H1 _ (g H1 _ q)
theorem HS.pure {te:TE}{v:V}(h:UR σ te v)(p: ∀H',yU H H'->P H' v):HS P σ H te:=λH1 s1 Q q=>h H1 Q (q v H1 (λ_ _ e=>e) (p H1 s1))
theorem HS.tup {ta:TA}{vs:List V}(h:AJ σ ta vs)(l:vs.length<=1000)(p: ∀t H',yU H H'->H' t=some (.tup vs)->P H' (.ref t)):HS P σ H (zCz ta):=λH1 s1 Q q=>h H1 _ ⟨small l,λt ht=>q _ _ (zM ht _) (p t _ (s1.trans (zM ht _)) zH)⟩
theorem HS.lst {ta:TA}{vs:List V}(h:AJ σ ta vs)(l:vs.length<=1000)(p: ∀t H',yU H H'->H' t=some (.lst vs)->P H' (.ref t)):HS P σ H (TL ta):=λH1 s1 Q q=>h H1 _ ⟨small l,λt ht=>q _ _ (zM ht _) (p t _ (s1.trans (zM ht _)) zH)⟩
theorem wH.nil:wH P σ H NG 0:=λH1 s1 Q q=>q [] H1 (λ_ _ e=>e) (λg m=>(nomatch m)) rfl
theorem wH.cons (st:Stb P){te:TE}{ta:TA}{m:Nat}(h:HS P σ H te)(hr:wH P σ H ta m):wH P σ H (MI te ta) (m+1):=λH1 s1 Q q=>
 h H1 s1 _ λv H2 s2 p=>hr H2 (s1.trans s2) _ λvs H3 s3 pg l=>q _ H3 (s2.trans s3) (λg m=>by
  rcases List.mem_cons.mp m with z|z
  ·rw[z];exact st _ _ _ s3 p
  ·exact pg g z) (by rw[zI,l])
def UU (P:Hp->V->Prop)(H:Hp)(l:Addr)(m:Nat):Prop:= ∃vs,H l=some (.lst vs)/\(∀v∈vs,P H v)/\vs.length=m
theorem UU.go (st:Stb P){ta:TA}{m:Nat}(h:wH P σ H ta m)(m1:m<=1000){Q:VK}(q: ∀p H',yU H H'->H p=none->UU P H' p m->Q (.ref p) H'):TL ta σ H Q:=by
 refine h H (λ_ _ e=>e) _ λvs H1 s1 pg l=>⟨small (show vs.length<=1000 by rw[l];exact m1),λp hp=>?_⟩;have s2:=zM hp (.lst vs);exact q p _ (s1.trans s2) (s1.free hp) ⟨vs,zH,λv hv=>st _ _ _ s2 (pg v hv),l⟩
theorem UU.goC (st:Stb P){ta:TA}{i m n:Nat}{l:Addr}(e:σ[i]? =some (some (.ref l)))(L:UU P H l n)(h:wH P σ H ta m)(m1:n+m<=1000){Q:VK}(q: ∀p H',yU H H'->H p=none->UU P H' p (n+m)->Q (.ref p) H'):Zh zAl (Vl i) (TL ta) σ H Q:=by
 obtain⟨us,eu,pu,lu⟩:=L;refine⟨_,e,UU.go (P:=P) st h (by lia) λp H1 s1 f1 L1=>?_⟩;obtain⟨vs,ev,pg,lv⟩:=L1;refine⟨l,p,us,vs,rfl,rfl,s1 _ _ eu,ev,small (by lia),λr hr=>?_⟩;have s2:=zM hr (.lst (us++vs));refine q r _ (s1.trans s2) (s1.free hr) ⟨us++vs,zH,λv hv=>?_,by rw[zD,lu,lv]⟩
 rcases List.mem_append.mp hv with z|z
 ·exact st _ _ _ (s1.trans s2) (pu v z)
 ·exact st _ _ _ s2 (pg v z)
end
end L2
namespace L2
open PySem PySem.Spec
section
variable {X:Cx}
theorem Xm {x:V}: ∀{xs:List V} {us:List Value},jK xs us->xs.all AZ=true->us.countP (RQ x)=xs.countP λy=>Jp y x
 |_,_,.nil,_=>rfl
 |y::xs,u::us,.cons r t,f=>by
  rw[Fw,qK]at f;rw[List.countP_cons,List.countP_cons,Xm t f.2,LW r f.1]
inductive VF (K:PySem.W.Frag) (x:V) (vs:List V) (H:Hp) (Q:VK):Prop
 |mk (l xs y:_) (h0:x=.ref l) (h1:vs=[y]) (h2:kS K H l xs) (h3:AZ y=true) (h4:xs.all AZ=true) (h5:Q (.int (xs.countP λz=>Jp z y:Nat)) H):VF K x vs H Q
theorem Us:MtR X "list.count" (VF X.K):=by
 intro pins s σ H x vs v us Q I rx rv h;obtain⟨l,xs,y,rfl,rfl,hl,fy,fx,q⟩:=h;cases rx;obtain⟨u,rfl,ru⟩:=rv.one;obtain⟨its,r,pl,hsz⟩:=I.list hl;obtain⟨⟨cls,dd,data,sl⟩,n,ho,hc,hd,hdat⟩:=pl;simp only at hc hd hdat;subst hc hd hdat;refine Bz F.slot_list_count ⟨_,ho,rfl⟩ F.entry_list_count (F.args_list_count_2 _ _)
  (SeqAt.list_countAt l its.toArray n _ sl u (RQ y)) ⟨ho,λw hw=>Hm ru fy r fx w (by simpa using hw),?_⟩
 refine⟨.int _,H,I.tok _,⟨_,rfl⟩,?_⟩;have e:its.toArray.toList.countP (RQ y)=xs.countP λz=>Jp z y:=Xm r fx;rw[e];exact q
end
theorem Tn:bootBuiltins "repr"=some (.builtin "repr"):=by decide+kernel
section
variable {X:Cx}
def uQ:V->PyData
 | .bl b=>.bool b
 | .int i=>.int i
 | .str x=>.str x
 |_=>.none
def zBv (H:Hp):V->PyData
 | .ref a=>match H a with
  |some (.tup xs)=>.tuple (xs.map uQ)
  |some (.lst xs)=>.list (xs.map uQ)
  |_=>.none
 |v=>uQ v
inductive HU:V->Prop where
 |non:HU .non
 |bl (b:Bool):HU (.bl b)
 |int (i:Int) (h:i.natAbs<10^12):HU (.int i)
 |s0:HU (.str "0")
 |s1:HU (.str "1")
inductive Rp (H:Hp):V->Prop where
 |non:Rp H .non
 |int (i:Int) (h:i.natAbs<10^12):Rp H (.int i)
 |tup {a:Addr} {xs:List V} (h:H a=some (.tup xs)) (s: ∀x∈xs,HU x) (l:xs.length<=10):Rp H (.ref a)
 |lst {a:Addr} {xs:List V} (h:H a=some (.lst xs)) (s: ∀x∈xs,HU x) (l:xs.length<=10):Rp H (.ref a)
theorem Nb {i:Int}(h:i.natAbs<10^12):i.natAbs.log2<1920:=by
 by_cases z:i.natAbs=0
 ·rw[z];decide
 ·exact(Nat.log2_lt z).mpr (Em h (by decide))
theorem Vy {h:Heap}{x:V}{u:Value}(s:HU x)(r:kI x u):Reads h u (uQ x) []/\(uQ x).showable =true/\(uQ x).leavesShort 13=true/\(uQ x).hasDict =false/\(uQ x).depth =0/\(uQ x).weight<=100:=by
 cases s with
 |non=>cases r;exact⟨.none,rfl,by decide,rfl,rfl,by decide⟩
 |bl b=>cases r;exact⟨.bool _,rfl,by cases b<;>decide,rfl,rfl,by cases b<;>decide⟩
 |int i hi=>obtain⟨t,rfl⟩:=r;exact⟨.int _ _,xI (Nb hi),xI (PyData.shown_int_le hi),rfl,rfl,by
   show(if(i==0)=true then 0 else i.natAbs.log2+1)<=100;split
   ·decide
   ·rename_i z;have z:i.natAbs≠0:=λe=>z (beq_iff_eq.mpr (by lia));have:=(Nat.log2_lt z (k:=40)).mpr (Em hi (by decide));lia⟩
 |s0=>obtain⟨t,rfl⟩:=r;exact⟨.str _ _,rfl,by decide,rfl,rfl,by decide⟩
 |s1=>obtain⟨t,rfl⟩:=r;exact⟨.str _ _,rfl,by decide,rfl,rfl,by decide⟩
theorem QX {h:Heap}: ∀{xs:List V} {us:List Value},(∀x∈xs,HU x)->jK xs us->ReadsAll h us (xs.map uQ) []/\PyData.showableAll (xs.map uQ)=true/\PyData.leavesShortAll 13 (xs.map uQ)=true/\PyData.hasDictAll (xs.map uQ)=false/\PyData.depthAll (xs.map uQ)=0/\PyData.weightAll (xs.map uQ)<=101*xs.length
 |[],_,_,.nil=>⟨.nil,rfl,rfl,rfl,rfl,zP _⟩
 |x::xs,u::us,s,.cons r rs=>by
  obtain⟨a1,a2,a3,a4,a5,a6⟩:=Vy (h:=h) (s x (yT ..)) r;obtain⟨b1,b2,b3,b4,b5,b6⟩:=QX (h:=h) (λy hy=>s y (yW _ hy)) rs;refine⟨.cons (as:=[]) (bs:=[]) a1 b1,?_,?_,?_,?_,?_⟩
  ·show((uQ x).showable&&PyData.showableAll (xs.map uQ))=true;rw[a2,b2]<;>rfl
  ·show((uQ x).leavesShort 13&&PyData.leavesShortAll 13 (xs.map uQ))=true;rw[a3,b3]<;>rfl
  ·show((uQ x).hasDict || PyData.hasDictAll (xs.map uQ))=false;rw[a4,b4]<;>rfl
  ·show max (uQ x).depth (PyData.depthAll (xs.map uQ))=0;rw[a5,b5]<;>rfl
  ·show(uQ x).weight +1+PyData.weightAll (xs.map uQ)<=101*(xs.length+1);lia
inductive Zp (xs:List V) (H:Hp) (Q:VK):Prop
 |mk (v:V) (h0:xs=[v]) (h1:Rp H v) (h2:Q (.str (zBv H v).shown) H):Zp xs H Q
theorem Nu {k:Nat}(hr:vY k X.A):FU X (.builtin "repr") Zp:=by
 intro pins s σ H xs us Q I r h;obtain⟨v,rfl,rp,q⟩:=h;obtain⟨u,rfl,ru⟩:=JY r;have hu:=hr.un;cases rp with
 |non=>cases ru;exact P.repr_of_none ⟨.str _,H,I.tok _,⟨_,rfl⟩,q⟩
 |int i hi=>obtain⟨t,rfl⟩:=ru;exact P.repr_of_int (Nb hi) ⟨.str _,H,I.tok _,⟨_,rfl⟩,q⟩
 |@tup a xs e sh l=>
  cases ru;obtain⟨its,rv,⟨o,e1,e2,n,e3⟩,_⟩:=I.tuple (.of e);obtain⟨b1,b2,b3,b4,b5,b6⟩:=QX (h:=s.heap) sh rv;have ed:zBv H (.ref a)=.tuple (xs.map uQ):=by show(match H a with|some (.tup xs)=>PyData.tuple (xs.map uQ)|some (.lst xs)=>PyData.list (xs.map uQ)|_=>PyData.none)=_;rw[e]
  rw[ed]at q;have dp:(PyData.tuple (xs.map uQ)).depth =1:=by show PyData.depthAll (xs.map uQ)+1=1;rw[b5]
  refine repr_of_reads' (h₀:=s.heap) (.tuple e1 e2 e3 b1) b2 (λz=>?_) hr.gd (by rw[dp];lia) (λ_ _ z=>z) (λh' u tk hk=>⟨.str _,H,I.kept hk,⟨_,rfl⟩,q⟩) ?_
  ·have z:PyData.hasDictAll (xs.map uQ)=true:=z;rw[b4]at z;cases z
  ·exact PyData.shown_fits (B:=13) (by decide) (by decide) b3 (show PyData.weightAll (xs.map uQ)<=_ from yO b6 (by lia))
 |@lst a xs e sh l=>
  cases ru;obtain⟨_,its,n,rv,_,e1⟩:=I.lstM e;obtain⟨b1,b2,b3,b4,b5,b6⟩:=QX (h:=s.heap) sh rv;have ed:zBv H (.ref a)=.list (xs.map uQ):=by show(match H a with|some (.tup xs)=>PyData.tuple (xs.map uQ)|some (.lst xs)=>PyData.list (xs.map uQ)|_=>PyData.none)=_;rw[e]
  rw[ed]at q;have dp:(PyData.list (xs.map uQ)).depth =1:=by show PyData.depthAll (xs.map uQ)+1=1;rw[b5]
  refine repr_of_reads' (h₀:=s.heap) (.list e1 rfl rfl b1) b2 (λz=>?_) hr.gd (by rw[dp];lia) (λ_ _ z=>z) (λh' u tk hk=>⟨.str _,H,I.kept hk,⟨_,rfl⟩,q⟩) ?_
  ·have z:PyData.hasDictAll (xs.map uQ)=true:=z;rw[b4]at z;cases z
  ·exact PyData.shown_fits (B:=13) (by decide) (by decide) b3 (show PyData.weightAll (xs.map uQ)<=_ from yO b6 (by lia))
end
end L2
namespace L2
open PySem PySem.Spec PyProof.Rows
section
variable {X:Cx}
inductive SB (x:V) (vs:List V) (H:Hp) (Q:VK):Prop
 |mk (l xs i y:_) (h0:x=.ref l) (h1:vs=[.int i,y]) (h2:H l=some (.lst xs)) (h3:0<=i) (h4:i<=(xs.length:Int)) (h5:xs.length<1000) (h6:Q .non (upd H l (.lst (xs.take i.toNat++y::xs.drop i.toNat)))):SB x vs H Q
theorem Uq:MtM X "list.insert" SB:=by
 intro pins s σ H x vs v us Q I rx rv h;obtain⟨l,xs,i,y,rfl,rfl,hH,i0,i1,hz,q⟩:=h;cases rx;obtain⟨u1,u2,rfl,ru1,ru2⟩:=rv.two;obtain⟨t,rfl⟩:=ru1;obtain⟨z,its,n,r,hl,e⟩:=I.lstM hH;have sl:(1000:Nat)<=sizeLine:=by decide
 have li:i.toNat<=its.length:=by lia
 refine Bz F.slot_list_insert ⟨_,e,rfl⟩ F.entry_list_insert (F.args_list_insert_3 _ _ _) (AutoSeq1.list_insert_list_int_val_1 l its.toArray n i t u2 (by rw[fitsIndex_both (by lia) (by lia)];decide) (by rw[zU];lia)) ⟨e,?_⟩;refine⟨.non,_,I.lset (its':=its.take i.toNat++u2::its.drop i.toNat) hH e ?_ ((r.take _).append (.cons ru2 (r.drop _))) ?_,rfl,q⟩
 ·show(its.toArray.extract 0 (if i<0 then(i+(its.toArray.size:Int)).toNat else min i.toNat its.toArray.size)).push u2++its.toArray.extract (if i<0 then(i+(its.toArray.size:Int)).toNat else min i.toNat its.toArray.size)=_;rw[zN (by lia),zU,uZ li];apply Array.toList_inj.mp
  simp
  exact xJ (by rw[kE];exact zP _)
 ·rw[zD,zI,yL,kE];lia
end
section
variable {X:Cx}{pos p:Pos}{x:Str}{e a b:Expr}{es:List Expr}{te ta tb:TE}{t:TA}
theorem uA (i:Nat){pos':Pos}(hN:X.N.Nodup)(he:PE X e te)(hi:X.N[i]? =some x:=by rfl)(hx:Loc X.env.scope x:=by exact .inl rfl)(hs:swapsWith e (some (.Name x pos')) pos.line X.env=pure false:=by rfl)(hf:X.fn x=true\/X.env.scope.names.lookup x=some .local:=by first|exact .inl rfl|exact .inr rfl|assumption):
  PS X (.Assign [.Name x pos'] e pos) (ZY te (BE i)):=Ol hN hi hx he hs hf
theorem Ar (i:Nat)(hN:X.N.Nodup)(hi:X.N[i]? =some x:=by rfl)(hx:Loc X.env.scope x:=by exact .inl rfl)(hf:X.fn x=true\/X.env.scope.names.lookup x=some .local:=by first|exact .inl rfl|exact .inr rfl|assumption):PG X (.Name x pos) (BE i):=vB hN hi hx hf
theorem cN {P:Program}{w:World}{k n:Nat}{ps:List Str}{sp:Sp}(C:QK X.prog X.w X.K X.mg X.base (Fx P w) k x ps sp)(hr:vY n X.A)(ha:PA X (e::es) t)(hg:Gl X x:=by rfl)(hk:k<=n:=by first|decide|lia)(hdb:(x==("__debug__":Str))=false:=by decide)
  (he:starEach (e::es) X.env=(false,eval e X.env)::starEach es X.env:=by rfl) (hpl:(backTo pos (starEach es X.env)).any (·.1)=false:=by rfl):PE X (.Call (.Name x p) (e::es) [] pos) (Vq sp [] E0 t):=jB C hr hg ha Zu hk hdb he hpl
theorem vH {op:CmpOp}{r:R2}(ho:IE X (compareOp op) r)(ha:PE X a ta)(hb:PE X b tb)(hm:behindInMarks op b=false:=by exact IC _):PT X (.Compare a [op] [b] pos) (Zg (Zh r ta tb)):=SG ho ha hb hm
theorem Am {r:R2}(hr:IxR X r)(ha:PE X a ta)(hb:PE X b tb)(hs:Tv b:=by exact λ_ _=>rfl):PE X (.Subscript a b pos) (Zh r ta tb):=zDt hr ha hb hs
theorem kG (h:PE X e te)(s:starEach [e] X.env=(false,eval e X.env)::starEach [] X.env:=by rfl):PA X [e] (MI te NG):=zB h yC s
theorem kO (h:PE X a ta)(g:PE X b tb)(s:starEach [a,b] X.env=(false,eval a X.env)::starEach [b] X.env:=by rfl)(s':starEach [b] X.env=(false,eval b X.env)::starEach [] X.env:=by rfl):PA X [a,b] (MI ta (MI tb NG)):=zB h (zB g yC s') s
theorem Av {N P:List Str}{sc:Scope}(a:sc.kind=.function:=by rfl)(b:sc.isCoroutine=false:=by rfl)(c:sc.isGenerator=false:=by rfl)(d:N.Nodup:=by decide+kernel)(e:N.take P.length=P:=by rfl)(f: ∀x∈P,sc.names.lookup x=some .local\/sc.names.lookup x=some .cell:=by decide+kernel)(g: ∀y∈sc.names,y.2≠ .free:=by decide+kernel):yK N P sc:=⟨a,b,c,d,e,f,g⟩
end
section
variable {CX:JX}{P:Program}{w:World}{K:PySem.W.Frag}{mg:Str->Option Value}{base:Heap}{N:List Str}{qual:Str}{scope:Scope}{f:Addr}{cd:Value}{A:Around}{outer:List Env}{s:Shared}{H:Hp}{E E':XK}
theorem Ah:(LY CX P w K mg base N qual scope f cd A outer s H E).nox.K =K:=rfl
theorem Ai:((LY CX P w K mg base N qual scope f cd A outer s H E).exc E').K =K:=rfl
end
abbrev kA (P:Program)(w:World)(K:PySem.W.Frag)(mg:Str->Option Value)(base:Heap):=QK P w K mg base (Fx P w)
abbrev uE (P:Program)(w:World)(K:PySem.W.Frag)(mg:Str->Option Value)(base:Heap):=Bb P w K mg base (Fx P w)
section
variable {P:Program}{w:World}{K:PySem.W.Frag}{mg:Str->Option Value}{base:Heap}
theorem wE.oN {CX:JX}{x qual:Str}{st:Stmt}{f:Addr}{fd:FuncData}{N ps:List Str}{k:Nat}{sp:Sp}(F:wE K x qual st f fd)(S:yK N ps (zR st))
  (hbody: ∀(cdv:Value) (A:Around) (outer:List Env) (s:Shared) (H:Hp) (vs:List V) (Q:VK) (E:XK),vY k (A.deeper (envOfC qual (zR st) s.heap.objs.size f cdv))->sp vs H Q E->
   ∃t,Mh (LY CX P w K mg base N qual (zR st) f cdv A outer s H E).nox (uP st) t/\t {nx:=λ_ H'=>Q .non H',rt:=Q} (GG N vs) H) (len: ∀vs H Q E,sp vs H Q E->vs.length=ps.length:=by intro _ _ _ _ h;cases h;subst_vars;rfl):Bb P w K mg base CX (k+1) f fd ps sp:=F.okN S len hbody
theorem wE.oX {x qual:Str}{st:Stmt}{f:Addr}{fd:FuncData}{N ps:List Str}{k:Nat}{sp:Sp}(F:wE K x qual st f fd)(S:yK N ps (zR st))
  (hbody: ∀(cdv:Value) (A:Around) (outer:List Env) (s:Shared) (H:Hp) (vs:List V) (Q:VK) (E:XK),vY k (A.deeper (envOfC qual (zR st) s.heap.objs.size f cdv))->sp vs H Q E->
   ∃t,Mh ((LY (Fx P w) P w K mg base N qual (zR st) f cdv A outer s H E).exc E) (uP st) t/\t {nx:=λ_ H'=>Q .non H',rt:=Q} (GG N vs) H) (len: ∀vs H Q E,sp vs H Q E->vs.length=ps.length:=by intro _ _ _ _ h;cases h;subst_vars;rfl):Bb P w K mg base (Fx P w) (k+1) f fd ps sp:=F.okX S len hbody
end
end L2
namespace L2
open PySem PySem.W PySem.W.X
theorem walkX_of {q:Program}{loose:List Str}{XP:(Str->Option Value)->Heap->Prop}{as:List Addr}{K:Params->Frag}{n t:Nat}{r:RowW}{d:DefRec}{kwd:List (Str×Expr)}{run:Value->List Value->Sem Value}(e: ∀P,as=(K P).map (·.1))
  (h:WalkO q loose XP (λw h=>(K w.params).In h) r d kwd run):WalkX q loose XP (obsZ as) (valZ K n t) r d kwd run:=by
 intro w s₀ s₁ mg mb G y a o pm cd doc dV kV h1 h2 h3 h4 h5 h6 args vals as' L h7 h8 h9 h10 h11;have Y:(K w.params).In s₁.heap:=InK.keeps (K:=K) w s₀.heap s₁.heap (z_facts e y).2.1 L.keeps;exact h w s₀ s₁ mg mb G Y a o pm cd doc dV kV h1 h2 h3 h4 h5 h6 args vals as' h7 h8 h9 h10 h11
end L2
namespace OcL
open PySem L2
def top (i:Nat):Stmt:=PySem.Challenge.pw_ownchain_k36_what_is_no_paper.main.body.getD i (.Pass ⟨0,0,0,0⟩)
abbrev Bs:Stmt:=HI (top 2) 0
theorem HN:yK ["self","place","word"] ["self","place","word"] (zR Bs):=Av
abbrev Iu:Stmt:=top 27
theorem Pc:yK ["kind"] ["kind"] (zR Iu):=Av
abbrev Gn:Stmt:=top 36
theorem Kb:yK ["thing"] ["thing"] (zR Gn):=Av
abbrev DJ:Stmt:=HI (top 37) 0
theorem JF:yK ["self","numbers"] ["self","numbers"] (zR DJ):=Av
abbrev He:Stmt:=HI (top 37) 1
theorem IS:yK ["self","number"] ["self"] (zR He):=Av
abbrev Bt:Stmt:=HI (top 37) 2
theorem AO:yK ["self","least","most","place","number"] ["self","least","most"] (zR Bt):=Av
abbrev Gj:Stmt:=top 38
theorem Ac:yK ["look","heads","most_params","function","params"] ["look"] (zR Gj):=Av
abbrev Ir:Stmt:=top 39
theorem Pb:yK ["look","kind","heads","boxes"] ["look","kind","heads","boxes"] (zR Ir):=Av
abbrev GY:Stmt:=top 40
theorem Oa:yK ["kind","numbers","heads"] ["kind","numbers","heads"] (zR GY):=Av
abbrev ET:Stmt:=top 41
theorem Az:yK ["look","heads","boxes","deep","place","kind","numbers","parts","part"] ["look","heads","boxes","deep"] (zR ET):=Av
abbrev Hb:Stmt:=top 42
theorem AB:yK ["sheet","look","heads","told","params","boxes"] ["sheet"] (zR Hb):=Av
abbrev Od:Stmt:=top 43
theorem Pa:yK ["numbers","e"] ["numbers"] (zR Od):=Av
abbrev Iv:Stmt:=top 44
theorem Dq:yK ["body","told","waiting","node","part"] ["body"] (zR Iv):=Av
abbrev Oe:Stmt:=top 45
theorem GS:yK ["sheet","told","params","boxes","body"] ["sheet"] (zR Oe):=Av
abbrev JJ:Stmt:=top 61
theorem Et:yK ["head","function","many_rows","start","params","boxes","most_params"] ["head","function","many_rows"] (zR JJ):=Av
abbrev Ew:Stmt:=top 62
theorem Kp:yK ["op"] ["op"] (zR Ew):=Av
abbrev Lf:Stmt:=top 63
theorem JE:yK ["row","many_functions","many_rows","op","number"] ["row","many_functions","many_rows"] (zR Lf):=Av
abbrev HC:Stmt:=top 64
theorem Rb:yK ["numbers","size"] ["numbers","size"] (zR HC):=Av
abbrev Iz:Stmt:=top 65
theorem Pe:yK ["numbers"] ["numbers"] (zR Iz):=Av
abbrev JH:Stmt:=top 66
theorem QZ:yK ["numbers"] ["numbers"] (zR JH):=Av
abbrev uC:Stmt:=top 67
theorem GW:yK ["thing"] ["thing"] (zR uC):=Av
abbrev CP:Stmt:=top 68
theorem vX:yK ["thing","many_numbers","many_rows","function","head"] ["thing"] (zR CP):=Av
abbrev Iy:Stmt:=top 69
theorem Pd:yK ["code"] ["code"] (zR Iy):=Av
abbrev JG:Stmt:=top 70
theorem QY:yK ["code"] ["code"] (zR JG):=Av
abbrev Le:Stmt:=top 71
theorem JD:yK ["things","size","numbers","thing"] ["things","size"] (zR Le):=Av
abbrev JK:Stmt:=top 72
theorem Ip:yK ["heads","rows","numbers","code"] ["heads","rows"] (zR JK):=Av
abbrev XR:Stmt:=top 78
abbrev BM:Stmt:=HI (top 80) 0
theorem Iq:yK ["self"] ["self"] (zR BM):=Av
abbrev Gm:Stmt:=top 81
theorem Ka:yK ["making","parts","part"] ["making","parts"] (zR Gm):=Av
abbrev EU:Stmt:=top 82
theorem uN:yK ["making","parts","many","first_jump","last_jump","jump","number","part"] ["making","parts"] (zR EU):=Av
abbrev EW:Stmt:=top 83
theorem Gh:yK ["making","parts","around","unless"] ["making","parts"] (zR EW):=Av
abbrev JI:Stmt:=top 84
theorem Ra:yK ["kind","numbers"] ["kind","numbers"] (zR JI):=Av
abbrev EV:Stmt:=top 85
theorem uO:yK ["making","node","kind","place","numbers","parts","begin","part"] ["making","node"] (zR EV):=Av
abbrev GZ:Stmt:=top 86
theorem BJ:yK ["program","making","params","boxes","body"] ["program"] (zR GZ):=Av
abbrev Og:Stmt:=top 87
theorem KA:yK ["sheet","making"] ["sheet"] (zR Og):=Av
abbrev Eh:Stmt:=top 88
theorem HY:yK ["sheet"] ["sheet"] (zR Eh):=Av
abbrev Ld:Stmt:=top 90
theorem MK:yK ["value","parts","last"] ["value","parts"] (zR Ld):=Av
abbrev Of:Stmt:=top 93
theorem Lc:yK ["rows","at","jump"] ["rows","at"] (zR Of):=Av
abbrev IT:Stmt:=top 94
theorem Dt:yK ["node","kind","place","numbers","parts","values","fault","value"] ["node"] (zR IT):=Av
abbrev AD:Stmt:=HI (top 95) 0
theorem Ak:yK ["self","rows","paper","place","begin","end"] ["self","rows","paper"] (zR AD):=Av
abbrev IA:Stmt:=top 96
theorem Pf:yK ["check","node"] ["check","node"] (zR IA):=Av
abbrev Lh:Stmt:=top 97
theorem TU:yK ["check","node"] ["check","node"] (zR Lh):=Av
abbrev GX:Stmt:=top 98
theorem NZ:yK ["check","at"] ["check","at"] (zR GX):=Av
abbrev Rc:Stmt:=top 99
theorem SA:yK ["check","first","second","lead"] ["check","first","second"] (zR Rc):=Av
abbrev Li:Stmt:=top 100
theorem ML:yK ["check","at","row","lead"] ["check","at","row"] (zR Li):=Av
abbrev EX:Stmt:=top 101
theorem Ob:yK ["check","parts"] ["check","parts"] (zR EX):=Av
abbrev Ey:Stmt:=top 102
theorem Kq:yK ["check","node","part"] ["check","node","part"] (zR Ey):=Av
abbrev Go:Stmt:=top 103
theorem Mj:yK ["check","node","part"] ["check","node","part"] (zR Go):=Av
abbrev Ha:Stmt:=top 104
theorem IR:yK ["check","node","value"] ["check","node"] (zR Ha):=Av
abbrev Ex:Stmt:=top 105
theorem Bg:yK ["check","node","parts","part","following"] ["check","node"] (zR Ex):=Av
abbrev DE:Stmt:=top 106
theorem wV:yK ["check","node","first","others","entry","number","part"] ["check","node"] (zR DE):=Av
abbrev BL:Stmt:=top 107
theorem Br:yK ["check","node","value","part"] ["check","node"] (zR BL):=Av
abbrev CO:Stmt:=top 108
theorem EQ:yK ["check","at","lead"] ["check","at"] (zR CO):=Av
abbrev DF:Stmt:=top 109
theorem AA:yK ["check","node","first","second","out"] ["check","node"] (zR DF):=Av
abbrev Gk:Stmt:=top 110
theorem Dj:yK ["check","node","at","part"] ["check","node"] (zR Gk):=Av
abbrev Ag:Stmt:=top 111
theorem kX:yK ["check","node","kind","place","numbers","parts","after"] ["check","node"] (zR Ag):=Av
abbrev Iw:Stmt:=top 112
theorem Dr:yK ["check","node","kind","place","numbers","parts"] ["check","node"] (zR Iw):=Av
abbrev AQ:Stmt:=top 113
theorem GU:yK ["check","start","body"] ["check","start","body"] (zR AQ):=Av
abbrev HB:Stmt:=top 114
theorem Gi:yK ["line","places","many_rows","place","begin","end"] ["line","places","many_rows"] (zR HB):=Av
abbrev Ix:Stmt:=top 115
theorem GV:yK ["paper","places","many_rows","there","line"] ["paper","places","many_rows"] (zR Ix):=Av
abbrev vN:Stmt:=top 116
theorem Eu:yK ["program","heads","asked"] ["program","heads"] (zR vN):=Av
abbrev FC:Stmt:=top 117
theorem Bq:yK ["sheet","code","paper","program","heads","rows","told","check","node"] ["sheet","code","paper"] (zR FC):=Av
abbrev Lg:Stmt:=top 118
theorem TR:yK ["sheet","code","breaths"] ["sheet","code","breaths"] (zR Lg):=Av
abbrev Hd:Stmt:=top 120
theorem Oc:yK ["_law_script","_law_k"] ["_law_script","_law_k"] (zR Hd):=Av
abbrev Hc:Stmt:=top 121
theorem vM:yK ["_law_state","_law_most","_law_script","_law_at","_law_left","_law_cell_here","_law_number"] ["_law_state","_law_most"] (zR Hc):=Av
abbrev Gp:Stmt:=top 122
theorem AX:yK ["_law_state","_law_one","_law_other","_law_bodies"] ["_law_state"] (zR Gp):=Av
abbrev DI:Stmt:=top 123
theorem jP:yK ["_law_state","_law_paper","_law_many","_law_k","_law_place","_law_begin","_law_end","_law_bad","_law_line"] ["_law_state","_law_paper","_law_many"] (zR DI):=Av
abbrev Gq:Stmt:=top 124
theorem HZ:yK ["_law_e","_law_some"] ["_law_e"] (zR Gq):=Av
abbrev Ez:Stmt:=top 125
theorem Bh:yK ["_law_way","_law_sheet_here","_law_code","_law_paper","_law_caught","_law_e"] ["_law_way","_law_sheet_here","_law_code","_law_paper"] (zR Ez):=Av
abbrev Ff:Stmt:=top 126
theorem Ev:yK ["_law_state","_law_paper","_law_found","_law_line"] ["_law_state","_law_paper"] (zR Ff):=Av
abbrev DH:Stmt:=top 127
theorem AC:yK ["_law_state","_law_sheet_here","_law_at","_law_some","_law_found"] ["_law_state","_law_sheet_here"] (zR DH):=Av
abbrev Vz:Stmt:=top 128
theorem BK:yK ["_law_script","_law_state","_law_turn","_law_sheet_here","_law_code","_law_paper","_law_many","_law_breaths","_law_k","_law_bad","_law_due_word","_law_no_code","_law_worse","_law_way"] ["_law_script"] (zR Vz):=Av
structure Km (K:PySem.W.Frag)(mg:Str->Option Value):Prop where
 n_len:mg "len"=none
 n_range:mg "range"=none
 n_all:mg "all"=none
 n_max:mg "max"=none
 n_enumerate:mg "enumerate"=none
 n_isinstance:mg "isinstance"=none
 n_int:mg "int"=none
 n_bool:mg "bool"=none
 n_tuple:mg "tuple"=none
 n_list:mg "list"=none
 m_ADD:qB mg "ADD" 8
 m_NEW:qB mg "NEW" 19
 m_MOST_FUNCTIONS:qB mg "MOST_FUNCTIONS" 16
 m_MOST_PARAMS:qB mg "MOST_PARAMS" 4
 m_MOST_BOXES:qB mg "MOST_BOXES" 12
 m_MOST_MANY:qB mg "MOST_MANY" 12
 m_LEAST_PICK:qB mg "LEAST_PICK" 2
 m_OP_PUSH:qB mg "OP_PUSH" 0
 m_OP_GET:qB mg "OP_GET" 1
 m_OP_SET:qB mg "OP_SET" 2
 m_OP_DROP:qB mg "OP_DROP" 3
 m_OP_JUMP:qB mg "OP_JUMP" 4
 m_OP_UNLESS:qB mg "OP_UNLESS" 5
 m_OP_CALL:qB mg "OP_CALL" 6
 m_OP_BACK:qB mg "OP_BACK" 7
 m_OP_FAIL:qB mg "OP_FAIL" 8
 m_OP_BREATH:qB mg "OP_BREATH" 9
 m_OP_DO:qB mg "OP_DO" 10
 m_OP_PICK:qB mg "OP_PICK" 11
 m_HEAD_SIZE:qB mg "HEAD_SIZE" 3
 m_ROW_SIZE:qB mg "ROW_SIZE" 2
 kint:PySem.W.kitOne K (.type "int") (.type "int")=some true
 kbool:PySem.W.kitOne K (.type "int") (.type "bool")=some false
 klist:PySem.W.kitOne K (.type "list") (.type "list")=some true
 kal:PySem.W.kitAny K (.type "list") [.type "list",.type "tuple"]=some true
 kat:PySem.W.kitAny K (.type "tuple") [.type "list",.type "tuple"]=some true
 ktup:PySem.W.kitOne K (.type "tuple") (.type "tuple")=some true
structure HR (K:PySem.W.Frag)(mg:Str->Option Value)(aP CL CN:Addr):Prop where
 n_len:mg "len"=none
 n_abs:mg "abs"=none
 n_range:mg "range"=none
 n_isinstance:mg "isinstance"=none
 n_int:mg "int"=none
 n_bool:mg "bool"=none
 n_list:mg "list"=none
 n_tuple:mg "tuple"=none
 m_NUMBER:qB mg "NUMBER" 0
 m_GET:qB mg "GET" 1
 m_SET:qB mg "SET" 2
 m_ALL:qB mg "ALL" 3
 m_PICK:qB mg "PICK" 4
 m_LOOP:qB mg "LOOP" 5
 m_CALL:qB mg "CALL" 6
 m_FAIL:qB mg "FAIL" 7
 m_NEW:qB mg "NEW" 19
 m_MOST_FUNCTIONS:qB mg "MOST_FUNCTIONS" 16
 m_MOST_PARAMS:qB mg "MOST_PARAMS" 4
 m_MOST_BOXES:qB mg "MOST_BOXES" 12
 m_MOST_DEEP:qB mg "MOST_DEEP" 10
 m_MOST_MANY:qB mg "MOST_MANY" 12
 m_LEAST_ALL:qB mg "LEAST_ALL" 1
 m_LEAST_PICK:qB mg "LEAST_PICK" 2
 m_PARTS:mg "PARTS"=some (.ref aP)
 m_NoSheet:mg "NoSheet"=some (.ref CN)
 parts: ∀H,uS K H aP (partsN.map V.int)
 kint:PySem.W.kitOne K (.type "int") (.type "int")=some true
 kbool:PySem.W.kitOne K (.type "int") (.type "bool")=some false
 klist:PySem.W.kitOne K (.type "list") (.type "list")=some true
 ktup:PySem.W.kitOne K (.type "tuple") (.type "tuple")=some true
 look:Sl K CL
 lnum:vG K CL "numbers"
 lplace:vG K CL "place"
 exc:EF K CN
 xplace:vG K CN "place"
 xword:vG K CN "word"
 mch:Mch K CN CN
section
variable {P:Program}{w:World}{K:PySem.W.Frag}{mg:Str->Option Value}{base:Heap}{f:Addr}{fd:FuncData}{aP CL CN:Addr}
theorem Wm (T:HR K mg aP CL CN)(F:wE K "__init__" "NoSheet.__init__" Bs f fd):uE P w K mg base 1 f fd ["self","place","word"] (EO CN):=by
 refine F.oN HN λcdv A outer s H vs Q E hr h=>?_;obtain⟨x,y,z,rfl,hx,q⟩:=h;refine⟨_,(zE (SH (pv 0) (pv 1))
   (zJ (SH (pv 0) (pv 2)))),?_⟩
 try dsimp only[Ah,Ai]
 refine⟨_,rfl,_,rfl,x,CN,none,rfl,hx,T.exc,T.xplace,.inl ⟨rfl,λd hd=>?_⟩⟩;have nd:d≠x:=λe=>by rw[e,hx]at hd;cases hd
 refine⟨_,rfl,_,rfl,x,CN,some d,rfl,zH,T.exc,T.xword,.inr ⟨d,[("place",y)],rfl,by rw[zW nd];exact zH,(show 1<1000 by decide),?_⟩⟩;refine q d _ nd hd (λb o nb e=>?_) ?_ zH
 ·rw[zW (zZ e hd),zW nb,zW (zZ e hd)];exact e
 ·rw[zW (Ne.symm nd)];exact zH
theorem Wo (T:HR K mg aP CL CN)(F:wE K "__init__" "Look.__init__" DJ f fd):uE P w K mg base 1 f fd ["self","numbers"] (NO CL):=by
 refine F.oN JF λcdv A outer s H vs Q E hr h=>?_;obtain⟨x,dx,a,rfl,hx,q⟩:=h;refine⟨_,(zE (Gs (pv 0) (pv 1) rfl)
   (zJ (Gs (pv 0) zK rfl))),?_⟩
 try dsimp only[Ah,Ai]
 refine⟨_,rfl,_,rfl,x,CL,dx,_,rfl,hx,T.look,T.lnum,(show 0<1000 by decide),?_⟩;refine⟨_,rfl,x,CL,dx,_,rfl,zH,T.look,T.lplace,(show 1<1000 by decide),?_⟩;refine q _ (λb o nb e=>?_) zH;rw[zW nb,zW nb];exact e
theorem We (T:HR K mg aP CL CN)(F:wE K "is_whole" "is_whole" Gn f fd):uE P w K mg base 1 f fd ["thing"] NH:=by
 refine F.oN Kb λcdv A outer s H vs Q E hr h=>?_;obtain⟨i,rfl,q⟩:=h;refine⟨_,(zJ (zV (BO (yS EC rfl T.n_isinstance jN (kO (pv 0) (Bk (v:=.ty "int") rfl T.n_int Xr rfl))) (Fg (VV (yS EC rfl T.n_isinstance jN (kO (pv 0) (Bk (v:=.ty "bool") rfl T.n_bool To rfl)))))))),?_⟩
 try dsimp only[Ah,Ai]
 refine⟨_,rfl,.inl ⟨_,_,_,true,rfl,.int i,T.kint,_,rfl,qO ?_⟩⟩;exact⟨_,rfl,.inl ⟨_,_,_,false,rfl,.int i,T.kbool,_,rfl,q⟩⟩
theorem zDx (T:HR K mg aP CL CN)(F:wE K "take" "Look.take" He f fd)(Cs:kA P w K mg base 1 "is_whole" ["thing"] NH)(Cj:Sm P w K mg base 1 "NoSheet" CN ["self","place","word"] (EO CN)):
  uE P w K mg base 3 f fd ["self"] (XO CL CN):=by
 refine F.oX IS λcdv A outer s H vs Q E hr h=>?_;obtain⟨lk,dx,a,p,ns,rfl,⟨hl,ha⟩,t1,t2⟩:=h;refine⟨_,(zE (xS (vH MV (xW (pv 0) rfl) (yS yM rfl T.n_len jZ (kG (xW (pv 0) rfl)))) (zJ (FD Cj hr rfl (kO (xW (pv 0) rfl) Bu))) yI)
   (zE (uA 1 IS.nd (Am kQ (xW (pv 0) rfl) (xW (pv 0) rfl)))
   (zE (xS (wK (qW (jB Cs hr rfl (kG (pv 1)) kZ))) (zJ (FD Cj hr rfl (kO (xW (pv 0) rfl) Bu))) yI)
   (zE (TW (pv 0) zK zBp)
   (zJ (zV (pv 1))))))),?_⟩
 try dsimp only[Ah,Ai]
 refine⟨_,rfl,lk,CL,dx,_,_,rfl,hl,T.look,T.lplace,rfl,_,rfl,lk,CL,dx,_,_,rfl,hl,T.look,T.lnum,rfl,a,_,rfl,.inl (.of ha),_,_,rfl,rfl,_,rfl,?_⟩;have hz:(ns.map V.int).length =ns.length:=zF ..;refine kH (λc=>?_) (λc=>?_)
 ·have c':=zO c;have e:GF ns p=.error (p,"end"):=by
   unfold GF;rw[vE (by lia)]
  exact⟨_,rfl,lk,CL,dx,_,_,rfl,hl,T.look,T.lplace,rfl,sm2,Lk (t2 _ _ e) (jX.refl _ _)⟩
 ·have hp:p<ns.length:=by
   refine Nat.lt_of_not_le λz=>c (xI ?_);lia
  have ep:ns[p]? =some ns[p]:=zG hp;generalize ns[p]=n at ep;have at_:Jq (ns.map V.int) (p:Int)=some (.int n):=qF (by rw[yQ,ep];rfl);have e:GF ns p=.ok n:=by unfold GF;rw[ep]
  refine⟨_,rfl,lk,CL,dx,_,_,rfl,hl,T.look,T.lnum,rfl,_,rfl,lk,CL,dx,_,_,rfl,hl,T.look,T.lplace,rfl,a,_,_,_,rfl,rfl,.of ha,at_,?_⟩;refine⟨_,rfl,n,rfl,_,rfl,wD ?_⟩;refine⟨_,rfl,lk,CL,dx,_,_,rfl,hl,T.look,T.lplace,rfl,_,_,rfl,rfl,dx,_,hl,(show 2<1000 by decide),?_⟩;exact⟨_,rfl,t1 n e⟩
theorem Uc (T:HR K mg aP CL CN)(F:wE K "take_within" "Look.take_within" Bt f fd)(Mtake:MB P w K mg base (Fx P w) 3 CL "take" ["self"] (XO CL CN))(Cj:Sm P w K mg base 1 "NoSheet" CN ["self","place","word"] (EO CN)):
  uE P w K mg base 4 f fd ["self","least","most"] (Fy CL CN):=by
 refine F.oX AO λcdv A outer s H vs Q E hr h=>?_;obtain⟨lk,dx,a,p,ns,lo,hi,rfl,⟨hl,ha⟩,t1,t2⟩:=h;refine⟨_,(zE (uA 3 AO.nd (xW (pv 0) rfl))
   (zE (uA 4 AO.nd (MP (pv 0) Mtake hr kZ))
   (zE (xS (PW.pt (vO (vH DZ (pv 4) (pv 1)) (qT (vH MU (pv 4) (pv 2))))) (zJ (FD Cj hr rfl (kO (pv 3) Bu))) yI)
   (zJ (zV (pv 4)))))),?_⟩
 try dsimp only[Ah,Ai]
 refine⟨_,rfl,lk,CL,dx,_,_,rfl,hl,T.look,T.lplace,rfl,?_⟩;refine⟨_,rfl,lk,dx,_,rfl,hl,rfl,lk,dx,a,p,ns,rfl,⟨hl,ha⟩,λn e=>?_,λpl wd e=>?_⟩
 ·have ep:ns[p]? =some n:=by
   unfold GF at e;cases q:ns[p]? with
   |none=>rw[q]at e;cases e
   |some m=>rw[q]at e;cases e;rfl
  have bad:n<lo\/hi<n->kB ns p lo hi=.error (p,"range"):=λc=>by unfold kB;rw[ep];exact zQ c
  have k1:jX lk H (upd H lk (Aw CL dx a (p+1))):=jX.upd;refine⟨_,rfl,_,rfl,_,_,rfl,rfl,_,rfl,kH (λc=>?_) (λc=>?_)⟩
  ·exact qO ⟨_,rfl,sm2,Lk (t2 _ _ (bad (.inl (zO c)))) k1⟩
  ·refine⟨_,rfl,_,rfl,_,_,rfl,rfl,_,rfl,kH (λc2=>?_) (λc2=>?_)⟩
   ·exact⟨_,rfl,sm2,Lk (t2 _ _ (bad (.inr (zO c2)))) k1⟩
   ·refine⟨_,rfl,t1 n ?_⟩;unfold kB;rw[ep];exact zN (λz=>z.elim (λz=>c (xI z)) λz=>c2 (xI z))
 ·refine t2 pl wd ?_;unfold GF at e;unfold kB;cases q:ns[p]? with
  |none=>rw[q]at e;exact e
  |some m=>rw[q]at e;cases e
def XA (lk hd dx a:Addr)(H:Hp)(ns:List Int)(n:Int)(i:Nat)(σ':St)(H':Hp):Prop:= ∃(done:wC) (rs:List V) (most:Int) (v3 v4:Option V),σ'=[some (.ref lk),some (.ref hd),some (.int most),v3,v4]/\most<=4/\done.length=i/\jX lk H H'/\
   H' lk=some (Aw CL dx a (1+2*i))/\H' hd=some (.lst rs)/\Paired (JU H') rs done/\vF ns n.toNat 0 1=Zx done (vF ns (n.toNat-i) most (1+2*i))
theorem Wq (T:HR K mg aP CL CN)(F:wE K "take_heads" "take_heads" Gj f fd)(Mtake_within:MB P w K mg base (Fx P w) 4 CL "take_within" ["self","least","most"] (Fy CL CN)):
  uE P w K mg base 5 f fd ["look"] (NQ CL CN):=by
 refine F.oX Ac λcdv A outer s H vs Q E hr h=>?_;obtain⟨lk,dx,a,ns,rfl,⟨hl,ha⟩,t1,t2⟩:=h;refine⟨_,(zE (uA 1 Ac.nd (jE yC))
   (zE (uA 2 Ac.nd zK)
   (zE (wL (Jb rfl rfl) rfl (BC rfl T.n_range (kG (Du (pv 0) Mtake_within hr (kO zK (zX rfl T.m_MOST_FUNCTIONS)) kZ))) (Ar 3 Ac.nd) (zE (uA 4 Ac.nd (Du (pv 0) Mtake_within hr (kO zK (pv 2)) kZ))
   (zE (jF (Al zY yH yF kP (pv 1) (kG (xR (kO (pv 4) (Du (pv 0) Mtake_within hr (kO (pv 4) (zX rfl T.m_MOST_BOXES)) kZ))))))
   (zJ (uA 2 Ac.nd (zX rfl T.m_MOST_PARAMS))))))
   (zJ (zV (pv 1)))))),?_⟩
 try dsimp only[Ah,Ai]
 refine⟨sm0,λhd hhd=>?_⟩;have nlh:lk≠hd:=zZ hl hhd;have k1:jX lk H (upd H hd (.lst [])):=jX.new _ hhd;have l1:Looks CL (upd H hd (.lst [])) lk dx a 0 ns:=Looks.go ⟨hl,ha⟩ k1 (by rw[zW nlh];exact hl);refine⟨_,rfl,lk,dx,_,rfl,l1.1,rfl,lk,dx,a,0,ns,1,16,rfl,l1,λn e=>?_,λp wd e=>?_⟩
 ·obtain⟨_,n1,n16⟩:=jM e;have eh:wW ns=vF ns n.toNat 0 1:=by unfold wW;rw[e]
  refine⟨n,rfl,by lia,by lia,CY (lo:=0) (n:=n.toNat) (XA (CL:=CL) lk hd dx a H ns n) ⟨[],[],0,_,_,rfl,by decide,rfl,k1.trans jX.upd,zH,?_,.nil,(Ux _).symm⟩ ?_ ?_⟩
  ·rw[zW (Ne.symm nlh)];exact zH
  ·rintro i σ' H' hi ⟨done,rs,most,v3,v4,rfl,hm,hn,kp,el,eh',pr,eq⟩;obtain⟨m,em⟩: ∃m,n.toNat-i=m+1:=⟨n.toNat-i-1,by lia⟩;have L1:Looks CL H' lk dx a (1+2*i) ns:=Looks.go ⟨hl,ha⟩ kp el;refine⟨_,rfl,lk,dx,_,rfl,el,rfl,_,rfl,lk,dx,a,_,ns,0,most,rfl,L1,λx ex=>?_,λp wd ex=>?_⟩
   ·have L2':Looks CL (upd H' lk (Aw CL dx a (1+2*i+1))) lk dx a (1+2*i+1) ns:=L1.go jX.upd zH;have eh2:(upd H' lk (Aw CL dx a (1+2*i+1))) hd=some (.lst rs):=by rw[zW (Ne.symm nlh)];exact eh'
    refine⟨_,rfl,.inl ⟨rfl,_,.of eh2⟩,_,rfl,_,rfl,lk,dx,_,rfl,zH,rfl,_,rfl,lk,dx,a,_,ns,x,12,rfl,L2',λy ey=>?_,λp wd ey=>?_⟩
    ·refine⟨sm2,λq hq=>?_⟩;generalize hH2:upd (upd H' lk (Aw CL dx a (1+2*i+1))) lk (Aw CL dx a (1+2*i+1+1))=H2 at hq;have k2:jX lk H' H2:=by rw[<-hH2];exact jX.trans jX.upd jX.upd
     have e2:H2 lk=some (Aw CL dx a (1+2*i+1+1)):=by rw[<-hH2];exact zH
     have h2:H2 hd=some (.lst rs):=k2 hd _ (Ne.symm nlh) eh';have nq:hd≠q:=zZ h2 hq;have ql:lk≠q:=zZ e2 hq;have h3:upd H2 q (.tup [.int x,.int y]) hd=some (.lst rs):=by rw[zW nq];exact h2
     have len:rs.length<=16:=by have:=Paired.len pr;lia
     refine⟨hd,rs,_,rfl,rfl,h3,Ep (by lia),?_⟩;have tp:AT H' (upd (upd H2 q (.tup [.int x,.int y])) hd (.lst (rs++[.ref q]))):=.trans (.keep el k2) (.trans (.new hq) (.upd h3));refine⟨done++[(x,y)],_,4,_,_,rfl,by decide,by simp[hn],(kp.trans (k2.trans (jX.new _ hq))).fresh hhd,?_,zH,Dy (Paired.imp (λ_ _ z=>z.tups tp) pr) ⟨q,rfl,?_⟩,?_⟩
     ·rw[zW nlh,zW ql];exact e2
     ·rw[zW (Ne.symm nq)];exact zH
     ·rw[eq,em,show n.toNat-(i+1)=m by lia,show 1+2*(i+1)=1+2*i+2 by lia]
      conv=>lhs;unfold vF
      rw[ex];simp only;rw[ey];simp only;cases vF ns m 4 (1+2*i+2)with
      |error b=>rfl
      |ok r=>show Except.ok _=Except.ok _;rw[yA];rfl
    ·refine(t2 p wd ?_).keep (kp.trans jX.upd);rw[eh,eq,em];unfold vF;rw[ex];simp only;rw[ey];rfl
   ·refine(t2 p wd ?_).keep kp;rw[eh,eq,em];unfold vF;rw[ex];rfl
  ·rintro σ' H' ⟨done,rs,most,v3,v4,rfl,hm,hn,kp,el,eh',pr,eq⟩;refine⟨_,rfl,t1 done ?_ hd H' kp (by rw[hn];exact el) ⟨rs,eh',pr⟩⟩;rw[eh,eq,El];show Except.ok (done++[])=_;rw[yV]
 ·exact(t2 p wd (by unfold wW;rw[e])).keep k1
theorem vt {i j:Int}(c:decide (V.int i=V.int j)=true):i=j:=by
 have:=zO c;injection this
theorem vf {i j:Int}(c: ¬decide (V.int i=V.int j)=true):i≠j:=λz=>c (xI (qI V.int z))
theorem zBb (T:HR K mg aP CL CN)(F:wE K "take_own" "take_own" Ir f fd)(Mtake:MB P w K mg base (Fx P w) 3 CL "take" ["self"] (XO CL CN))(Mtake_within:MB P w K mg base (Fx P w) 4 CL "take_within" ["self","least","most"] (Fy CL CN)):
  uE P w K mg base 5 f fd ["look","kind","heads","boxes"] (Sv CL CN):=by
 refine F.oX Pb λcdv A outer s H vs Q E hr h=>?_;obtain⟨lk,dx,a,p,ns,hd,hs,boxes,k,rfl,L1,hh,t1,t2⟩:=h;refine⟨_,(zE (xS (vH kW (pv 1) (zX rfl T.m_NUMBER)) (zJ (zV (xR (kG (MP (pv 0) Mtake hr kZ))))) yI)
   (zE (xS (PW.pt (vO (vH kW (pv 1) (zX rfl T.m_GET)) (qT (vH kW (pv 1) (zX rfl T.m_SET))))) (zJ (zV (xR (kG (Du (pv 0) Mtake_within hr (kO zK (xQ CU (pv 3) zK)) kZ))))) yI)
   (zE (xS (vH kW (pv 1) (zX rfl T.m_ALL)) (zJ (zV (xR (kG (Du (pv 0) Mtake_within hr (kO (zX rfl T.m_LEAST_ALL) (zX rfl T.m_MOST_MANY)) kZ))))) yI)
   (zE (xS (vH kW (pv 1) (zX rfl T.m_PICK)) (zJ (zV (xR (kG (Du (pv 0) Mtake_within hr (kO (zX rfl T.m_LEAST_PICK) (zX rfl T.m_MOST_MANY)) kZ))))) yI)
   (zE (xS (vH kW (pv 1) (zX rfl T.m_CALL)) (zJ (zV (xR (kG (Du (pv 0) Mtake_within hr (kO zK (xQ CU (yS yM rfl T.n_len jZ (kG (pv 2))) zK)) kZ))))) yI)
   (zJ (zV (xR yC)))))))),?_⟩
 try dsimp only[Ah,Ai]
 have hl:=L1.1;have fin: ∀n,FE ns hs boxes k p=.ok [n]->Sr [.int n] (upd H lk (Aw CL dx a (p+1))) Q:=λn e=>by
  refine⟨sm1,λt ht=>t1 [n] e t _ (jX.trans jX.upd (jX.new _ ht)) ?_ zH⟩;rw[zW (zZ (zH (H:=H) (a:=lk) (o:=Aw CL dx a (p+1))) ht)];exact zH
 refine⟨_,rfl,rfl,_,rfl,kH (λc=>?_) (λc0=>?_)⟩
 ·have o:FE ns hs boxes k p=Mn (GF ns p):=zQ (vt c);exact⟨_,rfl,lk,dx,_,rfl,hl,rfl,lk,dx,a,p,ns,rfl,L1,λn e=>fin n (by rw[o,e];rfl),λpl wd e=>t2 _ _ (by rw[o,e];rfl)⟩
 have n0:=vf c0;have one: ∀lo hi,(∀r,kB ns p lo hi=r->FE ns hs boxes k p=Mn r)->Looks CL H lk dx a p ns/\Jm (kB ns p lo hi) (λn=>Sr [.int n] (upd H lk (Aw CL dx a (p+1))) Q) (Hx CN lk H E):=
  λlo hi o=>⟨L1,λn e=>fin n (o _ e),λpl wd e=>t2 _ _ (o _ e)⟩
 have br12:k=1\/k=2-> ∀r,kB ns p 0 (boxes-1)=r->FE ns hs boxes k p=Mn r:=λz r e=>by unfold FE;rw[zN n0,zQ z,e]
 refine⟨_,rfl,rfl,_,rfl,kH (λc=>qO ?_) (λc1=>?_)⟩
 ·have o:=one (0) (boxes-1) ((br12 (.inl (vt c))));exact⟨_,rfl,lk,dx,_,rfl,hl,rfl,_,rfl,_,_,rfl,rfl,lk,dx,a,p,ns,0,boxes-1,rfl,o.1,o.2⟩
 refine⟨_,rfl,rfl,_,rfl,kH (λc=>?_) (λc2=>?_)⟩
 ·have o:=one (0) (boxes-1) ((br12 (.inr (vt c))));exact⟨_,rfl,lk,dx,_,rfl,hl,rfl,_,rfl,_,_,rfl,rfl,lk,dx,a,p,ns,0,boxes-1,rfl,o.1,o.2⟩
 have n12: ¬(k=1\/k=2):=λz=>z.elim (vf c1) (vf c2);refine⟨_,rfl,rfl,_,rfl,kH (λc=>?_) (λc3=>?_)⟩
 ·have o:=one (1) (12) (λr e=>by unfold FE;rw[zN n0,zN n12,zQ (vt c),e]);exact⟨_,rfl,lk,dx,_,rfl,hl,rfl,lk,dx,a,p,ns,1,12,rfl,o.1,o.2⟩
 refine⟨_,rfl,rfl,_,rfl,kH (λc=>?_) (λc4=>?_)⟩
 ·have o:=one (2) (12) (λr e=>by unfold FE;rw[zN n0,zN n12,zN (vf c3),zQ (vt c),e]);exact⟨_,rfl,lk,dx,_,rfl,hl,rfl,lk,dx,a,p,ns,2,12,rfl,o.1,o.2⟩
 refine⟨_,rfl,rfl,_,rfl,kH (λc=>?_) (λc6=>?_)⟩
 ·obtain⟨rs,eh,pr⟩:=id hh;have ln:rs.length=hs.length:=Paired.len pr;have o:=one (0) _ (λr e=>by unfold FE;rw[zN n0,zN n12,zN (vf c3),zN (vf c4),zQ (vt c),<-ln,e]);exact⟨_,rfl,lk,dx,_,rfl,hl,rfl,_,rfl,hd,_,rfl,.inl (.of eh),_,_,rfl,rfl,lk,dx,a,p,ns,0,_,rfl,o.1,o.2⟩
 ·refine⟨sm0,λt ht=>t1 [] ?_ t _ (jX.new _ ht) ?_ zH⟩
  ·unfold FE;rw[zN n0,zN n12,zN (vf c3),zN (vf c4),zN (vf c6)]
  ·rw[zW (zZ hl ht)];exact hl
inductive NI (vs:List V) (H:Hp) (Q:VK) (E:XK):Prop
 |mk (k:Nat) (v:Int) (h0:vs=[.int (7+(k:Int))]) (h1:partsN[k]? =some v) (h2:Q (.int v) H):NI vs H Q E
theorem Wf (T:HR K mg aP CL CN)(F:wE K "parts_of" "parts_of" Iu f fd):uE P w K mg base 1 f fd ["kind"] NI:=by
 refine F.oN Pc λcdv A outer s H vs Q E hr h=>?_;obtain⟨k,v,rfl,hk,q⟩:=h;refine⟨_,(zJ (zV (Am jO (HE rfl T.m_PARTS) (xQ CU (pv 0) (zX rfl T.m_FAIL))))),?_⟩
 try dsimp only[Ah,Ai]
 refine⟨_,rfl,_,_,rfl,rfl,aP,_,_,_,rfl,rfl,T.parts _,?_,q⟩;rw[show(7:Int)+(k:Int)-7=(k:Int)by lia];exact qF (by rw[yQ,hk];rfl)
theorem zBd (T:HR K mg aP CL CN)(F:wE K "parts_due" "parts_due" GY f fd)(Cd3:kA P w K mg base 1 "parts_of" ["kind"] NI):
  uE P w K mg base 2 f fd ["kind","numbers","heads"] Sz:=by
 refine F.oN Oa λcdv A outer s H vs Q E hr h=>?_;obtain⟨k,t,own,hd,hs,rfl,ht,⟨rs,eh,pr⟩,⟨h0,h1,hk⟩,q⟩:=h;refine⟨_,(zE (xS (PW.pt (vO (vH kW (pv 0) (zX rfl T.m_NUMBER)) (qT (vH kW (pv 0) (zX rfl T.m_GET))))) (zJ (zV zK)) yI)
   (zE (xS (vH kW (pv 0) (zX rfl T.m_SET)) (zJ (zV zK)) yI)
   (zE (xS (vH kW (pv 0) (zX rfl T.m_ALL)) (zJ (zV (Am jO (pv 1) zK))) yI)
   (zE (xS (vH kW (pv 0) (zX rfl T.m_PICK)) (zJ (zV (xQ qM zK (Am jO (pv 1) zK)))) yI)
   (zE (xS (vH kW (pv 0) (zX rfl T.m_LOOP)) (zJ (zV zK)) yI)
   (zE (xS (vH kW (pv 0) (zX rfl T.m_CALL)) (zJ (zV (Am jO (Am kQ (pv 2) (Am jO (pv 1) zK)) zK))) yI)
   (zJ (zV (cN Cd3 hr (kG (pv 0))))))))))),?_⟩
 try dsimp only[Ah,Ai]
 have due0:k=0\/k=1->Fm hs k own=0:=λz=>zQ z;refine⟨_,rfl,rfl,_,rfl,kH (λc=>qO ?_) (λc0=>?_)⟩
 ·rw[due0 (.inl (vt c))]at q;exact q
 refine⟨_,rfl,rfl,_,rfl,kH (λc=>?_) (λc1=>?_)⟩
 ·rw[due0 (.inr (vt c))]at q;exact q
 have n01: ¬(k=0\/k=1):=λz=>z.elim (vf c0) (vf c1);unfold Fm at q;rw[zN n01]at q;refine⟨_,rfl,rfl,_,rfl,kH (λc=>?_) (λc2=>?_)⟩
 ·rw[zQ (vt c)]at q;exact q
 rw[zN (vf c2)]at q;refine⟨_,rfl,rfl,_,rfl,kH (λc=>?_) (λc3=>?_)⟩
 ·rw[zQ (vt c)]at q;obtain⟨n,rfl,_⟩:=hk (.inl (vt c));exact⟨_,rfl,t,_,_,_,rfl,rfl,.of ht,rfl,q⟩
 rw[zN (vf c3)]at q;refine⟨_,rfl,rfl,_,rfl,kH (λc=>?_) (λc4=>?_)⟩
 ·rw[zQ (vt c)]at q;obtain⟨n,rfl,_⟩:=hk (.inr (.inl (vt c)));exact⟨_,rfl,t,_,_,_,rfl,rfl,.of ht,rfl,_,_,rfl,rfl,q⟩
 rw[zN (vf c4)]at q;refine⟨_,rfl,rfl,_,rfl,kH (λc=>?_) (λc5=>?_)⟩
 ·rw[zQ (vt c)]at q;exact q
 rw[zN (vf c5)]at q;refine⟨_,rfl,rfl,_,rfl,kH (λc=>?_) (λc6=>?_)⟩
 ·rw[zQ (vt c)]at q;obtain⟨n,rfl,n0,n1,_⟩:=hk (.inr (.inr (vt c)));have hn:n.toNat<hs.length:=by have:=n1 (vt c);lia
  have ln:rs.length=hs.length:=Paired.len pr;have e1:hs[n.toNat]? =some hs[n.toNat]:=zG hn;have e2:rs[n.toNat]? =some rs[n.toNat]:=zG (by lia);obtain⟨tt,er,et⟩:=Paired.get pr _ _ _ e2 e1;have av:Jq rs n=some (.ref tt):=by
   have:=qF (xs:=rs) e2;rw[show((n.toNat:Nat):Int)=n by lia,er]at this;exact this
  refine⟨_,rfl,_,rfl,t,_,_,_,rfl,rfl,.of ht,rfl,hd,rs,n,_,rfl,rfl,.of eh,av,tt,_,_,_,rfl,rfl,.of et,rfl,?_⟩;have:(hs.getD ([n].headD 0).toNat (0,0)).1=hs[n.toNat].1:=by
   show(hs.getD n.toNat (0,0)).1=_;rw[xV,e1];rfl
  rw[this]at q;exact q
 ·rw[zN (vf c6)]at q;have n0:=vf c0;have n1:=vf c1;have n2:=vf c2;have n3:=vf c3;have n4:=vf c4;have n5:=vf c5;have n6:=vf c6;have hk7:(k-7).toNat <13:=by lia
  have e1:partsN[(k-7).toNat]? =some (partsN.getD (k-7).toNat 0):=by
   rw[xV,zG (by exact hk7)];rfl
  exact⟨_,rfl,(k-7).toNat,_,(by rw[show(7:Int)+((k-7).toNat:Int)=k by lia];rfl),e1,q⟩
def zAb (CL CN:Addr):Nat->Sp
 |0=>λ_ _ _ _=>False
 |d+1=>Jw CL CN d
def Zd (lk hd dx a t ps:Addr)(boxes k N:Int)(d p:Nat)(own:List Int)(H:Hp)(ns:List Int)(hs:wC)(i:Nat)(σ':St)(H':Hp):Prop:= ∃(done:List Nd) (vs:List V) (p':Nat) (v8:Option V),σ'=[some (.ref lk),some (.ref hd),some (.int boxes),some (.int (11-((d+1:Nat):Int))),some (.int (p:Int)),some (.int k),some (.ref t),some (.ref ps),v8]/\done.length=i/\jX lk H H'/\
   H' lk=some (Aw CL dx a p')/\H' t=some (.tup (own.map V.int))/\H' ps=some (.lst vs)/\Paired (qA H' d) vs done/\wY (At ns hs boxes d) N.toNat (p+1+own.length)=WJ done (wY (At ns hs boxes d) (N.toNat-i) p')
theorem SO (d:Nat)(hd10:d<=10)(T:HR K mg aP CL CN)(F:wE K "take_node" "take_node" ET f fd)(Cj:Sm P w K mg base 1 "NoSheet" CN ["self","place","word"] (EO CN))(Mtake_within:MB P w K mg base (Fx P w) 4 CL "take_within" ["self","least","most"] (Fy CL CN))
  (Cy:kA P w K mg base 5 "take_own" ["look","kind","heads","boxes"] (Sv CL CN)) (Cu:kA P w K mg base 2 "parts_due" ["kind","numbers","heads"] Sz)
  (Ca1:kA P w K mg base (5+d) "take_node" ["look","heads","boxes","deep"] (zAb CL CN d)):uE P w K mg base (5+d+1) f fd ["look","heads","boxes","deep"] (Jw CL CN d):=by
 refine F.oX Az λcdv A outer s H vs Q E hr h=>?_;obtain⟨lk,dx,a,p,ns,hd,hs,boxes,rfl,L1,hh,ho,t1,t2⟩:=h;refine⟨_,(zE (uA 4 Az.nd (xW (pv 0) rfl))
   (zE (xS (vH MU (pv 3) (zX rfl T.m_MOST_DEEP)) (zJ (FD Cj hr rfl (kO (pv 4) Bu))) yI)
   (zE (uA 5 Az.nd (Du (pv 0) Mtake_within hr (kO (zX rfl T.m_NUMBER) (zX rfl T.m_NEW)) kZ))
   (zE (uA 6 Az.nd (jB Cy hr rfl (zB (pv 0) (zB (pv 5) (zB (pv 1) (zB (pv 2) yC)))) kZ))
   (zE (uA 7 Az.nd (jE yC))
   (zE (wL (Jb rfl rfl) rfl (BC rfl T.n_range (kG (jB Cu hr rfl (zB (pv 5) (zB (pv 6) (zB (pv 1) yC))) kZ))) (Ar 8 Az.nd) (zJ (jF (Al zY yH yF kP (pv 7) (kG (jB Ca1 hr rfl (zB (pv 0) (zB (pv 1) (zB (pv 2) (zB (xQ qM (pv 3) zK) yC)))) kZ))))))
   (zJ (zV (xR (zB (pv 5) (zB (pv 4) (zB (pv 6) (zB (HF Fo rfl T.n_tuple FS (kG (pv 7))) yC))))))))))))),?_⟩
 try dsimp only[Ah,Ai]
 have hl:=L1.1;refine⟨_,rfl,lk,CL,dx,_,_,rfl,hl,T.look,T.lplace,rfl,?_⟩;refine⟨_,rfl,_,_,rfl,rfl,_,rfl,kH (λc=>?_) (λc=>?_)⟩
 ·have d0:d=0:=by have:=zO c;lia
  subst d0;exact⟨_,rfl,sm2,Lk (t2 p "deep" rfl) (jX.refl _ _)⟩
 cases d with
 |zero=>exact absurd (xI (by decide)) c
 |succ d=>
 refine⟨_,rfl,lk,dx,_,rfl,hl,rfl,lk,dx,a,p,ns,0,19,rfl,L1,λk ek=>?_,λpl wd ek=>t2 pl wd (by unfold At;rw[ek])⟩;obtain⟨_,k0,k19⟩:=jM ek;have ka:jX lk H (upd H lk (Aw CL dx a (p+1))):=jX.upd;have La:=L1.go ka zH;refine⟨_,rfl,_,rfl,_,rfl,_,rfl,lk,dx,a,p+1,ns,hd,hs,boxes,k,rfl,La,hh.keep hl ka,λown eo t H2 k2 el2 et2=>?_,λpl wd eo=>?_⟩
 rotate_left
 ·exact(t2 pl wd (by unfold At;rw[ek];simp only;rw[eo])).keep ka
 have oo:=zAx k0 k19 eo;have kb:=ka.trans k2;refine⟨sm0,λps hps=>?_⟩;have g3:=zM hps (.lst []);have nps:lk≠ps:=zZ el2 hps;have ntp:t≠ps:=zZ et2 hps;have kc:jX lk H (upd H2 ps (.lst [])):=kb.trans (jX.same g3);have elc:=g3 _ _ el2;obtain⟨j0,j13⟩:=zBu oo ho;generalize hN:Fm hs k own=N at j0 j13;have nHp:H ps=none:=by
  cases e:H ps with
  |none=>rfl
  |some o=>rw[kb ps o (Ne.symm nps) e]at hps;cases hps
 refine⟨_,rfl,_,rfl,_,rfl,k,t,own,hd,hs,rfl,g3 _ _ et2,hh.keep hl kc,oo,N,by rw[hN],by lia,by lia,?_⟩;have en:At ns hs boxes (d+1) p=match wY (At ns hs boxes d) N.toNat (p+1+own.length)with
   | .error b=>.error b
   | .ok r=>.ok (.mk k p own r.1,r.2):=by
  conv=>lhs;unfold At
  rw[ek];simp only;rw[eo];simp only;rw[hN]<;>rfl
 refine CY (lo:=0) (n:=N.toNat) (Zd (CL:=CL) lk hd dx a t ps boxes k N d p own H ns hs)
   ⟨[],[],_,_,rfl,rfl,kc,elc,g3 _ _ et2,zH,.nil,(Ng _).symm⟩ ?_ ?_
 ·rintro i σ' H' hi ⟨done,vs,p',v8,rfl,hn,kp,el,et,ep,pr,eq⟩;obtain⟨m,em⟩: ∃m,N.toNat-i=m+1:=⟨N.toNat-i-1,by lia⟩;have L2':Looks CL H' lk dx a p' ns:=L1.go kp el;have ed:(11-((d+1:Nat):Int))+1=11-(d:Int):=by lia
  refine⟨_,rfl,.inl ⟨rfl,_,.of ep⟩,_,rfl,_,rfl,_,rfl,_,rfl,_,_,rfl,rfl,lk,dx,a,p',ns,hd,hs,boxes,qI (λz=>[V.ref lk,V.ref hd,V.int boxes,V.int z]) ed,L2',hh.keep hl kp,ho,λr er v H3 k3 el3 nv=>?_,λpl wd er=>?_⟩
  ·have ep3:H3 ps=some (.lst vs):=k3 ps _ (Ne.symm nps) ep;have len:vs.length<=13:=by have:=Paired.len pr;lia
   refine⟨ps,vs,_,rfl,rfl,ep3,Ep (by lia),?_⟩;have tp:AT H' (upd H3 ps (.lst (vs++[v]))):=.trans (.keep el k3) (.upd ep3);have ntl:t≠lk:=λz=>by rw[z,el]at et;cases et
   refine⟨done++[r.1],_,r.2,_,rfl,by simp[hn],(kp.trans k3).fresh nHp,?_,?_,zH,Dy (Paired.imp (λ_ _ z=>z.tups tp) pr) (nv.tups (.upd ep3)),?_⟩
   ·rw[zW nps];exact el3
   ·rw[zW ntp];exact k3 t _ ntl et
   ·rw[eq,em,show N.toNat-(i+1)=m by lia]
    conv=>lhs;unfold wY
    rw[er];simp only;cases wY (At ns hs boxes d) m r.2 with
    |error b=>rfl
    |ok r=>show Except.ok _=Except.ok _;rw[yA];rfl
  ·refine(t2 pl wd ?_).keep kp;rw[en,eq,em]
   conv=>lhs;unfold wY
   rw[er];rfl
 ·rintro σ' H' ⟨done,vs,p',v8,rfl,hn,kp,el,et,ep,pr,eq⟩;rw[El]at eq;have eq':wY (At ns hs boxes d) N.toNat (p+1+own.length)=.ok (done,p'):=by rw[eq];show Except.ok (done++[],p')=_;rw[yV]
  refine⟨_,rfl,_,rfl,_,rfl,_,rfl,ps,vs,rfl,.inl ⟨.of ep,λq hq=>?_⟩⟩;refine⟨sm4,λu hu=>?_⟩;have s1:=zM hq (.tup vs);have s2:=zM hu (.tup [.int k,.int (p:Int),.ref t,.ref q]);refine t1 (.mk k p own done,p') (by rw[en,eq']) (.ref u) _ (kp.trans (jX.same (s1.trans s2))) (s2 _ _ (s1 _ _ el)) ?_;exact⟨u,t,q,vs,rfl,zH,s2 _ _ (s1 _ _ et),s2 _ _ zH,Paired.imp (λ_ _ z=>z.tups (.same (s1.trans s2))) pr⟩
theorem Wg (T:HR K mg aP CL CN)(F:wE K "take_node" "take_node" ET f fd)(Cj:Sm P w K mg base 1 "NoSheet" CN ["self","place","word"] (EO CN))(Mtake_within:MB P w K mg base (Fx P w) 4 CL "take_within" ["self","least","most"] (Fy CL CN))
  (Cy:kA P w K mg base 5 "take_own" ["look","kind","heads","boxes"] (Sv CL CN)) (Cu:kA P w K mg base 2 "parts_due" ["kind","numbers","heads"] Sz)
  (hm:mg "take_node"=some (.ref f)) (hk:PySem.W.keepIn K (.ref f)=true) (hb:An K fd ["look","heads","boxes","deep"] []): ∀d,d<=10->uE P w K mg base (5+d+1) f fd ["look","heads","boxes","deep"] (Jw CL CN d):=by
 intro d
 induction d with
 |zero=>exact λh=>SO 0 h T F Cj Mtake_within Cy Cu ⟨⟨_,_,Xf,hm,hk,hb⟩⟩
 |succ d ih=>exact λh=>SO (d+1) h T F Cj Mtake_within Cy Cu ⟨⟨_,_,ih (by lia),hm,hk,hb⟩⟩
def zCj (a lk hd tl dx:Addr)(rs:List V)(hs:wC)(ns:List Int)(H1:Hp)(i:Nat)(σ':St)(H':Hp):Prop:= ∃(done:List Nd) (vs:List V) (p':Nat) (v4 v5:Option V),σ'=[some (.ref a),some (.ref lk),some (.ref hd),some (.ref tl),v4,v5]/\i<=rs.length/\done.length=i/\jX lk H1 H'/\H' lk=some (Aw CL dx a p')/\
   H' hd=some (.lst rs)/\Paired (JU H') rs hs/\H' tl=some (.lst vs)/\Paired (UW H') vs ((hs.take i).zip done)/\qL ns hs hs (1+2*hs.length)=WJ done (qL ns hs (hs.drop i) p')
theorem zBc (T:HR K mg aP CL CN)(F:wE K "functions" "functions" Hb f fd)(Cj:Sm P w K mg base 1 "NoSheet" CN ["self","place","word"] (EO CN))(Ce4:QJ P w K mg base (Fx P w) 1 "Look" CL ["self","numbers"] (NO CL))
  (Cc3:kA P w K mg base 5 "take_heads" ["look"] (NQ CL CN)) (Ca1:kA P w K mg base 16 "take_node" ["look","heads","boxes","deep"] (Jw CL CN 10)):
  uE P w K mg base 17 f fd ["sheet"] (HX CN):=by
 refine F.oX AB λcdv A outer s H vs Q E hr h=>?_;obtain⟨a,ns,rfl,ha,t1,t2⟩:=h;refine⟨_,(zE (uA 1 AB.nd (Pt Ce4 hr rfl (kG (pv 0)) kZ))
   (zE (uA 2 AB.nd (jB Cc3 hr rfl (kG (pv 1)) kZ))
   (zE (uA 3 AB.nd (jE yC))
   (zE (wL (Jb rfl rfl) rfl (AE (pv 2)) (uJ rfl (yR (Ar 4 AB.nd) (yR (Ar 5 AB.nd) qP))) (zJ (jF (Al zY yH yF kP (pv 3) (kG (xR (zB (pv 4) (zB (pv 5) (zB (jB Ca1 hr rfl (zB (pv 1) (zB (pv 2) (zB (pv 5) (zB zK yC)))) kZ) yC)))))))))
   (zE (xS (vH DZ (xW (pv 1) rfl) (yS yM rfl T.n_len jZ (kG (pv 0)))) (zJ (FD Cj hr rfl (kO (xW (pv 1) rfl) Bu))) yI)
   (zJ (zV (pv 3)))))))),?_⟩
 try dsimp only[Ah,Ai]
 refine⟨_,rfl,λlk dx hlk hdx ndx=>⟨lk,dx,a,rfl,zH,λH1 k1 el1=>⟨rfl,?_⟩⟩⟩;have nla:a≠lk:=zZ ha hlk;have same0: ∀{H':Hp},jX lk (upd (upd H dx (.own lk)) lk (.ins CL dx [])) H'->yU H H':=fun{H'} k b o e=>by
  refine k b o (zZ e hlk) ?_;rw[zW (zZ e hlk),zW (zZ e hdx)];exact e
 have L1:Looks CL H1 lk dx a 0 ns:=⟨el1,same0 k1 _ _ ha⟩;have bad: ∀{H':Hp} {p:Nat} {wd:Str},jX lk H1 H'->jL ns=.error (p,wd)->Hx CN lk H' E p wd:=fun{H' p wd} k e d H'' k' ed=>t2 p wd e d H'' (same0 (k1.trans (k.trans k'))) ed;refine⟨_,rfl,lk,dx,a,ns,rfl,L1,λhs eh hd H2 k2 el2 hh=>?_,λp wd e=>bad (jX.refl _ _) (by unfold jL;rw[e])⟩;obtain⟨ho,_,l1,l16,_⟩:=Jg eh;refine⟨sm0,λtl htl=>?_⟩;have g3:=zM htl (.lst []);have nlt:lk≠tl:=zZ el2 htl;have kc:jX lk H1 (upd H2 tl (.lst [])):=k2.trans (jX.same g3);obtain⟨rs,ehd,pr⟩:=id hh;have nht:hd≠tl:=zZ ehd htl;have nhl:hd≠lk:=λz=>by rw[z,el2]at ehd;cases ehd
 have lr:rs.length=hs.length:=Paired.len pr;have ef:jL ns=match qL ns hs hs (1+2*hs.length)with
   | .error b=>.error b
   | .ok r=>if r.2<ns.length then .error (r.2,"over")else .ok (hs,r.1):=by unfold jL;rw[eh]<;>rfl
 have nHt:H1 tl=none:=by
  cases e:H1 tl with
  |none=>rfl
  |some o=>rw[k2 tl o (Ne.symm nlt) e]at htl;cases htl
 have nH0:H tl=none:=(same0 k1).free nHt;refine⟨_,rfl,hd,rfl,⟨rs,.of (g3 _ _ ehd)⟩,Dv (xs:=rs) (zCj (CL:=CL) a lk hd tl dx rs hs ns H1)
   ⟨[],[],_,_,_,rfl,xH _,rfl,kc,g3 _ _ el2,g3 _ _ ehd,Paired.imp (λ_ _ z=>z.tups (.same g3)) pr,zH,.nil,(Ng _).symm⟩ ?_ ?_ ?_⟩
 ·rintro i σ' H' _ ⟨done,vs,p',v4,v5,rfl,hi,hn,kp,el,eh',pr',et,pf,eq⟩;exact .of eh'
 ·rintro i x σ' H' hx ⟨done,vs,p',v4,v5,rfl,_,hn,kp,el,eh',pr',et,pf,eq⟩;have hi:i<rs.length:=(List.getElem?_eq_some_iff.mp hx).1;have e1:hs[i]? =some hs[i]:=zG (by lia);generalize hs[i]=hx1 at e1;obtain⟨u,rfl,eu⟩:=Paired.get pr' i _ _ hx e1;have dr:hs.drop i=hx1::hs.drop (i+1):=by
   have:=xO (l:=hs) (i:=i) (by lia);rw[this];congr 1;exact xU ((zG (by lia)).symm.trans e1)
  have tk:hs.take (i+1)=hs.take i++[hx1]:=by rw[jT,e1];rfl
  refine⟨u,_,rfl,.of eu,rfl,_,_,rfl,_,_,rfl,rfl,?_⟩;have L2':Looks CL H' lk dx a p' ns:=L1.go kp el;refine⟨_,rfl,.inl ⟨rfl,_,.of et⟩,_,rfl,_,rfl,_,rfl,_,rfl,_,rfl,lk,dx,a,p',ns,hd,hs,hx1.2,rfl,L2',⟨rs,eh',pr'⟩,ho,λr er v H3 k3 el3 nv=>?_,λpl wd er=>?_⟩
  ·refine⟨sm3,λq hq=>?_⟩;have s1:=zM hq (.tup [.int hx1.1,.int hx1.2,v]);have et3:=s1 _ _ (k3 tl _ (Ne.symm nlt) et);have len:vs.length<=16:=by
    have:=Paired.len pf;rw[wM,yL]at this;lia
   refine⟨tl,vs,_,rfl,rfl,et3,Ep (by lia),?_⟩;have tq:AT H3 (upd (upd H3 q (.tup [.int hx1.1,.int hx1.2,v])) tl (.lst (vs++[.ref q]))):=.trans (.same s1) (.upd et3);have tp:=AT.trans (.keep el k3) tq;have ntq:tl≠q:=zZ (k3 tl _ (Ne.symm nlt) et) hq;have nql:lk≠q:=zZ el3 hq;refine⟨done++[r.1],_,r.2,_,_,rfl,hi,by simp[hn],(kp.trans (k3.trans (jX.same s1))).fresh nHt,?_,?_,Paired.imp (λ_ _ z=>z.tups tp) pr',zH,?_,?_⟩
   ·rw[zW nlt];exact s1 _ _ el3
   ·rw[zW nht];exact s1 _ _ (k3 hd _ nhl eh')
   ·rw[tk,List.zip_append (by rw[yL];lia)];exact Dy (Paired.imp (λ_ _ z=>z.tups tp) pf) ⟨q,v,rfl,by rw[zW (Ne.symm ntq)];exact zH,nv.tups tq⟩
   ·rw[eq,dr]
    conv=>lhs;unfold qL
    rw[er];simp only;cases qL ns hs (hs.drop (i+1)) r.2 with
    |error b=>rfl
    |ok r=>show Except.ok _=Except.ok _;rw[yA];rfl
  ·refine bad kp ?_;rw[ef,eq,dr]
   conv=>lhs;unfold qL
   rw[er];rfl
 ·rintro σ' H' ⟨done,vs,p',v4,v5,rfl,_,hn,kp,el,eh',pr',et,pf,eq⟩;rw[lr,AN]at eq;have eq':qL ns hs hs (1+2*hs.length)=.ok (done,p'):=by rw[eq];show Except.ok (done++[],p')=_;rw[yV]
  have ea:H' a=some (.lst (ns.map V.int)):=kp a _ nla L1.2;have hz:(ns.map V.int).length =ns.length:=zF ..;refine⟨_,rfl,lk,CL,dx,_,_,rfl,el,T.look,T.lplace,rfl,_,rfl,a,_,rfl,.inl (.of ea),_,_,rfl,rfl,_,rfl,kH (λc=>?_) (λc=>?_)⟩
  ·have c':p'<ns.length:=by have:=zO c;lia
   refine⟨_,rfl,lk,CL,dx,_,_,rfl,el,T.look,T.lplace,rfl,sm2,Lk (bad (p:=p') (wd:="over") kp ?_) (jX.refl _ _)⟩;rw[ef,eq'];exact zQ c'
  ·refine⟨_,rfl,t1 (hs,done) ?_ tl H' (same0 (k1.trans kp)) nH0 ⟨vs,et,by show hs.length=done.length;lia,?_⟩⟩
   ·rw[ef,eq'];exact zN λz=>c (xI (by lia))
   ·rw[lr,xZ]at pf;exact pf
end
section
variable {P:Program}{w:World}{K:PySem.W.Frag}{mg:Str->Option Value}{base:Heap}{f:Addr}{fd:FuncData}
theorem Rq (T:Km K mg)(F:wE K "is_head" "is_head" JJ f fd):uE P w K mg base 1 f fd ["head","function","many_rows"] GP:=by
 refine F.oN Et λcdv A outer s H vs Q E hr h=>?_;obtain⟨t,s,p,b,fn,nr,rfl,ht,q⟩:=h;refine⟨_,(zE (AR (pv 0) (uJ rfl (yR (Ar 3 Et.nd) (yR (Ar 4 Et.nd) (yR (Ar 5 Et.nd) qP)))))
   (zE (xS (PW.pt (vO (vH DZ (pv 3) zK) (qT (vH MV (pv 3) (pv 2))))) (zJ (zV qG)) yI)
   (zE (uA 6 Et.nd (Pu (vH kW (pv 1) zK) zK (zX rfl T.m_MOST_PARAMS)))
   (zJ (zV (BO (BN Fa Fa zK (pv 4) (pv 6)) (Fg (BN Fa Fa (pv 4) (pv 5) (zX rfl T.m_MOST_BOXES))))))))),?_⟩
 try dsimp only[Ah,Ai]
 refine⟨_,rfl,t,_,rfl,uS.of ht,rfl,_,_,rfl,_,_,rfl,_,_,rfl,rfl,?_⟩;have no: ∀{z:Prop},z->(z-> ¬IG s p b fn nr)->Q (.bl false) H:=λc g=>q false ⟨λe=>(nomatch e),λe=>absurd e (g c)⟩;refine⟨_,rfl,_,_,rfl,rfl,_,rfl,kH (λc=>?_) (λc=>?_)⟩
 ·exact qO (no (zO c) λc e=>by obtain⟨e,_⟩:=e;lia)
 have c1:=df c;refine⟨_,rfl,_,rfl,_,_,rfl,rfl,_,rfl,kH (λc=>?_) (λc=>?_)⟩
 ·exact no (zO c) λc e=>by obtain⟨_,e,_⟩:=e;lia
 have c2:=df c;refine⟨_,rfl,rfl,_,rfl,kH (λc3=>?_) (λc3=>?_)⟩
 ·have e:=vt c3;dsimp only[tC,BE,ZU,Vr];refine EB 0 p 0 (λR h=>h) (λR h=>⟨_,rfl,h⟩) (λR h=>⟨_,rfl,h⟩) λr z=>⟨_,rfl,kH (λc=>?_) (λc=>?_)⟩
  ·have c':=z.mp c;exact EB p b 12 (λR h=>⟨_,rfl,h⟩) (λR h=>⟨_,rfl,h⟩) (λR h=>h) λr z=>q r (z.trans (by unfold IG;lia))
  ·exact no (λy=>c (z.mpr y)) λc y=>c (by unfold IG at y;lia)
 ·have e:=vf c3;dsimp only[tC,BE,ZU,Vr];refine EB 0 p 4 (λR h=>h) (λR h=>⟨_,rfl,h⟩) (λR h=>⟨_,rfl,h⟩) λr z=>⟨_,rfl,kH (λc=>?_) (λc=>?_)⟩
  ·have c':=z.mp c;exact EB p b 12 (λR h=>⟨_,rfl,h⟩) (λR h=>⟨_,rfl,h⟩) (λR h=>h) λr z=>q r (z.trans (by unfold IG;lia))
  ·exact no (λy=>c (z.mpr y)) λc y=>c (by unfold IG at y;lia)
theorem Wt (T:Km K mg)(F:wE K "stands_alone" "stands_alone" Ew f fd):uE P w K mg base 1 f fd ["op"] NU:=by
 refine F.oN Kp λcdv A outer s H vs Q E hr h=>?_;obtain⟨op,rfl,q⟩:=h;refine⟨_,(zJ (zV (Gv MT (pv 0) (xR (zB (zX rfl T.m_OP_DROP) (zB (zX rfl T.m_OP_BACK) (zB (zX rfl T.m_OP_FAIL) (zB (zX rfl T.m_OP_BREATH) yC))))) rfl))),?_⟩
 try dsimp only[Ah,Ai]
 refine⟨_,rfl,sm4,λu hu=>⟨u,_,rfl,.inr (uS.of zH),rfl,rfl,q _ _ (zM hu _) ?_⟩⟩;have ei:(if false=true then !YG (.int op) ([3,7,8,9].map V.int)else YG (.int op) ([3,7,8,9].map V.int))=decide (op∈[(3:Int),7,8,9]):=Qr op [3,7,8,9];have em:op∈[(3:Int),7,8,9] ↔ op=3\/op=7\/op=8\/op=9:=by simp
 rw[<-em];exact⟨λc=>zO (ei▸c),λc=>ei.trans (xI c)⟩
theorem Ui (T:Km K mg)(F:wE K "is_row" "is_row" Lf f fd)(Cb6:kA P w K mg base 1 "stands_alone" ["op"] NU):uE P w K mg base 2 f fd ["row","many_functions","many_rows"] IN:=by
 refine F.oN JE λcdv A outer s H vs Q E hr h=>?_;obtain⟨t,op,n,nf,nr,rfl,ht,q⟩:=h;refine⟨_,(zE (AR (pv 0) (uJ rfl (yR (Ar 3 JE.nd) (yR (Ar 4 JE.nd) qP))))
   (zE (xS (vH kW (pv 3) (zX rfl T.m_OP_PUSH)) (zJ (zV qG)) yI)
   (zE (xS (PW.pt (vO (vH kW (pv 3) (zX rfl T.m_OP_GET)) (qT (vH kW (pv 3) (zX rfl T.m_OP_SET))))) (zJ (zV (BN Fa DZ zK (pv 4) (zX rfl T.m_MOST_BOXES)))) yI)
   (zE (xS (PW.pt (vO (vH kW (pv 3) (zX rfl T.m_OP_JUMP)) (qT (vH kW (pv 3) (zX rfl T.m_OP_UNLESS))))) (zJ (zV (BN Fa DZ zK (pv 4) (pv 2)))) yI)
   (zE (xS (vH kW (pv 3) (zX rfl T.m_OP_CALL)) (zJ (zV (BN Fa DZ zK (pv 4) (pv 1)))) yI)
   (zE (xS (vH kW (pv 3) (zX rfl T.m_OP_DO)) (zJ (zV (BN Fa Fa (zX rfl T.m_ADD) (pv 4) (zX rfl T.m_NEW)))) yI)
   (zE (xS (vH kW (pv 3) (zX rfl T.m_OP_PICK)) (zJ (zV (BN Fa Fa (zX rfl T.m_LEAST_PICK) (pv 4) (zX rfl T.m_MOST_MANY)))) yI)
   (zJ (zV (BO (cN Cb6 hr (kG (pv 3))) (Fg (Gv kW (pv 4) zK (IC _))))))))))))),?_⟩
 try dsimp only[Ah,Ai]
 refine⟨_,rfl,t,_,rfl,uS.of ht,rfl,_,_,rfl,_,_,rfl,rfl,?_⟩;have go: ∀(r:Bool),(r=true ↔ BG op n nf nr)->Q (.bl r) H:=λr e=>q r H (yU.refl H) e;refine⟨_,rfl,rfl,_,rfl,kH (λc=>?_) (λc=>?_)⟩
 ·have e:=vt c;exact go true ⟨λ_=>.inl e,λ_=>rfl⟩
 have n0:=vf c;refine⟨_,rfl,rfl,_,rfl,kH (λc=>qO ?_) (λc=>?_)⟩
 ·have e:=vt c;exact FP 0 n 12 (λR h=>h) (λR h=>⟨_,rfl,h⟩) (λR h=>h) λr z=>go r (z.trans (by subst e;simp[BG]))
 have n1:=vf c;refine⟨_,rfl,rfl,_,rfl,kH (λc=>?_) (λc=>?_)⟩
 ·have e:=vt c;exact FP 0 n 12 (λR h=>h) (λR h=>⟨_,rfl,h⟩) (λR h=>h) λr z=>go r (z.trans (by subst e;simp[BG]))
 have n2:=vf c;refine⟨_,rfl,rfl,_,rfl,kH (λc=>qO ?_) (λc=>?_)⟩
 ·have e:=vt c;exact FP 0 n nr (λR h=>h) (λR h=>⟨_,rfl,h⟩) (λR h=>⟨_,rfl,h⟩) λr z=>go r (z.trans (by subst e;simp[BG]))
 have n4:=vf c;refine⟨_,rfl,rfl,_,rfl,kH (λc=>?_) (λc=>?_)⟩
 ·have e:=vt c;exact FP 0 n nr (λR h=>h) (λR h=>⟨_,rfl,h⟩) (λR h=>⟨_,rfl,h⟩) λr z=>go r (z.trans (by subst e;simp[BG]))
 have n5:=vf c;refine⟨_,rfl,rfl,_,rfl,kH (λc=>?_) (λc=>?_)⟩
 ·have e:=vt c;exact FP 0 n nf (λR h=>h) (λR h=>⟨_,rfl,h⟩) (λR h=>⟨_,rfl,h⟩) λr z=>go r (z.trans (by subst e;simp[BG]))
 have n6:=vf c;refine⟨_,rfl,rfl,_,rfl,kH (λc=>?_) (λc=>?_)⟩
 ·have e:=vt c;exact EB 8 n 19 (λR h=>h) (λR h=>⟨_,rfl,h⟩) (λR h=>h) λr z=>go r (z.trans (by subst e;simp[BG]))
 have n10:=vf c;refine⟨_,rfl,rfl,_,rfl,kH (λc=>?_) (λc=>?_)⟩
 ·have e:=vt c;exact EB 2 n 12 (λR h=>h) (λR h=>⟨_,rfl,h⟩) (λR h=>h) λr z=>go r (z.trans (by subst e;simp[BG]))
 have n11:=vf c;refine⟨_,rfl,op,rfl,λr H' g z=>⟨_,rfl,?_⟩⟩;cases r with
 |true=>
  have m:=z.mp rfl;refine qO ⟨_,rfl,rfl,q _ _ g ?_⟩;rw[OM,beq_iff_eq]
  rcases m with rfl|rfl|rfl|rfl<;>simp[BG]
 |false=>
  have m: ¬(op=3\/op=7\/op=8\/op=9):=λy=>nomatch z.mpr y;refine wD (q _ _ g ⟨λe=>(nomatch e),λe=>absurd e ?_⟩)
  simp [*, BG]
theorem Rs (T:Km K mg)(F:wE K "grouped" "grouped" HC f fd):uE P w K mg base 1 f fd ["numbers","size"] HA:=by
 refine F.oN Rb λcdv A outer s H vs Q E hr h=>?_;obtain⟨a,ns,k,rfl,hk,ha,hl,q⟩:=h;refine⟨_,(zJ (zV (Dk (own:=["at"]) (ys:=["numbers","size"]) rfl (Yc rfl T.n_range (zB zK (zB (yS yM rfl T.n_len jZ (kG (pv 0))) (zB (pv 1) yC)))) (vI (sc:=zR HC) rfl (by decide+kernel)) (.cons (j:=0) rfl (.cons (j:=1) rfl .nil)) (λ_ _ _ _ _=>(vB (i:=0) (show List.Nodup [("at":Str),("numbers":Str),("size":Str)]from(by decide+kernel)) rfl (Or.inl rfl))) (λ_ _ _ _ _=>Bi) (λ_ _ _ _ _=>(HF (Mc K rfl) rfl T.n_tuple FS (kG (vP (Vw K rfl) (pv 1) (uD (pv 0)) (uD (xQ qM (pv 0) (pv 2)))))))))),?_⟩
 try dsimp only[Ah,Ai]
 have hz:(ns.map V.int).length =ns.length:=zF ..;refine⟨_,rfl,a,_,rfl,.inl (kS.of ha),_,rfl,_,_,_,(ns.length+(k-1)) / k,rfl,⟨by lia,by lia,by lia,by lia⟩,by lia,by rw[hz];exact Mm hk,λp hp=>?_⟩;have hap:a≠p:=λz=>by rw[z,hp]at ha;cases ha
 refine UK (λi σ' H'=> ∃ys,H' p=some (.lst ys)/\i<=(ns.length+(k-1)) / k/\yU H H'/\Paired (Eb H') ys ((GB k ns).take i)/\ ∃x,σ'=[x,some (.ref a),some (.int k)]) ⟨[],zH,xH _,zM hp _,.nil,_,rfl⟩ ?_ ?_
 ·rintro i σ' H' hi ⟨ys,hy,_,sm,pr,x,rfl⟩;have ea:(0:Int)+(i:Int)*(k:Int)=((i*k:Nat):Int):=by rw[Int.zero_add,Int.natCast_mul]
  have eb:(0:Int)+(i:Int)*(k:Int)+(k:Int)=((i*k+k:Nat):Int):=by rw[ea,Int.natCast_add]
  have ec:=QE ns (i*k) (i*k+k);rw[<-ea,<-eb,Gd]at ec;dsimp only[BE,TJ];refine qO ⟨_,rfl,_,rfl,_,rfl,_,rfl,_,rfl,_,_,rfl,rfl,_,rfl,a,_,rfl,kS.of (sm _ _ ha),λl hl1=>?_⟩;rw[ec];refine⟨l,_,rfl,.inl ⟨kS.of zH,λl2 hl2=>?_⟩⟩;have s1:yU H' (upd (upd H' l (.lst (((ns.drop (i*k)).take k).map V.int))) l2 (.tup (((ns.drop (i*k)).take k).map V.int))):=(zM hl1 _).trans (zM hl2 _);have hy':=s1 _ _ hy;have yl:ys.length<=1000000:=by
   have e1:=Paired.len pr;have e2:=List.length_take_le i (GB k ns);have e3:(ns.length+(k-1)) / k<=1000000:=by rcases hk with rfl|rfl<;>lia
   lia
  refine⟨ys,hy',xB yl (by decide),CW.next hi ⟨_,zH,hi,?_,?_,_,rfl⟩⟩
  ·exact(sm.trans s1).fresh hp
  ·rw[WW hi];refine Paired.append (Paired.imp (λ_ _ x=>(x.same s1).upd hy') pr) (.cons ?_ .nil);exact Eb.upd ⟨l2,rfl,zH⟩ hy'
 ·rintro σ' H' ⟨ys,hy,_,sm,pr,_⟩;have ht:(GB k ns).take ((ns.length+(k-1)) / k)=GB k ns:=xJ (by unfold GB;simp);rw[ht]at pr;exact q p H' sm hp ⟨ys,hy,pr⟩
theorem PR (T:Km K mg)(F:wE K "heads_in" "heads_in" Iz f fd)(Ca5:kA P w K mg base 1 "grouped" ["numbers","size"] HA):uE P w K mg base 2 f fd ["numbers"] Eo:=by
 refine F.oN Pe λcdv A outer s H vs Q E hr h=>?_;obtain⟨a,ns,rfl,ha,hl,⟨n,ms,e,hn,hn'⟩,q⟩:=h;refine⟨_,(zJ (zV (cN Ca5 hr (kO (vP Di (pv 0) (uD zK) (uD (xQ qM zK (xQ Hh (zX rfl T.m_HEAD_SIZE) (Am kQ (pv 0) zK))))) (zX rfl T.m_HEAD_SIZE))))),?_⟩
 try dsimp only[Ah,Ai]
 refine⟨_,rfl,_,rfl,_,rfl,a,_,_,_,rfl,rfl,kS.of ha,OP e,_,_,rfl,rfl,zBe hn hn',_,_,rfl,rfl,_,rfl,a,_,rfl,kS.of ha,λl hl1=>?_⟩;rw[WU e hn];have hh:(headNums ns).length<=ns.length:=by unfold headNums;simp;lia
 exact⟨l,headNums ns,3,rfl,.inr rfl,zH,by lia,λr H' g1 g2 g3=>q r H' ((zM hl1 _).trans g1) ((zM hl1 _).free g2) g3⟩
theorem Rm (T:Km K mg)(F:wE K "rows_in" "rows_in" JH f fd)(Ca5:kA P w K mg base 1 "grouped" ["numbers","size"] HA):uE P w K mg base 2 f fd ["numbers"] Fz:=by
 refine F.oN QZ λcdv A outer s H vs Q E hr h=>?_;obtain⟨a,ns,rfl,ha,hl,⟨n,ms,e,hn,hn'⟩,q⟩:=h;refine⟨_,(zJ (zV (cN Ca5 hr (kO (vP Di (pv 0) (uD (xQ qM zK (xQ Hh (zX rfl T.m_HEAD_SIZE) (Am kQ (pv 0) zK)))) Bj) (zX rfl T.m_ROW_SIZE))))),?_⟩
 try dsimp only[Ah,Ai]
 refine⟨_,rfl,_,rfl,a,_,_,_,rfl,rfl,kS.of ha,OP e,_,_,rfl,rfl,zBe hn hn',_,_,rfl,rfl,_,rfl,a,_,rfl,kS.of ha,λl hl1=>?_⟩;rw[XW e hn];have hh:(rowNums ns).length<=ns.length:=by unfold rowNums;simp
 exact⟨l,rowNums ns,2,rfl,.inl rfl,zH,by lia,λr H' g1 g2 g3=>q r H' ((zM hl1 _).trans g1) ((zM hl1 _).free g2) g3⟩
theorem Ud (T:Km K mg)(TK:Zb K)(F:wE K "is_whole" "is_whole" Gn f fd):uE P w K mg base 1 f fd ["thing"] (IM K):=by
 refine F.oN Kb λcdv A outer s H vs Q E hr h=>?_;obtain⟨v,rfl,⟨t,m,ty⟩,q⟩:=h;refine⟨_,(zJ (zV (BO (yS EC rfl T.n_isinstance jN (kO (pv 0) (Bk (v:=.ty "int") rfl T.n_int Xr rfl))) (Fg (VV (yS EC rfl T.n_isinstance jN (kO (pv 0) (Bk (v:=.ty "bool") rfl T.n_bool To rfl)))))))),?_⟩
 try dsimp only[Ah,Ai]
 rw[ty.wh]at q;refine⟨_,rfl,.inl ⟨_,_,_,_,rfl,ty,TK.ki t m,_,rfl,?_⟩⟩
 by_cases c:(t=="int" || t=="bool")=true
 ·rw[zQ c];refine⟨_,rfl,.inl ⟨_,_,_,_,rfl,ty,TK.kb t m,_,rfl,?_⟩⟩;have e:(!(t=="bool"))=(t=="int"):=by
   unfold BP at m;simp only[Fv,Dd,or_false]at m
   rcases m with rfl|rfl|rfl|rfl|rfl|rfl|rfl
   ·rfl
   ·rfl
   all_goals exact absurd c (by decide)
  rw[e];exact q
 ·rw[zN c];have c1:(t=="int" || t=="bool")=false:=Bool.eq_false_iff.mpr c;have c2:(t=="int")=false:=by
   rw[Ay]at c1;exact c1.1
  rw[c2]at q;exact q
theorem Rk (T:Km K mg)(TK:Zb K)(F:wE K "is_list_of_wholes" "is_list_of_wholes" uC f fd)(Cs:kA P w K mg base 1 "is_whole" ["thing"] (IM K)):uE P w K mg base 2 f fd ["thing"] (Hy K):=by
 refine F.oN GW λcdv A outer s H vs Q E hr h=>?_;obtain⟨v,o,rfl,th,q⟩:=h;refine⟨_,(zJ (zV (BO (yS EC rfl T.n_isinstance jN (kO (pv 0) (Bk (v:=.ty "list") rfl T.n_list KK rfl))) (Fg (yS (FR rfl) rfl T.n_all JS (kG (Dk (own:=["number"]) (ys:=[]) rfl (AE (pv 0)) (vI (sc:=zR uC) rfl (by decide+kernel)) .nil (λ_ _ _ _ _=>(vB (i:=0) (show List.Nodup [("number":Str)]from(by decide+kernel)) rfl (Or.inl rfl))) (λ_ _ _ _ _=>Bi) (λ_ _ _ _ _=>(cN Cs hr (kG (pv 0))))))))))),?_⟩
 try dsimp only[Ah,Ai]
 cases th with
 |@no _ t m n ty=>
  refine⟨_,rfl,.inl ⟨_,_,_,_,rfl,ty,TK.kl t m,_,rfl,?_⟩⟩;have e:(t=="list")=false:=beq_eq_false_iff_ne.mpr n;rw[e,zN (by decide)];exact q H λ_ _ e=>e
 |@yes a xs ha k hl=>
  refine⟨_,rfl,.inl ⟨_,_,_,true,rfl,.lst ha,T.klist,_,rfl,qO ?_⟩⟩;refine⟨_,rfl,a,rfl,⟨_,kS.of ha⟩,λp hp=>?_⟩;refine Hu (xs:=xs) (λi σ' H'=>H'=upd H p (.lst (((xs.take i).map HQ).map V.bl))/\ ∃x,σ'=[x]) ⟨rfl,_,rfl⟩ ?_ ?_ ?_
  ·rintro i σ' H' _ ⟨rfl,_⟩;exact kS.of (zM hp _ _ _ ha)
  ·rintro i x σ' H' hi hx ⟨rfl,y,rfl⟩;dsimp only[BE,TJ];refine qO ⟨_,rfl,x,rfl,(k x (xL hx)).same (zM hp _),_,zH,?_,CW.next hi ⟨?_,_,rfl⟩⟩
   ·rw[zF,zF,yL];exact xB (DU ..) (yJ hi (yO hl (by decide)))
   ·have e:xs.take (i+1)=xs.take i++[x]:=by rw[wF,hx]<;>rfl
    rw[e,yP,yP,Kw]<;>rfl
  ·rintro σ' H' ⟨rfl,_⟩;refine⟨p,_,rfl,kS.of zH,?_⟩;have e:((xs.take xs.length).map HQ).all id=xs.all HQ:=by
    rw[xZ,List.all_map]<;>rfl
   rw[e];exact q _ (zM hp _)
theorem Rr (T:Km K mg)(F:wE K "is_code" "is_code" CP f fd)(Cg:kA P w K mg base 2 "is_list_of_wholes" ["thing"] KN)(Ck:kA P w K mg base 2 "heads_in" ["numbers"] Eo)(Cn:kA P w K mg base 2 "rows_in" ["numbers"] Fz)
  (Cq:kA P w K mg base 1 "is_head" ["head","function","many_rows"] GP) (Cv:kA P w K mg base 2 "is_row" ["row","many_functions","many_rows"] IN):uE P w K mg base 3 f fd ["thing"] GQ:=by
 refine F.oN vX λcdv A outer s H vs Q E hr h=>?_;obtain⟨a,ns,rfl,ha,hl,q⟩:=h;refine⟨_,(zE (xS (PW.pt (vO (wK (qW (cN Cg hr (kG (pv 0))))) (qT (vH kW (yS yM rfl T.n_len jZ (kG (pv 0))) zK)))) (zJ (zV qG)) yI)
   (zE (xS (PW.pt (vO (vH DZ (Am kQ (pv 0) zK) zK) (qT (vH MU (Am kQ (pv 0) zK) (zX rfl T.m_MOST_FUNCTIONS))))) (zJ (zV qG)) yI)
   (zE (uA 1 vX.nd (xQ CU (xQ CU (yS yM rfl T.n_len jZ (kG (pv 0))) zK) (xQ Hh (zX rfl T.m_HEAD_SIZE) (Am kQ (pv 0) zK))))
   (zE (xS (PW.pt (vO (vH DZ (pv 1) (zX rfl T.m_ROW_SIZE)) (qT (vH Ia (xQ Hi (pv 1) (zX rfl T.m_ROW_SIZE)) zK)))) (zJ (zV qG)) yI)
   (zE (Ol (i:=2) vX.nd rfl (Or.inr rfl) (xQ FF (pv 1) (zX rfl T.m_ROW_SIZE)))
   (zE (wL xP rfl (SJ rfl T.n_enumerate (kG (cN Ck hr (kG (pv 0))))) (uJ rfl (yR (Ar 3 vX.nd) (yR (Ar 4 vX.nd) qP))) (zJ (xS (wK (qW (cN Cq hr (zB (pv 4) (zB (pv 3) (zB (pv 2) yC)))))) (zJ (zV qG)) yI)))
   (zJ (zV (yS (FR rfl) rfl T.n_all JS (kG (Dk (own:=["row"]) (ys:=["many_rows","thing"]) rfl (AE (cN Cn hr (kG (pv 0)))) (vI (sc:=zR CP) rfl (by decide+kernel)) (.cons (j:=2) rfl (.cons (j:=0) rfl .nil)) (λ_ _ _ _ _=>(vB (i:=0) (show List.Nodup [("row":Str),("many_rows":Str),("thing":Str)]from(by decide+kernel)) rfl (Or.inl rfl))) (λ_ _ _ _ _=>Bi) (λ_ _ _ _ _=>(cN Cv hr (zB (pv 0) (zB (Am (Qn K rfl) (pv 2) zK) (zB (pv 1) yC)))))))))))))))),?_⟩
 try dsimp only[Ah,Ai]
 refine⟨_,rfl,a,ns,rfl,ha,hl,λH1 g1=>⟨_,rfl,wD ?_⟩⟩;have bad: ∀H',yU H H'-> ¬DQ ns->Q (.bl false) H':=λH' g c=>q false H' g ⟨λe=>(nomatch e),λe=>absurd e c⟩;have ha1:=g1 _ _ ha;refine⟨_,rfl,a,_,rfl,.inl (kS.of ha1),rfl,_,rfl,kH (λc=>?_) (λc=>?_)⟩
 ·have e0:=vt c;refine bad H1 g1 λz=>?_;obtain⟨n,ms,e,_⟩:=z.big;rw[e]at e0;rw[zF,zI]at e0;lia
 have e0:=vf c;obtain⟨n,ms,e⟩: ∃n ms,ns=n::ms:=by
  cases ns with
  |nil=>exact absurd rfl e0
  |cons n ms=>exact⟨n,ms,rfl⟩
 have a0:=OP e;refine⟨_,rfl,a,_,_,_,rfl,rfl,kS.of ha1,a0,_,_,rfl,rfl,_,rfl,kH (λc=>qO ?_) (λc=>?_)⟩
 ·have c':=zO c;refine bad H1 g1 λz=>?_;obtain⟨n',ms',e',h1,_⟩:=z.big;rw[e]at e';injection e' with e' _
  lia
 have n1:=df c;refine⟨_,rfl,a,_,_,_,rfl,rfl,kS.of ha1,a0,_,_,rfl,rfl,_,rfl,kH (λc=>?_) (λc=>?_)⟩
 ·have c':=zO c;refine bad H1 g1 λz=>?_;obtain⟨n',ms',e',_,h1,_⟩:=z.big;rw[e]at e';injection e' with e' _
  lia
 have n16:=df c;have hlen:((ns.map V.int).length:Int)=ms.length+1:=by rw[e,zF,zI]<;>rfl
 refine⟨_,rfl,a,_,rfl,.inl (kS.of ha1),_,_,rfl,rfl,_,rfl,a,_,_,_,rfl,rfl,kS.of ha1,a0,_,_,rfl,rfl,zBe (by lia) (by lia),_,_,rfl,rfl,?_⟩;refine⟨_,rfl,_,_,rfl,rfl,_,rfl,kH (λc=>qO ?_) (λc=>?_)⟩
 ·have c':=zO c;refine bad H1 g1 λz=>?_;obtain⟨n',ms',e',_,_,h1,_⟩:=z.big;rw[e]at e';injection e' with e' e''
  subst e' e'';lia
 have n2:=df c;refine⟨_,rfl,_,_,rfl,rfl,(by decide:(0:Int)<2),rfl,_,rfl,kH (λc=>?_) (λc=>?_)⟩
 ·have c':(((ns.map V.int).length:Int)-1-3*n) % 2≠0:=λz=>by
   have y:decide (V.int ((((ns.map V.int).length:Int)-1-3*n) % 2)=V.int 0)=true:=xI (by rw[z]);have c2:(!decide (V.int ((((ns.map V.int).length:Int)-1-3*n) % 2)=V.int 0))=true:=c;rw[y]at c2;exact nomatch c2
  refine bad H1 g1 λz=>?_;obtain⟨n',ms',e',_,_,_,h1⟩:=z.big;rw[e]at e';injection e' with e' e''
  subst e' e'';lia
 have even:(((ns.map V.int).length:Int)-1-3*n) % 2=0:=EM λz=>c (by
  have:decide (V.int ((((ns.map V.int).length:Int)-1-3*n) % 2)=V.int 0)=false:=jH λy=>by injection y with y;exact z y
  show(!decide (V.int ((((ns.map V.int).length:Int)-1-3*n) % 2)=V.int 0))=true;rw[this]<;>rfl)
 have hR:(rowNums ns).length =ms.length-3*n.toNat:=by
  rw[e];show(List.drop (1+3*n.toNat) (n::ms)).length =_;rw[kE,zI];lia
 have hHd:(headNums ns).length =3*n.toNat:=by
  rw[e];show(List.take (3*n.toNat) ms).length =_;rw[yL];lia
 have hN:(ns.headD 0).toNat =n.toNat:=by rw[e]<;>rfl
 have big: ∃n ms,ns=n::ms/\1<=n/\n<=16/\3*n+2<=ms.length/\(ms.length-3*n.toNat) % 2=0:=⟨n,ms,e,by lia,by lia,by lia,by lia⟩;obtain⟨mr,emr⟩: ∃mr:Nat,(((ns.map V.int).length:Int)-1-3*n) / 2=(mr:Int)/\mr=(rowNums ns).length / 2:=⟨(rowNums ns).length / 2,by lia,rfl⟩;have hm:yU H H1/\(∃n ms,ns=n::ms/\0<=n/\n<=16):=⟨g1,n,ms,e,by lia,by lia⟩;refine⟨_,rfl,_,_,rfl,rfl,⟨by decide,by decide⟩,?_⟩;refine⟨_,rfl,a,ns,rfl,ha1,hl,hm.2,λl H2 g2 hl2 at2=>?_⟩;obtain⟨rs,er,pr⟩:=at2;obtain⟨em1,em2⟩:=emr;have g12:=g1.trans g2;have ltH: ∀j g,(GB 3 (headNums ns))[j]? =some g->j<rs.length:=λj g hg=>by
  rw[Paired.len pr];exact(List.getElem?_eq_some_iff.mp hg).1
 refine⟨l,rs,rfl,kS.of er,Xd (xs:=rs) (λi σ' H'=> ∃v3 v4,σ'=[some (.ref a),some (.int (((ns.map V.int).length:Int)-1-3*n)),some (.int (mr:Int)),v3,v4]/\yU H2 H'/\ ∀j g,j<i->(GB 3 (headNums ns))[j]? =some g->RL g j mr) ⟨_,_,by rw[<-em1];rfl,yU.refl _,λj g z=>absurd z (DT j)⟩ ?_ ?_ ?_⟩
 ·rintro i σ' H' _ ⟨v3,v4,rfl,g,_⟩;exact kS.of (g _ _ er)
 ·rintro i x σ' H' t hx ⟨v3,v4,rfl,g3,hb⟩ ht;obtain⟨gx,hg,th,rfl,eth⟩:=Paired.yonder pr hx;obtain⟨s0,p0,b0,rfl⟩:=zHt (Td (.inr rfl) (by rw[hHd];lia) hg);have g4:=g3.trans (zM ht (.tup [.int (i:Nat),.ref th]));refine⟨t,_,rfl,uS.of zH,rfl,_,_,rfl,_,_,rfl,rfl,?_⟩;refine⟨_,rfl,_,rfl,_,rfl,th,s0,p0,b0,i,mr,rfl,g4 _ _ eth,λr z=>⟨_,rfl,?_⟩⟩;cases r with
  |false=>
   refine qO (bad _ (g12.trans g4) λy=>?_);obtain⟨s1,p1,b1,e1,ok⟩:=y.heads i _ hg;cases e1;rw[<-em2]at ok;exact nomatch z.mpr ok
  |true=>
   refine wD ⟨_,_,rfl,g4,λj g hj hg'=>?_⟩
   by_cases hji:j<i
   ·exact hb j g hji hg'
   ·have:j=i:=by lia
    subst this;rw[hg]at hg';cases hg';exact⟨s0,p0,b0,rfl,z.mp rfl⟩
 ·rintro σ' H' ⟨v3,v4,rfl,g3,hb⟩;have ha3:=g3 _ _ (g12 _ _ ha);refine⟨_,rfl,a,ns,rfl,ha3,hl,hm.2,λl3 H3 g4 hl3 at3=>?_⟩;obtain⟨rs2,er2,pr2⟩:=at3;have ltR: ∀j g,(GB 2 (rowNums ns))[j]? =some g->j<rs2.length:=λj g hg=>by
   rw[Paired.len pr2];exact(List.getElem?_eq_some_iff.mp hg).1
  have rl:rs2.length<=1000000:=by
   rw[Paired.len pr2,Ta,hR];rw[e,zI]at hl;lia
  refine⟨l3,rfl,⟨_,kS.of er2⟩,λp hp=>?_⟩;refine Hu (xs:=rs2) (λi σ' H'=> ∃bs:List Bool,H' p=some (.lst (bs.map V.bl))/\bs.length=i/\yU H3 H'/\(bs.all id=true ↔∀j g,j<i->(GB 2 (rowNums ns))[j]? =some g->CH g n.toNat mr)/\ ∃x,σ'=[x,some (.int (mr:Int)),some (.ref a)]) ⟨[],zH,rfl,zM hp _,⟨λ_ j g z=>absurd z (DT j),λ_=>rfl⟩,_,rfl⟩ ?_ ?_ ?_
  ·rintro i σ' H' _ ⟨bs,_,_,g,_⟩;exact kS.of (g _ _ er2)
  ·rintro i x σ' H' hi hx ⟨bs,eb,lb,g5,ib,y,rfl⟩;obtain⟨gx,hg,th,rfl,eth⟩:=Paired.yonder pr2 hx;obtain⟨op,nu,rfl⟩:=zHu (Td (.inl rfl) (by rw[hR];lia) hg);dsimp only[BE,TJ];refine qO ⟨_,rfl,_,rfl,a,_,_,_,rfl,rfl,kS.of (g5 _ _ (g4 _ _ ha3)),a0,_,rfl,th,op,nu,n,mr,rfl,g5 _ _ eth,λr H5 g6 z=>?_⟩;refine⟨_,g6 _ _ eb,?_,CW.next hi ⟨bs++[r],?_,?_,(g5.trans g6).fresh hp,?_,_,rfl⟩⟩
   ·rw[zF,lb];exact yJ hi (yO rl (by decide))
   ·rw[yP];exact zH
   ·rw[zD,lb]<;>rfl
   ·have hnn:((n.toNat:Nat):Int)=n:=by lia
    rw[Xv,ib,z];constructor
    ·rintro⟨h1,h2⟩ j g hj hg'
     by_cases hji:j<i
     ·exact h1 j g hji hg'
     ·have:j=i:=by lia
      subst this;rw[hg]at hg';cases hg';exact⟨op,nu,rfl,by rw[hnn];exact h2⟩
    ·intro h;refine⟨λj g hj hg'=>h j g (by lia) hg',?_⟩;obtain⟨o1,n1',e1,ok⟩:=h i _ (Dc i) hg;cases e1;rw[hnn]at ok;exact ok
  ·rintro σ' H' ⟨bs,eb,lb,g5,ib,_⟩;refine⟨p,bs,rfl,kS.of eb,q _ _ (g12.trans (g3.trans (g4.trans g5))) (ib.trans ⟨λh=>⟨big,λj g hg=>?_,λg hg=>?_⟩,λz j g hj hg=>?_⟩)⟩
   ·rw[<-em2];exact hb j g (ltH j g hg) hg
   ·obtain⟨j,hj⟩:=List.mem_iff_getElem?.mp hg;rw[hN,<-em2];exact h j g (ltR j g hj) hj
   ·have:=z.rows g (List.mem_iff_getElem?.mpr ⟨j,hg⟩);rw[hN,<-em2]at this;exact this
theorem Bb.ex {k:Nat}{ps:List Str}{sp:Nat->Sp}{sp':Sp}(F: ∀d,uE P w K mg base k f fd ps (sp d))(h: ∀vs H Q E,sp' vs H Q E-> ∃d,sp d vs H Q E):uE P w K mg base k f fd ps sp':=
 ⟨λvs H Q E q=>let⟨d,z⟩:=h vs H Q E q;(F d).len vs H Q E z,λA outer s H args us vs Q E hr he hb hv hs=>let⟨d,z⟩:=h vs H Q E hs;(F d).run A outer s H args us vs Q E hr he hb hv z⟩
theorem QK.imp {x:Str}{k:Nat}{ps:List Str}{sp sp':Sp}(C:kA P w K mg base k x ps sp)(h: ∀vs H Q E,sp' vs H Q E->sp vs H Q E):kA P w K mg base k x ps sp':=by
 obtain⟨f,fd,F,m,kk,b⟩:=C.ex;exact⟨⟨f,fd,F.imp h,m,kk,b⟩⟩
theorem PQ (T:Km K mg)(F:wE K "is_code" "is_code" CP f fd)(Cg:kA P w K mg base 2 "is_list_of_wholes" ["thing"] (Hy K))(Ck:kA P w K mg base 2 "heads_in" ["numbers"] Eo)(Cn:kA P w K mg base 2 "rows_in" ["numbers"] Fz)
  (Cq:kA P w K mg base 1 "is_head" ["head","function","many_rows"] GP) (Cv:kA P w K mg base 2 "is_row" ["row","many_functions","many_rows"] IN):uE P w K mg base 3 f fd ["thing"] (JB K):=by
 refine F.oN vX λcdv A outer s H vs Q E hr h=>?_;obtain⟨v,o,rfl,th,no,q⟩:=h;refine⟨_,(zE (xS (PW.pt (vO (wK (qW (cN Cg hr (kG (pv 0))))) (qT (vH kW (yS yM rfl T.n_len jZ (kG (pv 0))) zK)))) (zJ (zV qG)) yI)
   (zE (xS (PW.pt (vO (vH DZ (Am kQ (pv 0) zK) zK) (qT (vH MU (Am kQ (pv 0) zK) (zX rfl T.m_MOST_FUNCTIONS))))) (zJ (zV qG)) yI)
   (zE (uA 1 vX.nd (xQ CU (xQ CU (yS yM rfl T.n_len jZ (kG (pv 0))) zK) (xQ Hh (zX rfl T.m_HEAD_SIZE) (Am kQ (pv 0) zK))))
   (zE (xS (PW.pt (vO (vH DZ (pv 1) (zX rfl T.m_ROW_SIZE)) (qT (vH Ia (xQ Hi (pv 1) (zX rfl T.m_ROW_SIZE)) zK)))) (zJ (zV qG)) yI)
   (zE (Ol (i:=2) vX.nd rfl (Or.inr rfl) (xQ FF (pv 1) (zX rfl T.m_ROW_SIZE)))
   (zE (wL xP rfl (SJ rfl T.n_enumerate (kG (cN Ck hr (kG (pv 0))))) (uJ rfl (yR (Ar 3 vX.nd) (yR (Ar 4 vX.nd) qP))) (zJ (xS (wK (qW (cN Cq hr (zB (pv 4) (zB (pv 3) (zB (pv 2) yC)))))) (zJ (zV qG)) yI)))
   (zJ (zV (yS (FR rfl) rfl T.n_all JS (kG (Dk (own:=["row"]) (ys:=["many_rows","thing"]) rfl (AE (cN Cn hr (kG (pv 0)))) (vI (sc:=zR CP) rfl (by decide+kernel)) (.cons (j:=2) rfl (.cons (j:=0) rfl .nil)) (λ_ _ _ _ _=>(vB (i:=0) (show List.Nodup [("row":Str),("many_rows":Str),("thing":Str)]from(by decide+kernel)) rfl (Or.inl rfl))) (λ_ _ _ _ _=>Bi) (λ_ _ _ _ _=>(cN Cv hr (zB (pv 0) (zB (Am (Qn K rfl) (pv 2) zK) (zB (pv 1) yC)))))))))))))))),?_⟩
 try dsimp only[Ah,Ai]
 refine⟨_,rfl,v,o,rfl,th,λH1 g1=>⟨_,rfl,?_⟩⟩;have e:NE o=false:=by
  cases o with
  |none=>rfl
  |some xs=>
   cases c:xs.all HQ with
   |false=>exact c
   |true=>
    obtain⟨ns,rfl⟩:=Xu c;exact absurd rfl (no ns)
 rw[e];exact qO (q H1 g1)
theorem PP (T:Km K mg)(F:wE K "is_code" "is_code" CP f fd)(Cg:kA P w K mg base 2 "is_list_of_wholes" ["thing"] (Hy K))(Ck:kA P w K mg base 2 "heads_in" ["numbers"] Eo)(Cn:kA P w K mg base 2 "rows_in" ["numbers"] Fz)
  (Cq:kA P w K mg base 1 "is_head" ["head","function","many_rows"] GP) (Cv:kA P w K mg base 2 "is_row" ["row","many_functions","many_rows"] IN):uE P w K mg base 3 f fd ["thing"] (FB K):=by
 have h0:=Rr T F (QK.imp Cg (sp':=KN) λvs H Q E ⟨a,ns,e,ha,hl,q⟩=>⟨.ref a,_,e,Ba.ints ha hl,λH' g=>by rw[show NE (some (ns.map V.int))=true from YF ns];exact q H' g⟩) Ck Cn Cq Cv;have h1:=PQ T F Cg Ck Cn Cq Cv;refine Bb.ex (sp:=λd=>match d with|0=>GQ|_=>JB K) (λd=>?_) (λvs H Q E h=>?_)
 ·cases d with
  |zero=>exact h0
  |succ d=>exact h1
 ·obtain⟨v,o,rfl,th,q⟩:=h
  by_cases c: ∃ns:List Int,o=some (ns.map V.int)
  ·obtain⟨ns,rfl⟩:=c;cases th with
   |yes e k l=>exact⟨0,_,ns,rfl,e,by rw[zF]at l;exact l,λr H' g z=>q r H' g (z.trans codeV_ints.symm)⟩
  ·exact⟨1,v,o,rfl,th,λns e=>c ⟨ns,e⟩,λH' g=>q false H' g ⟨λe=>(nomatch e),fun⟨ns,e,_⟩=>absurd ⟨ns,e⟩ c⟩⟩
theorem WM (T:Km K mg){H:Hp}{a:Addr}{xs:List V}(h:Sq K H a xs): ∃TT,((TT="list"/\ ∃ys,kS K H a ys)\/(TT="tuple"/\ ∃ys,uS K H a ys))/\PySem.W.kitAny K (.type TT) (["list","tuple"].map Value.type)=some true:=by
 rcases h with h|h
 ·exact⟨"list",.inl ⟨rfl,xs,h⟩,T.kal⟩
 ·exact⟨"tuple",.inr ⟨rfl,xs,h⟩,T.kat⟩
theorem Uh (T:Km K mg)(F:wE K "joined" "joined" Le f fd):uE P w K mg base 1 f fd ["things","size"] (KS K):=by
 refine F.oN JD λcdv A outer s H vs Q E hr h=>?_;obtain⟨a,gs,xs,k,rfl,hq,pr,hg,hgl,hk,q⟩:=h;refine⟨_,(zE (xS (wK (qW (yS Nv rfl T.n_isinstance jN (kO (pv 0) (xR (kO (Bk (v:=.ty "list") rfl T.n_list KK rfl) (Bk (v:=.ty "tuple") rfl T.n_tuple FS rfl))))))) (zJ Lo) yI)
   (zE (uA 2 JD.nd (jE yC))
   (zE (wL xP rfl (zAq (pv 0)) (Ar 3 JD.nd) (zE (xS (PW.pt (vO (wK (qW (yS Nv rfl T.n_isinstance jN (kO (pv 3) (xR (kO (Bk (v:=.ty "list") rfl T.n_list KK rfl) (Bk (v:=.ty "tuple") rfl T.n_tuple FS rfl))))))) (qT (vH Ia (yS yM rfl T.n_len jZ (kG (pv 3))) (pv 1))))) (zJ Lo) yI)
   (zJ (jF (Al zY Fs Fq Ry (pv 2) (kG (pv 3)))))))
   (zJ (zV (pv 2)))))),?_⟩
 try dsimp only[Ah,Ai]
 refine⟨_,rfl,sm2,λtp htp=>?_⟩;have g1:=zM htp (.tup (["list","tuple"].map V.ty));obtain⟨TT,h1,h2⟩:=WM T (Sq.same g1 hq);refine⟨a,tp,["list","tuple"],true,TT,rfl,zH,h1,h2,_,rfl,wD ?_⟩;refine⟨sm0,λl hl1=>?_⟩;have s1:yU H (upd (upd H tp (.tup (["list","tuple"].map V.ty))) l (.lst [])):=g1.trans (zM hl1 _);have hl0:H l=none:=g1.free hl1;refine⟨_,rfl,a,rfl,YI (xs:=xs) hq (λi σ' H'=> ∃v3,σ'=[some (.ref a),some (.int (k:Nat)),some (.ref l),v3]/\H' l=some (.lst ((gs.take i).flatten.map V.int))/\yU H H') ⟨_,rfl,zH,s1⟩ ?_ ?_ ?_⟩
 ·rintro i σ' H' _ ⟨v3,rfl,el,sm⟩;exact sm
 ·rintro i x σ' H' hx ⟨v3,rfl,el,sm⟩;obtain⟨g,hgx,t,rfl,ht⟩:=Paired.yonder pr hx;have hlg:=hg g (List.mem_iff_getElem?.mpr ⟨_,hgx⟩);refine⟨_,rfl,sm2,λtp2 htp2=>?_⟩;have g2:=zM htp2 (.tup (["list","tuple"].map V.ty));have hsq:Sq K (upd H' tp2 (.tup (["list","tuple"].map V.ty))) t (g.map V.int):=ht.imp (λe=>kS.of (g2 _ _ (sm _ _ e))) (λe=>uS.of (g2 _ _ (sm _ _ e)));obtain⟨TT,h1,h2⟩:=WM T hsq;refine⟨t,tp2,["list","tuple"],true,TT,rfl,zH,h1,h2,_,rfl,wD ?_⟩;refine⟨_,rfl,t,_,rfl,hsq,_,rfl,rfl,_,rfl,WL (qI V.int (by rw[zF,hlg])) ?_⟩;have hl':=g2 _ _ el;have hfl:(gs.take i).flatten.length<=3000:=by
   rw[Ht (k:=k) λx hx=>hg x (List.mem_of_mem_take hx)];have:(gs.take i).length<=1000:=yO (List.length_take_le' ..) hgl;exact yO (Nat.mul_le_mul this hk) (by decide)
  have hb:((gs.take i).flatten.map V.int).length +(g.map V.int).length<=sizeLine:=by
   rw[zF,zF,hlg];exact yO (show _<=3003 by lia) (by decide)
  have en:((gs.take i).flatten.map V.int)++(g.map V.int)=(gs.take (i+1)).flatten.map V.int:=by rw[YK hgx,yP]
  refine⟨_,rfl,.inl ⟨rfl,_,kS.of hl'⟩,_,rfl,?_⟩
  rcases ht with ht|ht
  ·refine .inl ⟨l,t,_,_,rfl,rfl,hl',g2 _ _ (sm _ _ ht),hb,?_⟩;rw[en];exact⟨_,rfl,zH,(sm.trans g2).fresh hl0⟩
  ·refine .inr ⟨l,t,_,_,rfl,rfl,hl',g2 _ _ (sm _ _ ht),hb,?_⟩;rw[en];exact⟨_,rfl,zH,(sm.trans g2).fresh hl0⟩
 ·rintro σ' H' ⟨v3,rfl,el,sm⟩;have e:gs.take xs.length=gs:=xJ (by rw[Paired.len pr];exact zP _);rw[e]at el;exact⟨_,rfl,q l H' sm hl0 el⟩
theorem Rt (T:Km K mg)(F:wE K "code_of" "code_of" JK f fd)(Cc4:kA P w K mg base 1 "joined" ["things","size"] (KS K))(Cw:kA P w K mg base 3 "is_code" ["thing"] GQ):uE P w K mg base 4 f fd ["heads","rows"] (IQ K):=by
 refine F.oN Ip λcdv A outer s H vs Q E hr h=>?_;obtain⟨a,b,hs,rs,xs,ys,rfl,hqa,pra,h3,ha3,hqb,prb,h2,hb2,hk,q⟩:=h;refine⟨_,(zE (uA 2 Ip.nd (cN Cc4 hr (kO (pv 0) (zX rfl T.m_HEAD_SIZE))))
   (zE (uA 3 Ip.nd (xQ AS (xQ AS (jE (kG (xQ FF (yS yM rfl T.n_len jZ (kG (pv 2))) (zX rfl T.m_HEAD_SIZE)))) (pv 2)) (cN Cc4 hr (kO (pv 1) (zX rfl T.m_ROW_SIZE)))))
   (zE (xS (wK (qW (cN Cw hr (kG (pv 3))))) (zJ Lo) yI)
   (zJ (zV (pv 3)))))),?_⟩
 try dsimp only[Ah,Ai]
 refine⟨_,rfl,a,hs,xs,3,rfl,hqa,pra,h3,ha3,by decide,λl H1 g1 hl1 el=>?_⟩;have lh:=Ht h3;have lr:=Ht h2;have e3:((hs.flatten.map V.int).length:Int) / 3=hs.length:=by rw[zF,lh];lia
 refine⟨_,rfl,l,_,rfl,.inl (kS.of el),_,_,rfl,rfl,⟨by decide,by decide⟩,sm1,λo ho=>?_⟩;have eo:upd H1 o (.lst [V.int (((hs.flatten.map V.int).length:Int) / 3)]) o=some (.lst [V.int (hs.length:Int)]):=by rw[e3];exact zH
 have g2:yU H1 (upd H1 o (.lst [V.int (((hs.flatten.map V.int).length:Int) / 3)])):=zM ho _;have lz:(hs.flatten.map V.int).length<=3000:=by rw[zF,lh];lia
 have lz2:(rs.flatten.map V.int).length<=2000:=by rw[zF,lr];lia
 refine⟨_,rfl,o,l,_,_,rfl,rfl,eo,g2 _ _ el,yO (show _<=3001 by simp only[zI,DW];lia) (by decide),λo2 ho2=>?_⟩;have g3:=g2.trans (zM ho2 (.lst ([V.int (hs.length:Int)]++hs.flatten.map V.int)));have g13:=g1.trans g3;refine⟨_,rfl,b,rs,ys,2,rfl,Sq.same g13 hqb,Paired.imp (λ_ _ x=>x.same g13) prb,h2,hb2,by decide,λl2 H2 g4 hl2 el2=>?_⟩;refine⟨o2,l2,_,_,rfl,rfl,g4 _ _ zH,el2,yO (show _<=5001 by rw[zD];simp only[zI,DW];lia) (by decide),λo3 ho3=>?_⟩;have ec:[V.int (hs.length:Int)]++hs.flatten.map V.int++rs.flatten.map V.int=(Ea hs rs).map V.int:=by
  unfold Ea;rw[xG,yP,yA]<;>rfl
 rw[ec];have g5:=g13.trans (g4.trans (zM ho3 (.lst ((Ea hs rs).map V.int))));have lc:(Ea hs rs).length<=1000000:=by
  unfold Ea;rw[zI,zD,lh,lr];lia
 refine⟨_,rfl,o3,Ea hs rs,rfl,zH,lc,λr H5 g6 z=>⟨_,rfl,?_⟩⟩;rw[z.mpr hk];exact wD ⟨_,rfl,q o3 H5 (g5.trans g6) ((g13.trans g4).free ho3) (g6 _ _ zH)⟩
structure zCd (K:PySem.W.Frag)(mg:Str->Option Value)(CC:Addr):Prop where
 bare_NoCode:Sh K CC
 m_NoCode:mg "NoCode"=some (.ref CC)
variable {CC:Addr}
theorem OC (T:Km K mg)(TE:zCd K mg CC)(F:wE K "heads_of" "heads_of" Iy f fd)(Cw:kA P w K mg base 3 "is_code" ["thing"] (FB K))(Ck:kA P w K mg base 2 "heads_in" ["numbers"] Eo):uE P w K mg base 4 f fd ["code"] (Il K CC):=by
 refine F.oX Pd λcdv A outer s H vs Q E hr h=>?_;obtain⟨v,o,rfl,th,q,qe⟩:=h;refine⟨_,(zE (xS (wK (qW (jB Cw hr rfl (kG (pv 0)) kZ))) (zJ (MM TE.bare_NoCode rfl TE.m_NoCode)) yI)
   (zJ (zV (jB Ck hr rfl (kG (pv 0)) kZ)))),?_⟩
 try dsimp only[Ah,Ai]
 refine⟨_,rfl,v,o,rfl,th,λr H1 g1 z=>⟨_,rfl,?_⟩⟩
 by_cases c:Ib o
 ·rw[z.mpr c];obtain⟨ns,rfl,hk⟩:=c;obtain⟨n,ms,e,h1,h2,_⟩:=hk.big;cases th with
  |yes ea k l=>
   exact wD ⟨_,rfl,_,ns,rfl,g1 _ _ ea,by rw[zF]at l;exact l,⟨n,ms,e,by lia,by lia⟩,λl H2 g2 hl2 at2=>q ns rfl hk l H2 (g1.trans g2) (g1.free hl2) at2⟩
 ·rw[Bool.eq_false_iff.mpr λy=>c (z.mp y)];exact qO λx hx=>qe c _ (g1.trans (zM hx _))
theorem Py (T:Km K mg)(TE:zCd K mg CC)(F:wE K "rows_of" "rows_of" JG f fd)(Cw:kA P w K mg base 3 "is_code" ["thing"] (FB K))(Cn:kA P w K mg base 2 "rows_in" ["numbers"] Fz):uE P w K mg base 4 f fd ["code"] (Hz K CC):=by
 refine F.oX QY λcdv A outer s H vs Q E hr h=>?_;obtain⟨v,o,rfl,th,q,qe⟩:=h;refine⟨_,(zE (xS (wK (qW (jB Cw hr rfl (kG (pv 0)) kZ))) (zJ (MM TE.bare_NoCode rfl TE.m_NoCode)) yI)
   (zJ (zV (jB Cn hr rfl (kG (pv 0)) kZ)))),?_⟩
 try dsimp only[Ah,Ai]
 refine⟨_,rfl,v,o,rfl,th,λr H1 g1 z=>⟨_,rfl,?_⟩⟩
 by_cases c:Ib o
 ·rw[z.mpr c];obtain⟨ns,rfl,hk⟩:=c;obtain⟨n,ms,e,h1,h2,_⟩:=hk.big;cases th with
  |yes ea k l=>
   exact wD ⟨_,rfl,_,ns,rfl,g1 _ _ ea,by rw[zF]at l;exact l,⟨n,ms,e,by lia,by lia⟩,λl H2 g2 hl2 at2=>q ns rfl hk l H2 (g1.trans g2) (g1.free hl2) at2⟩
 ·rw[Bool.eq_false_iff.mpr λy=>c (z.mp y)];exact qO λx hx=>qe c _ (g1.trans (zM hx _))
end
section
variable {P:Program}{w:World}{K:PySem.W.Frag}{mg:Str->Option Value}{base:Heap}{f:Addr}{fd:FuncData}{aP CL CN CM:Addr}
def zEx (C dx ha ra pa:Addr):HO:=.ins C dx [("heads",.ref ha),("rows",.ref ra),("paper",.ref pa)]
structure JT (K:PySem.W.Frag)(mg:Str->Option Value)(CM:Addr):Prop where
 n_len:mg "len"=none
 n_range:mg "range"=none
 n_enumerate:mg "enumerate"=none
 n_sorted:mg "sorted"=none
 m_NUMBER:qB mg "NUMBER" 0
 m_GET:qB mg "GET" 1
 m_SET:qB mg "SET" 2
 m_ALL:qB mg "ALL" 3
 m_PICK:qB mg "PICK" 4
 m_LOOP:qB mg "LOOP" 5
 m_CALL:qB mg "CALL" 6
 m_FAIL:qB mg "FAIL" 7
 m_OP_PUSH:qB mg "OP_PUSH" 0
 m_OP_GET:qB mg "OP_GET" 1
 m_OP_SET:qB mg "OP_SET" 2
 m_OP_DROP:qB mg "OP_DROP" 3
 m_OP_JUMP:qB mg "OP_JUMP" 4
 m_OP_UNLESS:qB mg "OP_UNLESS" 5
 m_OP_CALL:qB mg "OP_CALL" 6
 m_OP_BACK:qB mg "OP_BACK" 7
 m_OP_FAIL:qB mg "OP_FAIL" 8
 m_OP_BREATH:qB mg "OP_BREATH" 9
 m_OP_DO:qB mg "OP_DO" 10
 m_OP_PICK:qB mg "OP_PICK" 11
 mak:Sl K CM
 mheads:vG K CM "heads"
 mrows:vG K CM "rows"
 mpaper:vG K CM "paper"
def AW (ra pa:Addr)(H H':Hp):Prop:= ∀b o,b≠ra->b≠pa->H b=some o->H' b=some o
theorem AW.trans {ra pa:Addr}{H H1 H2:Hp}(a:AW ra pa H H1)(b:AW ra pa H1 H2):AW ra pa H H2:=λc o n1 n2 e=>b c o n1 n2 (a c o n1 n2 e)
theorem AW.same {ra pa:Addr}{H H1:Hp}(s:yU H H1):AW ra pa H H1:=λc o _ _ e=>s c o e
theorem AW.rows {ra pa:Addr}{H:Hp}{o:HO}:AW ra pa H (upd H ra o):=λc u n _ e=>by rw[zW n];exact e
theorem AW.paper {ra pa:Addr}{H:Hp}{o:HO}:AW ra pa H (upd H pa o):=λc u _ n e=>by rw[zW n];exact e
structure HV (C:Addr)(H:Hp)(mk dx ha ra pa:Addr)(gs ls:List (List Int)):Prop where
 ob:H mk=some (zEx C dx ha ra pa)
 rows:wA H ra gs
 pap:wA H pa ls
 ne:ra≠pa
theorem HV.tups {C:Addr}{H H':Hp}{mk dx ha ra pa:Addr}{gs ls:List (List Int)}(h:HV C H mk dx ha ra pa gs ls)(k:AW ra pa H H'):AT H H':=λb xs e=>by
 obtain⟨rs,er,_⟩:=h.rows;obtain⟨qs,eq,_⟩:=h.pap;exact k b _ (λz=>by rw[z,er]at e;cases e) (λz=>by rw[z,eq]at e;cases e) e
theorem HV.obk {C:Addr}{H H':Hp}{mk dx ha ra pa:Addr}{gs ls:List (List Int)}(h:HV C H mk dx ha ra pa gs ls)(k:AW ra pa H H'):H' mk=some (zEx C dx ha ra pa):=by
 obtain⟨rs,er,_⟩:=h.rows;obtain⟨qs,eq,_⟩:=h.pap;have e:=h.ob;exact k mk _ (λz=>by rw[z,er]at e;cases e) (λz=>by rw[z,eq]at e;cases e) e
theorem HV.same {C:Addr}{H H':Hp}{mk dx ha ra pa:Addr}{gs ls:List (List Int)}(h:HV C H mk dx ha ra pa gs ls)(s:yU H H'):HV C H' mk dx ha ra pa gs ls:=⟨s _ _ h.ob,h.rows.same s,h.pap.same s,h.ne⟩
theorem HV.row {C:Addr}{H:Hp}{mk dx ha ra pa t:Addr}{gs ls:List (List Int)}{g:List Int}{rs:List V}(h:HV C H mk dx ha ra pa gs ls)(et:H t=some (.tup (g.map V.int)))(er:H ra=some (.lst rs)):HV C (upd H ra (.lst (rs++[.ref t]))) mk dx ha ra pa (gs++[g]) ls:=by
 obtain⟨rs',er',pr⟩:=h.rows;rw[er]at er';cases er';refine⟨h.obk AW.rows,wA.push er pr ⟨t,rfl,et⟩,h.pap.put er (Ne.symm h.ne),h.ne⟩
theorem HV.line {C:Addr}{H:Hp}{mk dx ha ra pa t:Addr}{gs ls:List (List Int)}{g:List Int}{rs:List V}(h:HV C H mk dx ha ra pa gs ls)(et:H t=some (.tup (g.map V.int)))(er:H pa=some (.lst rs)):HV C (upd H pa (.lst (rs++[.ref t]))) mk dx ha ra pa gs (ls++[g]):=by
 obtain⟨rs',er',pr⟩:=h.pap;rw[er]at er';cases er';refine⟨h.obk AW.paper,h.rows.put er h.ne,wA.push er pr ⟨t,rfl,et⟩,h.ne⟩
theorem HV.setR {C:Addr}{H:Hp}{mk dx ha ra pa t:Addr}{gs ls:List (List Int)}{g:List Int}{rs:List V}(i:Nat)(h:HV C H mk dx ha ra pa gs ls)(et:H t=some (.tup (g.map V.int)))(er:H ra=some (.lst rs)):HV C (upd H ra (.lst (rs.set i (.ref t)))) mk dx ha ra pa (gs.set i g) ls:=by
 obtain⟨rs',er',pr⟩:=h.rows;rw[er]at er';cases er';refine⟨h.obk AW.rows,wA.setAt i er pr ⟨t,rfl,et⟩,h.pap.put er (Ne.symm h.ne),h.ne⟩
theorem HV.len {C:Addr}{H:Hp}{mk dx ha ra pa:Addr}{gs ls:List (List Int)}{rs:List V}(h:HV C H mk dx ha ra pa gs ls)(er:H ra=some (.lst rs)):rs.length=gs.length:=by
 obtain⟨rs',er',pr⟩:=h.rows;rw[er]at er';cases er';exact Paired.len pr
inductive GL (vs:List V) (H:Hp) (Q:VK) (E:XK):Prop
 |mk (k:Int) (o:Addr) (own:List Int) (hs:wC) (bx:Int) (h0:vs=[.int k,.ref o]) (h1:H o=some (.tup (own.map V.int))) (h2:Hw hs bx k own) (h3:k≠3) (h4:k≠4) (h5:k≠5) (h6: ∀t,H t=none->Q (.ref t) (upd H t (.tup ((HP k own).map V.int)))):GL vs H Q E
theorem Rn (T:JT K mg CM)(F:wE K "own_row" "own_row" JI f fd):uE P w K mg base 1 f fd ["kind","numbers"] GL:=by
 refine F.oN Ra λcdv A outer s H vs Q E hr h=>?_;obtain⟨k,o,own,hs,bx,rfl,ho,of,h3,h4,h5,q⟩:=h;refine⟨_,(zE (xS (vH kW (pv 0) (zX rfl T.m_NUMBER)) (zJ (zV (xR (kO (zX rfl T.m_OP_PUSH) (Am jO (pv 1) zK))))) yI)
   (zE (xS (vH kW (pv 0) (zX rfl T.m_GET)) (zJ (zV (xR (kO (zX rfl T.m_OP_GET) (Am jO (pv 1) zK))))) yI)
   (zE (xS (vH kW (pv 0) (zX rfl T.m_SET)) (zJ (zV (xR (kO (zX rfl T.m_OP_SET) (Am jO (pv 1) zK))))) yI)
   (zE (xS (vH kW (pv 0) (zX rfl T.m_CALL)) (zJ (zV (xR (kO (zX rfl T.m_OP_CALL) (Am jO (pv 1) zK))))) yI)
   (zE (xS (vH kW (pv 0) (zX rfl T.m_FAIL)) (zJ (zV (xR (kO (zX rfl T.m_OP_FAIL) zK)))) yI)
   (zJ (zV (xR (kO (zX rfl T.m_OP_DO) (pv 0)))))))))),?_⟩
 try dsimp only[Ah,Ai]
 have one: ∀n,own=[n]->Jq (own.map V.int) 0=some (.int n):=λn e=>by rw[e];rfl
 have ow: ∀j n:Int,own=[n]->(HP k own)=[j,n]-> ∀t,H t=none->Q (.ref t) (upd H t (.tup [.int j,.int n])):=λj n e er t ht=>by
  have:=q t ht;rw[er]at this;exact this
 refine⟨_,rfl,rfl,_,rfl,kH (λc=>?_) (λc0=>?_)⟩
 ·have e:=vt c;subst e
  rcases of with⟨_,n,en⟩|⟨z,_⟩|⟨z,_⟩|⟨z,_⟩|⟨z,_⟩|⟨z,_⟩<;>try lia
  exact⟨_,rfl,o,_,_,_,rfl,rfl,.of ho,one n en,sm2,ow 0 n en (by rw[en];rfl)⟩
 have n0:=vf c0;refine⟨_,rfl,rfl,_,rfl,kH (λc=>?_) (λc1=>?_)⟩
 ·have e:=vt c;subst e
  rcases of with⟨z,_⟩|⟨_,n,en,_⟩|⟨z,_⟩|⟨z,_⟩|⟨z,_⟩|⟨z,_⟩<;>try lia
  exact⟨_,rfl,o,_,_,_,rfl,rfl,.of ho,one n en,sm2,ow 1 n en (by rw[en];rfl)⟩
 have n1:=vf c1;refine⟨_,rfl,rfl,_,rfl,kH (λc=>?_) (λc2=>?_)⟩
 ·have e:=vt c;subst e
  rcases of with⟨z,_⟩|⟨_,n,en,_⟩|⟨z,_⟩|⟨z,_⟩|⟨z,_⟩|⟨z,_⟩<;>try lia
  exact⟨_,rfl,o,_,_,_,rfl,rfl,.of ho,one n en,sm2,ow 2 n en (by rw[en];rfl)⟩
 have n2:=vf c2;refine⟨_,rfl,rfl,_,rfl,kH (λc=>?_) (λc6=>?_)⟩
 ·have e:=vt c;subst e
  rcases of with⟨z,_⟩|⟨z,_⟩|⟨z,_⟩|⟨z,_⟩|⟨_,n,en,_⟩|⟨z,_⟩<;>try lia
  exact⟨_,rfl,o,_,_,_,rfl,rfl,.of ho,one n en,sm2,ow 6 n en (by rw[en];rfl)⟩
 have n6:=vf c6;refine⟨_,rfl,rfl,_,rfl,kH (λc=>?_) (λc7=>?_)⟩
 ·have e:=vt c;subst e;exact⟨sm2,q⟩
 have n7:=vf c7;refine⟨_,rfl,sm2,λt ht=>?_⟩;have:=q t ht;have er:HP k own=[10,k]:=by
  unfold HP;rw[zN (by lia),zN n6,zN n7]
 rw[er]at this;exact this
inductive IP (CM:Addr) (vs:List V) (H:Hp) (Q:VK) (E:XK):Prop
 |mk (x dx:_) (h0:vs=[.ref x]) (h1:H x=some (.ins CM dx [])) (h2: ∀(ha ra pa:Addr) (H':Hp),H ha=none->H ra=none->H pa=none->ha≠ra->ha≠pa->(∀b o,b≠x->H b=some o->H' b=some o)->HV CM H' x dx ha ra pa [] []->H' ha=some (.lst [])->Q .non H'):IP CM vs H Q E
theorem Wn (T:JT K mg CM)(F:wE K "__init__" "Making.__init__" BM f fd):uE P w K mg base 1 f fd ["self"] (IP CM):=by
 refine F.oN Iq λcdv A outer s H vs Q E hr h=>?_;obtain⟨x,dx,rfl,hx,q⟩:=h;refine⟨_,(zE (Gs (pv 0) (jE yC) rfl)
   (zE (Gs (pv 0) (jE yC) rfl)
   (zJ (Gs (pv 0) (jE yC) rfl)))),?_⟩
 try dsimp only[Ah,Ai]
 refine⟨sm0,λha hha=>⟨_,rfl,x,CM,dx,_,rfl,zM hha _ _ _ hx,T.mak,T.mheads,(show 0<1000 by decide),?_⟩⟩;have nx:x≠ha:=zZ hx hha;refine⟨sm0,λra hra=>⟨_,rfl,x,CM,dx,_,rfl,zM hra _ _ _ zH,T.mak,T.mrows,(show 1<1000 by decide),?_⟩⟩;have nxr:x≠ra:=λz=>by rw[<-z,zH]at hra;cases hra
 rw[zW (Ne.symm nxr)]at hra;have nhr:ha≠ra:=λz=>by rw[<-z,zH]at hra;cases hra
 rw[zW (Ne.symm nhr)]at hra;refine⟨sm0,λpa hpa=>⟨_,rfl,x,CM,dx,_,rfl,zM hpa _ _ _ zH,T.mak,T.mpaper,(show 2<1000 by decide),?_⟩⟩;have nxp:x≠pa:=λz=>by rw[<-z,zH]at hpa;cases hpa
 rw[zW (Ne.symm nxp)]at hpa;have nrp:ra≠pa:=λz=>by rw[<-z,zH]at hpa;cases hpa
 rw[zW (Ne.symm nrp),zW (Ne.symm nxp)]at hpa;have nhp:ha≠pa:=λz=>by rw[<-z,zH]at hpa;cases hpa
 rw[zW (Ne.symm nhp)]at hpa;refine q ha ra pa _ hha hra hpa nhr nhp (λb o nb e=>?_) ⟨zH,⟨[],?_,.nil⟩,⟨[],?_,.nil⟩,nrp⟩ ?_
 ·rw[zW nb,zW (zZ e hpa),zW nb,zW (zZ e hra),zW nb,zW (zZ e hha)];exact e
 ·rw[zW (Ne.symm nxr),zW nrp,zW (Ne.symm nxr)];exact zH
 ·rw[zW (Ne.symm nxp)];exact zH
 ·rw[zW (Ne.symm nx),zW nhp,zW (Ne.symm nx),zW nhr,zW (Ne.symm nx)];exact zH
inductive EN (CM:Addr) (hs:wC) (d:Nat) (vs:List V) (H:Hp) (Q:VK) (E:XK):Prop
 |mk (mk dx ha ra pa:Addr) (v:V) (nd:Nd) (gs ls:List (List Int)) (bx:Int) (h0:vs=[.ref mk,v]) (h1:HV CM H mk dx ha ra pa gs ls) (h2:qA H d v nd) (h3:EE hs bx d (bare nd)) (h4:gs.length+rl (bare nd)<=100000) (h5:ls.length+MW nd<=100000) (h6: ∀H',AW ra pa H H'->HV CM H' mk dx ha ra pa (gs++Ei gs.length (bare nd)) (ls++Kr gs.length nd)->Q .non H'):EN CM hs d vs H Q E
inductive Ky (CM:Addr) (hs:wC) (d:Nat) (k:Int) (ok:List Tr->Prop) (c:Nat->List Tr->List (List Int)) (more:Nat->Nat) (o:Nat) (vs:List V) (H:Hp) (Q:VK) (E:XK):Prop
 |mk (mk dx ha ra pa qa:Addr) (us:List V) (ps:List Nd) (gs ls:List (List Int)) (bx:Int) (h0:vs=[.ref mk,.ref qa]) (h1:HV CM H mk dx ha ra pa gs ls) (h2:H qa=some (.tup us)) (h3:Paired (qA H d) us ps) (h4:uX hs bx d (yX ps)) (h5:ok (yX ps)) (h6:gs.length+qH (yX ps)+more ps.length<=100000) (h7:ls.length+Kd ps<=100000) (h8: ∀H',AW ra pa H H'->HV CM H' mk dx ha ra pa (gs++c gs.length (yX ps)) (ls++Hg k (ps.length-1) 0 (gs.length+o) ps)->Q .non H'):Ky CM hs d k ok c more o vs H Q E
abbrev Sy (CM:Addr)(hs:wC)(d:Nat):Sp:=Ky CM hs d 3 (λps=>ps≠[]) (λb ps=>JO b true ps) (λn=>n-1) 0
abbrev Sx (CM:Addr)(hs:wC)(d:Nat):Sp:=Ky CM hs d 4 (λps=>2<=ps.length) Zw (λn=>2*(n-1)+1) 0
abbrev Sw (CM:Addr)(hs:wC)(d:Nat):Sp:=Ky CM hs d 5 (λps=>ps.length=2) Yy (λn=>5) 1
theorem Ji {hs:wC}{bx:Int}{d:Nat}: ∀{ps:List Nd} {i:Nat} {x:Nd},uX hs bx d (yX ps)->ps[i]? =some x->EE hs bx d (bare x)
 |[],i,x,_,h=>by simp at h
 |p::r,0,x,f,h=>by
  have e:p=x:=by simpa using h
  subst e;rw[show yX (p::r)=bare p::yX r from rfl]at f;unfold uX at f;exact f.1
 |p::r,i+1,x,f,h=>by
  rw[show yX (p::r)=bare p::yX r from rfl]at f;unfold uX at f;exact Ji f.2 (by simpa using h)
theorem Lj (ps:List Nd)(i:Nat):qH (yX (ps.take i))<=qH (yX ps):=by
 have:=IU (yX (ps.take i)) (yX (ps.drop i));rw[<-AI,kJ]at this;lia
theorem LR {ps:List Nd}(i:Nat)(h:DP (yX ps)):DP (yX (ps.take i)):=by
 rw[<-kJ i ps,AI]at h;exact(Te _ _ h).1
theorem LA (ps:List Nd)(i:Nat):Kd (ps.take i)<=Kd ps:=by
 have:=Jc (ps.take i) (ps.drop i);rw[kJ]at this;lia
mutual
theorem Oo: ∀(nd:Nd) (b:Nat),(Kr b nd).length =MW nd
 | .mk k p own ps,b=>by
  unfold Kr MW;rw[zD,HD ps];show _+1=_;lia
theorem HD: ∀(ps:List Nd) (k:Int) (m i b:Nat),(Hg k m i b ps).length =Kd ps
 |[],k,m,i,b=>by unfold Hg Kd;rfl
 |t::r,k,m,i,b=>by
  unfold Hg Kd;rw[zD,Oo t,HD r]
end
theorem MR {F:V->Nd->Prop}{us:List V}{p:Nd}{ps:List Nd}(h:Paired F us (p::ps)): ∃u us',us=u::us'/\F u p/\Paired F us' ps:=by
 cases h with
 |cons a b=>exact⟨_,_,rfl,a,b⟩
theorem at0 {u:V}{l:List V}:Jq (u::l) 0=some u:=by
 show Jq (u::l) ((0:Nat):Int)=some u;exact qF rfl
theorem PL (d:Nat)(T:JT K mg CM){hs:wC}{kk:Nat}(F:wE K "make_all" "make_all" Gm f fd)(Cf:kA P w K mg base kk "make_node" ["making","node"] (EN CM hs d)):uE P w K mg base (kk+1) f fd ["making","parts"] (Sy CM hs d):=by
 refine F.oN Ka λcdv A outer s H vs Q E hr h=>?_;obtain⟨mk,dx,ha,ra,pa,qa,us,ps,gs,ls,bx,rfl,M,eq,pr,ft,ne,z1,z2,q⟩:=h;refine⟨_,(zE (jF (cN Cf hr (kO (pv 0) (Am jO (pv 1) zK))))
   (zJ (wL xP rfl (JM (vP NW (pv 1) (uD zK) Bj)) (Ar 2 Ka.nd) (zE (jF (Al zY yH yF kP (xW (pv 0) rfl) (kG (xR (kO (zX rfl T.m_OP_DROP) zK)))))
   (zJ (jF (cN Cf hr (kO (pv 0) (pv 2))))))))),?_⟩
 try dsimp only[Ah,Ai]
 cases ps with
 |nil=>exact absurd (show yX []=[]from rfl) ne
 |cons p ps=>
 obtain⟨u,us,rfl,pu,pr⟩:=MR pr;rw[show yX (p::ps)=bare p::yX ps from rfl]at ft z1 q;unfold uX at ft;rw[uI]at z1;rw[Au]at z2;rw[zI]at z1 q;have z1:gs.length+(rl (bare p)+qH (yX ps))+(ps.length+1-1)<=100000:=z1;have gd1:=Fl d _ ft.1;have gd2:=KJ d _ ft.2;refine⟨_,rfl,_,rfl,qa,_,_,_,rfl,rfl,.of eq,at0,mk,dx,ha,ra,pa,u,p,gs,ls,bx,rfl,M,pu,ft.1,by lia,by lia,λH1 k1 M1=>?_⟩;have t1:=M.tups k1;have e1:=t1 _ _ eq;refine⟨_,rfl,_,rfl,qa,_,rfl,.of e1,?_,λc hc=>?_⟩
 ·rintro⟨z,_⟩;have:HT.sIx (u::us).length 0 (some (1:Int))=min 1 (u::us).length:=HT.sIx_nat _ _ 1;rw[this,zI]at z;lia
 have ec:DL (u::us) (some (1:Int)) none=us:=FO 1;rw[ec];have sc:=zM hc (.tup us);have M2:=M1.same sc;have k2:AW ra pa H (upd H1 c (.tup us)):=k1.trans (.same sc);have e2:upd H1 c (.tup us) c=some (.tup us):=zH;generalize upd H1 c (.tup us)=H2 at *
 refine⟨c,rfl,⟨_,.of e2⟩,KH (xs:=us) (λi σ' H'=>AW ra pa H H'/\AT H2 H'/\HV CM H' mk dx ha ra pa (gs++JO gs.length true (yX (p::ps.take i))) (ls++Hg 3 (ps.length+1-1) 0 gs.length (p::ps.take i))/\ ∃v,σ'=[some (.ref mk),some (.ref qa),v]) ⟨k2,λ_ _ e=>e,?_,_,rfl⟩ (λi σ' H' hi hh=>.of (hh.2.1 _ _ e2)) ?_ ?_⟩
 ·have a1:JO gs.length true (yX (p::ps.take 0))=Ei gs.length (bare p):=by
   rw[uK];show JO gs.length true [bare p]=_;unfold JO;rw[zQ rfl];unfold JO;rw[yV]
  have a2:Hg 3 (ps.length+1-1) 0 gs.length (p::ps.take 0)=Kr gs.length p:=by
   rw[uK];unfold Hg;unfold Hg;rw[yV]
  rw[a1,a2];exact M2
 ·rintro i v σ' H3 hv ⟨k3,t3,M3,v2,rfl⟩;have hi:=(List.getElem?_eq_some_iff.mp hv).1;have hl:=Paired.len pr;have ex:ps[i]? =some (ps[i]'(by lia)):=zG _;have pv:=Paired.get pr _ _ _ hv ex;have et:ps.take (i+1)=ps.take i++[ps[i]'(by lia)]:=by rw[wF,ex];rfl
  generalize(ps[i]'(by lia))=x at *
  obtain⟨rs,er,_⟩:=id M3.rows;refine⟨_,rfl,mk,CM,dx,_,_,rfl,M3.ob,T.mak,T.mrows,rfl,.inl ⟨rfl,_,.of er⟩,sm2,λt ht=>?_⟩;have s3:=zM ht (.tup [.int 3,.int 0]);have Mt:=M3.same s3;have er3:=s3 _ _ er;have ln:=M3.len er;have lm:(JO gs.length true (yX (p::ps.take i))).length =qH (yX (p::ps.take i))+i:=by
   rw[KC _ _ _ (show DP (yX (p::ps.take i))from by rw[show yX (p::ps.take i)=bare p::yX (ps.take i)from rfl,LS];exact⟨gd1,LR i gd2⟩),zQ rfl,wX,zI,yL];lia
  have lb:qH (yX (p::ps.take i))=rl (bare p)+qH (yX (ps.take i)):=uI _ _;have l1:=Lj ps (i+1);rw[et,AI,IU,show qH (yX [x])=rl (bare x)by rw[show yX [x]=[bare x]from rfl,uI];unfold qH;rfl]at l1;have n1:=LA ps (i+1);rw[et,Jc,show Kd [x]=MW x by rw[Au];unfold Kd;rfl]at n1;rw[zD,lm]at ln;refine⟨ra,rs,_,rfl,rfl,er3,xB (show rs.length<=100000 by lia) (by decide),?_⟩;have M4:=Mt.row (g:=[3,0]) zH er3;have k4:AW ra pa H3 (upd (upd H3 t (.tup [.int 3,.int 0])) ra (.lst (rs++[.ref t]))):=(AW.same s3).trans AW.rows;have t4:=M3.tups k4;have tH:=M.tups (k3.trans k4);generalize upd (upd H3 t (.tup [.int 3,.int 0])) ra (.lst (rs++[.ref t]))=H4 at *
  have l4:(gs++JO gs.length true (yX (p::ps.take i))++[[3,0]]).length =gs.length+qH (yX (p::ps.take i))+i+1:=by
   rw[zD,zD,lm];show gs.length+_+1=_;lia
  refine⟨_,rfl,_,rfl,mk,dx,ha,ra,pa,v,x,_,_,bx,rfl,M4,pv.tups tH,Ji ft.2 ex,by lia,?_,λH5 k5 M5=>⟨k3.trans (k4.trans k5),λb xs e=>M4.tups k5 _ _ (t4 _ _ (t3 _ _ e)),?_,_,rfl⟩⟩
  ·rw[zD,HD,Au];lia
  ·rw[l4]at M5;rw[et];have a1:JO gs.length true (yX (p::(ps.take i++[x])))=JO gs.length true (yX (p::ps.take i))++([3,0]::Ei (gs.length+qH (yX (p::ps.take i))+i+1) (bare x)):=by
    rw[show yX (p::(ps.take i++[x]))=bare p::yX (ps.take i)++[bare x]by rw[<-yY,AI];rfl,WB];rw[show(bare p::yX (ps.take i)).length =i+1 by rw[zI,wX,yL];lia];rfl
   have a2:Hg 3 (ps.length+1-1) 0 gs.length (p::(ps.take i++[x]))=Hg 3 (ps.length+1-1) 0 gs.length (p::ps.take i)++Kr (gs.length+qH (yX (p::ps.take i))+i+1) x:=by
    rw[<-yY,IW,Tq,wX,zI,yL,show min i ps.length+1=i+1 by lia];rfl
   rw[a1,a2];rw[yA,yA]at M5;rw[yA]at M5;exact M5
 ·rintro σ' H3 ⟨k3,t3,M3,v2,rfl⟩;have hl:=Paired.len pr;rw[hl,xZ]at M3;exact q H3 k3 M3
theorem VZ {F:V->Nd->Prop}{us:List V}{ps:List Nd}(h:Paired F us ps)(l:ps.length=2): ∃u v x y,us=[u,v]/\ps=[x,y]/\F u x/\F v y:=by
 cases h with
 |nil=>cases l
 |cons a b=>
  cases b with
  |nil=>cases l
  |cons a2 b2=>
   cases b2 with
   |nil=>exact⟨_,_,_,_,rfl,rfl,a,a2⟩
   |cons _ _=>simp at l
theorem NX {α:Type}(A B:List α)(x g:α){n:Nat}(h:n=A.length):(A++x::B).set n g=A++g::B:=by
 rw[h,List.set_append_right _ _ (zP _),El];rfl
theorem RK {n i:Nat}(h:i<n):UZ n (i:Int)=some i:=by
 unfold UZ;rw[zQ (by lia),zQ (by lia),kL]
theorem at1 {u v:V}{l:List V}:Jq (u::v::l) 1=some v:=by
 show Jq (u::v::l) ((1:Nat):Int)=some v;exact qF rfl
theorem Oz (d:Nat)(T:JT K mg CM){hs:wC}{kk:Nat}(F:wE K "make_loop" "make_loop" EW f fd)(Cf:kA P w K mg base kk "make_node" ["making","node"] (EN CM hs d)):uE P w K mg base (kk+1) f fd ["making","parts"] (Sw CM hs d):=by
 refine F.oN Gh λcdv A outer s H vs Q E hr h=>?_;obtain⟨mk,dx,ha,ra,pa,qa,us,ps,gs,ls,bx,rfl,M,eq,pr,ft,ne,z1,z2,q⟩:=h;refine⟨_,(zE (uA 2 Gh.nd (yS yM rfl T.n_len jZ (kG (xW (pv 0) rfl))))
   (zE (jF (Al zY yH yF kP (xW (pv 0) rfl) (kG (xR (kO (zX rfl T.m_OP_BREATH) zK)))))
   (zE (jF (cN Cf hr (kO (pv 0) (Am jO (pv 1) zK))))
   (zE (uA 3 Gh.nd (yS yM rfl T.n_len jZ (kG (xW (pv 0) rfl))))
   (zE (jF (Al zY yH yF kP (xW (pv 0) rfl) (kG (xR (kO (zX rfl T.m_OP_UNLESS) zK)))))
   (zE (jF (cN Cf hr (kO (pv 0) (Am jO (pv 1) zK))))
   (zE (jF (Al zY yH yF kP (xW (pv 0) rfl) (kG (xR (kO (zX rfl T.m_OP_DROP) zK)))))
   (zE (jF (Al zY yH yF kP (xW (pv 0) rfl) (kG (xR (kO (zX rfl T.m_OP_JUMP) (pv 2))))))
   (zE (AR (xR (kO (zX rfl T.m_OP_UNLESS) (yS yM rfl T.n_len jZ (kG (xW (pv 0) rfl))))) (Lu (xW (pv 0) rfl) (pv 3) GR))
   (zJ (jF (Al zY yH yF kP (xW (pv 0) rfl) (kG (xR (kO (zX rfl T.m_OP_PUSH) zK))))))))))))))),?_⟩
 try dsimp only[Ah,Ai]
 have ne:(yX ps).length =2:=ne;rw[wX]at ne;obtain⟨u,v,x,y,rfl,rfl,px,py⟩:=VZ pr ne;rw[show yX [x,y]=[bare x,bare y]from rfl]at ft z1 q;unfold uX at ft;unfold uX at ft;have z1:gs.length+(rl (bare x)+rl (bare y))+5<=100000:=by
  have:qH [bare x,bare y]=rl (bare x)+rl (bare y):=by rw[uI,uI];unfold qH;rfl
  rw[this]at z1;exact z1
 have z2:ls.length+(MW x+MW y)<=100000:=by
  have:Kd [x,y]=MW x+MW y:=by rw[Au,Au];unfold Kd;rfl
  rw[this]at z2;exact z2
 have gx:=Fl d _ ft.1;have gy:=Fl d _ ft.2.1;obtain⟨rs,er,_⟩:=id M.rows;have ln:=M.len er;refine⟨_,rfl,mk,CM,dx,_,_,rfl,M.ob,T.mak,T.mrows,rfl,ra,_,rfl,.inl (.of er),?_⟩;refine⟨_,rfl,mk,CM,dx,_,_,rfl,M.ob,T.mak,T.mrows,rfl,.inl ⟨rfl,_,.of er⟩,sm2,λt ht=>?_⟩;have s1:=zM ht (.tup [.int 9,.int 0]);refine⟨ra,rs,_,rfl,rfl,s1 _ _ er,xB (show rs.length<=100000 by lia) (by decide),?_⟩;have M1:=(M.same s1).row (g:=[9,0]) zH (s1 _ _ er);have k1:AW ra pa H (upd (upd H t (.tup [.int 9,.int 0])) ra (.lst (rs++[.ref t]))):=(AW.same s1).trans AW.rows;have t1:=M.tups k1;generalize upd (upd H t (.tup [.int 9,.int 0])) ra (.lst (rs++[.ref t]))=H1 at *
 have l1:(gs++[[9,0]]).length =gs.length+1:=by rw[zD];rfl
 refine⟨_,rfl,_,rfl,qa,_,_,_,rfl,rfl,.of (t1 _ _ eq),at0,mk,dx,ha,ra,pa,u,x,_,_,bx,rfl,M1,px.tups t1,ft.1,by lia,by lia,λH2 k2 M2=>?_⟩;rw[l1]at M2;have lx:=AG (bare x) (gs.length+1) gx;have l2:(gs++[[9,0]]++Ei (gs.length+1) (bare x)).length =gs.length+1+rl (bare x):=by rw[zD,l1,lx]
 have t2:=M1.tups k2;obtain⟨r2,e2,_⟩:=id M2.rows;have n2:=M2.len e2;rw[l2]at n2;refine⟨_,rfl,mk,CM,dx,_,_,rfl,M2.ob,T.mak,T.mrows,rfl,ra,_,rfl,.inl (.of e2),?_⟩;refine⟨_,rfl,mk,CM,dx,_,_,rfl,M2.ob,T.mak,T.mrows,rfl,.inl ⟨rfl,_,.of e2⟩,sm2,λt' ht'=>?_⟩;have s2:=zM ht' (.tup [.int 5,.int 0]);refine⟨ra,r2,_,rfl,rfl,s2 _ _ e2,xB (show r2.length<=100000 by lia) (by decide),?_⟩;have M3:=(M2.same s2).row (g:=[5,0]) zH (s2 _ _ e2);have k3:AW ra pa H2 (upd (upd H2 t' (.tup [.int 5,.int 0])) ra (.lst (r2++[.ref t']))):=(AW.same s2).trans AW.rows;have t3:=M2.tups k3;generalize upd (upd H2 t' (.tup [.int 5,.int 0])) ra (.lst (r2++[.ref t']))=H3 at *
 have l3:(gs++[[9,0]]++Ei (gs.length+1) (bare x)++[[5,0]]).length =gs.length+rl (bare x)+2:=by
  rw[zD,l2];show gs.length+1+rl (bare x)+1=_;lia
 have t13:AT H H3:=λb xs e=>t3 _ _ (t2 _ _ (t1 _ _ e));have lq:(ls++Kr (gs.length+1) x).length =ls.length+MW x:=by rw[zD,Oo]
 refine⟨_,rfl,_,rfl,qa,_,_,_,rfl,rfl,.of (t13 _ _ eq),at1,mk,dx,ha,ra,pa,v,y,_,_,bx,rfl,M3,py.tups t13,ft.2.1,by lia,by lia,λH4 k4 M4=>?_⟩;rw[l3]at M4;have ly:=AG (bare y) (gs.length+rl (bare x)+2) gy;have l4:(gs++[[9,0]]++Ei (gs.length+1) (bare x)++[[5,0]]++Ei (gs.length+rl (bare x)+2) (bare y)).length =gs.length+rl (bare x)+2+rl (bare y):=by rw[zD,l3,ly]
 obtain⟨r4,e4,_⟩:=id M4.rows;have n4:=M4.len e4;rw[l4]at n4;refine⟨_,rfl,mk,CM,dx,_,_,rfl,M4.ob,T.mak,T.mrows,rfl,.inl ⟨rfl,_,.of e4⟩,sm2,λt5 ht5=>?_⟩;have s4:=zM ht5 (.tup [.int 3,.int 0]);refine⟨ra,r4,_,rfl,rfl,s4 _ _ e4,xB (show r4.length<=100000 by lia) (by decide),?_⟩;have M5:=(M4.same s4).row (g:=[3,0]) zH (s4 _ _ e4);have k5:AW ra pa H4 (upd (upd H4 t5 (.tup [.int 3,.int 0])) ra (.lst (r4++[.ref t5]))):=(AW.same s4).trans AW.rows;have e5:upd (upd H4 t5 (.tup [.int 3,.int 0])) ra (.lst (r4++[.ref t5])) ra=some (.lst (r4++[.ref t5])):=zH;generalize upd (upd H4 t5 (.tup [.int 3,.int 0])) ra (.lst (r4++[.ref t5]))=H5 at *
 have n5:(r4++[V.ref t5]).length =gs.length+rl (bare x)+rl (bare y)+3:=by
  rw[zD,n4];show _+1=_;lia
 refine⟨_,rfl,mk,CM,dx,_,_,rfl,M5.ob,T.mak,T.mrows,rfl,.inl ⟨rfl,_,.of e5⟩,_,rfl,sm2,λt6 ht6=>?_⟩;rw[ln];have s5:=zM ht6 (.tup [.int 4,.int (gs.length:Nat)]);refine⟨ra,_,_,rfl,rfl,s5 _ _ e5,xB (show(r4++[V.ref t5]).length<=100000 by lia) (by decide),?_⟩;have M6:=(M5.same s5).row (g:=[4,(gs.length:Int)]) zH (s5 _ _ e5);have k6:AW ra pa H5 (upd (upd H5 t6 (.tup [.int 4,.int (gs.length:Nat)])) ra (.lst (r4++[.ref t5]++[.ref t6]))):=(AW.same s5).trans AW.rows;have e6:upd (upd H5 t6 (.tup [.int 4,.int (gs.length:Nat)])) ra (.lst (r4++[.ref t5]++[.ref t6])) ra=some (.lst (r4++[.ref t5]++[.ref t6])):=zH;generalize upd (upd H5 t6 (.tup [.int 4,.int (gs.length:Nat)])) ra (.lst (r4++[.ref t5]++[.ref t6]))=H6 at *
 have n6:(r4++[V.ref t5]++[V.ref t6]).length =gs.length+rl (bare x)+rl (bare y)+4:=by
  rw[zD,n5];rfl
 refine⟨_,rfl,mk,CM,dx,_,_,rfl,M6.ob,T.mak,T.mrows,rfl,ra,_,rfl,.inl (.of e6),sm2,λt7 ht7=>?_⟩;have s6:=zM ht7 (.tup [.int 5,.int ((r4++[V.ref t5]++[V.ref t6]).length:Nat)]);have M6':=M6.same s6;have e6':=s6 _ _ e6;refine⟨_,rfl,mk,CM,dx,_,_,rfl,M6'.ob,T.mak,T.mrows,rfl,_,rfl,ra,_,_,_,rfl,rfl,e6',RK (show r2.length<_ by lia),?_⟩;have M7:=M6'.setR (g:=[5,((r4++[V.ref t5]++[V.ref t6]).length:Nat)]) r2.length zH e6';have k7:AW ra pa H6 (upd (upd H6 t7 (.tup [.int 5,.int ((r4++[V.ref t5]++[V.ref t6]).length:Nat)])) ra (.lst ((r4++[V.ref t5]++[V.ref t6]).set r2.length (.ref t7)))):=(AW.same s6).trans AW.rows;have e7:upd (upd H6 t7 (.tup [.int 5,.int ((r4++[V.ref t5]++[V.ref t6]).length:Nat)])) ra (.lst ((r4++[V.ref t5]++[V.ref t6]).set r2.length (.ref t7))) ra=some (.lst ((r4++[V.ref t5]++[V.ref t6]).set r2.length (.ref t7))):=zH;generalize upd (upd H6 t7 (.tup [.int 5,.int ((r4++[V.ref t5]++[V.ref t6]).length:Nat)])) ra (.lst ((r4++[V.ref t5]++[V.ref t6]).set r2.length (.ref t7)))=H7 at *
 refine⟨_,rfl,mk,CM,dx,_,_,rfl,M7.ob,T.mak,T.mrows,rfl,.inl ⟨rfl,_,.of e7⟩,sm2,λt8 ht8=>?_⟩;have s7:=zM ht8 (.tup [.int 0,.int 0]);refine⟨ra,_,_,rfl,rfl,s7 _ _ e7,by rw[List.length_set];exact xB (show(r4++[V.ref t5]++[V.ref t6]).length<=100000 by lia) (by decide),?_⟩;have M8:=(M7.same s7).row (g:=[0,0]) zH (s7 _ _ e7);refine q _ (k1.trans (k2.trans (k3.trans (k4.trans (k5.trans (k6.trans (k7.trans ((AW.same s7).trans AW.rows)))))))) ?_;have a1:gs++Yy gs.length [bare x,bare y]=((gs++[[9,0]]++Ei (gs.length+1) (bare x)++[[5,0]]++Ei (gs.length+rl (bare x)+2) (bare y)++[[3,0]]++[[4,(gs.length:Int)]]).set r2.length [5,((r4++[V.ref t5]++[V.ref t6]).length:Nat)])++[[0,0]]:=by
  have e0:gs++[[9,0]]++Ei (gs.length+1) (bare x)++[[5,0]]++Ei (gs.length+rl (bare x)+2) (bare y)++[[3,0]]++[[4,(gs.length:Int)]]=(gs++[[9,0]]++Ei (gs.length+1) (bare x))++[5,0]::(Ei (gs.length+rl (bare x)+2) (bare y)++[[3,0]]++[[4,(gs.length:Int)]]):=by simp
  rw[e0,NX _ _ _ _ (by rw[n2,l2])];rw[n6];unfold Yy;rw[uI];unfold MZ;unfold MZ;have r0:qH []=0:=by unfold qH;rfl
  rw[r0,show gs.length+rl (bare x)+(rl (bare y)+0)+4=gs.length+rl (bare x)+rl (bare y)+4 by lia]
  simp
 have a2:Hg 5 ([x,y].length -1) 0 (gs.length+1) [x,y]=Kr (gs.length+1) x++Kr (gs.length+rl (bare x)+2) y:=by
  unfold Hg;unfold Hg;unfold Hg;unfold Wv;rw[zQ (.inr rfl),yV,show gs.length+1+rl (bare x)+1=gs.length+rl (bare x)+2 by lia]
 rw[a1,a2,<-yA];exact M8
theorem zHo {n:Nat}{g:List Int}:List.replicate (n+1) g=List.replicate n g++[g]:=List.replicate_succ'
theorem Oy (d:Nat)(T:JT K mg CM){hs:wC}{kk:Nat}(F:wE K "make_pick" "make_pick" EU f fd)(Cf:kA P w K mg base kk "make_node" ["making","node"] (EN CM hs d)):uE P w K mg base (kk+1) f fd ["making","parts"] (Sx CM hs d):=by
 refine F.oN uN λcdv A outer s H vs Q E hr h=>?_;obtain⟨mk,dx,ha,ra,pa,qa,us,ps,gs,ls,bx,rfl,M,eq,pr,ft,ne,z1,z2,q⟩:=h;refine⟨_,(zE (uA 2 uN.nd (xQ CU (yS yM rfl T.n_len jZ (kG (pv 1))) zK))
   (zE (jF (cN Cf hr (kO (pv 0) (Am jO (pv 1) zK))))
   (zE (jF (Al zY yH yF kP (xW (pv 0) rfl) (kG (xR (kO (zX rfl T.m_OP_PICK) (pv 2))))))
   (zE (uA 3 uN.nd (yS yM rfl T.n_len jZ (kG (xW (pv 0) rfl))))
   (zE (uA 4 uN.nd (xQ qM (pv 3) (pv 2)))
   (zE (wL xP rfl (BC rfl T.n_range (kG (xQ qM (pv 2) zK))) (Ar 5 uN.nd) (zJ (jF (Al zY yH yF kP (xW (pv 0) rfl) (kG (xR (kO (zX rfl T.m_OP_JUMP) zK)))))))
   (zE (wL xP rfl (Ps rfl T.n_enumerate (kG (vP NW (pv 1) (uD zK) Bj))) (uJ rfl (yR (Ar 6 uN.nd) (yR (Ar 7 uN.nd) qP))) (zE (Lp (xS (vH MU (pv 6) zK) (zJ (jF (Al zY yH yF kP (xW (pv 0) rfl) (kG (xR (kO (zX rfl T.m_OP_JUMP) (pv 4))))))) yI))
   (zE (AR (xR (kO (zX rfl T.m_OP_JUMP) (yS yM rfl T.n_len jZ (kG (xW (pv 0) rfl))))) (Lu (xW (pv 0) rfl) (xQ qM (pv 3) (pv 6)) GR))
   (zJ (jF (cN Cf hr (kO (pv 0) (pv 7))))))))
   (zJ (AR (xR (kO (zX rfl T.m_OP_JUMP) (yS yM rfl T.n_len jZ (kG (xW (pv 0) rfl))))) (Lu (xW (pv 0) rfl) (pv 4) GR)))))))))),?_⟩
 try dsimp only[Ah,Ai]
 have ne:2<=(yX ps).length:=ne;rw[wX]at ne;cases ps with
 |nil=>cases ne
 |cons p ps=>
 obtain⟨u,us,rfl,pu,pr⟩:=MR pr;rw[show yX (p::ps)=bare p::yX ps from rfl]at ft z1 q;unfold uX at ft;rw[uI]at z1;rw[Au]at z2;rw[zI]at z1 q ne;have z1:gs.length+(rl (bare p)+qH (yX ps))+(2*(ps.length+1-1)+1)<=100000:=z1;have gd1:=Fl d _ ft.1;have gd2:=KJ d _ ft.2;have hl:=Paired.len pr;refine⟨_,rfl,qa,_,rfl,.inr (.of eq),_,_,rfl,rfl,?_⟩;have em:(((u::us).length:Nat):Int)-1=(ps.length:Nat):=by rw[zI,hl];lia
 dsimp only[BE,List.set];rw[em];refine⟨_,rfl,_,rfl,qa,_,_,_,rfl,rfl,.of eq,at0,mk,dx,ha,ra,pa,u,p,gs,ls,bx,rfl,M,pu,ft.1,by lia,by lia,λH1 k1 M1=>?_⟩;have lx:=AG (bare p) gs.length gd1;have l1:(gs++Ei gs.length (bare p)).length =gs.length+rl (bare p):=by rw[zD,lx]
 have t1:=M.tups k1;obtain⟨r1,e1,_⟩:=id M1.rows;have n1:=M1.len e1;rw[l1]at n1;refine⟨_,rfl,mk,CM,dx,_,_,rfl,M1.ob,T.mak,T.mrows,rfl,.inl ⟨rfl,_,.of e1⟩,_,rfl,sm2,λt2 ht2=>?_⟩;have s1:=zM ht2 (.tup [.int 11,.int (ps.length:Nat)]);refine⟨ra,r1,_,rfl,rfl,s1 _ _ e1,xB (show r1.length<=100000 by lia) (by decide),?_⟩;have M2:=(M1.same s1).row (g:=[11,(ps.length:Int)]) zH (s1 _ _ e1);have k2:AW ra pa H1 (upd (upd H1 t2 (.tup [.int 11,.int (ps.length:Nat)])) ra (.lst (r1++[.ref t2]))):=(AW.same s1).trans AW.rows;have e2:upd (upd H1 t2 (.tup [.int 11,.int (ps.length:Nat)])) ra (.lst (r1++[.ref t2])) ra=some (.lst (r1++[.ref t2])):=zH;generalize upd (upd H1 t2 (.tup [.int 11,.int (ps.length:Nat)])) ra (.lst (r1++[.ref t2]))=H2 at *
 have n2:(r1++[V.ref t2]).length =gs.length+rl (bare p)+1:=by
  rw[zD,n1];rfl
 refine⟨_,rfl,mk,CM,dx,_,_,rfl,M2.ob,T.mak,T.mrows,rfl,ra,_,rfl,.inl (.of e2),?_⟩;rw[n2];refine⟨_,rfl,_,rfl,_,_,rfl,rfl,?_⟩;refine⟨_,rfl,_,_,rfl,rfl,_,rfl,by lia,by lia,?_⟩;have l2:(gs++Ei gs.length (bare p)++[[11,(ps.length:Int)]]).length =gs.length+rl (bare p)+1:=by
  rw[zD,l1];rfl
 generalize hG:gs++Ei gs.length (bare p)++[[11,(ps.length:Int)]]=G1 at *
 refine CY (lo:=0) (n:=((ps.length:Int)+1).toNat) (λi σ' H'=>AW ra pa H2 H'/\HV CM H' mk dx ha ra pa (G1++List.replicate i [4,0]) (ls++Kr gs.length p)/\ ∃v5,σ'=[some (.ref mk),some (.ref qa),some (.int (ps.length:Nat)),some (.int ((gs.length+rl (bare p)+1:Nat):Int)),some (.int (((gs.length+rl (bare p)+1:Nat):Int)+(ps.length:Nat))),v5,none,none]) ⟨λ_ _ _ _ e=>e,by rw[List.replicate_zero,yV];exact M2,_,rfl⟩ ?_ ?_
 ·rintro i σ' H3 hi ⟨k3,M3,v5,rfl⟩;obtain⟨r3,e3,_⟩:=id M3.rows;have n3:=M3.len e3;rw[zD,l2,vD]at n3;refine⟨_,rfl,mk,CM,dx,_,_,rfl,M3.ob,T.mak,T.mrows,rfl,.inl ⟨rfl,_,.of e3⟩,sm2,λt ht=>?_⟩;have s3:=zM ht (.tup [.int 4,.int 0]);refine⟨ra,r3,_,rfl,rfl,s3 _ _ e3,xB (show r3.length<=100000 by lia) (by decide),?_⟩;have M4:=(M3.same s3).row (g:=[4,0]) zH (s3 _ _ e3);rw[yA,<-zHo]at M4;exact⟨k3.trans ((AW.same s3).trans AW.rows),M4,_,rfl⟩
 rintro σ' H3 ⟨k3,M3,v5,rfl⟩;rw[show((ps.length:Int)+1).toNat =ps.length+1 by lia]at M3;have t3:AT H H3:=λb xs e=>M2.tups k3 _ _ (M1.tups k2 _ _ (t1 _ _ e));refine⟨_,rfl,_,rfl,qa,_,rfl,.of (t3 _ _ eq),?_,λc hc=>?_⟩
 ·rintro⟨z,_⟩;have:HT.sIx (u::us).length 0 (some (1:Int))=min 1 (u::us).length:=HT.sIx_nat _ _ 1;rw[this,zI]at z;lia
 have ec:DL (u::us) (some (1:Int)) none=us:=FO 1;rw[ec];have sc:=zM hc (.tup us);have M4:=M3.same sc;have k4:AW ra pa H (upd H3 c (.tup us)):=k1.trans (k2.trans (k3.trans (.same sc)));have e4:upd H3 c (.tup us) c=some (.tup us):=zH;generalize upd H3 c (.tup us)=H4 at *
 refine⟨c,_,rfl,.of e4,No (xs:=us) (λi σ' H'=>AW ra pa H H'/\AT H4 H'/\HV CM H' mk dx ha ra pa (G1++(Jn (gs.length+rl (bare p)+ps.length+2) true (yX (ps.take i))).map (λs:Nat=>[4,(s:Int)])++List.replicate (ps.length+1-i) [4,0]++Jo (gs.length+rl (bare p)+ps.length+2) (gs.length+rl (bare p)+ps.length+1) true (yX (ps.take i))) (ls++Hg 4 (ps.length+1-1) 0 gs.length (p::ps.take i))/\
  ∃v5 v6 v7,σ'=[some (.ref mk),some (.ref qa),some (.int (ps.length:Nat)),some (.int ((gs.length+rl (bare p)+1:Nat):Int)),some (.int (((gs.length+rl (bare p)+1:Nat):Int)+(ps.length:Nat))),v5,v6,v7]) ⟨k4,λ_ _ e=>e,?_,_,_,_,rfl⟩ (λi σ' H' _ hh=>.of (hh.2.1 _ _ e4)) ?_ ?_⟩
 ·rw[uK];have a1:yX []=[]:=rfl;have a2:Jn (gs.length+rl (bare p)+ps.length+2) true []=[]:=by unfold Jn;rfl
  have a3:Jo (gs.length+rl (bare p)+ps.length+2) (gs.length+rl (bare p)+ps.length+1) true []=[]:=by unfold Jo;rfl
  have a4:Hg 4 (ps.length+1-1) 0 gs.length [p]=Kr gs.length p:=by
   unfold Hg;unfold Hg;rw[yV]
  rw[a1,a2,a3,a4,List.map_nil,yV,yV,Nat.sub_zero];exact M4
 ·rintro i v σ' H5 tt hv ⟨k5,t5,M5,v5,v6,v7,rfl⟩ htt;have hi:=(List.getElem?_eq_some_iff.mp hv).1;have ex:ps[i]? =some (ps[i]'(by lia)):=zG _;have pv:=Paired.get pr _ _ _ hv ex;have et:ps.take (i+1)=ps.take i++[ps[i]'(by lia)]:=by rw[wF,ex];rfl
  generalize(ps[i]'(by lia))=x at *
  have sT:=zM htt (.tup [.int (i:Nat),v]);have M5':=M5.same sT;have t5':AT H4 (upd H5 tt (.tup [.int (i:Nat),v])):=λb xs e=>sT _ _ (t5 _ _ e);have k5':AW ra pa H (upd H5 tt (.tup [.int (i:Nat),v])):=k5.trans (.same sT);refine⟨tt,_,rfl,.of zH,rfl,_,_,rfl,_,_,rfl,rfl,?_⟩;generalize upd H5 tt (.tup [.int (i:Nat),v])=H6 at *
  have li:(yX (ps.take i)).length =i:=by rw[wX,yL];lia
  have lP:(Jo (gs.length+rl (bare p)+ps.length+2) (gs.length+rl (bare p)+ps.length+1) true (yX (ps.take i))).length =qH (yX (ps.take i))+(i-1):=by rw[Je _ _ _ _ (LR i gd2),zQ rfl,li]
  have lA:(G1++(Jn (gs.length+rl (bare p)+ps.length+2) true (yX (ps.take i))).map (λs:Nat=>[4,(s:Int)])).length =gs.length+rl (bare p)+1+i:=by rw[zD,l2,zF,IX,li]
  have l6:(G1++(Jn (gs.length+rl (bare p)+ps.length+2) true (yX (ps.take i))).map (λs:Nat=>[4,(s:Int)])++List.replicate (ps.length+1-i) [4,0]++Jo (gs.length+rl (bare p)+ps.length+2) (gs.length+rl (bare p)+ps.length+1) true (yX (ps.take i))).length =gs.length+rl (bare p)+ps.length+2+qH (yX (ps.take i))+(i-1):=by
   rw[zD,zD,lA,vD,lP];lia
  have lr:=Lj ps (i+1);rw[et,AI,IU,show qH (yX [x])=rl (bare x)by rw[show yX [x]=[bare x]from rfl,uI];unfold qH;rfl]at lr;have nr:=LA ps (i+1);rw[et,Jc,show Kd [x]=MW x by rw[Au];unfold Kd;rfl]at nr;generalize hA:G1++(Jn (gs.length+rl (bare p)+ps.length+2) true (yX (ps.take i))).map (λs:Nat=>[4,(s:Int)])=A1 at *
  generalize hP:Jo (gs.length+rl (bare p)+ps.length+2) (gs.length+rl (bare p)+ps.length+1) true (yX (ps.take i))=P1 at *
  refine⟨λσ' H'=>AW ra pa H6 H'/\HV CM H' mk dx ha ra pa (A1++List.replicate (ps.length+1-i) [4,0]++P1++(if i=0 then[]else[[4,((gs.length+rl (bare p)+ps.length+1:Nat):Int)]])) (ls++Hg 4 (ps.length+1-1) 0 gs.length (p::ps.take i))/\σ'=[some (.ref mk),some (.ref qa),some (.int (ps.length:Nat)),some (.int ((gs.length+rl (bare p)+1:Nat):Int)),some (.int (((gs.length+rl (bare p)+1:Nat):Int)+(ps.length:Nat))),v5,some (.int (i:Nat)),some v],?_,?_⟩
  ·obtain⟨r6,e6,_⟩:=id M5'.rows;have n6:=M5'.len e6;rw[l6]at n6;refine⟨_,rfl,_,_,rfl,rfl,_,rfl,kH (λc=>?_) (λc=>?_)⟩
   ·have c':(i:Int) > 0:=zO c;refine⟨_,rfl,mk,CM,dx,_,_,rfl,M5'.ob,T.mak,T.mrows,rfl,.inl ⟨rfl,_,.of e6⟩,_,rfl,sm2,λt ht=>?_⟩;have s6:=zM ht (.tup [.int 4,.int (((gs.length+rl (bare p)+1:Nat):Int)+(ps.length:Nat))]);refine⟨ra,r6,_,rfl,rfl,s6 _ _ e6,xB (show r6.length<=100000 by lia) (by decide),?_⟩;have M6:=(M5'.same s6).row (g:=[4,((gs.length+rl (bare p)+1:Nat):Int)+(ps.length:Nat)]) zH (s6 _ _ e6);rw[show((gs.length+rl (bare p)+1:Nat):Int)+(ps.length:Nat)=((gs.length+rl (bare p)+ps.length+1:Nat):Int)by lia]at M6;refine⟨(AW.same s6).trans AW.rows,?_,rfl⟩;rw[zN (by lia),show((gs.length+rl (bare p)+1:Nat):Int)+(ps.length:Nat)=((gs.length+rl (bare p)+ps.length+1:Nat):Int)by lia];exact M6
   ·have c': ¬(i:Int) > 0:=λz=>c (xI z);refine⟨λ_ _ _ _ e=>e,?_,rfl⟩;rw[zQ (by lia),yV];exact M5'
  ·rintro _ H7 ⟨k7,M7,rfl⟩;have l7:(A1++List.replicate (ps.length+1-i) [4,0]++P1++(if i=0 then[]else[[4,((gs.length+rl (bare p)+ps.length+1:Nat):Int)]])).length =gs.length+rl (bare p)+ps.length+2+qH (yX (ps.take i))+i:=by
    rw[zD,l6];split
    ·show _+0=_;lia
    ·show _+1=_;lia
   obtain⟨r7,e7,_⟩:=id M7.rows;have n7:=M7.len e7;rw[l7]at n7;refine⟨_,rfl,mk,CM,dx,_,_,rfl,M7.ob,T.mak,T.mrows,rfl,ra,_,rfl,.inl (.of e7),sm2,λt ht=>?_⟩;have s7:=zM ht (.tup [.int 4,.int (r7.length:Nat)]);have M7':=M7.same s7;have e7':=s7 _ _ e7;refine⟨_,rfl,mk,CM,dx,_,_,rfl,M7'.ob,T.mak,T.mrows,rfl,_,rfl,_,rfl,_,_,rfl,rfl,ra,_,_,gs.length+rl (bare p)+1+i,rfl,rfl,e7',?_,?_⟩
   ·show UZ _ (((gs.length+rl (bare p)+1:Nat):Int)+(i:Nat))=_;rw[show((gs.length+rl (bare p)+1:Nat):Int)+(i:Nat)=((gs.length+rl (bare p)+1+i:Nat):Int)by lia];exact RK (by lia)
   have M8:=M7'.setR (g:=[4,(r7.length:Nat)]) (gs.length+rl (bare p)+1+i) zH e7';have k8:AW ra pa H7 (upd (upd H7 t (.tup [.int 4,.int (r7.length:Nat)])) ra (.lst (r7.set (gs.length+rl (bare p)+1+i) (.ref t)))):=(AW.same s7).trans AW.rows;generalize upd (upd H7 t (.tup [.int 4,.int (r7.length:Nat)])) ra (.lst (r7.set (gs.length+rl (bare p)+1+i) (.ref t)))=H8 at *
   have es:(A1++List.replicate (ps.length+1-i) [4,0]++P1++(if i=0 then[]else[[4,((gs.length+rl (bare p)+ps.length+1:Nat):Int)]])).set (gs.length+rl (bare p)+1+i) [4,(r7.length:Nat)]=A1++[[4,((gs.length+rl (bare p)+ps.length+2+qH (yX (ps.take i))+i:Nat):Int)]]++List.replicate (ps.length+1-(i+1)) [4,0]++P1++(if i=0 then[]else[[4,((gs.length+rl (bare p)+ps.length+1:Nat):Int)]]):=by
    rw[show ps.length+1-i=ps.length+1-(i+1)+1 by lia,List.replicate_succ,n7];rw[yA,yA,yY,NX _ _ _ _ lA.symm]
    simp
   rw[es]at M8;have l8:(A1++[[4,((gs.length+rl (bare p)+ps.length+2+qH (yX (ps.take i))+i:Nat):Int)]]++List.replicate (ps.length+1-(i+1)) [4,0]++P1++(if i=0 then[]else[[4,((gs.length+rl (bare p)+ps.length+1:Nat):Int)]])).length =gs.length+rl (bare p)+ps.length+2+qH (yX (ps.take i))+i:=by
    rw[<-es,List.length_set,l7]
   have t8:AT H H8:=M.tups (k5'.trans (k7.trans k8));refine⟨_,rfl,_,rfl,mk,dx,ha,ra,pa,v,x,_,_,bx,rfl,M8,pv.tups t8,Ji ft.2 ex,by lia,?_,λH9 k9 M9=>⟨k5'.trans (k7.trans (k8.trans k9)),λb xs e=>M8.tups k9 _ _ (M7.tups k8 _ _ (M5'.tups k7 _ _ (t5' _ _ e))),?_,_,_,_,rfl⟩⟩
   ·rw[zD,HD,Au];lia
   ·rw[l8]at M9;rw[et,AI,show yX [x]=[bare x]from rfl,VQ,Wz,li,hP,yP,<-yA G1,hA];have a2:Hg 4 (ps.length+1-1) 0 gs.length (p::(ps.take i++[x]))=Hg 4 (ps.length+1-1) 0 gs.length (p::ps.take i)++Kr (gs.length+rl (bare p)+ps.length+2+qH (yX (ps.take i))+i) x:=by
     rw[<-yY,IW];rw[show yX (p::ps.take i)=bare p::yX (ps.take i)from rfl];unfold Ts;rw[QG _ _ _ _ (Nat.succ_pos _),li];unfold Wv;rw[zN (by decide),zQ rfl,zQ rfl,show gs.length+rl (bare p)+(ps.length+1-1+2)+qH (yX (ps.take i))+i=gs.length+rl (bare p)+ps.length+2+qH (yX (ps.take i))+i by lia]
    rw[a2];rw[yA ls]at M9;have e9:A1++[[4,((gs.length+rl (bare p)+ps.length+2+qH (yX (ps.take i))+i:Nat):Int)]]++List.replicate (ps.length+1-(i+1)) [4,0]++P1++(if i=0 then[]else[[4,((gs.length+rl (bare p)+ps.length+1:Nat):Int)]])++Ei (gs.length+rl (bare p)+ps.length+2+qH (yX (ps.take i))+i) (bare x)=A1++[[4,((gs.length+rl (bare p)+ps.length+2+qH (yX (ps.take i))+i:Nat):Int)]]++List.replicate (ps.length+1-(i+1)) [4,0]++(P1++((if i=0 then[]else[[4,((gs.length+rl (bare p)+ps.length+1:Nat):Int)]])++Ei (gs.length+rl (bare p)+ps.length+2+qH (yX (ps.take i))+i) (bare x))):=by simp
    rw[e9]at M9;exact M9
 ·rintro σ' H5 ⟨k5,t5,M5,v5,v6,v7,rfl⟩;rw[hl,xZ,show ps.length+1-ps.length=1 by lia,show List.replicate 1 ([4,0]:List Int)=[[4,0]]from rfl]at M5;have lP:(Jo (gs.length+rl (bare p)+ps.length+2) (gs.length+rl (bare p)+ps.length+1) true (yX ps)).length =qH (yX ps)+(ps.length-1):=by rw[Je _ _ _ _ gd2,zQ rfl,wX]
  have lA:(G1++(Jn (gs.length+rl (bare p)+ps.length+2) true (yX ps)).map (λs:Nat=>[4,(s:Int)])).length =gs.length+rl (bare p)+1+ps.length:=by rw[zD,l2,zF,IX,wX]
  have l5:(G1++(Jn (gs.length+rl (bare p)+ps.length+2) true (yX ps)).map (λs:Nat=>[4,(s:Int)])++[[4,0]]++Jo (gs.length+rl (bare p)+ps.length+2) (gs.length+rl (bare p)+ps.length+1) true (yX ps)).length =gs.length+rl (bare p)+ps.length+2+qH (yX ps)+(ps.length-1):=by
   rw[zD,zD,lA,lP];show _+1+_=_;lia
  obtain⟨r5,e5,_⟩:=id M5.rows;have n5:=M5.len e5;rw[l5]at n5;refine⟨_,rfl,mk,CM,dx,_,_,rfl,M5.ob,T.mak,T.mrows,rfl,ra,_,rfl,.inl (.of e5),sm2,λt ht=>?_⟩;have s5:=zM ht (.tup [.int 4,.int (r5.length:Nat)]);have M5':=M5.same s5;have e5':=s5 _ _ e5;refine⟨_,rfl,mk,CM,dx,_,_,rfl,M5'.ob,T.mak,T.mrows,rfl,_,rfl,ra,_,_,gs.length+rl (bare p)+1+ps.length,rfl,rfl,e5',?_,?_⟩
  ·rw[show((gs.length+rl (bare p)+1:Nat):Int)+(ps.length:Nat)=((gs.length+rl (bare p)+1+ps.length:Nat):Int)by lia];exact RK (by lia)
  have M8:=M5'.setR (g:=[4,(r5.length:Nat)]) (gs.length+rl (bare p)+1+ps.length) zH e5';refine q _ (k5.trans ((AW.same s5).trans AW.rows)) ?_;have es:(G1++(Jn (gs.length+rl (bare p)+ps.length+2) true (yX ps)).map (λs:Nat=>[4,(s:Int)])++[[4,0]]++Jo (gs.length+rl (bare p)+ps.length+2) (gs.length+rl (bare p)+ps.length+1) true (yX ps)).set (gs.length+rl (bare p)+1+ps.length) [4,(r5.length:Nat)]=gs++Zw gs.length (bare p::yX ps):=by
   rw[yA,List.singleton_append,NX _ _ _ _ lA.symm,n5,<-hG];unfold Zw;rw[wX]
   simp
  rw[es]at M8;exact M8
theorem Ms (d:Nat)(T:JT K mg CM){hs:wC}{kk:Nat}(F:wE K "make_node" "make_node" EV f fd)(Cf:kA P w K mg base kk "make_node" ["making","node"] (EN CM hs d))(Cd6:kA P w K mg base (kk+1) "make_all" ["making","parts"] (Sy CM hs d))
  (Cc5:kA P w K mg base (kk+1) "make_pick" ["making","parts"] (Sx CM hs d)) (Cc7:kA P w K mg base (kk+1) "make_loop" ["making","parts"] (Sw CM hs d)) (Cr:kA P w K mg base 1 "own_row" ["kind","numbers"] GL):uE P w K mg base (kk+2) f fd ["making","node"] (EN CM hs (d+1)):=by
 refine F.oN uO λcdv A outer s H vs Q E hr h=>?_;obtain⟨mk,dx,ha,ra,pa,v,nd,gs,ls,bx,rfl,M,na,ft,z1,z2,q⟩:=h;refine⟨_,(zE (AR (pv 1) (uJ rfl (yR (Ar 2 uO.nd) (yR (Ar 3 uO.nd) (yR (Ar 4 uO.nd) (yR (Ar 5 uO.nd) qP))))))
   (zE (uA 6 uO.nd (yS yM rfl T.n_len jZ (kG (xW (pv 0) rfl))))
   (zE (Lp (xS (vH kW (pv 2) (zX rfl T.m_ALL)) (zJ (jF (cN Cd6 hr (kO (pv 0) (pv 5))))) (zJ (xS (vH kW (pv 2) (zX rfl T.m_PICK)) (zJ (jF (cN Cc5 hr (kO (pv 0) (pv 5))))) (zJ (xS (vH kW (pv 2) (zX rfl T.m_LOOP)) (zJ (jF (cN Cc7 hr (kO (pv 0) (pv 5))))) (zE (wL xP rfl (JM (pv 5)) (Ar 7 uO.nd) (zJ (jF (cN Cf hr (kO (pv 0) (pv 7))))))
   (zJ (jF (Al zY yH yF kP (xW (pv 0) rfl) (kG (cN Cr hr (kO (pv 2) (pv 4))))))))))))))
   (zJ (jF (Al zY yH yF kP (xW (pv 0) rfl) (kG (xR (zB (pv 3) (zB (pv 6) (zB (yS yM rfl T.n_len jZ (kG (xW (pv 0) rfl))) yC))))))))))),?_⟩
 try dsimp only[Ah,Ai]
 obtain⟨k,pl,own,ps⟩:=nd;obtain⟨t,o,qa,us,rfl,et,eo,eq,pr⟩:=na;rw[show bare (.mk k pl own ps)=.mk k own (yX ps)from rfl]at ft z1 q;have gd:=Fl _ _ ft;unfold EE at ft;obtain⟨k0,k1,of,lp,_,fp⟩:=ft;unfold XB at gd;have z2:ls.length+(1+Kd ps)<=100000:=by rw[show MW (.mk k pl own ps)=1+Kd ps by rw[MW]]at z2;exact z2
 obtain⟨rs,er,_⟩:=id M.rows;have ln:=M.len er;refine⟨_,rfl,t,_,rfl,.of et,rfl,_,_,rfl,_,_,rfl,_,_,rfl,_,_,rfl,rfl,?_⟩;refine⟨_,rfl,mk,CM,dx,_,_,rfl,M.ob,T.mak,T.mrows,rfl,ra,_,rfl,.inl (.of er),?_⟩;rw[ln];refine⟨λσ' H'=>AW ra pa H H'/\HV CM H' mk dx ha ra pa (gs++Ei gs.length (.mk k own (yX ps))) (ls++Hg k (ps.length-1) 0 (gs.length+if k=5 then 1 else 0) ps)/\ ∃v7,σ'=[some (.ref mk),some (.ref t),some (.int k),some (.int (pl:Nat)),some (.ref o),some (.ref qa),some (.int (gs.length:Nat)),v7],?_,?_⟩
 ·refine⟨_,rfl,rfl,_,rfl,kH (λc=>?_) (λc3=>?_)⟩
  ·have e:=vt c;subst e;have z:gs.length+qH (yX ps)+(ps.length-1)<=100000:=by
    rw[rl,zQ rfl,wX]at z1;lia
   refine⟨_,rfl,_,rfl,mk,dx,ha,ra,pa,qa,us,ps,gs,ls,bx,rfl,M,eq,pr,fp,gd.1 rfl,z,by lia,λH' k' M'=>⟨k',?_,_,rfl⟩⟩;rw[Ei,zQ rfl];exact M'
  have n3:=vf c3;refine⟨_,rfl,rfl,_,rfl,kH (λc=>?_) (λc4=>?_)⟩
  ·have e:=vt c;subst e;have z:gs.length+qH (yX ps)+(2*(ps.length-1)+1)<=100000:=by
    rw[rl,zN (by decide),zQ rfl,wX]at z1;lia
   refine⟨_,rfl,_,rfl,mk,dx,ha,ra,pa,qa,us,ps,gs,ls,bx,rfl,M,eq,pr,fp,gd.2.1 rfl,z,by lia,λH' k' M'=>⟨k',?_,_,rfl⟩⟩;rw[Ei,zN (by decide),zQ rfl];exact M'
  have n4:=vf c4;refine⟨_,rfl,rfl,_,rfl,kH (λc=>?_) (λc5=>?_)⟩
  ·have e:=vt c;subst e;have z:gs.length+qH (yX ps)+5<=100000:=by
    rw[rl,zN (by decide),zN (by decide),zQ rfl]at z1;lia
   refine⟨_,rfl,_,rfl,mk,dx,ha,ra,pa,qa,us,ps,gs,ls,bx,rfl,M,eq,pr,fp,gd.2.2.1 rfl,z,by lia,λH' k' M'=>⟨k',?_,_,rfl⟩⟩;rw[Ei,zN (by decide),zN (by decide),zQ rfl];exact M'
  have n5:=vf c5;have gp:=gd.2.2.2;rw[rl,zN n3,zN n4,zN n5]at z1;refine⟨_,rfl,qa,rfl,⟨_,.of eq⟩,KH (xs:=us) (λi σ' H'=>AW ra pa H H'/\AT H H'/\HV CM H' mk dx ha ra pa (gs++MZ gs.length (yX (ps.take i))) (ls++Hg k (ps.length-1) 0 gs.length (ps.take i))/\ ∃v7,σ'=[some (.ref mk),some (.ref t),some (.int k),some (.int (pl:Nat)),some (.ref o),some (.ref qa),some (.int (gs.length:Nat)),v7]) ⟨λ_ _ _ _ e=>e,λ_ _ e=>e,?_,_,rfl⟩ (λi σ' H' _ hh=>.of (hh.2.1 _ _ eq)) ?_ ?_⟩
  ·rw[uK,show yX []=[]from rfl,show MZ gs.length []=[]by rw[MZ],show Hg k (ps.length-1) 0 gs.length []=[]by rw[Hg],yV,yV];exact M
  ·rintro i v σ' H3 hv ⟨k3,t3,M3,v7,rfl⟩;have hl:=Paired.len pr;have hi:=(List.getElem?_eq_some_iff.mp hv).1;have ex:ps[i]? =some (ps[i]'(by lia)):=zG _;have pv:=Paired.get pr _ _ _ hv ex;have et':ps.take (i+1)=ps.take i++[ps[i]'(by lia)]:=by rw[wF,ex];rfl
   generalize(ps[i]'(by lia))=x at *
   have lS:(gs++MZ gs.length (yX (ps.take i))).length =gs.length+qH (yX (ps.take i)):=by rw[zD,Jd _ _ (LR i gp)]
   have lr:=Lj ps (i+1);rw[et',AI,IU,show qH (yX [x])=rl (bare x)by rw[show yX [x]=[bare x]from rfl,uI];unfold qH;rfl]at lr;have nr:=LA ps (i+1);rw[et',Jc,show Kd [x]=MW x by rw[Au];unfold Kd;rfl]at nr;refine⟨_,rfl,_,rfl,mk,dx,ha,ra,pa,v,x,_,_,bx,rfl,M3,pv.tups t3,Ji fp ex,by lia,?_,λH5 k5 M5=>⟨k3.trans k5,λb xs e=>M3.tups k5 _ _ (t3 _ _ e),?_,_,rfl⟩⟩
   ·rw[zD,HD];lia
   ·rw[lS]at M5;rw[et',AI,show yX [x]=[bare x]from rfl,Qa,IW,Tp n3 n4 n5,<-yA,<-yA];exact M5
  ·rintro σ' H3 ⟨k3,t3,M3,v7,rfl⟩;have hl:=Paired.len pr;rw[hl,xZ]at M3;obtain⟨r3,e3,_⟩:=id M3.rows;have l3:=M3.len e3;rw[zD,Jd _ _ gp]at l3;refine⟨_,rfl,mk,CM,dx,_,_,rfl,M3.ob,T.mak,T.mrows,rfl,.inl ⟨rfl,_,.of e3⟩,_,rfl,_,rfl,k,o,own,hs,bx,rfl,t3 _ _ eo,of,n3,n4,n5,λt4 ht4=>?_⟩;have s3:=zM ht4 (.tup ((HP k own).map V.int));refine⟨ra,r3,_,rfl,rfl,s3 _ _ e3,xB (show r3.length<=100000 by lia) (by decide),?_⟩;have M4:=(M3.same s3).row (g:=HP k own) zH (s3 _ _ e3);refine⟨k3.trans ((AW.same s3).trans AW.rows),?_,_,rfl⟩;rw[Ei,zN n3,zN n4,zN n5,zN n5,<-yA];exact M4
 ·rintro σ' H5 ⟨k5,M5,v7,rfl⟩;obtain⟨r5,e5,_⟩:=id M5.rows;obtain⟨p5,f5,pp5⟩:=id M5.pap;have lT:(gs++Ei gs.length (.mk k own (yX ps))).length =gs.length+rl (.mk k own (yX ps)):=by rw[zD,AG _ _ (by unfold XB;exact gd)]
  have l5:=M5.len e5;rw[lT]at l5;have lq:=Paired.len pp5;rw[zD,HD]at lq;refine⟨_,rfl,mk,CM,dx,_,_,rfl,M5.ob,T.mak,T.mpaper,rfl,.inl ⟨rfl,_,.of f5⟩,_,rfl,_,rfl,_,rfl,mk,CM,dx,_,_,rfl,M5.ob,T.mak,T.mrows,rfl,ra,_,rfl,.inl (.of e5),sm3,λt6 ht6=>?_⟩;have s5:=zM ht6 (.tup [.int (pl:Nat),.int (gs.length:Nat),.int (r5.length:Nat)]);refine⟨pa,p5,_,rfl,rfl,s5 _ _ f5,xB (show p5.length<=100000 by lia) (by decide),?_⟩;have M6:=(M5.same s5).line (g:=[(pl:Int),(gs.length:Int),(r5.length:Int)]) zH (s5 _ _ f5);refine q _ (k5.trans ((AW.same s5).trans AW.paper)) ?_;rw[Kr,<-yA,<-l5];exact M6
theorem PJ (T:JT K mg CM){hs:wC}{fN fA fK fL:Addr}{dN dA dK dL:FuncData}(FN:wE K "make_node" "make_node" EV fN dN)(FA:wE K "make_all" "make_all" Gm fA dA)(FK:wE K "make_pick" "make_pick" EU fK dK)(FL:wE K "make_loop" "make_loop" EW fL dL)
  (Cr:kA P w K mg base 1 "own_row" ["kind","numbers"] GL) (cN: ∀{k:Nat} {sp:Sp},uE P w K mg base k fN dN ["making","node"] sp->kA P w K mg base k "make_node" ["making","node"] sp) (cA: ∀{k:Nat} {sp:Sp},uE P w K mg base k fA dA ["making","parts"] sp->kA P w K mg base k "make_all" ["making","parts"] sp)
  (cK: ∀{k:Nat} {sp:Sp},uE P w K mg base k fK dK ["making","parts"] sp->kA P w K mg base k "make_pick" ["making","parts"] sp) (cL: ∀{k:Nat} {sp:Sp},uE P w K mg base k fL dL ["making","parts"] sp->kA P w K mg base k "make_loop" ["making","parts"] sp):
  ∀d,kA P w K mg base (2*d+1) "make_node" ["making","node"] (EN CM hs d)
 |0=>cN ⟨λvs H Q E h=>by
   obtain⟨_,_,_,_,_,_,_,_,_,_,_,_,_,ft,_⟩:=h;unfold EE at ft;exact ft.elim,λ_ _ _ _ _ _ _ _ _ _ _ _ _ h=>by
   obtain⟨_,_,_,_,_,_,_,_,_,_,_,_,_,ft,_⟩:=h;unfold EE at ft;exact ft.elim⟩
 |d+1=>by
  have ih:=PJ (hs:=hs) T FN FA FK FL Cr cN cA cK cL d;exact cN (Ms d T FN ih (cA (PL d T FA ih)) (cK (Oy d T FK ih)) (cL (Oz d T FL ih)) Cr)
theorem TZ {X:Cx}{C:Addr}{x:Str}{p pos:Pos}{CX:JX}{k n:Nat}{ps:List Str}{sp:Sp}{E:XK}(G:QJ X.prog X.w X.K X.mg X.base CX k x C ps sp)(hr:vY n X.A)(hg:Gl X x)(hx:Bv CX X E)(hk:k+1<=n:=by first|decide|lia)(hdb:(x==("__debug__":Str))=false:=by decide):PE X (.Call (.Name x p) [] [] pos) (Su C sp [] E NG):=by
 obtain⟨f,fd,M,F,hm,hb⟩:=G.ex;exact VX M F (hr.mono hk) hg hm hb .nil hx hdb
theorem KB: ∀(fs:List Jr) (b:Nat),(∀f∈fs,XB (bare f.2))->(Na b fs).length =GC fs
 |[],b,_=>rfl
 |f::r,b,h=>by
  show(Ei b (bare f.2)++([7,0]::Na (b+rl (bare f.2)+1) r)).length =rl (bare f.2)+1+GC r;rw[zD,AG _ _ (h f (yT ..)),zI,KB r _ λg hg=>h g (yW _ hg)];lia
theorem Oq: ∀(fs:List Jr) (b:Nat),(Rh b fs).length =OT fs
 |[],b=>rfl
 |f::r,b=>by
  show(Kr b f.2++Rh (b+rl (bare f.2)+1) r).length =MW f.2+OT r;rw[zD,Oo,Oq r]
theorem HJ: ∀(fs:List Jr) (b:Nat),(OJ b fs).length =fs.length
 |[],b=>rfl
 |f::r,b=>by
  show(OJ (b+rl (bare f.2)+1) r).length +1=r.length+1;rw[HJ r]
inductive Bp (CM:Addr) (hs:wC) (vs:List V) (H:Hp) (Q:VK) (E:XK):Prop
 |mk (l:Addr) (rs:List V) (fs:List Jr) (h0:vs=[.ref l]) (h1:H l=some (.lst rs)) (h2:Paired (UW H) rs fs) (h3:(∀f∈fs,EE hs f.1.2 10 (bare f.2))) (h4:GC fs<=100000) (h5:OT fs<=100000) (h6:fs.length<=16) (h7: ∀(mk dx ha ra pa:Addr) (H':Hp),yU H H'->HV CM H' mk dx ha ra pa (Na 0 fs) (Rh 0 fs)->wA H' ha (OJ 0 fs)->H mk=none->H ha=none->H ra=none->H pa=none->Q (.ref mk) H'):Bp CM hs vs H Q E
theorem Tc {C:Addr}{H H':Hp}{mk dx ha ra pa:Addr}{gs ls hs:List (List Int)}(M:HV C H mk dx ha ra pa gs ls)(k:AW ra pa H H')(h:wA H ha hs)(n1:ha≠ra)(n2:ha≠pa):wA H' ha hs:=by
 obtain⟨rs,e,p⟩:=h;exact⟨rs,k _ _ n1 n2 e,Paired.imp (λv g ⟨t,e1,e2⟩=>⟨t,e1,M.tups k _ _ e2⟩) p⟩
theorem Ox (T:JT K mg CM){hs:wC}(F:wE K "making_of" "making_of" GZ f fd)(Cd8:QJ P w K mg base (Fx P w) 1 "Making" CM ["self"] (IP CM))(Cf:kA P w K mg base 21 "make_node" ["making","node"] (EN CM hs 10)):uE P w K mg base 22 f fd ["program"] (Bp CM hs):=by
 refine F.oN BJ λcdv A outer s H vs Q E hr h=>?_;obtain⟨l,rs,fs,rfl,el,pr,ft,z1,z2,z3,q⟩:=h;refine⟨_,(zE (uA 1 BJ.nd (TZ Cd8 hr rfl Zu))
   (zE (wL xP rfl (AE (pv 0)) (uJ rfl (yR (Ar 2 BJ.nd) (yR (Ar 3 BJ.nd) (yR (Ar 4 BJ.nd) qP)))) (zE (jF (Al zY yH yF kP (xW (pv 1) rfl) (kG (xR (zB (yS yM rfl T.n_len jZ (kG (xW (pv 1) rfl))) (zB (pv 2) (zB (pv 3) yC)))))))
   (zE (jF (cN Cf hr (kO (pv 1) (pv 4))))
   (zJ (jF (Al zY yH yF kP (xW (pv 1) rfl) (kG (xR (kO (zX rfl T.m_OP_BACK) zK)))))))))
   (zJ (zV (pv 1))))),?_⟩
 try dsimp only[Ah,Ai]
 intro mk dx hmk hdx ndx;refine⟨mk,dx,rfl,zH,λha ra pa H1 n1 n2 n3 nhr nhp kp M1 e1=>⟨rfl,?_⟩⟩;have hn: ∀{b:Addr},upd (upd H dx (.own mk)) mk (.ins CM dx []) b=none->H b=none:=fun{b} e=>by
  have nb:b≠mk:=λz=>by rw[z,zH]at e;cases e
  rw[zW nb]at e;have nd:b≠dx:=λz=>by rw[z,zH]at e;cases e
  rw[zW nd]at e;exact e
 have hha:=hn n1;have hra:=hn n2;have hpa:=hn n3;have sH:yU H H1:=λb o e=>kp b o (zZ e hmk) (by rw[zW (zZ e hmk),zW (zZ e hdx)];exact e);refine⟨_,rfl,l,rfl,⟨_,.of (sH _ _ el)⟩,Dv (xs:=rs) (λi σ' H'=>yU H H'/\HV CM H' mk dx ha ra pa (Na 0 (fs.take i)) (Rh 0 (fs.take i))/\wA H' ha (OJ 0 (fs.take i))/\ ∃v2 v3 v4,σ'=[some (.ref l),some (.ref mk),v2,v3,v4]) ⟨sH,by rw[uK];exact M1,⟨[],e1,.nil⟩,_,_,_,rfl⟩ (λi σ' H' _ hh=>.of (hh.1 _ _ el)) ?_ ?_⟩
 ·rintro i v σ' H3 hv ⟨s3,M3,G3,v2,v3,v4,rfl⟩;have hl:=Paired.len pr;have hi:=(List.getElem?_eq_some_iff.mp hv).1;have ex:fs[i]? =some (fs[i]'(by lia)):=zG _;have pv:=Paired.get pr _ _ _ hv ex;have et':fs.take (i+1)=fs.take i++[fs[i]'(by lia)]:=by rw[wF,ex];rfl
  have fx:=ft _ (xL ex);generalize(fs[i]'(by lia))=x at *
  obtain⟨t,b,rfl,et,nb⟩:=pv;have gds: ∀f∈fs.take i,XB (bare f.2):=λf hf=>Fl _ _ (ft f (List.mem_of_mem_take hf));obtain⟨r3,e3,_⟩:=id M3.rows;obtain⟨h3,f3,ph3⟩:=id G3;have l3:=M3.len e3;rw[KB _ _ gds]at l3;have lh:=Paired.len ph3;rw[HJ,yL]at lh;have lr:=Oh (fs.take (i+1)) (fs.drop (i+1));rw[kJ,et',Oh,show GC [x]=rl (bare x.2)+1 from rfl]at lr;have nr:=OH (fs.take (i+1)) (fs.drop (i+1));rw[kJ,et',OH,show OT [x]=MW x.2 from rfl]at nr;refine⟨t,_,rfl,.of (s3 _ _ et),rfl,_,_,rfl,_,_,rfl,_,_,rfl,rfl,?_⟩;refine⟨_,rfl,mk,CM,dx,_,_,rfl,M3.ob,T.mak,T.mheads,rfl,.inl ⟨rfl,_,.of f3⟩,_,rfl,mk,CM,dx,_,_,rfl,M3.ob,T.mak,T.mrows,rfl,ra,_,rfl,.inl (.of e3),_,rfl,_,rfl,sm3,λt4 ht4=>?_⟩;have s4:=zM ht4 (.tup [.int (r3.length:Nat),.int x.1.1,.int x.1.2]);refine⟨ha,h3,_,rfl,rfl,s4 _ _ f3,xB (show h3.length<=1000 by lia) (by decide),?_⟩;have ht4H:H t4=none:=s3.free ht4;have G4:=wA.push (g:=[(r3.length:Int),x.1.1,x.1.2]) (s4 _ _ f3) (Paired.imp (λv g ⟨t,e1,e2⟩=>⟨t,e1,s4 _ _ e2⟩) ph3) ⟨t4,rfl,zH⟩;have M3':=M3.same s4;have M4:HV CM (upd (upd H3 t4 (.tup [.int (r3.length:Nat),.int x.1.1,.int x.1.2])) ha (.lst (h3++[.ref t4]))) mk dx ha ra pa (Na 0 (fs.take i)) (Rh 0 (fs.take i)):=by
   refine⟨?_,M3'.rows.put (s4 _ _ f3) (Ne.symm nhr),M3'.pap.put (s4 _ _ f3) (Ne.symm nhp),M3.ne⟩;rw[zW (λz=>by have:=M3'.ob;rw[z,s4 _ _ f3]at this;cases this)];exact M3'.ob
  have sH4:yU H (upd (upd H3 t4 (.tup [.int (r3.length:Nat),.int x.1.1,.int x.1.2])) ha (.lst (h3++[.ref t4]))):=λb o e=>by
   rw[zW (zZ e hha)];exact s4 _ _ (s3 _ _ e)
  generalize upd (upd H3 t4 (.tup [.int (r3.length:Nat),.int x.1.1,.int x.1.2])) ha (.lst (h3++[.ref t4]))=H4 at *
  have lf:(Na 0 (fs.take i)).length =GC (fs.take i):=KB _ _ gds;refine⟨_,rfl,_,rfl,mk,dx,ha,ra,pa,b,x.2,_,_,x.1.2,rfl,M4,nb.tups λc xs e=>sH4 _ _ e,fx,by lia,by rw[Oq];lia,λH5 k5 M5=>?_⟩;have sH5:yU H H5:=λc o e=>k5 c o (zZ e hra) (zZ e hpa) (sH4 _ _ e);have G5:=Tc M4 k5 G4 nhr nhp;rw[lf]at M5;obtain⟨r5,e5,_⟩:=id M5.rows;have l5:=M5.len e5;rw[zD,lf,AG _ _ (Fl _ _ fx)]at l5;refine⟨_,rfl,mk,CM,dx,_,_,rfl,M5.ob,T.mak,T.mrows,rfl,.inl ⟨rfl,_,.of e5⟩,sm2,λt6 ht6=>?_⟩;have s5:=zM ht6 (.tup [.int 7,.int 0]);refine⟨ra,r5,_,rfl,rfl,s5 _ _ e5,xB (show r5.length<=100000 by lia) (by decide),?_⟩;have M6:=(M5.same s5).row (g:=[7,0]) zH (s5 _ _ e5);have k6:AW ra pa H5 (upd (upd H5 t6 (.tup [.int 7,.int 0])) ra (.lst (r5++[.ref t6]))):=(AW.same s5).trans AW.rows;refine⟨λc o e=>k6 c o (zZ e hra) (zZ e hpa) (sH5 _ _ e),?_,?_,_,_,_,rfl⟩
  ·rw[et',Qc,Pq,Nat.zero_add,<-yA];exact M6
  ·rw[et',Qs,Nat.zero_add,<-l3];exact Tc M5 k6 G5 nhr nhp
 ·rintro σ' H3 ⟨s3,M3,G3,v2,v3,v4,rfl⟩;have hl:=Paired.len pr;rw[hl,xZ]at M3 G3;exact⟨_,rfl,q mk dx ha ra pa H3 s3 M3 G3 hmk hha hra hpa⟩
theorem WA {hs:wC}{nr:Nat}: ∀(fs:List Jr) (b:Nat),(∀f∈fs,EE hs f.1.2 10 (bare f.2)/\f.1.2<=12)->b+GC fs<=nr-> ∀g∈Na b fs,CH g hs.length nr
 |[],b,_,_,g,hg=>by cases hg
 |f::r,b,h,hn,g,hg=>by
  have hn:b+(rl (bare f.2)+1+GC r)<=nr:=hn;have h1:=h f (yT ..)
  rcases List.mem_append.mp (show g∈Ei b (bare f.2)++([7,0]::Na (b+rl (bare f.2)+1) r)from hg)with z|z
  ·exact Hl h1.2 10 _ b h1.1 (by lia) g z
  rcases List.mem_cons.mp z with z|z
  ·rw[z];exact zHk
  ·exact WA r _ (λx hx=>h x (yW _ hx)) (by lia) g z
theorem WV: ∀(fs:List Jr) (b i:Nat) (g:List Int),(OJ b fs)[i]? =some g-> ∃(f:Jr) (s:Nat),fs[i]? =some f/\g=[(s:Int),f.1.1,f.1.2]/\s<b+GC fs
 |[],b,i,g,h=>by simp[OJ]at h
 |f::r,b,0,g,h=>by
  have e:[(b:Int),f.1.1,f.1.2]=g:=by simpa[OJ]using h
  exact⟨f,b,rfl,e.symm,by show b<b+(rl (bare f.2)+1+GC r);lia⟩
 |f::r,b,i+1,g,h=>by
  obtain⟨x,s,e1,e2,e3⟩:=WV r (b+rl (bare f.2)+1) i g (by simpa[OJ]using h);exact⟨x,s,by simpa using e1,e2,by show s<b+(rl (bare f.2)+1+GC r);lia⟩
theorem Nt {hs:wC}{fs:List Jr}(eh:fs.map (·.1)=hs)(g:Gy hs)(h: ∀f∈fs,EE hs f.1.2 10 (bare f.2))(hz:GC fs<=900):vJ (OJ 0 fs) (Na 0 fs):=by
 have le:hs.length=fs.length:=by rw[<-eh,zF]
 have b12: ∀f∈fs,f.1.2<=12:=λf hf=>by
  obtain⟨i,e⟩:=List.getElem?_of_mem hf;exact(g.all i f.1 (by rw[<-eh,yQ,e];rfl)).2.2.2.1
 have lm:(Na 0 fs).length =GC fs:=KB fs 0 λf hf=>Fl _ _ (h f hf);have g1:=g.lo;have g2:=g.hi;have r1:1<=GC fs:=by
  cases fs with
  |nil=>rw[le]at g1;cases g1
  |cons f r=>show 1<=rl (bare f.2)+1+GC r;lia
 refine⟨by rw[HJ];lia,by rw[HJ];lia,by lia,by lia,λi gg e=>?_,λgg hg=>?_⟩
 ·obtain⟨f,s,e1,rfl,e3⟩:=WV fs 0 i gg e;obtain⟨a1,a2,a3,a4,a5⟩:=g.all i f.1 (by rw[<-eh,yQ,e1];rfl);rw[lm];exact⟨s,f.1.1,f.1.2,rfl,by lia,by lia,a1,a2,λz=>a5 (by lia),a3,a4⟩
 ·rw[HJ,lm,<-le];exact WA fs 0 (λf hf=>⟨h f hf,b12 f hf⟩) (by lia) gg hg
def Xy (ns:List Int)(fs:List Jr):Prop:= ∃r:wC×List Nd,jL ns=.ok r/\r.1.zip r.2=fs/\fs.map (·.1)=r.1/\Gy r.1/\(∀f∈fs,EE r.1 f.1.2 10 (bare f.2))/\GC fs<=900/\OT fs<=100000
inductive QU (vs:List V) (H:Hp) (Q:VK) (E:XK):Prop
 |mk (a:Addr) (ns:List Int) (fs:List Jr) (h0:vs=[.ref a]) (h1:H a=some (.lst (ns.map V.int))) (h2:Xy ns fs) (h3: ∀l H',yU H H'->H l=none->H' l=some (.lst ((Ea (OJ 0 fs) (Na 0 fs)).map V.int))->Q (.ref l) H'):QU vs H Q E
theorem Yr (T:JT K mg CM)(F:wE K "made" "made" Og f fd)(Cd:kA P w K mg base 17 "functions" ["sheet"] (HX CN))(Cc: ∀hs,kA P w K mg base 22 "making_of" ["program"] (Bp CM hs))(Ca7:kA P w K mg base 4 "code_of" ["heads","rows"] (IQ K)):uE P w K mg base 23 f fd ["sheet"] QU:=by
 refine F.oX KA λcdv A outer s H vs Q E hr h=>?_;obtain⟨a,ns,fs,rfl,ea,⟨r,er,rfl,em,hg,ft,z1,z2⟩,q⟩:=h;replace Cc:=Cc r.1;refine⟨_,(zE (uA 1 KA.nd (jB Cc hr rfl (kG (jB Cd hr rfl (kG (pv 0)) kZ)) kZ))
   (zJ (zV (jB Ca7 hr rfl (kO (xW (pv 1) rfl) (xW (pv 1) rfl)) kZ)))),?_⟩
 try dsimp only[Ah,Ai]
 refine⟨_,rfl,a,ns,rfl,ea,λr' er' l H1 s1 fr fa=>?_,λp wd e=>by rw[er]at e;cases e⟩;rw[er]at er';cases er';obtain⟨rs,el,ln,pr⟩:=fa;have cp:=Nt em hg ft z1;have le:(r.1.zip r.2).length =r.1.length:=by rw[<-zF (f:=(·.1)),em]
 refine⟨l,rs,r.1.zip r.2,rfl,el,pr,ft,by lia,z2,by rw[le];exact hg.hi,λmk dx ha ra pa H2 s2 M2 G2 _ _ _ _=>?_⟩;obtain⟨hv,eh,ph⟩:=G2;obtain⟨rv,ev,pv'⟩:=id M2.rows;have r24:=cp.r24;have lh:=Paired.len ph;refine⟨_,rfl,mk,CM,dx,_,_,rfl,M2.ob,T.mak,T.mheads,rfl,_,rfl,mk,CM,dx,_,_,rfl,M2.ob,T.mak,T.mrows,rfl,ha,ra,_,_,hv,rv,rfl,.inl (kS.of eh),wA.seqs ph,cp.h3,by have:=hg.hi;rw[HJ,le];lia,.inl (kS.of ev),wA.seqs pv',cp.r2,by lia,cp.ok,λco H3 g3 hco eco=>?_⟩;exact q co H3 (s1.trans (s2.trans g3)) ((s1.trans s2).free hco) eco
abbrev Ln:=Int×Int×Int
def l3 (x:Ln):List Int:=[x.1,x.2.1,x.2.2]
mutual
def lnN (b:Nat):Nd->List Ln
 | .mk k p own ps=>((p:Int),(b:Int),((b+rl (.mk k own (yX ps)):Nat):Int))::lnS k (ps.length-1) 0 (b+if k=5 then 1 else 0) ps
def lnS (k:Int)(m i b:Nat):List Nd->List Ln
 |[]=>[]
 |t::r=>lnN b t++lnS k m (i+1) (Wv k m i b (bare t)) r
end
def lnF (b:Nat):List Jr->List Ln
 |[]=>[]
 |f::r=>lnN b f.2++lnF (b+rl (bare f.2)+1) r
mutual
theorem VO: ∀(b:Nat) (nd:Nd),(Kr b nd).Perm ((lnN b nd).map l3)
 |b,.mk k p own ps=>by
  show(Hg k (ps.length-1) 0 (b+if k=5 then 1 else 0) ps++[_]).Perm (_::(lnS k (ps.length-1) 0 (b+if k=5 then 1 else 0) ps).map l3);exact(EI _ _).trans ((VN k (ps.length-1) 0 _ ps).cons _)
theorem VN: ∀(k:Int) (m i b:Nat) (ps:List Nd),(Hg k m i b ps).Perm ((lnS k m i b ps).map l3)
 |_,_,_,_,[]=>.refl _
 |k,m,i,b,t::r=>by
  show(Kr b t++Hg k m (i+1) (Wv k m i b (bare t)) r).Perm ((lnN b t++lnS k m (i+1) (Wv k m i b (bare t)) r).map l3);rw[yP];exact(VO b t).append (VN k m (i+1) _ r)
end
theorem VP: ∀(b:Nat) (fs:List Jr),(Rh b fs).Perm ((lnF b fs).map l3)
 |_,[]=>.refl _
 |b,f::r=>by
  show(Kr b f.2++Rh _ r).Perm ((lnN b f.2++lnF _ r).map l3);rw[yP];exact(VO b f.2).append (VP _ r)
def Sa (p q:Nat)(ls:List Ln):Prop:=(ls.Pairwise λx y=>x.1<y.1)/\ ∀x∈ls,(p:Int)<=x.1/\x.1<(q:Int)
theorem Sa.app {p q r:Nat}{a b:List Ln}(h1:Sa p q a)(h2:Sa q r b)(hp:p<=q)(hq:q<=r):Sa p r (a++b):=by
 refine⟨List.pairwise_append.mpr ⟨h1.1,h2.1,λx hx y hy=>?_⟩,λx hx=>?_⟩
 ·have:=(h1.2 x hx).2;have:=(h2.2 y hy).1;lia
 ·rcases List.mem_append.mp hx with z|z
  ·have:=h1.2 x z;lia
  ·have:=h2.2 x z;lia
mutual
theorem Qi: ∀(nd:Nd) (b p:Nat),PlN p nd->Sa p (p+(uM (OU nd)).length) (lnN b nd)
 | .mk k q own ps,b,p,h=>by
  obtain⟨rfl,hl⟩:=h;have r:=Qh ps k (ps.length-1) 0 (b+if k=5 then 1 else 0) _ hl;have el:(uM (OU (.mk k q own ps))).length =1+own.length+(uM (Hs ps)).length:=by
   rw[RN];show(k::own++uM (Hs ps)).length =_;rw[zD,zI];lia
  refine⟨.cons (λy hy=>?_) r.1,λx hx=>?_⟩
  ·have:=(r.2 y hy).1;show(q:Int)<y.1;lia
  ·rcases List.mem_cons.mp hx with z|z
   ·rw[z];exact⟨Int.le_refl _,by rw[el];show(q:Int)<_;lia⟩
   ·have:=r.2 x z;lia
theorem Qh: ∀(ps:List Nd) (k:Int) (m i b p:Nat),PlL p ps->Sa p (p+(uM (Hs ps)).length) (lnS k m i b ps)
 |[],_,_,_,_,p,_=>⟨.nil,λ_ h=>by cases h⟩
 |t::r,k,m,i,b,p,h=>by
  obtain⟨h1,h2⟩:=h;have el:(uM (Hs (t::r))).length =(uM (OU t)).length +(uM (Hs r)).length:=by
   rw[FJ];show((OU t++Hs r).flatMap _).length =_;rw[List.flatMap_append,zD];rfl
  have a:=(Qi t b p h1).app (Qh r k m (i+1) (Wv k m i b (bare t)) _ h2) (by lia) (by lia);rw[el,<-Nat.add_assoc];exact a
end
theorem Qj: ∀(fs:List Jr) (b p:Nat),PlB p (fs.map (·.2))-> ∃q,p<=q/\Sa p q (lnF b fs)
 |[],_,p,_=>⟨p,zP _,.nil,λ_ h=>by cases h⟩
 |f::r,b,p,h=>by
  obtain⟨h1,h2⟩:=h;obtain⟨q,l,rr⟩:=Qj r (b+rl (bare f.2)+1) _ h2;exact⟨q,by lia,(Qi f.2 b p h1).app rr (by lia) l⟩
theorem Vj {H:Hp}: ∀{rs:List V} {gs:List (List Int)},Paired (Eb H) rs gs->(∀g∈gs,∃x:Ln,g=l3 x)-> ∃(as:List Addr) (ls:List Ln),rs=as.map V.ref/\gs=ls.map l3/\Paired (DO H) as ls
 |[],_,.nil,_=>⟨[],[],rfl,rfl,.nil⟩
 |_::_,_::_,.cons ⟨t,e,et⟩ p,h=>by
  obtain⟨as,ls,e1,e2,p2⟩:=Vj p λg hg=>h g (yW _ hg);obtain⟨x,rfl⟩:=h _ (yT ..);exact⟨t::as,x::ls,by rw[e,e1];rfl,by rw[e2];rfl,.cons et p2⟩
theorem Ye {a b:List Ln}(h:(a.map l3).Perm (b.map l3)):a.Perm b:=by
 have g: ∀l:List Ln,(l.map l3).map (λx:List Int=>((x.getD 0 0,x.getD 1 0,x.getD 2 0):Ln))=l:=λl=>by
  rw[AL];exact List.map_id' l
 have:=h.map (λx:List Int=>((x.getD 0 0,x.getD 1 0,x.getD 2 0):Ln));rw[g,g]at this;exact this
theorem XY {a b:List Ln}(h:a.Perm b)(ha:a.Pairwise λx y=>x.1<=y.1)(hb:b.Pairwise λx y=>x.1<y.1):a=b:=by
 induction a generalizing b with
 |nil=>exact(List.nil_perm.mp h).symm
 |cons x r ih=>
  cases b with
  |nil=>exact absurd h.symm (by simp)
  |cons y t=>
   obtain⟨a1,a2⟩:=List.pairwise_cons.mp ha;obtain⟨b1,b2⟩:=List.pairwise_cons.mp hb;have hx:=h.mem_iff.mp (yT (a:=x) (l:=r));have hy:=h.mem_iff.mpr (yT (a:=y) (l:=t));have e:x=y:=by
    rcases List.mem_cons.mp hx with z|z
    ·exact z
    rcases List.mem_cons.mp hy with z'|z'
    ·exact z'.symm
    have:=b1 x z;have:=a1 y z';lia
   subst e;rw[ih (List.perm_cons _ |>.mp h) a2 b2]
inductive GO (vs:List V) (H:Hp) (Q:VK) (E:XK):Prop
 |mk (a:Addr) (ns:List Int) (fs:List Jr) (h0:vs=[.ref a]) (h1:H a=some (.lst (ns.map V.int))) (h2:Xy ns fs) (h3:OT fs<64) (h4:JZ ((Rh 0 fs).map λg=>g.headD 0)=true) (h5: ∀l as H',yU H H'->H l=none->H' l=some (.lst (as.map V.ref))->Paired (DO H') as (lnF 0 fs)->Q (.ref l) H'):GO vs H Q E
theorem Mu (T:JT K mg CM)(F:wE K "made_paper" "made_paper" Eh f fd)(Cd:kA P w K mg base 17 "functions" ["sheet"] (HX CN))(Cc: ∀hs,kA P w K mg base 22 "making_of" ["program"] (Bp CM hs)):uE P w K mg base 23 f fd ["sheet"] GO:=by
 refine F.oX HY λcdv A outer s H vs Q E hr h=>?_;obtain⟨a,ns,fs,rfl,ea,⟨r,er,rfl,em,hg,ft,z1,z2⟩,z64,zs,q⟩:=h;replace Cc:=Cc r.1;refine⟨_,(zJ (zV (yS Jj rfl T.n_sorted Nw (kG (xW (jB Cc hr rfl (kG (jB Cd hr rfl (kG (pv 0)) kZ)) kZ) rfl))))),?_⟩
 try dsimp only[Ah,Ai]
 refine⟨_,rfl,a,ns,rfl,ea,λr' er' l H1 s1 fr fa=>?_,λp wd e=>by rw[er]at e;cases e⟩;rw[er]at er';cases er';obtain⟨rs,el,ln,pr⟩:=fa;have le:(r.1.zip r.2).length =r.1.length:=by rw[<-zF (f:=(·.1)),em]
 refine⟨l,rs,r.1.zip r.2,rfl,el,pr,ft,by lia,z2,by rw[le];exact hg.hi,λmk dx ha ra pa H2 s2 M2 G2 _ _ _ _=>?_⟩;obtain⟨pv',ep,pp⟩:=id M2.pap;have pl:=(OZ (hs:=r.1) (nds:=r.2) er).2.2.2.2;rw[show r.2=(r.1.zip r.2).map (·.2)from(List.map_snd_zip (by lia)).symm]at pl;generalize r.1.zip r.2=fs at *
 obtain⟨qq,_,ri⟩:=Qj fs 0 _ pl;have pm:=VP 0 fs;obtain⟨as,ls,rfl,e2,tr⟩:=Vj pp λg hg=>by
  obtain⟨x,_,e⟩:=List.mem_map.mp (pm.mem_iff.mp hg);exact⟨x,e.symm⟩
 rw[e2]at pm;have pm:=Ye pm;have nd:JZ (ls.map (·.1))=true:=by
  rw[e2,AL]at zs;exact zs
 have la:as.length=OT fs:=by
  have:=Paired.len tr;rw[this,<-zF (f:=l3),<-e2,Oq]
 refine⟨mk,CM,dx,_,_,rfl,M2.ob,T.mak,T.mpaper,rfl,pa,as,ls,rfl,ep,tr,nd,by lia,λp as' ls' hp tr' pm' so=>?_⟩;have e3:=XY (pm'.trans pm) so ri.1;subst e3;have s3:=zM hp (.lst (as'.map V.ref));exact q p as' _ (s1.trans (s2.trans s3)) ((s1.trans s2).free hp) zH (Paired.imp (λ_ _ z=>s3 _ _ z) tr')
def Jx (CN:Addr):Sp:=λvs H _ E=> ∃(a:Addr) (ns:List Int) (p:Nat) (wd:Str),vs=[.ref a]/\H a=some (.lst (ns.map V.int))/\jL ns=.error (p,wd)/\ ∀d H',yU H H'->H' d=some (Mg d [("place",.int p),("word",.str wd)])->E (.ref CN) (some d) H'
theorem Wi (T:JT K mg CM)(F:wE K "made" "made" Og f fd)(Cd:kA P w K mg base 17 "functions" ["sheet"] (HX CN))(Cc: ∀hs,kA P w K mg base 22 "making_of" ["program"] (Bp CM hs))(Ca7:kA P w K mg base 4 "code_of" ["heads","rows"] (IQ K)):uE P w K mg base 23 f fd ["sheet"] (Jx CN):=by
 refine F.okX KA (λvs H Q E h=>?_) (λcdv A outer s H vs Q E hr h=>?_)
 ·obtain⟨a,ns,p,wd,rfl,_⟩:=h;rfl
 obtain⟨a,ns,p,wd,rfl,ea,er,q⟩:=h;replace Cc:=Cc [];refine⟨_,(zE (uA 1 KA.nd (jB Cc hr rfl (kG (jB Cd hr rfl (kG (pv 0)) kZ)) kZ))
   (zJ (zV (jB Ca7 hr rfl (kO (xW (pv 1) rfl) (xW (pv 1) rfl)) kZ)))),?_⟩
 try dsimp only[Ah,Ai]
 refine⟨_,rfl,a,ns,rfl,ea,⟨λr er'=>(by rw[er]at er';cases er'),λp' wd' e' d H' s ed=>?_⟩⟩;rw[er]at e';cases e';exact q d H' s ed
theorem Lw (T:JT K mg CM)(F:wE K "made_paper" "made_paper" Eh f fd)(Cd:kA P w K mg base 17 "functions" ["sheet"] (HX CN))(Cc: ∀hs,kA P w K mg base 22 "making_of" ["program"] (Bp CM hs)):uE P w K mg base 23 f fd ["sheet"] (Jx CN):=by
 refine F.okX HY (λvs H Q E h=>?_) (λcdv A outer s H vs Q E hr h=>?_)
 ·obtain⟨a,ns,p,wd,rfl,_⟩:=h;rfl
 obtain⟨a,ns,p,wd,rfl,ea,er,q⟩:=h;replace Cc:=Cc [];refine⟨_,(zJ (zV (yS Jj rfl T.n_sorted Nw (kG (xW (jB Cc hr rfl (kG (jB Cd hr rfl (kG (pv 0)) kZ)) kZ) rfl))))),?_⟩
 try dsimp only[Ah,Ai]
 refine⟨_,rfl,a,ns,rfl,ea,⟨λr er'=>(by rw[er]at er';cases er'),λp' wd' e' d H' s ed=>?_⟩⟩;rw[er]at e';cases e';exact q d H' s ed
end
section
variable {P:Program}{w:World}{K:PySem.W.Frag}{mg:Str->Option Value}{base:Heap}{f:Addr}{fd:FuncData}{aP CL CN CM CK:Addr}
structure DM (K:PySem.W.Frag)(mg:Str->Option Value)(CK:Addr):Prop extends Km K mg where
 n_zip:mg "zip"=none
 n_dict:mg "dict"=none
 n_reversed:mg "reversed"=none
 m_LINE_SIZE:qB mg "LINE_SIZE" 3
 m_NUMBER:qB mg "NUMBER" 0
 m_ALL:qB mg "ALL" 3
 m_PICK:qB mg "PICK" 4
 m_LOOP:qB mg "LOOP" 5
 m_FAIL:qB mg "FAIL" 7
 ck:Sl K CK
 crows:vG K CK "rows"
 cleads:vG K CK "leads"
 clines:vG K CK "lines"
 cright:vG K CK "right"
theorem PU (T:DM K mg CK)(F:wE K "begin_of" "begin_of" IA f fd):uE P w K mg base 1 f fd ["check","node"] (Af CK (·.1)):=by
 refine F.oN Pf λcdv A outer s H vs Q E hr h=>?_;obtain⟨c,dx,r,l,d,q,rs,L,R,tn,k,p,x,y,⟨b,e⟩,rfl,C,et,hp,q⟩:=h;refine⟨_,(zJ (zV (Am jO (Ja (Hr hr) (xW (pv 0) rfl) (Am jO (pv 1) zK) (λ_ _=>rfl)) zK))),?_⟩
 try dsimp only[Ah,Ai]
 obtain⟨t,hg,ht⟩:=C.line hp;exact⟨_,rfl,c,CK,dx,_,_,rfl,C.ob,T.ck,T.clines,rfl,_,rfl,tn,_,_,_,rfl,rfl,.of et,rfl,d,_,rfl,hg,t,_,_,_,rfl,rfl,.of ht,rfl,q⟩
theorem Ul (T:DM K mg CK)(F:wE K "end_of" "end_of" Lh f fd):uE P w K mg base 1 f fd ["check","node"] (Af CK (·.2)):=by
 refine F.oN TU λcdv A outer s H vs Q E hr h=>?_;obtain⟨c,dx,r,l,d,q,rs,L,R,tn,k,p,x,y,⟨b,e⟩,rfl,C,et,hp,q⟩:=h;refine⟨_,(zJ (zV (Am jO (Ja (Hr hr) (xW (pv 0) rfl) (Am jO (pv 1) zK) (λ_ _=>rfl)) zK))),?_⟩
 try dsimp only[Ah,Ai]
 obtain⟨t,hg,ht⟩:=C.line hp;exact⟨_,rfl,c,CK,dx,_,_,rfl,C.ob,T.ck,T.clines,rfl,_,rfl,tn,_,_,_,rfl,rfl,.of et,rfl,d,_,rfl,hg,t,_,_,_,rfl,rfl,.of ht,rfl,q⟩
theorem Ou (T:DM K mg CK)(F:wE K "row_meant" "row_meant" GX f fd):uE P w K mg base 1 f fd ["check","at"] (Er CK):=by
 refine F.oN NZ λcdv A outer s H vs Q E hr h=>?_;obtain⟨c,dx,r,l,d,q,rs,L,R,a,rfl,C,q⟩:=h;refine⟨_,(zE (xS (PW.pt (vO (vH Hj (pv 1) qQ) (qT (vH MV (pv 1) (yS yM rfl T.n_len jZ (kG (xW (pv 0) rfl))))))) (zJ (zV qQ)) yI)
   (zJ (zV (Am kQ (xW (pv 0) rfl) (pv 1))))),?_⟩
 try dsimp only[Ah,Ai]
 have ll:((List.range rs.length).map λi=>oI (QL rs i)).length =rs.length:=by rw[zF,Fe]
 cases a with
 |none=>exact⟨_,rfl,rfl,_,rfl,qO q⟩
 |some i=>
  refine⟨_,rfl,rfl,_,rfl,wD ?_⟩;refine⟨_,rfl,_,rfl,c,CK,dx,_,_,rfl,C.ob,T.ck,T.cleads,rfl,l,_,rfl,.inl (.of C.leads),_,_,rfl,rfl,_,rfl,kH (λc1=>?_) (λc1=>?_)⟩
  ·have c1':=zO c1;rw[ll]at c1';have e:Pj rs (some i)=none:=by show(if i<rs.length then _ else none)=none;rw[zN (by lia)]
   rw[e]at q;exact q
  ·have c1':=df c1;rw[ll]at c1';have hi:i<rs.length:=by lia
   have e:Pj rs (some i)=QL rs i:=by show(if i<rs.length then _ else none)=_;rw[zQ hi]
   rw[e]at q;exact⟨_,rfl,c,CK,dx,_,_,rfl,C.ob,T.ck,T.cleads,rfl,_,rfl,l,_,_,_,rfl,rfl,.of C.leads,qF (C.lead hi),q⟩
theorem zDz: ∀{a b:Option Nat},decide (oI a=oI b)=decide (a=b)
 |none,none=>rfl
 |none,some _=>rfl
 |some _,none=>rfl
 |some x,some y=>by
  by_cases h:x=y
  ·rw[h,xI rfl,xI rfl]
  ·rw[jH (λz=>h (by have z:V.int (x:Nat)=V.int (y:Nat):=z;injection z with z;lia)),jH (λz=>h (by injection z))]
theorem Yv {a b:Option Nat}(h:a.isSome=true):zAc (oI a) (oI b)=true:=by
 cases a<;>cases b<;>rfl
theorem Yq (T:DM K mg CK)(F:wE K "meet" "meet" Rc f fd)(Co:kA P w K mg base 1 "row_meant" ["check","at"] (Er CK)):uE P w K mg base 2 f fd ["check","first","second"] (Es CK):=by
 refine F.oN SA λcdv A outer s H vs Q E hr h=>?_;obtain⟨c,dx,r,l,d,q,rs,L,R,a,b,rfl,C,q⟩:=h;refine⟨_,(zE (uA 3 SA.nd (cN Co hr (kO (pv 0) (pv 1))))
   (zJ (zV (BO (Gv Ot (pv 3) qQ (IC _)) (Fg (Gv kW (pv 3) (cN Co hr (kO (pv 0) (pv 2))) (IC _))))))),?_⟩
 try dsimp only[Ah,Ai]
 refine⟨_,rfl,_,rfl,c,dx,r,l,d,_,rs,L,R,a,rfl,C,?_⟩;refine⟨_,rfl,rfl,_,rfl,kH (λc1=>?_) (λc1=>?_)⟩
 ·refine⟨_,rfl,_,rfl,_,rfl,c,dx,r,l,d,_,rs,L,R,b,rfl,C,?_⟩;have hs:(Pj rs a).isSome =true:=by
   cases e:Pj rs a with
   |none=>rw[e]at c1;cases c1
   |some i=>rfl
  have em:kF rs a b=decide (oI (Pj rs a)=oI (Pj rs b)):=by unfold kF;rw[hs,zDz,jU]
  rw[em]at q;exact⟨Yv hs,q⟩
 ·have hs:(Pj rs a).isSome =false:=by
   cases e:Pj rs a with
   |none=>rfl
   |some i=>rw[e]at c1;exact absurd rfl c1
  have em:kF rs a b=false:=by unfold kF;rw[hs];rfl
  rw[em]at q;exact q
theorem Uo (T:DM K mg CK)(F:wE K "behind" "behind" Li f fd)(Co:kA P w K mg base 1 "row_meant" ["check","at"] (Er CK)):uE P w K mg base 2 f fd ["check","at","row"] (Dp CK):=by
 refine F.oN ML λcdv A outer s H vs Q E hr h=>?_;obtain⟨c,dx,r,l,d,q0,rs,L,R,a,t,op,n,rfl,C,et,q⟩:=h;refine⟨_,(zE (uA 3 ML.nd (cN Co hr (kO (pv 0) (pv 1))))
   (zE (xS (PW.pt (vO (vH Hj (pv 3) qQ) (qT (vH (Ym hr) (Am kQ (xW (pv 0) rfl) (pv 3)) (pv 2))))) (zJ (zV qQ)) yI)
   (zJ (zV (xQ qM (pv 3) zK))))),?_⟩
 try dsimp only[Ah,Ai]
 refine⟨_,rfl,_,rfl,c,dx,r,l,d,q0,rs,L,R,a,rfl,C,?_⟩;cases e:Pj rs a with
 |none=>
  have eb:QH rs a op n=none:=by cases n with|none=>rfl|some m=>show uR rs a op m=none;unfold uR;rw[e];rfl
  rw[eb]at q;exact⟨_,rfl,rfl,_,rfl,qO q⟩
 |some i=>
  refine⟨_,rfl,rfl,_,rfl,wD ?_⟩;have hi:=VA e;obtain⟨vs,ev,pv⟩:=C.rows;obtain⟨t2,op2,n2,hv,hr2,et2⟩:=Rg pv hi;have fz:AZ (oZ n)=true:=by cases n<;>rfl
  refine⟨_,rfl,c,CK,dx,_,_,rfl,C.ob,T.ck,T.crows,rfl,_,rfl,r,_,_,_,rfl,rfl,.of ev,qF hv,_,rfl,t2,t,_,_,_,_,rfl,rfl,.of et2,.of et,fz,_,rfl,kH (λc1=>?_) (λc1=>?_)⟩
  ·have eb:QH rs a op n=none:=by
    cases n with
    |none=>rfl
    |some m=>
     show uR rs a op m=none;unfold uR;rw[e];show(if rs[i]? =some (op,m)then some (i+1)else none)=none;rw[zN];intro z;rw[hr2]at z;injection z with z
     injection z with z1 z2
     have c1:(!(op2==op&&(n2==m)))=true:=c1;rw[z1,z2,kD,kD]at c1;cases c1
   rw[eb]at q;exact q
  ·have z:(op2==op&&Jp (.int n2) (oZ n))=true:=by
    cases w:(op2==op&&Jp (.int n2) (oZ n))with
    |true=>rfl
    |false=>rw[w]at c1;exact absurd rfl c1
   obtain⟨z1,z2⟩:=Bool.and_eq_true_iff.mp z;have z1:=eq_of_beq z1;have eb:QH rs a op n=some (i+1):=by
    cases n with
    |none=>cases z2
    |some m=>
     have z2:(n2==m)=true:=z2;have z2:=eq_of_beq z2;show uR rs a op m=_;unfold uR;rw[e];show(if rs[i]? =some (op,m)then some (i+1)else none)=_;rw[zQ (by rw[hr2,z1,z2])]
   rw[eb]at q;exact⟨_,rfl,_,_,rfl,rfl,q⟩
theorem Ks (T:DM K mg CK)(F:wE K "begins_alike" "begins_alike" Ey f fd)(Cb:kA P w K mg base 1 "begin_of" ["check","node"] (Af CK (·.1)))(Ch:kA P w K mg base 2 "meet" ["check","first","second"] (Es CK)):uE P w K mg base 3 f fd ["check","node","part"] (BI CK (·.1)):=by
 refine F.oN Kq λcdv A outer s H vs Q E hr h=>?_;obtain⟨c,dx,r,l,d,q0,rs,L,R,tn,tp,k,p,k',p',x,y,x',y',be,be',rfl,C,et,hp,et',hp',q⟩:=h;refine⟨_,(zJ (zV (cN Ch hr (zB (pv 0) (zB (cN Cb hr (kO (pv 0) (pv 2))) (zB (cN Cb hr (kO (pv 0) (pv 1))) yC)))))),?_⟩
 try dsimp only[Ah,Ai]
 refine⟨_,rfl,_,rfl,_,rfl,c,dx,r,l,d,q0,rs,L,R,tp,k',p',x',y',be',rfl,C,et',hp',?_⟩;refine⟨_,rfl,_,rfl,c,dx,r,l,d,q0,rs,L,R,tn,k,p,x,y,be,rfl,C,et,hp,?_⟩;exact⟨c,dx,r,l,d,q0,rs,L,R,some be'.1,some be.1,rfl,C,q⟩
theorem Mv (T:DM K mg CK)(F:wE K "ends_alike" "ends_alike" Go f fd)(Ce:kA P w K mg base 1 "end_of" ["check","node"] (Af CK (·.2)))(Ch:kA P w K mg base 2 "meet" ["check","first","second"] (Es CK)):uE P w K mg base 3 f fd ["check","node","part"] (BI CK (·.2)):=by
 refine F.oN Mj λcdv A outer s H vs Q E hr h=>?_;obtain⟨c,dx,r,l,d,q0,rs,L,R,tn,tp,k,p,k',p',x,y,x',y',be,be',rfl,C,et,hp,et',hp',q⟩:=h;refine⟨_,(zJ (zV (cN Ch hr (zB (pv 0) (zB (cN Ce hr (kO (pv 0) (pv 2))) (zB (cN Ce hr (kO (pv 0) (pv 1))) yC)))))),?_⟩
 try dsimp only[Ah,Ai]
 refine⟨_,rfl,_,rfl,_,rfl,c,dx,r,l,d,q0,rs,L,R,tp,k',p',x',y',be',rfl,C,et',hp',?_⟩;refine⟨_,rfl,_,rfl,c,dx,r,l,d,q0,rs,L,R,tn,k,p,x,y,be,rfl,C,et,hp,?_⟩;exact⟨c,dx,r,l,d,q0,rs,L,R,some be'.2,some be.2,rfl,C,q⟩
theorem Ys (T:DM K mg CK)(F:wE K "left_by_unless" "left_by_unless" CO f fd)(Co:kA P w K mg base 1 "row_meant" ["check","at"] (Er CK)):uE P w K mg base 2 f fd ["check","at"] (QV CK):=by
 refine F.oN EQ λcdv A outer s H vs Q E hr h=>?_;obtain⟨c,dx,r,l,d,q0,rs,L,R,a,rfl,C,uk,q⟩:=h;refine⟨_,(zE (uA 2 EQ.nd (cN Co hr (kO (pv 0) (pv 1))))
   (zE (xS (PW.pt (vO (vH Hj (pv 2) qQ) (qT (vH Ia (Am jO (Am kQ (xW (pv 0) rfl) (pv 2)) zK) (zX rfl T.m_OP_UNLESS))))) (zJ (zV qQ)) yI)
   (zJ (zV (Am jO (Am kQ (xW (pv 0) rfl) (pv 2)) zK))))),?_⟩
 try dsimp only[Ah,Ai]
 refine⟨_,rfl,_,rfl,c,dx,r,l,d,q0,rs,L,R,a,rfl,C,?_⟩;cases e:Pj rs a with
 |none=>
  have eb:GA rs a=none:=by unfold GA;rw[e];rfl
  rw[eb]at q;exact⟨_,rfl,rfl,_,rfl,qO q⟩
 |some i=>
  refine⟨_,rfl,rfl,_,rfl,wD ?_⟩;have hi:=VA e;obtain⟨vs,ev,pv⟩:=C.rows;obtain⟨t2,op2,n2,hv,hr2,et2⟩:=Rg pv hi;refine⟨_,rfl,c,CK,dx,_,_,rfl,C.ob,T.ck,T.crows,rfl,_,rfl,r,_,_,_,rfl,rfl,.of ev,qF hv,t2,_,_,_,rfl,rfl,.of et2,rfl,rfl,_,rfl,kH (λc1=>?_) (λc1=>?_)⟩
  ·have n5:op2≠5:=λz=>by
    rw[z]at c1;cases c1
   have eb:GA rs a=none:=by
    unfold GA;rw[e];show(match rs[i]? with|some (5,n)=>some n.toNat|_=>none)=none;rw[hr2];split
    ·rename_i h;cases h;exact absurd rfl n5
    ·rfl
   rw[eb]at q;exact q
  ·have e5:op2=5:=by
    by_cases z:op2=5
    ·exact z
    ·exact absurd (show(!decide (V.int op2=V.int 5))=true by rw[jH (λy=>z (by injection y))];rfl) c1
   subst e5;have u0:=uk i n2 hr2;have eb:GA rs a=some n2.toNat:=by
    unfold GA;rw[e];show(match rs[i]? with|some (5,n)=>some n.toNat|_=>none)=_;rw[hr2];rfl
   rw[eb]at q;have q:Q (.int (n2.toNat:Nat)) H:=q;rw[AV u0]at q;exact⟨_,rfl,c,CK,dx,_,_,rfl,C.ob,T.ck,T.crows,rfl,_,rfl,r,_,_,_,rfl,rfl,.of ev,qF hv,t2,_,_,_,rfl,rfl,.of et2,rfl,q⟩
theorem OD (T:DM K mg CK)(F:wE K "are_right" "are_right" EX f fd):uE P w K mg base 1 f fd ["check","parts"] (Im CK):=by
 refine F.oN Ob λcdv A outer s H vs Q E hr h=>?_;obtain⟨c,dx,r,l,d,q0,rs,L,R,pt,pvs,bs,rfl,C,ept,pp,hn,q⟩:=h;refine⟨_,(zJ (zV (yS (FR rfl) rfl T.n_all JS (kG (Dk (own:=["part"]) (ys:=["check"]) rfl (JM (pv 1)) (vI (sc:=zR EX) rfl (by decide+kernel)) (.cons (j:=0) rfl .nil) (λ_ _ _ _ _=>(vB (i:=0) (show List.Nodup [("part":Str),("check":Str)]from(by decide+kernel)) rfl (Or.inl rfl))) (λ_ _ _ _ _=>Bi) (λ_ _ _ _ _=>(Ja (Hr hr) (Yi K rfl (pv 1)) (Am (KF K rfl) (pv 0) zK) (λ_ _=>rfl)))))))),?_⟩
 try dsimp only[Ah,Ai]
 have sl:sizeLine=16777216:=wU;have lp:=Paired.len pp;refine⟨_,rfl,pt,rfl,⟨pvs,.of ept⟩,λp hp=>?_⟩;refine LZ (xs:=pvs) (λi σ' H'=>H'=upd H p (.lst ((bs.take i).map V.bl))/\ ∃x,σ'=[x,some (.ref c)]) ⟨rfl,_,rfl⟩ ?_ ?_ ?_
 ·rintro i σ' H' _ ⟨rfl,_⟩;exact .of (zM hp _ _ _ ept)
 ·rintro i x σ' H' hi hx ⟨rfl,x0,rfl⟩;obtain⟨b,hb,t,k,pl,y1,y2,rfl,et,hR⟩:=Paired.yonder pp hx;have tk:bs.take (i+1)=bs.take i++[b]:=by rw[jT,hb]<;>rfl
  have s1:=zM hp (.lst ((bs.take i).map V.bl));have C1:=C.same s1;unfold BE;refine QM ⟨_,rfl,c,CK,dx,_,_,rfl,C1.ob,T.ck,T.cright,rfl,_,rfl,t,_,_,_,rfl,rfl,.of (s1 _ _ et),rfl,q0,_,rfl,C1.rt hR,?_⟩;refine⟨_,zH,by rw[zF,yL];lia,CW.next hi ⟨?_,_,rfl⟩⟩;rw[tk,yP,Kw];rfl
 ·rintro σ' H' ⟨rfl,_⟩;rw[lp,xZ];exact⟨p,_,rfl,.of zH,q _ (zM hp _)⟩
structure zCc (K:PySem.W.Frag)(mg:Str->Option Value):Prop where
 m_NUMBER:qB mg "NUMBER" 0
 m_ADD:qB mg "ADD" 8
 m_SAME:qB mg "SAME" 14
theorem Wr (d:Nat)(T:zCc K mg)(F:wE K "fixed" "fixed" IT f fd)(Cb9:kA P w K mg base 3 "worth" ["kind","values","rows"] NL)(Ca4:kA P w K mg base (3+d) "fixed" ["node"] (Gg d)):uE P w K mg base (3+d+1) f fd ["node"] (Gg (d+1)):=by
 refine F.oN Dt λcdv A outer s H vs Q E hr h=>?_;obtain⟨v,t,rfl,ht,fx,q⟩:=h;cases t with
 |mk k own ps=>
 obtain⟨t,pl,o,qa,vs,rfl,e1,e2,e3,pr⟩:=ht;obtain⟨h0,h2,hp⟩:=fx;refine⟨_,(zE (AR (pv 0) (uJ rfl (yR (Ar 1 Dt.nd) (yR (Ar 2 Dt.nd) (yR (Ar 3 Dt.nd) (yR (Ar 4 Dt.nd) qP))))))
   (zE (xS (vH kW (pv 1) (zX rfl T.m_NUMBER)) (zJ (zV (Am jO (pv 3) zK))) yI)
   (zE (xS (PW.pt (vO (vH DZ (pv 1) (zX rfl T.m_ADD)) (qT (vH MU (pv 1) (zX rfl T.m_SAME))))) (zJ (zV qQ)) yI)
   (zE (Lm (i:=5) Dt.nd rfl rfl (own:=["part"]) (ys:=[]) rfl (JM (pv 4)) (vI (sc:=zR IT) rfl (by decide+kernel)) .nil (λ_ _ _ _ _=>(vB (i:=0) (show List.Nodup [("part":Str)]from(by decide+kernel)) rfl (Or.inl rfl))) (λ_ _ _ _ _=>Bi) (λ_ _ _ _ _=>(cN Ca4 hr (kG (pv 0)))))
   (zE (xS (SG MT qQ (pv 5) rfl) (zJ (zV qQ)) yI)
   (zE (AR (cN Cb9 hr (zB (pv 1) (zB (pv 5) (zB (jE yC) yC)))) (uJ rfl (yR (Ar 6 Dt.nd) (yR (Ar 7 Dt.nd) qP))))
   (zJ (zV (Pu (vH Hj (pv 6) qQ) (pv 7) qQ))))))))),?_⟩
 try dsimp only[Ah,Ai]
 refine⟨_,rfl,t,_,rfl,uS.of e1,rfl,_,_,rfl,_,_,rfl,_,_,rfl,_,_,rfl,rfl,?_⟩;refine⟨_,rfl,rfl,_,rfl,kH (λc=>?_) (λc=>?_)⟩
 ·have k0:=vt c;obtain⟨n,rfl⟩:=h0 k0;have e:Eg (.mk k [n] ps)=some n:=by show(if k=0 then[n].head? else none)=_;rw[zQ k0]<;>rfl
  rw[e]at q;exact⟨_,rfl,o,_,_,_,rfl,rfl,uS.of e2,rfl,q H (yU.refl H)⟩
 have k0:=vf c;have e:Eg (.mk k own ps)=none:=by show(if k=0 then own.head? else none)=_;rw[zN k0]
 rw[e]at q;refine⟨_,rfl,_,_,rfl,rfl,_,rfl,kH (λc=>qO (q H (yU.refl H))) (λc=>?_)⟩;have k8:=df c;refine⟨_,rfl,_,_,rfl,rfl,_,rfl,kH (λc=>q H (yU.refl H)) (λc=>?_)⟩;have k14:=df c;obtain⟨nn,l10⟩:=h2 (by lia) (by lia);have lv:=Paired.len pr;refine⟨_,rfl,qa,rfl,⟨_,uS.of e3⟩,λp hp'=>?_⟩;refine LZ (xs:=vs) (λi σ' H'=> ∃x,σ'=[x]/\yU H H'/\H' p=some (.lst (((ps.map Eg).take i).map oZ))) ⟨_,rfl,zM hp' _,zH⟩ ?_ ?_ ?_
 ·rintro i σ' H' _ ⟨x,rfl,g,_⟩;exact yU.seqT g (uS.of e3)
 ·rintro i x σ' H' hi hx ⟨y,rfl,g,ez⟩;obtain⟨tx,hg,tt⟩:=Paired.yonder pr hx;have fx:=hp tx (List.mem_iff_getElem?.mpr ⟨_,hg⟩);dsimp only[BE,TJ];refine qO ⟨_,rfl,x,tx,rfl,Kv.tups (.same g) tt,fx,λH2 g2=>?_⟩;have hv:(ps.map Eg)[i]? =some (Eg tx):=by rw[yQ,hg]<;>rfl
  refine⟨_,g2 _ _ ez,Ep (by rw[zF,yL,zF];lia),CW.next hi ⟨_,rfl,(g.trans g2).fresh hp',?_⟩⟩;rw[zH,wF,hv,yP]<;>rfl
 ·rintro σ' H1 ⟨x,rfl,g1,ez⟩;rw[lv,xJ (by rw[zF]<;>exact zP _)]at ez;obtain⟨n1,n2⟩:=Yw nn;refine⟨_,rfl,p,_,rfl,.inl (kS.of ez),rfl,n2,_,rfl,?_⟩;rw[show(if false=true then !YG .non ((ps.map Eg).map oZ)else YG .non ((ps.map Eg).map oZ))=true from n1];exact qO (q H1 g1)
theorem Uj (T:zCc K mg)(F:wE K "fixed" "fixed" IT f fd)(Cb9:kA P w K mg base 3 "worth" ["kind","values","rows"] NL)(hm:mg "fixed"=some (.ref f))(hk:PySem.W.keepIn K (.ref f)=true)(hb:An K fd ["node"] []):
  ∀d,uE P w K mg base (3+d) f fd ["node"] (Gg d):=by
 intro d
 induction d with
 |zero=>exact Tf λvs H Q E h=>by obtain⟨v,t,_,z,_⟩:=h;exact z.elim
 |succ d ih=>exact Wr d T F Cb9 ⟨⟨_,_,ih,hm,hk,hb⟩⟩
theorem Mr (T:DM K mg CK)(F:wE K "own_row_at" "own_row_at" Gk f fd)(Cb:kA P w K mg base 1 "begin_of" ["check","node"] (Af CK (·.1)))(Ce:kA P w K mg base 1 "end_of" ["check","node"] (Af CK (·.2)))(Ch:kA P w K mg base 2 "meet" ["check","first","second"] (Es CK)):uE P w K mg base 3 f fd ["check","node"] (NJ CK):=by
 refine F.oN Dj λcdv A outer s H vs Q E hr h=>?_;obtain⟨c,dx,r,l,d,q0,rs,L,R,tn,k,p,x,pt,pvs,be,bes,rfl,C,et,ept,hp,pp,q⟩:=h;refine⟨_,(zE (uA 2 Dj.nd (cN Cb hr (kO (pv 0) (pv 1))))
   (zE (wL xP rfl (JM (Am jO (pv 1) zK)) (Ar 3 Dj.nd) (zE (xS (wK (qW (cN Ch hr (zB (pv 0) (zB (pv 2) (zB (cN Cb hr (kO (pv 0) (pv 3))) yC)))))) (zJ (zV qQ)) yI)
   (zJ (uA 2 Dj.nd (cN Ce hr (kO (pv 0) (pv 3)))))))
   (zJ (zV (pv 2))))),?_⟩
 try dsimp only[Ah,Ai]
 have lp:=Paired.len pp;refine⟨_,rfl,_,rfl,c,dx,r,l,d,q0,rs,L,R,tn,k,p,x,_,be,rfl,C,et,hp,?_⟩;refine⟨_,rfl,tn,_,_,_,rfl,rfl,.of et,rfl,pt,rfl,⟨pvs,.of ept⟩,KH (xs:=pvs) (λi σ' H'=>H'=H/\ ∃(b:Nat) (v3:Option V),σ'=[some (.ref c),some (.ref tn),some (.int (b:Nat)),v3]/\CS rs be.1 bes=CS rs b (bes.drop i)) ⟨rfl,be.1,none,rfl,rfl⟩ ?_ ?_ ?_⟩
 ·rintro i σ' H' _ ⟨rfl,_⟩;exact .of ept
 ·rintro i v σ' H' hv ⟨rfl,b,v3,rfl,e⟩;obtain⟨bi,hb,t,k',p',x',y',rfl,ett,hL⟩:=Paired.yonder pp hv;have dr:bes.drop i=bi::bes.drop (i+1):=by
   have hi:=(List.getElem?_eq_some_iff.mp hb).1;rw[xO hi];rw[zG hi]at hb;cases hb;rfl
  rw[dr]at e;have e:CS rs be.1 bes=if kF rs (some b) (some bi.1)=true then CS rs bi.2 (bes.drop (i+1))else none:=e;refine⟨_,rfl,_,rfl,_,rfl,_,rfl,c,dx,r,l,d,q0,rs,L,R,t,k',p',x',y',bi,rfl,C,ett,hL,?_⟩;refine⟨c,dx,r,l,d,q0,rs,L,R,some b,some bi.1,rfl,C,_,rfl,?_⟩;cases m:kF rs (some b) (some bi.1)with
  |false=>
   rw[m,zN (by decide)]at e;rw[e]at q;exact qO q
  |true=>
   rw[m,zQ rfl]at e;refine wD ?_;exact⟨_,rfl,_,rfl,c,dx,r,l,d,q0,rs,L,R,t,k',p',x',y',bi,rfl,C,ett,hL,rfl,bi.2,_,rfl,e⟩
 ·rintro σ' H' ⟨rfl,b,v3,rfl,e⟩;rw[lp,AN]at e;rw[e]at q;exact⟨_,rfl,q⟩
theorem OA (e:Nat)(T:DM K mg CK)(F:wE K "is_pushed" "is_pushed" Ha f fd)(Ca4:kA P w K mg base (3+e) "fixed" ["node"] (Gg e))(Cb:kA P w K mg base 1 "begin_of" ["check","node"] (Af CK (·.1)))(Ce:kA P w K mg base 1 "end_of" ["check","node"] (Af CK (·.2)))(Ci:kA P w K mg base 2 "behind" ["check","at","row"] (Dp CK))(Ch:kA P w K mg base 2 "meet" ["check","first","second"] (Es CK)):uE P w K mg base (3+e+1) f fd ["check","node"] (KQ CK e):=by
 refine F.oN IR λcdv A outer s H vs Q E hr h=>?_;obtain⟨c,dx,r,l,d,q0,rs,L,R,tn,k,p,x,y,t,be,rfl,C,et,tr,fx,hp,q⟩:=h;refine⟨_,(zE (uA 2 IR.nd (cN Ca4 hr (kG (pv 1))))
   (zE (xS (vH Hj (pv 2) qQ) (zJ (zV qG)) yI)
   (zJ (zV (cN Ch hr (zB (pv 0) (zB (cN Ci hr (zB (pv 0) (zB (cN Cb hr (kO (pv 0) (pv 1))) (zB (xR (kO (zX rfl T.m_OP_PUSH) (pv 2))) yC)))) (zB (cN Ce hr (kO (pv 0) (pv 1))) yC)))))))),?_⟩
 try dsimp only[Ah,Ai]
 refine⟨_,rfl,_,t,rfl,tr,fx,λH1 s1=>?_⟩;have C1:=C.same s1;have et1:=s1 _ _ et;cases e1:Eg t with
 |none=>
  rw[e1]at q;exact⟨_,rfl,rfl,_,rfl,qO (q H1 s1)⟩
 |some n=>
  rw[e1]at q;refine⟨_,rfl,rfl,_,rfl,wD ?_⟩;refine⟨_,rfl,_,rfl,_,rfl,_,rfl,c,dx,r,l,d,q0,rs,L,R,tn,k,p,x,y,be,rfl,C1,et1,hp,?_⟩;refine⟨_,rfl,sm2,λt2 h2=>?_⟩;have s2:=zM h2 (.tup [.int 0,.int n]);refine⟨c,dx,r,l,d,q0,rs,L,R,some be.1,t2,0,some n,rfl,C1.same s2,zH,?_⟩;refine⟨_,rfl,_,rfl,c,dx,r,l,d,q0,rs,L,R,tn,k,p,x,y,be,rfl,C1.same s2,s2 _ _ et1,hp,?_⟩;exact⟨c,dx,r,l,d,q0,rs,L,R,_,some be.2,rfl,C1.same s2,q _ (s1.trans s2)⟩
theorem Uf (T:DM K mg CK)(F:wE K "picked" "picked" Ld f fd):uE P w K mg base 1 f fd ["value","parts"] KR:=by
 refine F.oN MK λcdv A outer s H vs Q E hr h=>?_;obtain⟨v,pt,pvs,x,rfl,ept,h0,hx,q⟩:=h;refine⟨_,(zE (uA 2 MK.nd (xQ CU (yS yM rfl T.n_len jZ (kG (pv 1))) zK))
   (zE (xS (PW.pt (vO (vH DZ (pv 0) zK) (qT (vH MV (pv 0) (pv 2))))) (zJ (zV (Am jO (pv 1) (pv 2)))) yI)
   (zJ (zV (Am jO (pv 1) (xQ qM zK (pv 0))))))),?_⟩
 try dsimp only[Ah,Ai]
 refine⟨_,rfl,pt,_,rfl,.inr (.of ept),_,_,rfl,rfl,?_⟩;have last:v<0\/v ≥ (pvs.length:Int)-1->Jq pvs ((pvs.length:Int)-1)=some x:=λz=>by
  have e:VR v pvs.length=pvs.length-1:=by unfold VR;rw[zQ z]
  rw[e]at hx;rw[show(pvs.length:Int)-1=((pvs.length-1:Nat):Int)by lia];exact qF hx
 refine⟨_,rfl,_,_,rfl,rfl,_,rfl,kH (λc=>qO ?_) (λc=>?_)⟩
 ·exact⟨_,rfl,_,rfl,pt,_,_,_,rfl,rfl,.of ept,last (.inl (zO c)),q⟩
 have c1:=df c;refine⟨_,rfl,_,rfl,_,_,rfl,rfl,_,rfl,kH (λc=>?_) (λc=>?_)⟩
 ·exact⟨_,rfl,_,rfl,pt,_,_,_,rfl,rfl,.of ept,last (.inr (zO c)),q⟩
 have c2:=df c;have e:VR v pvs.length=1+v.toNat:=by unfold VR;rw[zN (by lia)]
 rw[e]at hx;refine⟨_,rfl,_,rfl,_,_,rfl,rfl,pt,_,_,_,rfl,rfl,.of ept,?_,q⟩;show Jq pvs (1+v)=some x;rw[show(1:Int)+v=((1+v.toNat:Nat):Int)by lia];exact qF hx
theorem Wu (e:Nat)(T:DM K mg CK)(F:wE K "is_picked_ahead" "is_picked_ahead" BL f fd)(Ca4:kA P w K mg base (3+e) "fixed" ["node"] (Gg e))(Ce0:kA P w K mg base 1 "picked" ["value","parts"] KR)(Cm:kA P w K mg base 3 "begins_alike" ["check","node","part"] (BI CK (·.1)))(Cp:kA P w K mg base 3 "ends_alike" ["check","node","part"] (BI CK (·.2))):uE P w K mg base (3+e+1) f fd ["check","node"] (KW CK e):=by
 refine F.oN Br λcdv A outer s H vs Q E hr h=>?_;obtain⟨c,dx,r,l,d,q0,rs,L,R,tn,k,p,x,pt,pvs,is,v0,t0,be,rfl,C,et,ept,hp,pp,h0,tr,fx,q⟩:=h;refine⟨_,(zE (uA 2 Br.nd (cN Ca4 hr (kG (Am jO (Am jO (pv 1) zK) zK))))
   (zE (xS (vH Hj (pv 2) qQ) (zJ (zV qG)) yI)
   (zE (uA 3 Br.nd (cN Ce0 hr (kO (pv 2) (Am jO (pv 1) zK))))
   (zJ (zV (BO (Ja (Hr hr) (xW (pv 0) rfl) (Am jO (pv 3) zK) (λ_ _=>rfl)) (BO (cN Cm hr (zB (pv 0) (zB (pv 1) (zB (pv 3) yC)))) (Fg (cN Cp hr (zB (pv 0) (zB (pv 1) (zB (pv 3) yC)))))))))))),?_⟩
 try dsimp only[Ah,Ai]
 have lp:=Paired.len pp;have l0:0<pvs.length:=(List.getElem?_eq_some_iff.mp h0).1;refine⟨_,rfl,tn,_,_,_,rfl,rfl,.of et,rfl,pt,_,_,_,rfl,rfl,.of ept,qF (j:=0) h0,v0,t0,rfl,tr,fx,λH1 s1=>?_⟩;have C1:=C.same s1;have et1:=s1 _ _ et;have ept1:=s1 _ _ ept;cases e1:Eg t0 with
 |none=>
  rw[e1]at q;exact⟨_,rfl,rfl,_,rfl,qO (q H1 s1)⟩
 |some n=>
  rw[e1]at q;refine⟨_,rfl,rfl,_,rfl,wD ?_⟩;have hlt:=zAp (v:=n) l0;have hx:pvs[VR n pvs.length]? =some pvs[VR n pvs.length]:=zG hlt;obtain⟨⟨b,be'⟩,hi,t,k',p',x',y',ev,ett,hR,hL⟩:=Paired.yonder pp hx;refine⟨_,rfl,_,rfl,tn,_,_,_,rfl,rfl,.of et1,rfl,n,pt,pvs,_,rfl,ept1,l0,hx,?_⟩;rw[ev];have ea:YX rs be is (some n)=(b&&(kF rs (some be'.1) (some be.1)&&kF rs (some be'.2) (some be.2))):=by
   rw[lp]at hi;show(match is[VR n is.length]? with|some i=>i.1&&(kF rs (some i.2.1) (some be.1)&&kF rs (some i.2.2) (some be.2))|none=>false)=_;rw[hi]
  rw[ea]at q;have ett1:=s1 _ _ ett;refine⟨_,rfl,c,CK,dx,_,_,rfl,C1.ob,T.ck,T.cright,rfl,_,rfl,t,_,_,_,rfl,rfl,.of ett1,rfl,q0,_,rfl,C1.rt hR,b,rfl,?_⟩;cases b with
  |false=>exact wD (q H1 s1)
  |true=>
   refine qO ?_;have hL:=hL rfl;refine⟨_,rfl,_,rfl,_,rfl,c,dx,r,l,d,q0,rs,L,R,tn,t,k,p,k',p',x,_,x',y',be,be',rfl,C1,et1,hp,ett1,hL,_,rfl,?_⟩;cases m:kF rs (some be'.1) (some be.1)with
   |false=>
    rw[m]at q;exact wD (q H1 s1)
   |true=>
    rw[m]at q;refine qO ?_;exact⟨_,rfl,_,rfl,_,rfl,c,dx,r,l,d,q0,rs,L,R,tn,t,k,p,k',p',x,_,x',y',be,be',rfl,C1,et1,hp,ett1,hL,q H1 s1⟩
inductive NT (C:Addr) (vs:List V) (H:Hp) (Q:VK) (E:XK):Prop
 |mk (c dx r l d q:Addr) (rs:uB) (L:Int->Option (Nat×Nat)) (R:Int->Option Bool) (tn:Addr) (k p:Int) (o pt:Addr) (own:List Int) (pvs:List V) (hs:wC) (bx:Int) (be:Nat×Nat) (bes:List (Nat×Nat)) (h0:vs=[.ref c,.ref tn]) (h1:IH C H c dx r l d q rs L R) (h2:H tn=some (.tup [.int k,.int p,.ref o,.ref pt])) (h3:H o=some (.tup (own.map V.int))) (h4:H pt=some (.tup pvs)) (h5:Hw hs bx k own) (h6:k≠3) (h7:k≠4) (h8:k≠5) (h9:L p=some be) (h10:Paired (LnP H L) pvs bes) (h11: ∀H',yU H H'->Q (.bl (SM rs be bes k (HP k own))) H'):NT C vs H Q E
theorem Wc (k:Int)(own:List Int): ∃a b,HP k own=[a,b]:=by
 unfold HP;split
 ·exact⟨_,_,rfl⟩
 ·split
  ·exact⟨_,_,rfl⟩
  ·split
   ·exact⟨_,_,rfl⟩
   ·exact⟨_,_,rfl⟩
theorem Um (T:DM K mg CK)(F:wE K "is_right_by_own_row" "is_right_by_own_row" Ag f fd)(Cc2:kA P w K mg base 3 "own_row_at" ["check","node"] (NJ CK))(Cr:kA P w K mg base 1 "own_row" ["kind","numbers"] GL)(Ci:kA P w K mg base 2 "behind" ["check","at","row"] (Dp CK))(Ce:kA P w K mg base 1 "end_of" ["check","node"] (Af CK (·.2)))(Ch:kA P w K mg base 2 "meet" ["check","first","second"] (Es CK)):uE P w K mg base 4 f fd ["check","node"] (NT CK):=by
 refine F.oN kX λcdv A outer s H vs Q E hr h=>?_;obtain⟨c,dx,r,l,d,q0,rs,L,R,tn,k,p,o,pt,own,pvs,hs,bx,be,bes,rfl,C,et,eo,ept,of,n3,n4,n5,hp,pp,q⟩:=h;refine⟨_,(zE (AR (pv 1) (uJ rfl (yR (Ar 2 kX.nd) (yR (Ar 3 kX.nd) (yR (Ar 4 kX.nd) (yR (Ar 5 kX.nd) qP))))))
   (zE (uA 6 kX.nd (cN Ci hr (zB (pv 0) (zB (cN Cc2 hr (kO (pv 0) (pv 1))) (zB (cN Cr hr (kO (pv 2) (pv 4))) yC)))))
   (zE (xS (vH kW (pv 2) (zX rfl T.m_FAIL)) (zJ (zV (Gv Ot (pv 6) qQ (IC _)))) yI)
   (zJ (zV (cN Ch hr (zB (pv 0) (zB (pv 6) (zB (cN Ce hr (kO (pv 0) (pv 1))) yC))))))))),?_⟩
 try dsimp only[Ah,Ai]
 obtain⟨ra,rb,er⟩:=Wc k own;refine⟨_,rfl,tn,_,rfl,.of et,rfl,_,_,rfl,_,_,rfl,_,_,rfl,_,_,rfl,rfl,?_⟩;refine⟨_,rfl,_,rfl,_,rfl,c,dx,r,l,d,q0,rs,L,R,tn,k,p,_,pt,pvs,be,bes,rfl,C,et,ept,hp,pp,?_⟩;refine⟨_,rfl,_,rfl,k,o,own,hs,bx,rfl,eo,of,n3,n4,n5,λt2 h2=>?_⟩;rw[er];have s2:=zM h2 (.tup ([ra,rb].map V.int));refine⟨c,dx,r,l,d,q0,rs,L,R,_,t2,ra,some rb,rfl,C.same s2,zH,?_⟩;have em:SM rs be bes k (HP k own)=if k=7 then(uR rs (CS rs be.1 bes) ra rb).isSome else kF rs (uR rs (CS rs be.1 bes) ra rb) (some be.2):=by rw[er];rfl
 rw[em]at q;refine⟨_,rfl,rfl,_,rfl,kH (λc1=>?_) (λc1=>?_)⟩
 ·have k7:=vt c1;have q:=q _ s2;rw[zQ k7]at q;refine⟨_,rfl,rfl,?_⟩;show Q (.bl (!decide (oI (uR rs (CS rs be.1 bes) ra rb)=.non))) _;have e2:(!decide (oI (uR rs (CS rs be.1 bes) ra rb)=.non))=(uR rs (CS rs be.1 bes) ra rb).isSome:=by
   cases uR rs (CS rs be.1 bes) ra rb<;>rfl
  rw[e2];exact q
 ·have k7:=vf c1;have q:=q _ s2;rw[zN k7]at q;refine⟨_,rfl,_,rfl,_,rfl,_,rfl,c,dx,r,l,d,q0,rs,L,R,tn,k,p,_,_,be,rfl,C.same s2,s2 _ _ et,hp,?_⟩;exact⟨c,dx,r,l,d,q0,rs,L,R,_,some be.2,rfl,C.same s2,q⟩
def chM (rs:uB):List (Nat×Nat)->Bool
 |[]=>true
 |a::r=>match r with
  |[]=>true
  |b::_=>kF rs (uR rs (some a.2) 3 0) (some b.1)&&chM rs r
def alM (rs:uB)(be:Nat×Nat)(bes:List (Nat×Nat)):Bool:=
 chM rs bes&&match bes.head?,bes.getLast? with
  |some a,some z=>kF rs (some a.1) (some be.1)&&kF rs (some z.2) (some be.2)
  |_,_=>false
inductive Ij (C:Addr) (vs:List V) (H:Hp) (Q:VK) (E:XK):Prop
 |mk (c dx r l d q:Addr) (rs:uB) (L:Int->Option (Nat×Nat)) (R:Int->Option Bool) (tn:Addr) (k p:Int) (x:V) (pt:Addr) (pvs:List V) (be:Nat×Nat) (bes:List (Nat×Nat)) (h0:vs=[.ref c,.ref tn]) (h1:IH C H c dx r l d q rs L R) (h2:H tn=some (.tup [.int k,.int p,x,.ref pt])) (h3:H pt=some (.tup pvs)) (h4:0<pvs.length) (h5:L p=some be) (h6:Paired (LnP H L) pvs bes) (h7: ∀H',yU H H'->Q (.bl (alM rs be bes)) H'):Ij C vs H Q E
theorem LnP.same {H H':Hp}{L:Int->Option (Nat×Nat)}{v:V}{be:Nat×Nat}(s:yU H H'):LnP H L v be->LnP H' L v be:=fun⟨t,k,p,x,y,e,h,z⟩=>⟨t,k,p,x,y,e,s _ _ h,z⟩
theorem ZF {y:V}{yr:List V}:Jq (y::yr) 0=some y:=qF (xs:=y::yr) (j:=0) rfl
theorem Xt {xs:List V}(h:0<xs.length):Jq xs (-1)=xs[xs.length-1]?:=by
 unfold Jq UZ;rw[zN (by decide)];split
 ·show xs[((xs.length:Int)+ -1).toNat]? =_;rw[show((xs.length:Int)+ -1).toNat =xs.length-1 by lia]
 ·lia
theorem Ov (T:DM K mg CK)(F:wE K "is_right_all" "is_right_all" Ex f fd)(Cb:kA P w K mg base 1 "begin_of" ["check","node"] (Af CK (·.1)))(Ce:kA P w K mg base 1 "end_of" ["check","node"] (Af CK (·.2)))(Ci:kA P w K mg base 2 "behind" ["check","at","row"] (Dp CK))(Ch:kA P w K mg base 2 "meet" ["check","first","second"] (Es CK))(Cm:kA P w K mg base 3 "begins_alike" ["check","node","part"] (BI CK (·.1)))(Cp:kA P w K mg base 3 "ends_alike" ["check","node","part"] (BI CK (·.2))):uE P w K mg base 4 f fd ["check","node"] (Ij CK):=by
 refine F.oN Bg λcdv A outer s H vs Q E hr h=>?_;obtain⟨c,dx,r,l,d,q0,rs,L,R,tn,k,p,x,pt,pvs,be,bes,rfl,C,et,ept,l0,hp,pp,q⟩:=h;refine⟨_,(zE (uA 2 Bg.nd (Am jO (pv 1) zK))
   (zE (wL xP rfl (VU true true rfl T.n_zip (kO (pv 2) (vP NW (pv 2) (uD zK) Bj))) (uJ rfl (yR (Ar 3 Bg.nd) (yR (Ar 4 Bg.nd) qP))) (zJ (xS (wK (qW (cN Ch hr (zB (pv 0) (zB (cN Ci hr (zB (pv 0) (zB (cN Ce hr (kO (pv 0) (pv 3))) (zB (xR (kO (zX rfl T.m_OP_DROP) zK)) yC)))) (zB (cN Cb hr (kO (pv 0) (pv 4))) yC)))))) (zJ (zV qG)) yI)))
   (zJ (zV (BO (cN Cm hr (zB (pv 0) (zB (pv 1) (zB (Am jO (pv 2) zK) yC)))) (Fg (cN Cp hr (zB (pv 0) (zB (pv 1) (zB (Am jO (pv 2) (MN Js zK)) yC)))))))))),?_⟩
 try dsimp only[Ah,Ai]
 have lp:=Paired.len pp;obtain⟨u,us,rfl⟩: ∃u us,pvs=u::us:=by
  cases pvs with
  |nil=>cases l0
  |cons u us=>exact⟨u,us,rfl⟩
 refine⟨_,rfl,tn,_,_,_,rfl,rfl,.of et,rfl,?_⟩;refine⟨_,rfl,_,rfl,_,rfl,pt,_,rfl,.of ept,?_,λcx hcx=>?_⟩
 ·rintro⟨z,_⟩;have:HT.sIx (u::us).length 0 (some (1:Int))=min 1 (u::us).length:=HT.sIx_nat _ _ 1;rw[this,zI]at z;lia
 have ec:DL (u::us) (some (1:Int)) none=us:=FO 1;rw[ec];have s1:=zM hcx (.tup us);have ecx:upd H cx (.tup us) cx=some (.tup us):=zH;generalize upd H cx (.tup us)=H1 at *
 refine⟨pt,cx,u::us,us,rfl,uS.of (s1 _ _ ept),uS.of ecx,Xb (xs:=u::us) (ys:=us) (λi σ' H'=>yU H1 H'/\ ∃v3 v4,σ'=[some (.ref c),some (.ref tn),some (.ref pt),v3,v4]/\chM rs bes=chM rs (bes.drop i)) ⟨yU.refl _,_,_,rfl,rfl⟩ (by rw[zI];lia) ?_ ?_ ?_⟩
 ·rintro i σ' H' _ ⟨z,_⟩;exact⟨uS.of ((s1.trans z) _ _ ept),uS.of (z _ _ ecx)⟩
 ·rintro i v v' σ' H2 t hv hv' ⟨z,v3,v4,rfl,e⟩ ht;have hv2:(u::us)[i+1]? =some v':=hv';obtain⟨b1,hb1,t1,k1,p1,x1,y1,rfl,et1,hL1⟩:=Paired.yonder pp hv;obtain⟨b2,hb2,t2,k2,p2,x2,y2,rfl,et2,hL2⟩:=Paired.yonder pp hv2;have zt:=zM ht (.tup [.ref t1,.ref t2]);have g:=s1.trans (z.trans zt);have C3:=C.same g;have dr:bes.drop i=b1::b2::bes.drop (i+2):=by
   have h1:=(List.getElem?_eq_some_iff.mp hb1).1;have h2:=(List.getElem?_eq_some_iff.mp hb2).1;rw[xO h1,xO h2];rw[zG h1]at hb1;rw[zG h2]at hb2;cases hb1;cases hb2;rfl
  have dr2:bes.drop (i+1)=b2::bes.drop (i+2):=by
   have h2:=(List.getElem?_eq_some_iff.mp hb2).1;rw[xO h2];rw[zG h2]at hb2;cases hb2;rfl
  have e2:chM rs bes=(kF rs (uR rs (some b1.2) 3 0) (some b2.1)&&chM rs (bes.drop (i+1))):=by rw[e,dr,dr2];rfl
  refine⟨t,_,rfl,.of zH,rfl,_,_,rfl,_,_,rfl,rfl,?_⟩;refine⟨_,rfl,_,rfl,_,rfl,_,rfl,c,dx,r,l,d,q0,rs,L,R,t1,k1,p1,x1,y1,b1,rfl,C3,g _ _ et1,hL1,?_⟩;refine⟨sm2,λt5 h5=>?_⟩;have s5:=zM h5 (.tup [.int 3,.int 0]);refine⟨c,dx,r,l,d,q0,rs,L,R,some b1.2,t5,3,some 0,rfl,C3.same s5,zH,?_⟩;refine⟨_,rfl,_,rfl,c,dx,r,l,d,q0,rs,L,R,t2,k2,p2,x2,y2,b2,rfl,C3.same s5,(g.trans s5) _ _ et2,hL2,?_⟩;refine⟨c,dx,r,l,d,q0,rs,L,R,uR rs (some b1.2) 3 0,some b2.1,rfl,C3.same s5,_,rfl,?_⟩;cases m:kF rs (uR rs (some b1.2) 3 0) (some b2.1)with
  |false=>
   have ea:alM rs be bes=false:=by unfold alM;rw[e2,m];rfl
   rw[ea]at q;exact qO (q _ (g.trans s5))
  |true=>
   rw[m,jU]at e2;exact wD ⟨z.trans (zt.trans s5),_,_,rfl,e2⟩
 ·rintro σ' H2 ⟨z,v3,v4,rfl,e⟩;have g:=s1.trans z;have C2:=C.same g;obtain⟨b0,hb0,t0,k0,p0,x0,y0,eu,et0,hL0⟩:=Paired.yonder pp (show(u::us)[0]? =some u from rfl);have ll:us.length<(u::us).length:=by rw[zI];lia
  obtain⟨bz,hbz,tz,kz,pz,xz,yz,ez,etz,hLz⟩:=Paired.yonder pp (zG ll);have lb:bes.length=us.length+1:=by rw[<-lp,zI]
  have e1:chM rs bes=true:=by
   rw[e,xO (by lia),List.drop_eq_nil_of_le (by lia)];rfl
  have eh:bes.head?=some b0:=by rw[List.head?_eq_getElem?];exact hb0
  have el:bes.getLast?=some bz:=by rw[List.getLast?_eq_getElem?,lb];exact hbz
  have ea:alM rs be bes=(kF rs (some b0.1) (some be.1)&&kF rs (some bz.2) (some be.2)):=by
   unfold alM;rw[e1,eh,el,jU]
  rw[ea]at q;subst eu;refine⟨_,rfl,_,rfl,_,rfl,pt,_,_,_,rfl,rfl,.of (g _ _ ept),ZF,c,dx,r,l,d,q0,rs,L,R,tn,t0,k,p,k0,p0,x,_,x0,y0,be,b0,rfl,C2,g _ _ et,hp,g _ _ et0,hL0,_,rfl,?_⟩;cases m:kF rs (some b0.1) (some be.1)with
  |false=>
   rw[m]at q;exact wD (q _ g)
  |true=>
   rw[m]at q;refine qO ?_;have al:Jq (V.ref t0::us) (-1)=some (.ref tz):=by
    have:=Xt (xs:=V.ref t0::us) (by rw[zI];lia);rw[this];rw[show(V.ref t0::us).length -1=us.length from rfl,zG ll,ez]
   exact⟨_,rfl,_,rfl,_,rfl,_,rfl,pt,_,_,_,rfl,rfl,.of (g _ _ ept),al,c,dx,r,l,d,q0,rs,L,R,tn,tz,k,p,kz,pz,x,_,xz,yz,be,bz,rfl,C2,g _ _ et,hp,g _ _ etz,hLz,q _ g⟩
def Lr (rs:uB)(be:Nat×Nat)(en:Nat):List (Nat×Nat)->Bool
 |[]=>true
 |b::r=>kF rs (some en) (some b.1)&&(kF rs (some b.2) (some be.2)&&Lr rs be (en+1) r)
def pkM (rs:uB)(be b0:Nat×Nat)(bs:List (Nat×Nat)):Bool:=match uR rs (some b0.2) 11 (bs.length:Int)with
 |none=>false
 |some en=>kF rs (some b0.1) (some be.1)&&Lr rs be en bs
inductive GI (C:Addr) (vs:List V) (H:Hp) (Q:VK) (E:XK):Prop
 |mk (c dx r l d q:Addr) (rs:uB) (L:Int->Option (Nat×Nat)) (R:Int->Option Bool) (tn:Addr) (k p:Int) (x:V) (pt:Addr) (v0:V) (pvs:List V) (be b0:Nat×Nat) (bs:List (Nat×Nat)) (h0:vs=[.ref c,.ref tn]) (h1:IH C H c dx r l d q rs L R) (h2:H tn=some (.tup [.int k,.int p,x,.ref pt])) (h3:H pt=some (.tup (v0::pvs))) (h4:L p=some be) (h5:LnP H L v0 b0) (h6:Paired (LnP H L) pvs bs) (h7: ∀H',yU H H'->Q (.bl (pkM rs be b0 bs)) H'):GI C vs H Q E
theorem Mp (T:DM K mg CK)(F:wE K "is_right_pick" "is_right_pick" DE f fd)(Cb:kA P w K mg base 1 "begin_of" ["check","node"] (Af CK (·.1)))(Ce:kA P w K mg base 1 "end_of" ["check","node"] (Af CK (·.2)))(Ci:kA P w K mg base 2 "behind" ["check","at","row"] (Dp CK))(Ch:kA P w K mg base 2 "meet" ["check","first","second"] (Es CK))(Cm:kA P w K mg base 3 "begins_alike" ["check","node","part"] (BI CK (·.1)))(Cp:kA P w K mg base 3 "ends_alike" ["check","node","part"] (BI CK (·.2))):uE P w K mg base 4 f fd ["check","node"] (GI CK):=by
 refine F.oN wV λcdv A outer s H vs Q E hr h=>?_;obtain⟨c,dx,r,l,d,q0,rs,L,R,tn,k,p,x,pt,v0,pvs,be,b0,bs,rfl,C,et,ept,hp,⟨t0,k0,p0,x0,y0,rfl,et0,hL0⟩,pp,q⟩:=h;refine⟨_,(zE (uA 2 wV.nd (Am jO (Am jO (pv 1) zK) zK))
   (zE (uA 3 wV.nd (vP NW (Am jO (pv 1) zK) (uD zK) Bj))
   (zE (uA 4 wV.nd (cN Ci hr (zB (pv 0) (zB (cN Ce hr (kO (pv 0) (pv 2))) (zB (xR (kO (zX rfl T.m_OP_PICK) (yS yM rfl T.n_len jZ (kG (pv 3))))) yC)))))
   (zE (xS (PW.pt (vO (vH Hj (pv 4) qQ) (qT (wK (qW (cN Cm hr (zB (pv 0) (zB (pv 1) (zB (pv 2) yC))))))))) (zJ (zV qG)) yI)
   (zE (wL xP rfl (Ps rfl T.n_enumerate (kG (pv 3))) (uJ rfl (yR (Ar 5 wV.nd) (yR (Ar 6 wV.nd) qP))) (zJ (xS (PW.pt (vO (wK (qW (cN Ch hr (zB (pv 0) (zB (xQ qM (pv 4) (pv 5)) (zB (cN Cb hr (kO (pv 0) (pv 6))) yC)))))) (qT (wK (qW (cN Cp hr (zB (pv 0) (zB (pv 1) (zB (pv 6) yC))))))))) (zJ (zV qG)) yI)))
   (zJ (zV qG))))))),?_⟩
 try dsimp only[Ah,Ai]
 have lp:=Paired.len pp;refine⟨_,rfl,tn,_,_,_,rfl,rfl,.of et,rfl,pt,_,_,_,rfl,rfl,.of ept,ZF,?_⟩;refine⟨_,rfl,tn,_,_,_,rfl,rfl,.of et,rfl,_,rfl,pt,_,rfl,.of ept,?_,λcx hcx=>?_⟩
 ·rintro⟨z,_⟩;have:HT.sIx (V.ref t0::pvs).length 0 (some (1:Int))=min 1 (V.ref t0::pvs).length:=HT.sIx_nat _ _ 1;rw[this,zI]at z;lia
 have ec:DL (V.ref t0::pvs) (some (1:Int)) none=pvs:=FO 1;rw[ec];have s1:=zM hcx (.tup pvs);have ecx:upd H cx (.tup pvs) cx=some (.tup pvs):=zH;generalize upd H cx (.tup pvs)=H1 at *
 have C1:=C.same s1;refine⟨_,rfl,_,rfl,_,rfl,c,dx,r,l,d,q0,rs,L,R,t0,k0,p0,x0,y0,b0,rfl,C1,s1 _ _ et0,hL0,?_⟩;refine⟨_,rfl,cx,_,rfl,.inr (.of ecx),sm2,λt2 h2=>?_⟩;have s2:=zM h2 (.tup [.int 11,.int (pvs.length:Nat)]);have C2:=C1.same s2;have g2:=s1.trans s2;refine⟨c,dx,r,l,d,q0,rs,L,R,some b0.2,t2,11,some ((pvs.length:Nat):Int),rfl,C2,zH,?_⟩;have ecx2:=s2 _ _ ecx;generalize upd H1 t2 (.tup [.int 11,.int (pvs.length:Nat)])=H2 at *
 have eb:QH rs (some b0.2) 11 (some ((pvs.length:Nat):Int))=uR rs (some b0.2) 11 (bs.length:Int):=by rw[lp];rfl
 rw[eb];cases e1:uR rs (some b0.2) 11 (bs.length:Int)with
 |none=>
  have em:pkM rs be b0 bs=false:=by unfold pkM;rw[e1]
  rw[em]at q;exact⟨_,rfl,rfl,_,rfl,qO (q _ g2)⟩
 |some en=>
  have em:pkM rs be b0 bs=(kF rs (some b0.1) (some be.1)&&Lr rs be en bs):=by unfold pkM;rw[e1]
  rw[em]at q;refine⟨_,rfl,rfl,_,rfl,wD ?_⟩;refine⟨_,rfl,_,rfl,_,rfl,c,dx,r,l,d,q0,rs,L,R,tn,t0,k,p,k0,p0,x,_,x0,y0,be,b0,rfl,C2,g2 _ _ et,hp,g2 _ _ et0,hL0,_,rfl,?_⟩;cases m:kF rs (some b0.1) (some be.1)with
  |false=>
   rw[m]at q;exact qO (q _ g2)
  |true=>
   rw[m,jU]at q;refine wD ?_;refine⟨_,rfl,cx,_,rfl,.of ecx2,No (xs:=pvs) (λi σ' H'=>yU H2 H'/\ ∃v5 v6,σ'=[some (.ref c),some (.ref tn),some (.ref t0),some (.ref cx),some (.int (en:Nat)),v5,v6]/\Lr rs be en bs=Lr rs be (en+i) (bs.drop i)) ⟨yU.refl _,_,_,rfl,rfl⟩ (λi σ' H' _ ⟨z,_⟩=>.of (z _ _ ecx2)) ?_ ?_⟩
   ·rintro i v σ' H3 t hv ⟨z,v5,v6,rfl,e⟩ ht;obtain⟨bi,hb,ti,ki,pi,xi,yi,rfl,eti,hLi⟩:=Paired.yonder pp hv;have zt:=zM ht (.tup [.int (i:Nat),.ref ti]);have g:=g2.trans (z.trans zt);have C3:=C.same g;have dr:bs.drop i=bi::bs.drop (i+1):=by
     have hi:=(List.getElem?_eq_some_iff.mp hb).1;rw[xO hi];rw[zG hi]at hb;cases hb;rfl
    have e2:Lr rs be en bs=(kF rs (some (en+i)) (some bi.1)&&(kF rs (some bi.2) (some be.2)&&Lr rs be (en+(i+1)) (bs.drop (i+1)))):=by rw[e,dr];rfl
    refine⟨t,_,rfl,.of zH,rfl,_,_,rfl,_,_,rfl,rfl,?_⟩;refine⟨_,rfl,_,rfl,_,rfl,_,_,rfl,rfl,_,rfl,_,rfl,c,dx,r,l,d,q0,rs,L,R,ti,ki,pi,xi,yi,bi,rfl,C3,g _ _ eti,hLi,?_⟩;refine⟨c,dx,r,l,d,q0,rs,L,R,some (en+i),some bi.1,rfl,C3,_,rfl,?_⟩;cases m1:kF rs (some (en+i)) (some bi.1)with
    |false=>
     rw[m1]at e2;rw[e2]at q;exact qO (q _ g)
    |true=>
     rw[m1,jU]at e2;refine wD ?_;refine⟨_,rfl,_,rfl,_,rfl,c,dx,r,l,d,q0,rs,L,R,tn,ti,k,p,ki,pi,x,_,xi,yi,be,bi,rfl,C3,g _ _ et,hp,g _ _ eti,hLi,_,rfl,?_⟩;cases m2:kF rs (some bi.2) (some be.2)with
     |false=>
      rw[m2]at e2;rw[e2]at q;exact qO (q _ g)
     |true=>
      rw[m2,jU]at e2;exact wD ⟨z.trans zt,_,_,rfl,e2⟩
   ·rintro σ' H3 ⟨z,v5,v6,rfl,e⟩;rw[lp,AN]at e;rw[e]at q;exact q _ (g2.trans z)
def lpM (rs:uB)(be b1 b2:Nat×Nat):Bool:=
 kF rs (uR rs (some be.1) 9 0) (some b1.1)&&(kF rs (QH rs (some b1.2) 5 ((GA rs (some b1.2)).map Int.ofNat)) (some b2.1)&&(kF rs (uR rs (some b2.2) 3 0) (some be.1)&&kF rs (uR rs (GA rs (some b1.2)) 0 0) (some be.2)))
inductive GJ (C:Addr) (vs:List V) (H:Hp) (Q:VK) (E:XK):Prop
 |mk (c dx r l d q:Addr) (rs:uB) (L:Int->Option (Nat×Nat)) (R:Int->Option Bool) (tn:Addr) (k p:Int) (x:V) (pt:Addr) (v1 v2:V) (be b1 b2:Nat×Nat) (h0:vs=[.ref c,.ref tn]) (h1:IH C H c dx r l d q rs L R) (h2:UOk rs) (h3:H tn=some (.tup [.int k,.int p,x,.ref pt])) (h4:H pt=some (.tup [v1,v2])) (h5:L p=some be) (h6:LnP H L v1 b1) (h7:LnP H L v2 b2) (h8: ∀H',yU H H'->Q (.bl (lpM rs be b1 b2)) H'):GJ C vs H Q E
theorem zDy {a:Option Nat}:oI a=oZ (a.map Int.ofNat):=by cases a<;>rfl
theorem Mq (T:DM K mg CK)(F:wE K "is_right_loop" "is_right_loop" DF f fd)(Cb:kA P w K mg base 1 "begin_of" ["check","node"] (Af CK (·.1)))(Ce:kA P w K mg base 1 "end_of" ["check","node"] (Af CK (·.2)))(Ci:kA P w K mg base 2 "behind" ["check","at","row"] (Dp CK))(Ch:kA P w K mg base 2 "meet" ["check","first","second"] (Es CK))(Cb0:kA P w K mg base 2 "left_by_unless" ["check","at"] (QV CK)):uE P w K mg base 3 f fd ["check","node"] (GJ CK):=by
 refine F.oN AA λcdv A outer s H vs Q E hr h=>?_;obtain⟨c,dx,r,l,d,q0,rs,L,R,tn,k,p,x,pt,v1,v2,be,b1,b2,rfl,C,uk,et,ept,hp,⟨t1,k1,p1,x1,y1,rfl,et1,hL1⟩,⟨t2,k2,p2,x2,y2,rfl,et2,hL2⟩,q⟩:=h;refine⟨_,(zE (AR (Am jO (pv 1) zK) (uJ rfl (yR (Ar 2 AA.nd) (yR (Ar 3 AA.nd) qP))))
   (zE (uA 4 AA.nd (cN Cb0 hr (kO (pv 0) (cN Ce hr (kO (pv 0) (pv 2))))))
   (zJ (zV (BO (cN Ch hr (zB (pv 0) (zB (cN Ci hr (zB (pv 0) (zB (cN Cb hr (kO (pv 0) (pv 1))) (zB (xR (kO (zX rfl T.m_OP_BREATH) zK)) yC)))) (zB (cN Cb hr (kO (pv 0) (pv 2))) yC)))) (BO (cN Ch hr (zB (pv 0) (zB (cN Ci hr (zB (pv 0) (zB (cN Ce hr (kO (pv 0) (pv 2))) (zB (xR (kO (zX rfl T.m_OP_UNLESS) (pv 4))) yC)))) (zB (cN Cb hr (kO (pv 0) (pv 3))) yC)))) (BO (cN Ch hr (zB (pv 0) (zB (cN Ci hr (zB (pv 0) (zB (cN Ce hr (kO (pv 0) (pv 3))) (zB (xR (kO (zX rfl T.m_OP_DROP) zK)) yC)))) (zB (cN Cb hr (kO (pv 0) (pv 1))) yC)))) (Fg (cN Ch hr (zB (pv 0) (zB (cN Ci hr (zB (pv 0) (zB (pv 4) (zB (xR (kO (zX rfl T.m_OP_PUSH) zK)) yC)))) (zB (cN Ce hr (kO (pv 0) (pv 1))) yC)))))))))))),?_⟩
 try dsimp only[Ah,Ai]
 refine⟨_,rfl,tn,_,_,_,rfl,rfl,.of et,rfl,pt,_,rfl,.of ept,rfl,_,_,rfl,_,_,rfl,rfl,?_⟩;refine⟨_,rfl,_,rfl,_,rfl,c,dx,r,l,d,q0,rs,L,R,t1,k1,p1,x1,y1,b1,rfl,C,et1,hL1,?_⟩;refine⟨c,dx,r,l,d,q0,rs,L,R,some b1.2,rfl,C,uk,?_⟩;have eq:lpM rs be b1 b2=(kF rs (uR rs (some be.1) 9 0) (some b1.1)&&(kF rs (QH rs (some b1.2) 5 ((GA rs (some b1.2)).map Int.ofNat)) (some b2.1)&&(kF rs (uR rs (some b2.2) 3 0) (some be.1)&&kF rs (uR rs (GA rs (some b1.2)) 0 0) (some be.2)))):=rfl;rw[eq]at q;generalize GA rs (some b1.2)=out at *
 refine⟨_,rfl,_,rfl,_,rfl,_,rfl,c,dx,r,l,d,q0,rs,L,R,tn,k,p,x,_,be,rfl,C,et,hp,?_⟩;refine⟨sm2,λa1 h1=>?_⟩;have s1:=zM h1 (.tup [.int 9,.int 0]);refine⟨c,dx,r,l,d,q0,rs,L,R,some be.1,a1,9,some 0,rfl,C.same s1,zH,?_⟩;refine⟨_,rfl,_,rfl,c,dx,r,l,d,q0,rs,L,R,t1,k1,p1,x1,y1,b1,rfl,C.same s1,s1 _ _ et1,hL1,?_⟩;refine⟨c,dx,r,l,d,q0,rs,L,R,uR rs (some be.1) 9 0,some b1.1,rfl,C.same s1,_,rfl,?_⟩;cases m1:kF rs (uR rs (some be.1) 9 0) (some b1.1)with
 |false=>
  rw[m1]at q;exact wD (q _ s1)
 |true=>
 rw[m1,jU]at q;refine qO ?_;refine⟨_,rfl,_,rfl,_,rfl,_,rfl,c,dx,r,l,d,q0,rs,L,R,t1,k1,p1,x1,y1,b1,rfl,C.same s1,s1 _ _ et1,hL1,?_⟩;refine⟨_,rfl,sm2,λa2 h2=>?_⟩;have s2:=s1.trans (zM h2 (.tup [.int 5,oI out]));refine⟨c,dx,r,l,d,q0,rs,L,R,some b1.2,a2,5,out.map Int.ofNat,rfl,C.same s2,by rw[zH,<-zDy],?_⟩;refine⟨_,rfl,_,rfl,c,dx,r,l,d,q0,rs,L,R,t2,k2,p2,x2,y2,b2,rfl,C.same s2,s2 _ _ et2,hL2,?_⟩;refine⟨c,dx,r,l,d,q0,rs,L,R,_,some b2.1,rfl,C.same s2,_,rfl,?_⟩;cases m2:kF rs (QH rs (some b1.2) 5 (out.map Int.ofNat)) (some b2.1)with
 |false=>
  rw[m2]at q;exact wD (q _ s2)
 |true=>
 rw[m2,jU]at q;refine qO ?_;refine⟨_,rfl,_,rfl,_,rfl,_,rfl,c,dx,r,l,d,q0,rs,L,R,t2,k2,p2,x2,y2,b2,rfl,C.same s2,s2 _ _ et2,hL2,?_⟩;refine⟨sm2,λa3 h3=>?_⟩;have s3:=s2.trans (zM h3 (.tup [.int 3,.int 0]));refine⟨c,dx,r,l,d,q0,rs,L,R,some b2.2,a3,3,some 0,rfl,C.same s3,zH,?_⟩;refine⟨_,rfl,_,rfl,c,dx,r,l,d,q0,rs,L,R,tn,k,p,x,_,be,rfl,C.same s3,s3 _ _ et,hp,?_⟩;refine⟨c,dx,r,l,d,q0,rs,L,R,uR rs (some b2.2) 3 0,some be.1,rfl,C.same s3,_,rfl,?_⟩;cases m3:kF rs (uR rs (some b2.2) 3 0) (some be.1)with
 |false=>
  rw[m3]at q;exact wD (q _ s3)
 |true=>
 rw[m3,jU]at q;refine qO ?_;refine⟨_,rfl,_,rfl,_,rfl,sm2,λa4 h4=>?_⟩;have s4:=s3.trans (zM h4 (.tup [.int 0,.int 0]));refine⟨c,dx,r,l,d,q0,rs,L,R,out,a4,0,some 0,rfl,C.same s4,zH,?_⟩;refine⟨_,rfl,_,rfl,c,dx,r,l,d,q0,rs,L,R,tn,k,p,x,_,be,rfl,C.same s4,s4 _ _ et,hp,?_⟩;exact⟨c,dx,r,l,d,q0,rs,L,R,uR rs out 0 0,some be.2,rfl,C.same s4,q _ s4⟩
theorem PX {H:Hp}{d:Nat}(ih: ∀{v:V} {nd:Nd},qA H d v nd->Kv H d v (bare nd)): ∀{vs:List V} {ps:List Nd},Paired (qA H d) vs ps->Paired (Kv H d) vs (yX ps)
 |_,_,.nil=>.nil
 |_,_,.cons a r=>.cons (ih a) (PX ih r)
theorem OE {H:Hp}: ∀{d:Nat} {v:V} {nd:Nd},qA H d v nd->Kv H d v (bare nd)
 |0,_,_,h=>h.elim
 |d+1,v,.mk k p own ps,⟨t,o,q,vs,e,h1,h2,h3,r⟩=>⟨t,p,o,q,vs,e,h1,h2,h3,PX (λh=>OE h) r⟩
def DK:Nd->Int
 | .mk _ p _ _=>(p:Int)
def CV (L:Int->Option (Nat×Nat))(x:Nd):Nat×Nat:=(L (DK x)).getD (0,0)
def rgP (rs:uB)(be:Nat×Nat)(k:Int)(own:List Int)(bes:List (Nat×Nat)):Bool:=
 if k=3 then alM rs be bes else if k=4 then(match bes with
  |b0::bs=>pkM rs be b0 bs
  |[]=>false)else if k=5 then(match bes with
  |[b1,b2]=>lpM rs be b1 b2
  |_=>false)else SM rs be bes k (HP k own)
def hdV:List Nd->Option Int
 |a::_=>Eg (bare a)
 |[]=>none
def rgM (rs:uB)(L:Int->Option (Nat×Nat))(R:Int->Option Bool):Nd->Bool
 | .mk k p own ps=>match L p with
  |none=>false
  |some be=>if pvM rs be (Eg (.mk k own (yX ps)))=true then true
   else if k=4/\YX rs be (ps.map λx=>((R (DK x)).getD false,CV L x)) (hdV ps)=true then true
   else if(ps.map λx=>(R (DK x)).getD false).all id=true then rgP rs be k own (ps.map (CV L))else false
inductive Jz (C:Addr) (e:Nat) (vs:List V) (H:Hp) (Q:VK) (E:XK):Prop
 |mk (c dx r l d q:Addr) (rs:uB) (L:Int->Option (Nat×Nat)) (R:Int->Option Bool) (v:V) (k:Int) (p:Nat) (own:List Int) (ps:List Nd) (hs:wC) (bx:Int) (h0:vs=[.ref c,v]) (h1:IH C H c dx r l d q rs L R) (h2:UOk rs) (h3:qA H (e+1) v (.mk k p own ps)) (h4:EE hs bx (e+1) (bare (.mk k p own ps))) (h5:Se (e+1) (bare (.mk k p own ps))) (h6:(∀x∈ps,∃b,R (DK x)=some b/\(b=true->(L (DK x)).isSome =true))) (h7:ps.length<=1000) (h8: ∀H',yU H H'->Q (.bl (rgM rs L R (.mk k p own ps))) H'):Jz C e vs H Q E
theorem OF {H:Hp}{e:Nat}{L:Int->Option (Nat×Nat)}{R:Int->Option Bool}: ∀{us:List V} {ps:List Nd},Paired (qA H e) us ps->(∀x∈ps,∃b,R (DK x)=some b/\(b=true->(L (DK x)).isSome =true))->Paired (PtV H L R) us (ps.map λx=>((R (DK x)).getD false,CV L x))/\Paired (RtV H R) us (ps.map λx=>(R (DK x)).getD false)
 |_,_,.nil,_=>⟨.nil,.nil⟩
 |u::us,x::ps,.cons a r,h=>by
  obtain⟨b,hb,hl⟩:=h x (yT ..);obtain⟨i1,i2⟩:=OF r λy hy=>h y (yW _ hy);obtain _|e:=e
  ·exact a.elim
  obtain⟨k,p,own,qs⟩:=x;obtain⟨t,o,q,vs,rfl,h1,_⟩:=a;have hb':R (p:Int)=some b:=hb;refine⟨.cons ⟨t,k,p,_,_,rfl,h1,?_,λz=>?_⟩ i1,.cons ⟨t,k,p,_,_,rfl,h1,?_⟩ i2⟩
  ·show R (p:Int)=some ((R (p:Int)).getD false);rw[hb'];rfl
  ·have z:(R (p:Int)).getD false=true:=z;rw[hb']at z;have hs:=hl z;show L (p:Int)=some ((L (p:Int)).getD (0,0));have hs:(L (p:Int)).isSome =true:=hs;cases y:L (p:Int)with
   |none=>rw[y]at hs;cases hs
   |some be=>rfl
  ·show R (p:Int)=some ((R (p:Int)).getD false);rw[hb'];rfl
theorem SR {H:Hp}{L:Int->Option (Nat×Nat)}{R:Int->Option Bool}: ∀{us:List V} {ps:List Nd},Paired (PtV H L R) us (ps.map λx=>((R (DK x)).getD false,CV L x))->(ps.map λx=>(R (DK x)).getD false).all id=true->Paired (LnP H L) us (ps.map (CV L))
 |_,[],.nil,_=>.nil
 |_,x::ps,.cons ⟨t,k,p,y,z,e,h,hR,hL⟩ r,a=>by
  have a:((R (DK x)).getD false&&(ps.map λx=>(R (DK x)).getD false).all id)=true:=a;obtain⟨a1,a2⟩:=Bool.and_eq_true_iff.mp a;exact .cons ⟨t,k,p,y,z,e,h,hL a1⟩ (SR r a2)
theorem PM (e:Nat)(T:DM K mg CK)(F:wE K "is_right" "is_right" Iw f fd)(Cc6:kA P w K mg base (3+(e+1)+1) "is_pushed" ["check","node"] (KQ CK (e+1)))(Ca9:kA P w K mg base (3+e+1) "is_picked_ahead" ["check","node"] (KW CK e))(Cd0:kA P w K mg base 1 "are_right" ["check","parts"] (Im CK))(Cb5:kA P w K mg base 4 "is_right_all" ["check","node"] (Ij CK))(Cb2:kA P w K mg base 4 "is_right_pick" ["check","node"] (GI CK))(Cb4:kA P w K mg base 3 "is_right_loop" ["check","node"] (GJ CK))(Ca0:kA P w K mg base 4 "is_right_by_own_row" ["check","node"] (NT CK)):uE P w K mg base (3+(e+1)+2) f fd ["check","node"] (Jz CK e):=by
 refine F.oN Dr λcdv A outer s H vs Q E hr h=>?_;obtain⟨c,dx,r,l,d,q0,rs,L,R,v,k,p,own,ps,hs,bx,rfl,C,uk,na,ft,fx,hR,ln,q⟩:=h;refine⟨_,(zE (AR (pv 1) (uJ rfl (yR (Ar 2 Dr.nd) (yR (Ar 3 Dr.nd) (yR (Ar 4 Dr.nd) (yR (Ar 5 Dr.nd) qP))))))
   (zE (xS (VH (Ua (Hr hr) (pv 3) (xW (pv 0) rfl))) (zJ (zV qG)) yI)
   (zE (Lp (xS (PW.pt (vO (qW (cN Cc6 hr (kO (pv 0) (pv 1)))) (qT (PW.pt (VG (vH kW (pv 2) (zX rfl T.m_PICK)) (SE (qW (cN Ca9 hr (kO (pv 0) (pv 1)))))))))) (zJ (zV qG)) yI))
   (zE (xS (wK (qW (cN Cd0 hr (kO (pv 0) (pv 5))))) (zJ (zV qG)) yI)
   (zE (xS (vH kW (pv 2) (zX rfl T.m_ALL)) (zJ (zV (cN Cb5 hr (kO (pv 0) (pv 1))))) yI)
   (zE (xS (vH kW (pv 2) (zX rfl T.m_PICK)) (zJ (zV (cN Cb2 hr (kO (pv 0) (pv 1))))) yI)
   (zE (xS (vH kW (pv 2) (zX rfl T.m_LOOP)) (zJ (zV (cN Cb4 hr (kO (pv 0) (pv 1))))) yI)
   (zJ (zV (cN Ca0 hr (kO (pv 0) (pv 1)))))))))))),?_⟩
 try dsimp only[Ah,Ai]
 have tr:=OE na;obtain⟨tn,o,pt,us,rfl,et,eo,ept,pp⟩:=na;have lp:=Paired.len pp;refine⟨_,rfl,tn,_,rfl,.of et,rfl,_,_,rfl,_,_,rfl,_,_,rfl,_,_,rfl,rfl,?_⟩;obtain⟨oo,hg,ho⟩:=C.has (p:Int);refine⟨_,rfl,_,rfl,c,CK,dx,_,_,rfl,C.ob,T.ck,T.clines,rfl,d,oo,rfl,hg,_,rfl,?_⟩;have eR:rgM rs L R (.mk k p own ps)=match L p with
  |none=>false
  |some be=>if pvM rs be (Eg (.mk k own (yX ps)))=true then true
   else if k=4/\YX rs be (ps.map λx=>((R (DK x)).getD false,CV L x)) (hdV ps)=true then true
   else if(ps.map λx=>(R (DK x)).getD false).all id=true then rgP rs be k own (ps.map (CV L))else false:=rfl
 rw[eR]at q;cases hL:L (p:Int)with
 |none=>
  rw[hL]at ho q;rw[ho];exact qO (q H (yU.refl H))
 |some be=>
 rw[hL]at ho q;dsimp only at q;rw[ho];refine wD ?_;obtain⟨p1,p2⟩:=OF pp hR;have ft0:=ft;rw[show bare (.mk k p own ps)=.mk k own (yX ps)from rfl]at ft ft0 fx tr;unfold EE at ft;obtain⟨k0,k19,of,lq,_,fp⟩:=ft;rw[wX]at lq;refine⟨λσ' H'=>σ'=[some (.ref c),some (.ref tn),some (.int k),some (.int (p:Nat)),some (.ref o),some (.ref pt)]/\yU H H'/\ ¬pvM rs be (Eg (.mk k own (yX ps)))=true/\ ¬(k=4/\YX rs be (ps.map λx=>((R (DK x)).getD false,CV L x)) (hdV ps)=true),?_,?_⟩
 ·refine⟨_,rfl,_,rfl,c,dx,r,l,d,q0,rs,L,R,tn,k,p,_,_,_,be,rfl,C,et,tr,fx,hL,λH1 s1=>⟨_,rfl,?_⟩⟩
  by_cases m:pvM rs be (Eg (.mk k own (yX ps)))=true
  ·rw[zQ m]at q;rw[m];exact qO (qO (q H1 s1))
  ·rw[zN m]at q;have m':pvM rs be (Eg (.mk k own (yX ps)))=false:=by cases y:pvM rs be (Eg (.mk k own (yX ps)))with|true=>exact absurd y m|false=>rfl
   rw[m'];refine wD ?_;refine⟨_,rfl,rfl,_,rfl,kH (λc4=>?_) (λc4=>wD ⟨rfl,s1,by decide,λz=>vf c4 z.1⟩)⟩;have k4:=vt c4;subst k4
   rcases of with⟨z,_⟩|⟨z,_⟩|⟨z,_⟩|⟨_,n,rfl,na,nb⟩|⟨z,_⟩|⟨z,_⟩<;>try lia
   rw[show(Fm hs 4 [n]).toNat =(1+n).toNat from rfl]at lq;obtain⟨a,ps,rfl⟩: ∃a r,ps=a::r:=by
    cases ps with
    |nil=>exact absurd lq (by show ¬(0:Nat)=_;lia)
    |cons a r=>exact⟨a,r,rfl⟩
   obtain⟨u,us,rfl⟩: ∃u r,us=u::r:=by
    cases us with
    |nil=>cases lp
    |cons u r=>exact⟨u,r,rfl⟩
   obtain⟨_,_⟩:=id pp;rename_i a1 a2;have C1:=C.same s1;obtain⟨_,_,fxp⟩:=fx;refine⟨_,rfl,_,rfl,c,dx,r,l,d,q0,rs,L,R,tn,4,p,_,pt,_,_,u,bare a,be,rfl,C1,s1 _ _ et,s1 _ _ ept,hL,Paired.imp (λ_ _ ⟨t,k,p,x,y,e1,e2,e3⟩=>⟨t,k,p,x,y,e1,s1 _ _ e2,e3⟩) p1,rfl,(OE a1).tups (λb xs z=>s1 _ _ z),fxp _ (yT ..),λH2 s2=>⟨_,rfl,?_⟩⟩
   by_cases m2:YX rs be ((a::ps).map λx=>((R (DK x)).getD false,CV L x)) (hdV (a::ps))=true
   ·rw[zQ ⟨rfl,m2⟩]at q;have m3:YX rs be ((a::ps).map λx=>((R (DK x)).getD false,CV L x)) (Eg (bare a))=true:=m2;rw[m3];exact qO (q H2 (s1.trans s2))
   ·have m3:YX rs be ((a::ps).map λx=>((R (DK x)).getD false,CV L x)) (Eg (bare a))=false:=by
     cases y:YX rs be ((a::ps).map λx=>((R (DK x)).getD false,CV L x)) (Eg (bare a))with
     |true=>exact absurd y m2
     |false=>rfl
    rw[m3];exact wD ⟨rfl,s1.trans s2,by decide,λz=>m2 z.2⟩
 ·rintro _ H1 ⟨rfl,s1,m1,m2⟩;rw[zN m1,zN m2]at q;have C1:=C.same s1;have p1':Paired (PtV H1 L R) us (ps.map λx=>((R (DK x)).getD false,CV L x)):=Paired.imp (λ_ _ ⟨t,k,p,x,y,e1,e2,e3⟩=>⟨t,k,p,x,y,e1,s1 _ _ e2,e3⟩) p1;refine⟨_,rfl,_,rfl,c,dx,r,l,d,q0,rs,L,R,pt,us,_,rfl,C1,s1 _ _ ept,Paired.imp (λ_ _ ⟨t,k,p,x,y,e1,e2,e3⟩=>⟨t,k,p,x,y,e1,s1 _ _ e2,e3⟩) p2,by lia,λH2 s2=>⟨_,rfl,?_⟩⟩;have s12:=s1.trans s2;have C2:=C.same s12
  by_cases m:(ps.map λx=>(R (DK x)).getD false).all id=true
  ·rw[zQ m]at q;rw[m];refine wD ?_;have pl:Paired (LnP H2 L) us (ps.map (CV L)):=Paired.imp (λ_ _ z=>OcL.LnP.same s2 z) (SR p1' m);have et2:=s12 _ _ et;have ept2:=s12 _ _ ept;have eo2:=s12 _ _ eo;have eP:rgP rs be k own (ps.map (CV L))=if k=3 then alM rs be (ps.map (CV L))else if k=4 then(match ps.map (CV L)with
    |b0::bs=>pkM rs be b0 bs
    |[]=>false)else if k=5 then(match ps.map (CV L)with
    |[b1,b2]=>lpM rs be b1 b2
    |_=>false)else SM rs be (ps.map (CV L)) k (HP k own):=rfl
   rw[eP]at q;have lb:us.length=(ps.map (CV L)).length:=Paired.len pl;generalize ps.map (CV L)=bes at *
   refine⟨_,rfl,rfl,_,rfl,kH (λc3=>?_) (λc3=>?_)⟩
   ·have k3:=vt c3;subst k3;rw[zQ rfl]at q
    rcases of with⟨z,_⟩|⟨z,_⟩|⟨_,n,rfl,na,nb⟩|⟨z,_⟩|⟨z,_⟩|⟨z,_⟩<;>try lia
    rw[show(Fm hs 3 [n]).toNat =n.toNat from rfl]at lq;exact⟨_,rfl,_,rfl,c,dx,r,l,d,q0,rs,L,R,tn,3,p,_,pt,us,be,bes,rfl,C2,et2,ept2,by lia,hL,pl,λH3 s3=>q _ (s12.trans s3)⟩
   have n3:=vf c3;rw[zN n3]at q;refine⟨_,rfl,rfl,_,rfl,kH (λc4=>?_) (λc4=>?_)⟩
   ·have k4:=vt c4;subst k4;rw[zQ rfl]at q
    rcases of with⟨z,_⟩|⟨z,_⟩|⟨z,_⟩|⟨_,n,rfl,na,nb⟩|⟨z,_⟩|⟨z,_⟩<;>try lia
    rw[show(Fm hs 4 [n]).toNat =(1+n).toNat from rfl]at lq;cases pl with
    |nil=>exact absurd lp (by show ¬(0:Nat)=_;lia)
    |cons a1 a2=>exact⟨_,rfl,_,rfl,c,dx,r,l,d,q0,rs,L,R,tn,4,p,_,pt,_,_,be,_,_,rfl,C2,et2,ept2,hL,a1,a2,λH3 s3=>q _ (s12.trans s3)⟩
   have n4:=vf c4;rw[zN n4]at q;refine⟨_,rfl,rfl,_,rfl,kH (λc5=>?_) (λc5=>?_)⟩
   ·have k5:=vt c5;subst k5;rw[zQ rfl]at q;rw[show(Fm hs 5 own).toNat =2 from rfl]at lq;cases pl with
    |nil=>exact absurd lp (by show ¬(0:Nat)=_;lia)
    |cons a1 a2=>
     cases a2 with
     |nil=>exact absurd lp (by show ¬(1:Nat)=_;lia)
     |cons a2 a3=>
      cases a3 with
      |nil=>exact⟨_,rfl,_,rfl,c,dx,r,l,d,q0,rs,L,R,tn,5,p,_,pt,_,_,be,_,_,rfl,C2,uk,et2,ept2,hL,a1,a2,λH3 s3=>q _ (s12.trans s3)⟩
      |cons a3 a4=>
       rw[zI,zI,zI]at lp;lia
   have n5:=vf c5;rw[zN n5]at q;exact⟨_,rfl,_,rfl,c,dx,r,l,d,q0,rs,L,R,tn,k,p,o,pt,own,us,hs,bx,be,bes,rfl,C2,et2,eo2,ept2,of,n3,n4,n5,hL,pl,λH3 s3=>q _ (s12.trans s3)⟩
  ·rw[zN m]at q;have m':(ps.map λx=>(R (DK x)).getD false).all id=false:=by
    cases y:(ps.map λx=>(R (DK x)).getD false).all id with
    |true=>exact absurd y m
    |false=>rfl
   rw[m'];exact qO (q _ s12)
def Zn (rs:uB)(st:Nat)(b:Bool)(be:Nat×Nat):Bool:=b&&(kF rs (some st) (some be.1)&&(uR rs (some be.2) 7 0).isSome)
inductive Ju (C:Addr) (vs:List V) (H:Hp) (Q:VK) (E:XK):Prop
 |mk (c dx r l d q:Addr) (rs:uB) (L:Int->Option (Nat×Nat)) (R:Int->Option Bool) (st:Nat) (v:V) (b:Bool) (be:Nat×Nat) (h0:vs=[.ref c,.int (st:Nat),v]) (h1:IH C H c dx r l d q rs L R) (h2:PtV H L R v (b,be)) (h3: ∀H',yU H H'->Q (.bl (Zn rs st b be)) H'):Ju C vs H Q E
theorem Pz (T:DM K mg CK)(F:wE K "is_right_function" "is_right_function" AQ f fd)(Cb:kA P w K mg base 1 "begin_of" ["check","node"] (Af CK (·.1)))(Ce:kA P w K mg base 1 "end_of" ["check","node"] (Af CK (·.2)))(Ci:kA P w K mg base 2 "behind" ["check","at","row"] (Dp CK))(Ch:kA P w K mg base 2 "meet" ["check","first","second"] (Es CK)):uE P w K mg base 3 f fd ["check","start","body"] (Ju CK):=by
 refine F.oN GU λcdv A outer s H vs Q E hr h=>?_;obtain⟨c,dx,r,l,d,q0,rs,L,R,st,v,b,be,rfl,C,⟨t,k,p,x,y,rfl,et,hR,hL⟩,q⟩:=h;refine⟨_,(zE (xS (PW.pt (vO (wK (Po (Ja (Hr hr) (xW (pv 0) rfl) (Am jO (pv 2) zK) (λ_ _=>rfl)) (λ_=>rfl))) (qT (wK (qW (cN Ch hr (zB (pv 0) (zB (pv 1) (zB (cN Cb hr (kO (pv 0) (pv 2))) yC))))))))) (zJ (zV qG)) yI)
   (zJ (zV (Gv Ot (cN Ci hr (zB (pv 0) (zB (cN Ce hr (kO (pv 0) (pv 2))) (zB (xR (kO (zX rfl T.m_OP_BACK) zK)) yC)))) qQ (IC _))))),?_⟩
 try dsimp only[Ah,Ai]
 have hR:R p=some b:=hR;refine⟨_,rfl,c,CK,dx,_,_,rfl,C.ob,T.ck,T.cright,rfl,_,rfl,t,_,_,_,rfl,rfl,.of et,rfl,q0,_,rfl,C.rt hR,?_⟩;refine⟨b,rfl,?_⟩;cases b with
 |false=>exact qO (q H (yU.refl H))
 |true=>
 have hL:L p=some be:=hL rfl;have eq:Zn rs st true be=(kF rs (some st) (some be.1)&&(uR rs (some be.2) 7 0).isSome):=rfl;rw[eq]at q;refine wD ?_;refine⟨_,rfl,_,rfl,_,rfl,_,rfl,c,dx,r,l,d,q0,rs,L,R,t,k,p,x,y,be,rfl,C,et,hL,?_⟩;refine⟨c,dx,r,l,d,q0,rs,L,R,some st,some be.1,rfl,C,_,rfl,?_⟩;cases m:kF rs (some st) (some be.1)with
 |false=>
  rw[m]at q;exact qO (q H (yU.refl H))
 |true=>
 rw[m,jU]at q;refine wD ?_;refine⟨_,rfl,_,rfl,_,rfl,c,dx,r,l,d,q0,rs,L,R,t,k,p,x,y,be,rfl,C,et,hL,?_⟩;refine⟨sm2,λa1 h1=>?_⟩;have s1:=zM h1 (.tup [.int 7,.int 0]);refine⟨c,dx,r,l,d,q0,rs,L,R,some be.2,a1,7,some 0,rfl,C.same s1,zH,?_⟩;refine⟨rfl,?_⟩;show Q (.bl (!decide (oI (uR rs (some be.2) 7 0)=.non))) _;have e2:(!decide (oI (uR rs (some be.2) 7 0)=.non))=(uR rs (some be.2) 7 0).isSome:=by
  cases uR rs (some be.2) 7 0<;>rfl
 rw[e2];exact q _ s1
def WG (D:Int->Bool)(m p b e:Int):Bool:=D p&&(decide (0<=b/\b<m)&&decide (0<=e/\e<=m))
def KyA (H:Hp)(d:Addr)(D:Int->Bool):Prop:= ∃kvs:List (uT×V),H d=some (.dK kvs)/\ ∀p:Int,(Bo kvs (.inl p)).isSome =D p
theorem KyA.same {H H':Hp}{d:Addr}{D:Int->Bool}(s:yU H H')(h:KyA H d D):KyA H' d D:=by
 obtain⟨kv,e,z⟩:=h;exact⟨kv,s _ _ e,z⟩
theorem KyA.has {H:Hp}{d:Addr}{D:Int->Bool}(h:KyA H d D)(p:Int): ∃o,GD H d (.int p) o/\o.isSome=D p:=by
 obtain⟨kv,e,z⟩:=h;exact⟨_,GD.k (k:=.inl p) e,z p⟩
structure zEz (K:PySem.W.Frag):Prop where
 kt: ∀t∈BP,PySem.W.kitOne K (.type t) (.type "tuple")=some (t=="tuple")
inductive BH (K:PySem.W.Frag) (H:Hp):V->Option (Int×Int×Int)->Prop where
 |no {v:V} {t:String} (m:t∈BP) (n:(t=="tuple")=false) (ty:CZ K H v (.type t)):BH K H v none
 |len {a:Addr} {xs:List V} (h:H a=some (.tup xs)) (n:xs.length≠3):BH K H (.ref a) none
 |odd {a:Addr} {xs:List V} (h:H a=some (.tup xs)) (n:xs.length=3) (k: ∀x∈xs,Kn K H x) (o:xs.all HQ=false):BH K H (.ref a) none
 |yes {a:Addr} {l:Int×Int×Int} (h:H a=some (.tup [.int l.1,.int l.2.1,.int l.2.2])):BH K H (.ref a) (some l)
theorem BH.same {K:PySem.W.Frag}{H H':Hp}{v:V}{o:Option (Int×Int×Int)}(g:yU H H')(h:BH K H v o):BH K H' v o:=by
 cases h with
 |no m n ty=>exact .no m n (ty.same g)
 |len h n=>exact .len (g _ _ h) n
 |odd h n k o=>exact .odd (g _ _ h) n (λx hx=>(k x hx).same g) o
 |yes h=>exact .yes (g _ _ h)
theorem BH.sq {K:PySem.W.Frag}{H:Hp}{v:V}{o:Option (Int×Int×Int)}(h:BH K H v o):(∃t,t∈BP/\(t=="tuple")=false/\CZ K H v (.type t)/\o=none)\/ ∃t xs,v=.ref t/\H t=some (.tup xs)/\((xs.length≠3/\o=none)\/(xs.length=3/\(∀x∈xs,Kn K H x)/\((xs.all HQ=false/\o=none)\/ ∃l:Int×Int×Int,o=some l/\xs=[.int l.1,.int l.2.1,.int l.2.2]))):=by
 cases h with
 |no m n ty=>exact .inl ⟨_,m,n,ty,rfl⟩
 |len h n=>exact .inr ⟨_,_,rfl,h,.inl ⟨n,rfl⟩⟩
 |odd h n k o=>exact .inr ⟨_,_,rfl,h,.inr ⟨n,k,.inl ⟨o,rfl⟩⟩⟩
 |@yes a l h=>exact .inr ⟨_,_,rfl,h,.inr ⟨rfl,λx hx=>by
   have:x∈[l.1,l.2.1,l.2.2].map V.int:=hx;obtain⟨n,_,rfl⟩:=List.mem_map.mp this;exact Kn.int n,.inr ⟨l,rfl,rfl⟩⟩⟩
def liX (D:Int->Bool)(m:Int):Option (Int×Int×Int)->Bool
 |none=>false
 |some l=>WG D m l.1 l.2.1 l.2.2
inductive JA (K:PySem.W.Frag) (vs:List V) (H:Hp) (Q:VK) (E:XK):Prop
 |mk (v:V) (d:Addr) (m:Int) (o:Option (Int×Int×Int)) (D:Int->Bool) (h0:vs=[v,.ref d,.int m]) (h1:BH K H v o) (h2:KyA H d D) (h3: ∀H',yU H H'->Q (.bl (liX D m o)) H'):JA K vs H Q E
theorem PN (T:DM K mg CK)(TT:zEz K)(F:wE K "is_line" "is_line" HB f fd)(Cs:kA P w K mg base 1 "is_whole" ["thing"] (IM K)):uE P w K mg base 2 f fd ["line","places","many_rows"] (JA K):=by
 refine F.oN Gi λcdv A outer s H vs Q E hr h=>?_;obtain⟨v,d,m,o,D,rfl,hx,hd,q⟩:=h;refine⟨_,(zE (xS (PW.pt (vO (wK (qW (yS EC rfl T.n_isinstance jN (kO (pv 0) (Bk (v:=.ty "tuple") rfl T.n_tuple FS rfl))))) (vO (vH Ia (yS yM rfl T.n_len jZ (kG (pv 0))) (zX rfl T.m_LINE_SIZE)) (qT (wK (qW (yS (FR rfl) rfl T.n_all JS (kG (Dk (own:=["number"]) (ys:=[]) rfl (JM (pv 0)) (vI (sc:=zR HB) rfl (by decide+kernel)) .nil (λ_ _ _ _ _=>(vB (i:=0) (show List.Nodup [("number":Str)]from(by decide+kernel)) rfl (Or.inl rfl))) (λ_ _ _ _ _=>Bi) (λ_ _ _ _ _=>(cN Cs hr (kG (pv 0))))))))))))) (zJ (zV qG)) yI)
   (zE (AR (pv 0) (uJ rfl (yR (Ar 3 Gi.nd) (yR (Ar 4 Gi.nd) (yR (Ar 5 Gi.nd) qP)))))
   (zJ (zV (BO (zAu (VY (Hr hr) (pv 3) (pv 1))) (BO (BN Fa DZ zK (pv 4) (pv 2)) (Fg (BN Fa Fa zK (pv 5) (pv 2))))))))),?_⟩
 try dsimp only[Ah,Ai]
 rcases hx.sq with⟨t,m',n,ty,rfl⟩|⟨t,xs,rfl,ht,c⟩
 ·refine⟨_,rfl,.inl ⟨_,_,_,_,rfl,ty,TT.kt _ m',_,rfl,?_⟩⟩;rw[n];exact qO (q _ λ_ _ e=>e)
 refine⟨_,rfl,.inl ⟨_,_,_,true,rfl,.tup ht,T.ktup,_,rfl,wD ?_⟩⟩;refine⟨_,rfl,t,_,rfl,.inr (uS.of ht),rfl,_,rfl,?_⟩
 rcases c with⟨n,rfl⟩|⟨ln,kn,c⟩
 ·refine kH (λ_=>qO (q _ λ_ _ e=>e)) (λc=>?_);have c: ¬(!decide (V.int (xs.length:Int)=V.int 3))=true:=c;exact absurd (by rw[jH (λz=>n (by injection z with z;lia))]<;>rfl) c
 refine WL (qI V.int (by rw[ln]<;>rfl)) ?_;refine⟨_,rfl,t,rfl,⟨_,uS.of ht⟩,λu hu=>?_⟩;refine LZ (xs:=xs) (λi σ' H'=>H'=upd H u (.lst (((xs.take i).map HQ).map V.bl))/\ ∃x,σ'=[x]) ⟨rfl,_,rfl⟩ ?_ ?_ ?_
 ·rintro i σ' H' _ ⟨rfl,_⟩;exact uS.of (zM hu _ _ _ ht)
 ·rintro i x σ' H' hi hx ⟨rfl,y,rfl⟩;dsimp only[BE];refine QM ⟨_,rfl,x,rfl,(kn x (xL hx)).same (zM hu _),_,zH,?_,CW.next hi ⟨?_,_,rfl⟩⟩
  ·rw[zF,zF,yL];exact xB (DU ..) (yJ hi (by rw[ln];decide))
  ·have e:xs.take (i+1)=xs.take i++[x]:=by rw[wF,hx]<;>rfl
   rw[e,yP,yP,Kw]<;>rfl
 ·rintro σ' H' ⟨rfl,_⟩;refine⟨u,_,rfl,kS.of zH,?_⟩;have s1:=zM hu (.lst (((xs.take xs.length).map HQ).map V.bl));have e:((xs.take xs.length).map HQ).all id=xs.all HQ:=by
   rw[xZ,List.all_map]<;>rfl
  rcases c with⟨o1,rfl⟩|⟨⟨p,b,e'⟩,rfl,rfl⟩
  ·refine⟨false,by rw[e,o1]<;>rfl,qO (q _ s1)⟩
  refine⟨true,rfl,wD ?_⟩;refine⟨_,rfl,t,_,rfl,uS.of (s1 _ _ ht),rfl,_,_,rfl,_,_,rfl,_,_,rfl,rfl,?_⟩;obtain⟨o,ho,eo⟩:=(hd.same s1).has p;refine⟨_,rfl,_,rfl,d,o,rfl,ho,?_⟩;have eq:liX D m (some (p,b,e'))=(D p&&(decide (0<=b/\b<m)&&decide (0<=e'/\e'<=m))):=rfl;rw[eq]at q;refine⟨_,rfl,?_⟩;rw[eo];cases z:D p with
  |false=>
   rw[z]at q;exact wD (q _ s1)
  |true=>
  rw[z,jU]at q;refine qO ?_;refine FP 0 b m (λR h=>h) (λR h=>⟨_,rfl,h⟩) (λR h=>⟨_,rfl,h⟩) λr z=>⟨_,rfl,kH (λc=>?_) (λc=>?_)⟩
  ·rw[xI (z.mp c),jU]at q;refine EB 0 e' m (λR h=>h) (λR h=>⟨_,rfl,h⟩) (λR h=>⟨_,rfl,h⟩) λr z=>?_;have er:r=decide (0<=e'/\e'<=m):=by
    rw[vL,By];exact z
   rw[er];exact q _ s1
  ·have c:r=false:=Bool.eq_false_iff.mpr c;rw[jH (λy=>by have:=z.mpr y;rw[c]at this;cases this),Bool.false_and]at q;exact q _ s1
abbrev EJ:=List (Int×Int×Int)
def zCg (H:Hp)(v:V)(l:Int×Int×Int):Prop:= ∃t,v=.ref t/\H t=some (.tup [.int l.1,.int l.2.1,.int l.2.2])
def XF (D:Int->Bool)(m:Int):(Int->Bool)->EJ->Bool
 |_,[]=>true
 |S,l::ls=>WG D m l.1 l.2.1 l.2.2&&(!S l.1&&XF D m (λx=>decide (x=l.1) || S x) ls)
def XG (kvs:List (uT×V)):Int->Bool:=λp=>(Bo kvs (.inl p)).isSome
theorem SU (kvs:List (uT×V))(p:Int)(v:V):XG (EA kvs (.inl p) v)=λx=>decide (x=p) || XG kvs x:=by
 funext x;unfold XG;rw[KL]
 by_cases h:x=p
 ·rw[zQ (by rw[h]),xI h]<;>rfl
 ·rw[zN (λz=>h (Sum.inl.inj z)),jH h]<;>rfl
abbrev Sc:=List (Option (Int×Int×Int))
def VL (D:Int->Bool)(m:Int):(Int->Bool)->Sc->Bool
 |_,[]=>true
 |_,none::_=>false
 |S,some l::os=>WG D m l.1 l.2.1 l.2.2&&(!S l.1&&VL D m (λx=>decide (x=l.1) || S x) os)
inductive OS (K:PySem.W.Frag) (H:Hp):V->Option Sc->Prop where
 |no {v:V} {t:String} (m:t∈BP) (n:(t=="list")=false) (ty:CZ K H v (.type t)):OS K H v none
 |yes {a:Addr} {rv:List V} {os:Sc} (h:H a=some (.lst rv)) (p:Paired (BH K H) rv os) (l:rv.length<=1000):OS K H (.ref a) (some os)
def Zt (D:Int->Bool)(m:Int):Option Sc->Bool
 |none=>false
 |some os=>VL D m (λ_=>false) os
inductive Ik (K:PySem.W.Frag) (vs:List V) (H:Hp) (Q:VK) (E:XK):Prop
 |mk (v:V) (d:Addr) (m:Int) (o:Option Sc) (D:Int->Bool) (h0:vs=[v,.ref d,.int m]) (h1:OS K H v o) (h2:KyA H d D) (h3: ∀H',yU H H'->Q (.bl (Zt D m o)) H'):Ik K vs H Q E
theorem OB (T:DM K mg CK)(TK:Zb K)(F:wE K "is_paper" "is_paper" Ix f fd)(Cd7:kA P w K mg base 2 "is_line" ["line","places","many_rows"] (JA K)):uE P w K mg base 3 f fd ["paper","places","many_rows"] (Ik K):=by
 refine F.oN GV λcdv A outer s H vs Q E hr h=>?_;obtain⟨v,d,m,o,D,rfl,hx,hd,q⟩:=h;refine⟨_,(zE (xS (wK (qW (yS EC rfl T.n_isinstance jN (kO (pv 0) (Bk (v:=.ty "list") rfl T.n_list KK rfl))))) (zJ (zV qG)) yI)
   (zE (uA 3 GV.nd IZ)
   (zE (wL xP rfl (AE (pv 0)) (Ar 4 GV.nd) (zE (xS (PW.pt (vO (wK (qW (cN Cd7 hr (zB (pv 4) (zB (pv 1) (zB (pv 2) yC)))))) (qT (VH (VY (Hr hr) (Am jO (pv 4) zK) (pv 3)))))) (zJ (zV qG)) yI)
   (zJ (Om (Hr hr) (pv 3) (Am jO (pv 4) zK) qG rfl))))
   (zJ (zV qG))))),?_⟩
 try dsimp only[Ah,Ai]
 have sl:sizeLine=16777216:=wU;cases hx with
 |no m' n ty=>
  refine⟨_,rfl,.inl ⟨_,_,_,_,rfl,ty,TK.kl _ m',_,rfl,?_⟩⟩;rw[n];exact qO (q _ λ_ _ e=>e)
 |@yes pa rv ls hp pp hn=>
 have q: ∀H',yU H H'->Q (.bl (VL D m (λ_=>false) ls)) H':=q;have lp:=Paired.len pp;refine⟨_,rfl,.inl ⟨_,_,_,true,rfl,.lst hp,T.klist,_,rfl,wD ?_⟩⟩;refine λth hth=>?_;have s0:=zM hth (.dK []);refine⟨_,rfl,pa,rfl,⟨_,kS.of (s0 _ _ hp)⟩,Dv (xs:=rv) (λi σ' H'=>yU H H'/\ ∃(kvs:List (uT×V)) (x:Option V),σ'=[some (.ref pa),some (.ref d),some (.int m),some (.ref th),x]/\H' th=some (.dK kvs)/\kvs.length<=i/\VL D m (λ_=>false) ls=VL D m (XG kvs) (ls.drop i)) ⟨s0,[],_,rfl,zH,zP _,rfl⟩ ?_ ?_ ?_⟩
 ·rintro i σ' H' _ ⟨s1,_⟩;exact kS.of (s1 _ _ hp)
 ·rintro i x σ' H' hx ⟨s1,kvs,x0,rfl,eth,hk,er⟩;obtain⟨l,hl,lx⟩:=Paired.yonder pp hx;have hi:i<ls.length:=by
   rw[<-List.getElem?_eq_some_iff.mp hl |>.2]at *
   exact(List.getElem?_eq_some_iff.mp hl).1
  have ed:ls.drop i=l::ls.drop (i+1):=by
   rw[xO hi,(List.getElem?_eq_some_iff.mp hl).2]
  dsimp only[BE];refine⟨_,rfl,_,rfl,_,rfl,x,d,m,l,D,rfl,lx.same s1,hd.same s1,λH2 g2=>?_⟩;have s2:=s1.trans g2;refine⟨_,rfl,?_⟩;cases l with
  |none=>
   rw[er,ed]at q;exact qO (q _ s2)
  |some l=>
  have er:VL D m (λ_=>false) ls=(WG D m l.1 l.2.1 l.2.2&&(!XG kvs l.1&&VL D m (λx=>decide (x=l.1) || XG kvs x) (ls.drop (i+1)))):=by rw[er,ed]<;>rfl
  rw[er]at q;show if(!WG D m l.1 l.2.1 l.2.2)=true then _ else _;cases z:WG D m l.1 l.2.1 l.2.2 with
  |false=>
   rw[z]at q;exact qO (q _ s2)
  |true=>
  rw[z,jU]at q er;refine wD ?_;cases lx with
  |@yes t _ et=>
  have eth2:=g2 _ _ eth;refine⟨_,rfl,t,_,_,_,rfl,rfl,.of (s2 _ _ et),rfl,_,rfl,th,_,rfl,GD.k (k:=.inl l.1) eth2,?_⟩;cases y:XG kvs l.1 with
  |true=>
   rw[y]at q;refine⟨true,by rw[show(Bo kvs (.inl l.1)).isSome =true from y],qO (q _ s2)⟩
  |false=>
   rw[y]at er;refine⟨false,by rw[show(Bo kvs (.inl l.1)).isSome =false from y],wD ?_⟩;refine⟨_,rfl,_,rfl,t,_,_,_,rfl,rfl,.of (s2 _ _ et),rfl,th,_,rfl,Sj.k (k:=.inl l.1) eth2 (by lia),?_⟩;refine⟨λb o e=>?_,_,_,rfl,zH,yO (BD ..) (Gc hk),?_⟩
   ·rw[zW (λz=>by rw[z,hth]at e;cases e)];exact s2 _ _ e
   ·rw[SU,er];rfl
 ·rintro σ' H' ⟨s1,kvs,x0,rfl,eth,hk,er⟩;rw[lp,AN]at er;rw[er]at q;exact q _ s1
theorem Wh (T:Km K mg)(F:wE K "meant" "meant" Of f fd):uE P w K mg base 1 f fd ["rows","at"] NM:=by
 refine F.oN Lc λcdv A outer s H vs Q E hr h=>?_;obtain⟨l,rs,i0,rfl,⟨vs,el,pr⟩,ok,h0,h1,hi,q⟩:=h;have hl:vs.length=rs.length:=(Paired.len pr).trans (zF ..);refine⟨_,(zE (wL xP rfl (BC rfl T.n_range (kG (yS yM rfl T.n_len jZ (kG (pv 0))))) (Ar 2 Lc.nd) (zE (xS (PW.pt (vO (vH DZ (pv 1) zK) (qT (vH MV (pv 1) (yS yM rfl T.n_len jZ (kG (pv 0))))))) (zJ (zV qQ)) yI)
   (zE (xS (vH Ia (Am jO (Am kQ (pv 0) (pv 1)) zK) (zX rfl T.m_OP_JUMP)) (zJ (zV (pv 1))) yI)
   (zJ (uA 1 Lc.nd (Am jO (Am kQ (pv 0) (pv 1)) zK))))))
   (zJ (zV qQ))),?_⟩
 try dsimp only[Ah,Ai]
 refine⟨_,rfl,l,_,rfl,.inl (kS.of el),_,rfl,by lia,by lia,CY (lo:=0) (n:=(vs.length:Int).toNat) (λi σ' H'=>H'=H/\(∃v2,σ'=[some (.ref l),some (.int (its rs i i0:Nat)),v2])/\ ∀j,j<i->SV rs (its rs j i0)) ⟨rfl,⟨_,rfl⟩,λj hj=>absurd hj (DT _)⟩ ?_ ?_⟩
 ·rintro i σ' H' hi' ⟨rfl,⟨v2,rfl⟩,hj⟩;have hle:=WK ok hi i;refine⟨_,rfl,_,_,rfl,rfl,_,rfl,kH (λc=>qO ?_) (λc=>?_)⟩
  ·have c':=zO c;lia
  refine⟨_,rfl,_,rfl,l,_,rfl,.inl (kS.of el),_,_,rfl,rfl,_,rfl,kH (λc=>?_) (λc=>?_)⟩
  ·have c':=zO c;have ge: ¬its rs i i0<rs.length:=by lia
   rw[Wy (by lia) (λz=>ge z.lt),zN ge]at q;exact q
  have c':=df c;have lt:its rs i i0<rs.length:=by lia
  obtain⟨t,op,n,hv,hr',et⟩:=Rg pr lt;refine⟨_,rfl,_,rfl,l,_,_,_,rfl,rfl,kS.of el,qF hv,t,_,_,_,rfl,rfl,uS.of et,rfl,rfl,_,rfl,kH (λc=>?_) (λc=>?_)⟩
  ·have n4: ¬SV rs (its rs i i0):=fun⟨m,z⟩=>by
    rw[hr']at z;cases z;exact nomatch c
   rw[Wy (by lia) n4,zQ lt]at q;exact⟨_,rfl,q⟩
  ·have e4:op=4:=EM λz=>c (by
    show(!decide (V.int op=V.int 4))=true;rw[jH (λy=>z (by injection y))]<;>rfl)
   subst e4;have e:=ZZ ok hr';refine⟨_,rfl,_,rfl,l,_,_,_,rfl,rfl,kS.of el,qF hv,t,_,_,_,rfl,rfl,uS.of et,rfl,rfl,⟨some (.int (0+(i:Int))),?_⟩,λj hj'=>?_⟩
   ·show _=[some (V.ref l),some (V.int ((Vu rs (its rs i i0):Nat):Int)),some (V.int (0+(i:Int)))];rw[e]<;>rfl
   ·by_cases z:j<i
    ·exact hj j z
    ·have:j=i:=by lia
     subst this;exact⟨n,hr'⟩
 ·rintro σ' H' ⟨rfl,⟨v2,rfl⟩,hj⟩;rw[Wx ok (λj z=>hj j (by lia)) h0]at q;exact q
def lkF (L:Int->Option (Nat×Nat))(ls:EJ):Int->Option (Nat×Nat):=ls.foldl (λL l p=>if p=l.1 then some (l.2.1.toNat,l.2.2.toNat)else L p) L
def Ke (ls:EJ):Int->Option (Nat×Nat):=lkF (λ_=>none) ls
theorem LF {H H':Hp}(s: ∀t xs,H t=some (.tup xs)->H' t=some (.tup xs)): ∀{o:Option V} {b:Option (Nat×Nat)},LnV H o b->LnV H' o b
 |none,none,_=>trivial
 |some _,some _,⟨t,e,h⟩=>⟨t,e,s _ _ h⟩
 |none,some _,h=>h.elim
 |some _,none,h=>h.elim
def YC (rs:uB)(n:Nat):List V:=(List.range n).map λi=>oI (QL rs i)
inductive NP (C:Addr) (vs:List V) (H:Hp) (Q:VK) (E:XK):Prop
 |mk (x dx r pa:Addr) (rs:uB) (rv:List V) (ls:EJ) (h0:vs=[.ref x,.ref r,.ref pa]) (h1:H x=some (.ins C dx [])) (h2:wA H r (Zs rs)) (h3:ZI rs) (h4:0<rs.length) (h5:rs.length<=1000) (h6:H pa=some (.lst rv)) (h7:Paired (zCg H) rv ls) (h8:(∀l∈ls,0<=l.2.1/\0<=l.2.2)) (h9:ls.length<=1000) (h10: ∀(l d q:Addr) (H':Hp),(∀b o,b≠x->H b=some o->H' b=some o)->IH C H' x dx r l d q rs (Ke ls) (λ_=>none)->H' q=some (.dK [])->d≠q->H q=none->Q .non H'):NP C vs H Q E
theorem Wp (T:DM K mg CK)(F:wE K "__init__" "Check.__init__" AD f fd)(Ce3:kA P w K mg base 1 "meant" ["rows","at"] NM):uE P w K mg base 2 f fd ["self","rows","paper"] (NP CK):=by
 refine F.oN Ak λcdv A outer s H vs Q E hr h=>?_;obtain⟨x,dx,r,pa,rs,rv,ls,rfl,hx,hr0,jok,h0,h1,hp,pp,nn,hn,q⟩:=h;refine⟨_,(zE (Gs (pv 0) (pv 1) rfl)
   (zE (Gs (pv 0) (Dk (own:=["at"]) (ys:=["rows"]) rfl (BC rfl T.n_range (kG (yS yM rfl T.n_len jZ (kG (pv 1))))) (vI (sc:=zR AD) rfl (by decide+kernel)) (.cons (j:=1) rfl .nil) (λ_ _ _ _ _=>(vB (i:=0) (show List.Nodup [("at":Str),("rows":Str)]from(by decide+kernel)) rfl (Or.inl rfl))) (λ_ _ _ _ _=>Bi) (λ_ _ _ _ _=>(cN Ce3 hr (kO (pv 1) (pv 0))))) rfl)
   (zE (Gs (pv 0) IZ rfl)
   (zE (wL xP rfl (AE (pv 2)) (uJ rfl (yR (Ar 3 Ak.nd) (yR (Ar 4 Ak.nd) (yR (Ar 5 Ak.nd) qP)))) (zJ (Om (Hr hr) (xW (pv 0) rfl) (pv 3) (xR (kO (pv 4) (pv 5))) rfl)))
   (zJ (Gs (pv 0) IZ rfl)))))),?_⟩
 try dsimp only[Ah,Ai]
 have sl:sizeLine=16777216:=wU;have lp:=Paired.len pp;obtain⟨vr,er,pr⟩:=hr0;have lr:vr.length=rs.length:=(Paired.len pr).trans (zF ..);have k1: ∀b o,b≠x->H b=some o->upd H x (.ins CK dx [("rows",.ref r)]) b=some o:=λb o nb e=>by rw[zW nb];exact e
 have er1:=k1 _ _ (λz=>by rw[z,hx]at er;cases er) er;have pr1:wA (upd H x (.ins CK dx [("rows",.ref r)])) r (Zs rs):=⟨vr,er1,Paired.imp (λ_ _ ⟨t,a,b⟩=>⟨t,a,k1 _ _ (λz=>by rw[z,hx]at b;cases b) b⟩) pr⟩;refine⟨_,rfl,_,rfl,x,CK,dx,_,rfl,hx,T.ck,T.crows,(show 0<1000 by decide),?_⟩;refine⟨_,rfl,r,_,rfl,.inl (kS.of er1),_,rfl,by lia,by lia,λp hpn=>?_⟩;refine Xo (lo:=0) (n:=(vr.length:Int).toNat) (λi _ H'=>H'=upd (upd H x (.ins CK dx [("rows",.ref r)])) p (.lst (YC rs i))) rfl ?_ ?_
 ·rintro i ys H' hi rfl;have s1:=zM hpn (.lst (YC rs i));refine QM ⟨_,rfl,_,rfl,r,rs,i,by rw[Int.zero_add]<;>rfl,pr1.same s1,jok,h0,h1,by lia,?_⟩;refine⟨_,zH,by unfold YC;rw[zF,Fe];lia,?_⟩;refine⟨_,Nat.sub_lt_sub_left hi (Dc i),hi,rfl,⟨_,rfl⟩,[],?_⟩;have e1:YC rs (i+1)=YC rs i++[oI (QL rs i)]:=by
   unfold YC;rw[List.range_succ,yP];rfl
  show _=upd _ p (.lst (YC rs (i+1)));rw[e1,Kw]
 ·rintro ys H' rfl;have ev:(vr.length:Int).toNat =rs.length:=by lia
  rw[ev];have nxp:x≠p:=λz=>by rw[<-z,zH]at hpn;cases hpn
  rw[zW (Ne.symm nxp)]at hpn;refine⟨_,rfl,x,CK,dx,_,rfl,(zW nxp).trans zH,T.ck,T.cleads,(show 1<1000 by decide),?_⟩;refine λd hd=>?_;have nxd:x≠d:=λz=>by rw[<-z,zH]at hd;cases hd
  rw[zW (Ne.symm nxd)]at hd;have npd:p≠d:=λz=>by rw[<-z,zH]at hd;cases hd
  rw[zW (Ne.symm npd),zW (Ne.symm nxd)]at hd;refine⟨_,rfl,x,CK,dx,_,rfl,(zW nxd).trans zH,T.ck,T.clines,(show 2<1000 by decide),?_⟩;generalize hH:upd (upd _ d _) x _=H5;have ex:H5 x=some (.ins CK dx [("rows",.ref r),("leads",.ref p),("lines",.ref d)]):=by rw[<-hH];exact zH
  have epl:H5 p=some (.lst (YC rs rs.length)):=by rw[<-hH,zW (Ne.symm nxp),zW npd,zW (Ne.symm nxp),zH]
  have edk:H5 d=some (.dK []):=by rw[<-hH,zW (Ne.symm nxd),zH]
  have fr: ∀b o,b≠x->H b=some o->H5 b=some o:=λb o nb e=>by
   rw[<-hH,zW nb,zW (zZ e hd),zW nb,zW (zZ e hpn),zW nb];exact e
  clear hH;have fl:H5 pa=some (.lst rv):=fr _ _ (λz=>by rw[z,hx]at hp;cases hp) hp;refine⟨_,rfl,pa,rfl,⟨_,kS.of fl⟩,Dv (xs:=rv) (λi σ' H'=>(∀b o,b≠x->H b=some o->H' b=some o)/\H' x=some (.ins CK dx [("rows",.ref r),("leads",.ref p),("lines",.ref d)])/\H' p=some (.lst (YC rs rs.length))/\(∃(a b c:Option V),σ'=[some (.ref x),some (.ref r),some (.ref pa),a,b,c])/\ ∃(kvs:List (uT×V)),H' d=some (.dK kvs)/\kvs.length<=i/\ ∀p:Int,LnV H' (Bo kvs (.inl p)) (Ke (ls.take i) p)) ⟨fr,ex,epl,⟨_,_,_,rfl⟩,[],edk,zP _,λ_=>trivial⟩ ?_ ?_ ?_⟩
  ·rintro i σ' H' _ ⟨fr,_⟩;exact kS.of (fr _ _ (λz=>by rw[z,hx]at hp;cases hp) hp)
  ·rintro i v σ' H' hv ⟨fr,ex,epl,⟨a,b,c,rfl⟩,kvs,edk,hk,hl⟩;obtain⟨l,hll,t,rfl,et⟩:=Paired.yonder pp hv;have et':=fr _ _ (λz=>by rw[z,hx]at et;cases et) et;obtain⟨hi,hle⟩:=List.getElem?_eq_some_iff.mp hll;have ml:l∈ls:=hle▸kY hi;obtain⟨n1,n2⟩:=nn l ml;refine⟨t,_,rfl,uS.of et',rfl,_,_,rfl,_,_,rfl,_,_,rfl,rfl,?_⟩;refine⟨_,rfl,_,rfl,sm2,λu hu=>?_⟩;have s1:=zM hu (.tup [.int l.2.1,.int l.2.2]);have edk1:=s1 _ _ edk;refine⟨_,rfl,x,CK,dx,_,_,rfl,s1 _ _ ex,T.ck,T.clines,rfl,_,rfl,d,_,rfl,Sj.k (k:=.inl l.1) edk1 (by lia),?_⟩;have kp: ∀b o,b≠d->H' b=some o->upd (upd H' u (.tup [.int l.2.1,.int l.2.2])) d (.dK (EA kvs (.inl l.1) (.ref u))) b=some o:=λb o nb e=>by
    rw[zW nb];exact s1 _ _ e
   refine⟨λb o nb e=>kp _ _ (zZ e hd) (fr _ _ nb e),kp _ _ nxd ex,kp _ _ npd epl,⟨_,_,_,rfl⟩,_,zH,yO (BD ..) (Gc hk),λy=>?_⟩;have ek:Ke (ls.take (i+1)) y=if y=l.1 then some (l.2.1.toNat,l.2.2.toNat)else Ke (ls.take i) y:=by
    rw[jT,hll];unfold Ke lkF;rw[List.foldl_append];rfl
   rw[ek,KL]
   by_cases z:y=l.1
   ·rw[zQ z,zQ (by rw[z])];refine⟨u,rfl,?_⟩;rw[zW (λz=>by rw[z,edk]at hu;cases hu),zH];show some (HO.tup [.int l.2.1,.int l.2.2])=some (HO.tup [.int ((l.2.1.toNat:Nat):Int),.int ((l.2.2.toNat:Nat):Int)]);rw[AV n1,AV n2]
   ·rw[zN z,zN (λw=>z (Sum.inl.inj w))];exact LF (λb xs e=>kp _ _ (λw=>by rw[w,edk]at e;cases e) e) (hl y)
  ·rintro σ' H' ⟨fr,ex,epl,⟨a,b,c,rfl⟩,kvs,edk,hk,hl⟩;rw[lp,xZ]at hl;refine λqa hq=>?_;have nxq:x≠qa:=zZ ex hq;refine⟨_,rfl,x,CK,dx,_,rfl,(zW nxq).trans ex,T.ck,T.cright,(show 3<1000 by decide),?_⟩;have kp: ∀b o,b≠x->H' b=some o->upd (upd H' qa (.dK [])) x (CkO CK dx r p d qa) b=some o:=λb o nb e=>by
    rw[zW nb,zW (zZ e hq)];exact e
   have eq:upd (upd H' qa (.dK [])) x (CkO CK dx r p d qa) qa=some (.dK []):=by rw[zW (Ne.symm nxq),zH]
   have hqn:H qa=none:=by
    cases e:H qa with
    |none=>rfl
    |some o=>rw[fr _ _ (Ne.symm nxq) e]at hq;cases hq
   refine q p d qa _ (λb o nb e=>kp _ _ nb (fr _ _ nb e)) ⟨zH,⟨vr,kp _ _ (λz=>by rw[z,hx]at er;cases er) (fr _ _ (λz=>by rw[z,hx]at er;cases er) er),Paired.imp (λ_ _ ⟨t,a,b⟩=>⟨t,a,kp _ _ (λz=>by rw[z,hx]at b;cases b) (fr _ _ (λz=>by rw[z,hx]at b;cases b) b)⟩) pr⟩,kp _ _ (Ne.symm nxp) epl,⟨kvs,kp _ _ (Ne.symm nxd) edk,λy=>LF (λb xs e=>kp _ _ (λw=>by rw[w,ex]at e;cases e) e) (hl y)⟩,⟨[],eq,λ_=>rfl⟩⟩ eq (zZ edk hq) hqn
def US (H:Hp)(v:V)(p:Int×Int):Prop:= ∃t,v=V.ref t/\H t=some (.tup [.int p.1,.int p.2])
theorem Zv {H:Hp}: ∀{zs ys:List V} {gs:List (Int×Int)},Paired (US H) zs gs->Paired (US H) ys gs->Paired (EqD K H 1) zs ys
 |_,_,_,.nil,.nil=>.nil
 |_,_,_,.cons ⟨t,e1,e2⟩ p,.cons ⟨u,e3,e4⟩ q=>.cons (.inr ⟨t,u,_,_,e1,e3,.inr ⟨uS.of e2,uS.of e4⟩,.cons ⟨rfl,rfl⟩ (.cons ⟨rfl,rfl⟩ .nil)⟩) (Zv p q)
inductive GH (vs:List V) (H:Hp) (Q:VK) (E:XK):Prop
 |mk (pl hl:Addr) (r:wC×List Nd) (gs:List (List Int)) (hs:EJ) (h0:vs=[.ref pl,.ref hl]) (h1:QI H pl r) (h2:wA H hl gs) (h3:gs=hs.map (λh=>[h.1,h.2.1,h.2.2])) (h4:r.1.length<=1000) (h5:hs.length<=1000) (h6:r.1=hs.map (λh=>(h.2.1,h.2.2))) (h7: ∀H',yU H H'->Q (.bl true) H'):GH vs H Q E
theorem SL {H:Hp}{u a:Addr}{zs:List V}{gs:List (Int×Int)}{p:Int×Int}(eu:H u=some (.lst zs))(ha:H a=none)(pz:Paired (US H) zs gs):Paired (US (upd (upd H a (.tup [.int p.1,.int p.2])) u (.lst (zs++[.ref a])))) (zs++[.ref a]) (gs++[p]):=by
 have nu:a≠u:=λz=>by rw[z,eu]at ha;cases ha
 refine Paired.append (Paired.imp ?_ pz) (.cons ⟨a,rfl,by rw[zW nu,zH]⟩ .nil);rintro v p ⟨t,e1,e2⟩;refine⟨t,e1,?_⟩;rw[zW (λz=>by rw[z,eu]at e2;cases e2)];exact zM ha _ _ _ e2
theorem Mo (T:DM K mg CK)(F:wE K "have_same_boxes" "have_same_boxes" vN f fd):uE P w K mg base 1 f fd ["program","heads"] GH:=by
 refine F.oN Eu λcdv A outer s H vs Q E hr h=>?_;obtain⟨pl,hl,r,gs,hs,rfl,⟨vp,ep,ln,pp⟩,⟨vh,eh,ph⟩,rfl,n1,n2,eb,q⟩:=h;refine⟨_,(zE (Lm (i:=2) Eu.nd rfl rfl (own:=["params","boxes","body"]) (ys:=[]) rfl (AE (pv 0)) (vI (sc:=zR vN) rfl (by decide+kernel)) .nil (λ_ _ _ _ _=>(Os (n:=3) K rfl rfl (yR (vB (i:=0) (show List.Nodup [("params":Str),("boxes":Str),("body":Str)]from(by decide+kernel)) rfl (Or.inl rfl)) (yR (vB (i:=1) (show List.Nodup [("params":Str),("boxes":Str),("body":Str)]from(by decide+kernel)) rfl (Or.inl rfl)) (yR (vB (i:=2) (show List.Nodup [("params":Str),("boxes":Str),("body":Str)]from(by decide+kernel)) rfl (Or.inl rfl)) qP))))) (λ_ _ _ _ _=>Bi) (λ_ _ _ _ _=>(xR (kO (pv 0) (pv 1)))))
   (zJ (zV (Gv (zBa hr) (pv 2) (Dk (own:=["start","params","boxes"]) (ys:=[]) rfl (AE (pv 1)) (vI (sc:=zR vN) rfl (by decide+kernel)) .nil (λ_ _ _ _ _=>(Os (n:=3) K rfl rfl (yR (vB (i:=0) (show List.Nodup [("start":Str),("params":Str),("boxes":Str)]from(by decide+kernel)) rfl (Or.inl rfl)) (yR (vB (i:=1) (show List.Nodup [("start":Str),("params":Str),("boxes":Str)]from(by decide+kernel)) rfl (Or.inl rfl)) (yR (vB (i:=2) (show List.Nodup [("start":Str),("params":Str),("boxes":Str)]from(by decide+kernel)) rfl (Or.inl rfl)) qP))))) (λ_ _ _ _ _=>Bi) (λ_ _ _ _ _=>(xR (kO (pv 1) (pv 2))))) (IC _))))),?_⟩
 try dsimp only[Ah,Ai]
 have sl:sizeLine=16777216:=wU;have lp:=Paired.len pp;have lh:=Paired.len ph;rw[wM,<-ln,Nat.min_self]at lp;rw[zF]at lh;refine⟨_,rfl,pl,rfl,⟨_,kS.of ep⟩,λu hu=>?_⟩;refine Hu (xs:=vp) (λi σ' H'=>yU H H'/\(∃a b c,σ'=[a,b,c])/\ ∃zs,H' u=some (.lst zs)/\Paired (US H') zs (r.1.take i)) ⟨zM hu _,⟨_,_,_,rfl⟩,[],zH,.nil⟩ ?_ ?_ ?_
 ·rintro i σ' H' _ ⟨s1,_⟩;exact kS.of (s1 _ _ ep)
 ·rintro i x σ' H' hi hx ⟨s1,⟨a,b,c,rfl⟩,zs,eu,pz⟩;obtain⟨g,hg,t,bd,rfl,et,_⟩:=Paired.yonder pp hx;have hg1:=(List.getElem?_zip_eq_some.mp hg).1;have tk:r.1.take (i+1)=r.1.take i++[g.1]:=by rw[jT,hg1]<;>rfl
  have lz:=Paired.len pz;rw[yL]at lz;refine⟨t,_,rfl,uS.of (s1 _ _ et),rfl,_,_,rfl,_,_,rfl,_,_,rfl,rfl,?_⟩;refine QM ⟨_,rfl,_,rfl,sm2,λa1 h1=>⟨_,zM h1 _ _ _ eu,by lia,CW.next hi ⟨λb o e=>?_,⟨_,_,_,rfl⟩,_,zH,?_⟩⟩⟩
  ·rw[zW (zZ e hu)];exact zM h1 _ _ _ (s1 _ _ e)
  ·rw[tk];exact SL eu h1 pz
 ·rintro σ' H1 ⟨s1,_,zs,eu,pz⟩;rw[lp,xZ]at pz;refine⟨_,rfl,?_⟩;refine⟨_,rfl,hl,rfl,⟨_,kS.of (s1 _ _ eh)⟩,λv hv=>?_⟩;refine Hu (xs:=vh) (λi σ' H'=>yU H1 H'/\(∃a b c,σ'=[a,b,c])/\ ∃zs,H' v=some (.lst zs)/\Paired (US H') zs ((hs.map λh=>(h.2.1,h.2.2)).take i)) ⟨zM hv _,⟨_,_,_,rfl⟩,[],zH,.nil⟩ ?_ ?_ ?_
  ·rintro i σ' H' _ ⟨s2,_⟩;exact kS.of (s2 _ _ (s1 _ _ eh))
  ·rintro i x σ' H' hi hx ⟨s2,⟨a,b,c,rfl⟩,zs,eu,pz⟩;obtain⟨g,hg,t,rfl,et⟩:=Paired.yonder ph hx;rw[yQ]at hg;obtain⟨h,hh,rfl⟩:=Option.map_eq_some_iff.mp hg;have tk:(hs.map λh=>(h.2.1,h.2.2)).take (i+1)=(hs.map λh=>(h.2.1,h.2.2)).take i++[(h.2.1,h.2.2)]:=by rw[jT,yQ,hh]<;>rfl
   have lz:=Paired.len pz;rw[yL,zF]at lz;refine⟨t,_,rfl,uS.of (s2 _ _ (s1 _ _ et)),rfl,_,_,rfl,_,_,rfl,_,_,rfl,rfl,?_⟩;refine QM ⟨_,rfl,_,rfl,sm2,λa1 h1=>⟨_,zM h1 _ _ _ eu,by lia,CW.next hi ⟨λb o e=>?_,⟨_,_,_,rfl⟩,_,zH,?_⟩⟩⟩
   ·rw[zW (zZ e hv)];exact zM h1 _ _ _ (s2 _ _ e)
   ·rw[tk];exact SL (p:=(h.2.1,h.2.2)) eu h1 pz
  ·rintro σ' H2 ⟨s2,_,ys,ev,py⟩;rw[lh,xJ (by rw[zF];exact zP _)]at py;rw[eb]at pz;exact⟨u,v,zs,ys,1,rfl,rfl,.inl ⟨kS.of (s2 _ _ eu),kS.of ev⟩,Zv (Paired.imp (λ_ _ ⟨t,e1,e2⟩=>⟨t,e1,s2 _ _ e2⟩) pz) py,by decide,q _ (s1.trans s2)⟩
def Sd (v:V)(tl wl:Addr)(H:Hp)(nd:Nd)(m:Nat)(σ':St)(H':Hp):Prop:= ∃(done st:List Nd) (us ws:List V) (v3 v4:Option V),σ'=[some v,some (.ref tl),some (.ref wl),v3,v4]/\m=(jR st).length/\yU H H'/\H' tl=some (.lst us)/\H' wl=some (.lst ws)/\Paired (qA H' 10) us done/\Paired (qA H' 10) ws st/\done++jR st.reverse=pre nd
theorem PD (T:HR K mg aP CL CN)(n_reversed:mg "reversed"=none)(F:wE K "nodes_in" "nodes_in" Iv f fd):uE P w K mg base 1 f fd ["body"] Jv:=by
 refine F.oN Dq λcdv A outer s H vs Q E hr h=>?_;obtain⟨v,nd,rfl,hv,hc,q⟩:=h;refine⟨_,(zE (uA 1 Dq.nd (jE yC))
   (zE (uA 2 Dq.nd (jE (kG (pv 0))))
   (zE (VI xP (Po (pv 2) (λ_=>rfl)) (zE (uA 3 Dq.nd (zAv zY PySem.F.slot_list_pop PySem.F.type_list_pop zBf (pv 2)))
   (zE (jF (Al zY yH yF kP (pv 1) (kG (pv 3))))
   (zJ (wL xP rfl (zAr rfl n_reversed (kG (Am jO (pv 3) zK))) (Ar 4 Dq.nd) (zJ (jF (Al zY yH yF kP (pv 2) (kG (pv 4))))))))))
   (zJ (zV (pv 1)))))),?_⟩
 try dsimp only[Ah,Ai]
 refine⟨sm0,λtl htl=>?_⟩;have s1:=zM htl (.lst []);refine⟨_,rfl,sm1,λwl hwl=>?_⟩;have s2:=zM hwl (.lst [v]);have hwl0:H wl=none:=s1.free hwl;have ntw:tl≠wl:=zZ zH hwl;have sl:sizeLine=16777216:=wU;refine⟨Sd v tl wl H nd,
  ⟨_,[],[nd],[],[v],_,_,rfl,rfl,s1.trans s2,s2 _ _ zH,zH,.nil,.cons (hv.tups (.same (s1.trans s2))) .nil,by simp[jR]⟩,?_⟩
 rintro m σ' H' ⟨done,st,us,ws,v3,v4,rfl,rfl,g,et,ew,pu,pw,eq⟩;refine⟨_,rfl,!ws.isEmpty,.inl ⟨ws,.of ew,rfl⟩,?_⟩
 rcases List.eq_nil_or_concat ws with rfl|⟨ws',x,rfl⟩
 ·cases pw;refine wD ⟨_,rfl,q tl us H' g htl et ?_⟩;have:done=pre nd:=by simpa[jR]using eq
  rw[<-this];exact pu
 rw[List.concat_eq_append]at *
 obtain⟨st',n,rfl,pw',nx⟩:=Paired.unsnoc pw;have ne:(!(ws'++[x]).isEmpty)=true:=by simp
 rw[ne];refine qO ⟨λσ'' H''=> ∃m',m'<(jR (st'++[n])).length/\ ∃(done st:List Nd) (us ws:List V) (v3 v4:Option V),σ''=[some v,some (.ref tl),some (.ref wl),v3,v4]/\m'=(jR st).length/\yU H H''/\H'' tl=some (.lst us)/\H'' wl=some (.lst ws)/\Paired (qA H'' 10) us done/\Paired (qA H'' 10) ws st/\done++jR st.reverse=pre nd,λ_ _ z=>z,?_⟩;cases n with
 |mk k p own ps=>
 obtain⟨t,o,pq,vs,rfl,etn,eo,ep,pr⟩:=nx;have eq2:done++(.mk k p own ps::(jR ps++jR st'.reverse))=pre nd:=by
  rw[<-eq];simp[jR,pre,uL]
 have tot:done.length+1+(jR ps).length +(jR st').length<=1000000:=by
  have:=qI List.length eq2;rw[<-Gu st'];simp only[zD,zI]at this;lia
 have lu:us.length=done.length:=Paired.len pu;have lw:ws'.length<=(jR st').length:=by rw[Paired.len pw'];exact Lq st'
 have lv:vs.length<=(jR ps).length:=by rw[Paired.len pr];exact Lq ps
 refine⟨_,rfl,.inl ⟨rfl,_,.of ew⟩,wl,_,.ref t,rfl,rfl,ew,by simp,?_⟩;have dl:(ws'++[V.ref t]).dropLast =ws':=by simp
 have et1:upd H' wl (.lst (ws'++[V.ref t]).dropLast) tl=some (.lst us):=by rw[zW ntw];exact et
 refine⟨_,rfl,.inl ⟨rfl,_,.of et1⟩,_,rfl,tl,us,_,rfl,rfl,et1,by lia,?_⟩;have tp2:AT H' (upd (upd H' wl (.lst (ws'++[V.ref t]).dropLast)) tl (.lst (us++[V.ref t]))):=.trans (.upd ew) (.upd et1);have g2:yU H (upd (upd H' wl (.lst (ws'++[V.ref t]).dropLast)) tl (.lst (us++[V.ref t]))):=(g.fresh hwl0).fresh htl;refine⟨_,rfl,t,_,_,_,rfl,rfl,.of (tp2 _ _ etn),rfl,pq,vs,rfl,.of (tp2 _ _ ep),YJ (xs:=vs) (λi σ'' H''=> ∃v4,σ''=[some v,some (.ref tl),some (.ref wl),some (.ref t),v4]/\yU H H''/\H'' tl=some (.lst (us++[.ref t]))/\H'' wl=some (.lst (ws'++vs.reverse.take i))/\AT H' H'')
  ⟨_,rfl,g2,zH,by rw[zW (Ne.symm ntw),zH,dl];simp,tp2⟩ ?_ ?_ ?_⟩
 ·rintro i σ'' H'' _ ⟨v4,rfl,_,_,_,tp⟩;exact .of (tp _ _ ep)
 ·rintro i x σ'' H'' hx ⟨v4,rfl,g3,et3,ew3,tp⟩;have hi:i<vs.length:=by have:=(List.getElem?_eq_some_iff.mp hx).1;simpa using this
  refine⟨_,rfl,.inl ⟨rfl,_,.of ew3⟩,_,rfl,wl,_,_,rfl,rfl,ew3,?_,?_⟩
  ·simp only[zD,yL,Ee];lia
  ·refine⟨_,rfl,g3.fresh hwl0,by rw[zW ntw];exact et3,?_,.trans tp (.upd ew3)⟩;rw[zH,jT,hx,yA];rfl
 ·rintro σ'' H'' ⟨v4,rfl,g3,et3,ew3,tp⟩;have tk:vs.reverse.take vs.length=vs.reverse:=by rw[<-Ee (as:=vs),xZ]
  rw[tk]at ew3;refine⟨_,?_,done++[.mk k p own ps],st'++ps.reverse,_,_,_,_,rfl,rfl,g3,et3,ew3,Dy (Paired.imp (λ_ _ z=>z.tups tp) pu) (qA.tups (d:=10) (n:=.mk k p own ps) tp ⟨t,o,pq,vs,rfl,etn,eo,ep,pr⟩),Paired.append (Paired.imp (λ_ _ z=>z.tups tp) pw') (Paired.imp (λ_ _ z=>(qA.tups tp z).more) (Paired.rev pr)),?_⟩
  ·simp only[uL,Gu,zD,jR,pre,zI,DW];lia
  ·rw[<-eq2];simp[uL]
def UV (a tl l:Addr)(rs:List V)(nds:List Nd)(H H1:Hp)(i:Nat)(σ':St)(H':Hp):Prop:= ∃(us:List V) (v2 v3 v4:Option V),σ'=[some (.ref a),some (.ref tl),v2,v3,v4]/\i<=rs.length/\yU H H'/\H' l=some (.lst rs)/\AT H1 H'/\H' tl=some (.lst us)/\Paired (qA H' 10) us (jR (nds.take i))
theorem Ug (T:HR K mg aP CL CN)(F:wE K "nodes" "nodes" Oe f fd)(Cd:kA P w K mg base 17 "functions" ["sheet"] (HX CN))(Cd5:kA P w K mg base 1 "nodes_in" ["body"] Jv):
  uE P w K mg base 18 f fd ["sheet"] (NK CN):=by
 refine F.oX GS λcdv A outer s H vs Q E hr h=>?_;obtain⟨a,ns,rfl,ha,hz,t1,t2⟩:=h;refine⟨_,(zE (uA 1 GS.nd (jE yC))
   (zE (wL (Jb rfl rfl) rfl (AE (jB Cd hr rfl (kG (pv 0)) kZ)) (uJ rfl (yR (Ar 2 GS.nd) (yR (Ar 3 GS.nd) (yR (Ar 4 GS.nd) qP)))) (zJ (jF (Al zY Fs Fq MY (pv 1) (kG (jB Cd5 hr rfl (kG (pv 4)) kZ))))))
   (zJ (zV (pv 1))))),?_⟩
 try dsimp only[Ah,Ai]
 refine⟨sm0,λtl htl=>?_⟩;have s1:=zM htl (.lst []);have sl:sizeLine=16777216:=wU;refine⟨_,rfl,a,ns,rfl,s1 _ _ ha,λr er l H1 s2 fr fa=>?_,λp wd er d H' s2 ed=>t2 p wd er d H' (s1.trans s2) ed⟩;obtain⟨rs,el,ln,pr⟩:=fa;have cnt:=UA er;have ntl:l≠tl:=λz=>by rw[z]at fr;rw[zH]at fr;cases fr
 obtain⟨hs,nds⟩:=r;simp only at ln pr cnt;have lr:rs.length=nds.length:=by have:=Paired.len pr;rw[wM]at this;lia
 refine⟨l,rfl,⟨rs,.of el⟩,Dv (xs:=rs) (UV a tl l rs nds H H1)
  ⟨[],_,_,_,rfl,xH _,s1.trans s2,el,λ_ _ e=>e,s2 _ _ zH,.nil⟩ ?_ ?_ ?_⟩
 ·rintro i σ' H' _ ⟨us,v2,v3,v4,rfl,_,_,e,_⟩;exact .of e
 ·rintro i x σ' H' hx ⟨us,v2,v3,v4,rfl,_,g,el',tp,et,pu⟩;have hi:i<rs.length:=(List.getElem?_eq_some_iff.mp hx).1;have e2:nds[i]? =some nds[i]:=zG (by lia);have e1:hs[i]? =some (hs[i]'(by lia)):=zG (by lia);generalize nds[i]=ni at *
  generalize hs[i]'(by lia)=hx1 at *
  obtain⟨t,b,rfl,ett,nb⟩:=Paired.get pr i _ _ hx ((List.getElem?_zip_eq_some (z:=(hx1,ni))).mpr ⟨e1,e2⟩);have tk:nds.take (i+1)=nds.take i++[ni]:=by rw[jT,e2];rfl
  have c1:(jR (nds.take (i+1))).length<=(jR nds).length:=by
   conv=>rhs;rw[<-kJ (i+1) nds]
   rw[uL,zD];lia
  rw[tk,uL,zD]at c1;simp only[jR,yV]at c1;refine⟨t,_,rfl,.of (tp _ _ ett),rfl,_,_,rfl,_,_,rfl,_,_,rfl,rfl,?_⟩;refine⟨_,rfl,.inl ⟨rfl,_,.of et⟩,_,rfl,b,ni,rfl,nb.tups tp,by lia,λl2 us2 H2 g2 fr2 el2 pu2=>?_⟩;have lu:us.length=(jR (nds.take i)).length:=Paired.len pu;have lu2:us2.length=(pre ni).length:=Paired.len pu2;refine⟨tl,l2,us,us2,rfl,rfl,g2 _ _ et,el2,by lia,?_⟩;have et2:=g2 _ _ et;refine⟨_,_,_,_,rfl,hi,(g.trans g2).fresh htl,by rw[zW ntl];exact g2 _ _ el',.trans tp (.trans (.same g2) (.upd et2)),zH,?_⟩;rw[tk,uL];simp only[jR,yV];exact Paired.append (Paired.imp (λ_ _ z=>z.tups (.trans (.same g2) (.upd et2))) pu) (Paired.imp (λ_ _ z=>z.tups (.upd et2)) pu2)
 ·rintro σ' H' ⟨us,v2,v3,v4,rfl,_,g,el',tp,et,pu⟩;rw[lr,xZ]at pu;exact⟨_,rfl,t1 (hs,nds) er tl us H' g htl et pu⟩
def UX (rs:uB)(L:Int->Option (Nat×Nat)):List Nd->Int->Option Bool
 |[]=>λ_=>none
 |nd::r=>λp=>if p=DK nd then some (rgM rs L (UX rs L r) nd)else UX rs L r p
def lbM (rs:uB)(L:Int->Option (Nat×Nat))(hs:EJ)(nds:List Nd):Bool:=(hs.zip nds).all λx=>Zn rs x.1.1.toNat ((UX rs L (jR nds) (DK x.2)).getD false) (CV L x.2)
theorem VB {rs:uB}{L:Int->Option (Nat×Nat)}{R:Int->Option Bool}: ∀{nd:Nd},rgM rs L R nd=true->(L (DK nd)).isSome =true
 | .mk k p own ps,h=>by
  unfold rgM at h;dsimp only at h;show(L (p:Int)).isSome =true;cases z:L (p:Int)with
  |none=>rw[z]at h;cases h
  |some be=>rfl
theorem Oi {rs:uB}{L:Int->Option (Nat×Nat)}: ∀{ns:List Nd} {x:Nd},x∈ns-> ∃b,UX rs L ns (DK x)=some b/\(b=true->(L (DK x)).isSome =true)
 |nd::r,x,m=>by
  by_cases h:DK x=DK nd
  ·refine⟨rgM rs L (UX rs L r) nd,by rw[h];exact zQ rfl,λz=>?_⟩;rw[h];exact VB z
  ·have m':x∈r:=by
    rcases List.mem_cons.mp m with rfl|m'
    ·exact absurd rfl h
    ·exact m'
   obtain⟨b,e,z⟩:=Oi (rs:=rs) (L:=L) m';exact⟨b,(zN h).trans e,z⟩
def YD:Nd->List Nd
 | .mk _ _ _ ps=>ps
def Zc:List Nd->Prop
 |[]=>True
 |nd::r=>(∀x∈YD nd,x∈r)/\Zc r
theorem YA: ∀x:Nd,x∈pre x
 | .mk k p own ps=>by
  unfold pre;exact yT ..
theorem LD: ∀{ps:List Nd} {x:Nd},x∈ps->x∈jR ps
 |a::r,x,m=>by
  unfold jR
  rcases List.mem_cons.mp m with rfl|m
  ·exact wG _ (YA x)
  ·exact jA _ (LD m)
mutual
theorem YE: ∀(a:Nd) (r:List Nd),Zc r->Zc (pre a++r)
 | .mk k p own ps,r,h=>by
  unfold pre;exact⟨λx m=>wG _ (LD m),LJ ps r h⟩
theorem LJ: ∀(l:List Nd) (r:List Nd),Zc r->Zc (jR l++r)
 |[],r,h=>by
  unfold jR;exact h
 |a::l,r,h=>by
  unfold jR;rw[yA];exact YE a _ (LJ l r h)
end
theorem Zc.drop: ∀{ns:List Nd} {i:Nat} {nd:Nd} {r:List Nd},Zc ns->ns.drop i=nd::r-> ∀x∈YD nd,x∈r
 |[],i,nd,r,_,e=>by
  rw[List.drop_nil]at e;cases e
 |a::ns,0,nd,r,h,e=>by
  cases e;exact h.1
 |a::ns,i+1,nd,r,h,e=>Zc.drop h.2 e
theorem VM {D:Int->Bool}{m:Int}: ∀{ls:EJ} {S:Int->Bool},XF D m S ls=true-> ∀l∈ls,0<=l.2.1/\0<=l.2.2
 |a::ls,S,h,l,ml=>by
  have h:(WG D m a.1 a.2.1 a.2.2&&(!S a.1&&XF D m (λx=>decide (x=a.1) || S x) ls))=true:=h;obtain⟨h1,h2⟩:=Bool.and_eq_true_iff.mp h;obtain⟨_,h2⟩:=Bool.and_eq_true_iff.mp h2
  rcases List.mem_cons.mp ml with rfl|ml
  ·obtain⟨_,h1⟩:=Bool.and_eq_true_iff.mp h1;obtain⟨e1,e2⟩:=Bool.and_eq_true_iff.mp h1;exact⟨(zO e1).1,(zO e2).1⟩
  ·exact VM h2 l ml
theorem zBw {C:Addr}{H:Hp}{c dx r l d q:Addr}{rs:uB}{L:Int->Option (Nat×Nat)}{R:Int->Option Bool}{kvs:List (uT×V)}{p:Int}{b:Bool}(h:IH C H c dx r l d q rs L R)(e:H q=some (.dK kvs))(n:d≠q):IH C (upd H q (.dK (EA kvs (.inl p) (.bl b)))) c dx r l d q rs L (λy=>if y=p then some b else R y):=by
 have kp: ∀a o,a≠q->H a=some o->upd H q (.dK (EA kvs (.inl p) (.bl b))) a=some o:=λa o na z=>by rw[zW na];exact z
 obtain⟨kv,e1,e2⟩:=h.lines;obtain⟨kr,e3,e4⟩:=h.right;obtain⟨vs,e5,e6⟩:=h.rows;have e7:=h.ob;have e8:=h.leads;rw[e]at e3;cases e3;refine⟨kp _ _ (λz=>by rw[z,e]at e7;cases e7) e7,⟨vs,kp _ _ (λz=>by rw[z,e]at e5;cases e5) e5,Paired.imp (λ_ _ ⟨t,a,b⟩=>⟨t,a,kp _ _ (λz=>by rw[z,e]at b;cases b) b⟩) e6⟩,kp _ _ (λz=>by rw[z,e]at e8;cases e8) e8,⟨kv,kp _ _ n e1,λy=>LF (λt xs z=>kp _ _ (λw=>by rw[w,e]at z;cases z) z) (e2 y)⟩,⟨_,zH,λy=>?_⟩⟩;rw[KL]
 by_cases z:y=p
 ·rw[zQ (by rw[z]),zQ z];rfl
 ·rw[zN (λw=>z (Sum.inl.inj w)),zN z];exact e4 y
def UY (ns:List Nd):Int->Bool:=λp=>ns.any λx=>decide (DK x=p)
theorem ST: ∀(ns:List Nd) (acc:List (uT×V)) (p:Int),XG ((ns.map λx=>((Sum.inl (DK x):uT),V.bl true)).foldl (λacc x=>EA acc x.1 x.2) acc) p=(XG acc p || UY ns p)
 |[],acc,p=>(Bool.or_false _).symm
 |x::ns,acc,p=>by
  have e:UY (x::ns) p=(decide (DK x=p) || UY ns p):=rfl;have i:=ST ns (EA acc (.inl (DK x)) (.bl true)) p;rw[SU]at i;rw[e];refine i.trans ?_;dsimp only;have e2:decide (p=DK x)=decide (DK x=p):=by rw[vL,By,By];exact eq_comm
  rw[e2];cases decide (DK x=p)<;>cases XG acc p<;>rfl
def lsM (rs:uB)(hs:EJ)(r:wC×List Nd)(ls:EJ):Bool:=decide (r.1=hs.map λh=>(h.2.1,h.2.2))&&(XF (UY (jR r.2)) rs.length (λ_=>false) ls&&lbM rs (Ke ls) hs r.2)
structure LtP (r:wC×List Nd)(cs:List Int)(hs:EJ)(rs:uB)(ls:EJ):Prop where
 cl:cs.length<=1000000
 co:DQ cs
 hd:GB 3 (headNums cs)=hs.map λh=>[h.1,h.2.1,h.2.2]
 rw_:GB 2 (rowNums cs)=Zs rs
 jo:ZI rs
 uo:UOk rs
 r0:0<rs.length
 r1:rs.length<=1000
 h1:hs.length<=1000
 h0: ∀h∈hs,0<=h.1
 l1:ls.length<=1000
 f1:r.1.length<=1000
 p1:(jR r.2).length<=1000
 fit: ∀nd∈jR r.2,(∃hs bx,EE hs bx 10 (bare nd))/\Se 10 (bare nd)/\(YD nd).length<=1000
 bx:r.1=hs.map λh=>(h.2.1,h.2.2)
theorem Ho {a b:List Int}(h:a.map V.int=b.map V.int):a=b:=List.map_inj_right (λx y e=>by injection e) |>.mp h
theorem Ml {CC:Addr}(C:kA P w K mg base 4 "rows_of" ["code"] (Hz K CC)):kA P w K mg base 4 "rows_of" ["code"] KP:=
 QK.imp C λvs H Q E ⟨a,ns,e,ha,hl,hk,q⟩=>⟨.ref a,_,e,Ba.ints ha hl,λns' e' _ l H' g hl' at'=>q l H' g hl' (by rw[Ho (xU e')];exact at'),λn=>absurd ⟨ns,rfl,hk⟩ n⟩
theorem On {D:Int->Bool}{m:Int}: ∀{os:Sc} {S:Int->Bool},VL D m S os=true-> ∃ls:EJ,os=ls.map some/\XF D m S ls=true
 |[],S,_=>⟨[],rfl,rfl⟩
 |none::_,S,h=>(nomatch h)
 |some l::os,S,h=>by
  obtain⟨h1,h⟩:=Bool.and_eq_true_iff.mp h;obtain⟨h2,h⟩:=Bool.and_eq_true_iff.mp h;obtain⟨ls,rfl,h3⟩:=On h;exact⟨l::ls,rfl,Bool.and_eq_true_iff.mpr ⟨h1,Bool.and_eq_true_iff.mpr ⟨h2,h3⟩⟩⟩
def lnO (o:Option Sc):EJ:=(o.getD []).filterMap id
theorem LG: ∀ls:EJ,lnO (some (ls.map some))=ls
 |[]=>rfl
 |l::ls=>qI (l::·) (LG ls)
def lsO (rs:uB)(hs:EJ)(r:wC×List Nd)(o:Option Sc):Bool:=decide (r.1=hs.map λh=>(h.2.1,h.2.2))&&(Zt (UY (jR r.2)) rs.length o&&lbM rs (Ke (lnO o)) hs r.2)
theorem Qk {H:Hp}: ∀{rv:List V} {ls:EJ},Paired (BH K H) rv (ls.map some)->Paired (zCg H) rv ls
 |_,[],.nil=>.nil
 |_,_::_,.cons (.yes h) p=>.cons ⟨_,rfl,h⟩ (Qk p)
theorem zAw {H:Hp}{yv:V}{o:Option Sc}{D:Int->Bool}{m:Int}(px:OS K H yv o)(z:Zt D m o=true): ∃(pa:Addr) (rv:List V) (ls:EJ),yv=.ref pa/\o=some (ls.map some)/\H pa=some (.lst rv)/\Paired (zCg H) rv ls/\ls.length<=1000/\XF D m (λ_=>false) ls=true:=by
 cases px with
 |no m n ty=>cases z
 |yes h p l=>
  obtain⟨ls,rfl,c⟩:=On z;have ln:=Paired.len p;rw[zF]at ln;exact⟨_,_,ls,rfl,rfl,h,Qk p,by lia,c⟩
inductive Kz (K:PySem.W.Frag) (CN CC:Addr) (vs:List V) (H:Hp) (Q:VK) (E:XK):Prop
 |mk (a:Addr) (v yv:V) (ns:List Int) (h0:vs=[.ref a,v,yv]) (h1:H a=some (.lst (ns.map V.int))) (h2:ns.length<=1000000) (h3:((∃(p:Nat) (wd:Str),jL ns=.error (p,wd)/\ ∀d H',yU H H'->H' d=some (Mg d [("place",.int p),("word",.str wd)])->E (.ref CN) (some d) H')\/ ∃r:wC×List Nd,jL ns=.ok r/\((∃o,Ba K H v o/\ ¬Ib o/\ ∀H',yU H H'->E (.ref CC) none H')\/ ∃(c:Addr) (cs:List Int) (hs:EJ) (rs:uB) (o:Option Sc),v=.ref c/\H c=some (.lst (cs.map V.int))/\LtP r cs hs rs []/\OS K H yv o/\ ∀H',yU H H'->Q (.bl (lsO rs hs r o)) H'))):Kz K CN CC vs H Q E
theorem OS.same {H H':Hp}{v:V}{o:Option Sc}(g:yU H H')(h:OS K H v o):OS K H' v o:=by
 cases h with
 |no m n ty=>exact .no m n (ty.same g)
 |yes h p l=>exact .yes (g _ _ h) (Paired.imp (λ_ _ z=>z.same g) p) l
theorem Wj {CC:Addr}(T:DM K mg CK)(F:wE K "lets_by" "lets_by" FC f fd)(Cd:kA P w K mg base 17 "functions" ["sheet"] (HX CN))(Cd4:kA P w K mg base 4 "heads_of" ["code"] (Il K CC))(Ca6:kA P w K mg base 4 "rows_of" ["code"] (Hz K CC))(Ce2:kA P w K mg base 18 "nodes" ["sheet"] (NK CN))(Ca8:kA P w K mg base 1 "have_same_boxes" ["program","heads"] GH)(Cd1:kA P w K mg base 3 "is_paper" ["paper","places","many_rows"] (Ik K))(Ce1:QJ P w K mg base (Fx P w) 2 "Check" CK ["self","rows","paper"] (NP CK))(Cd2:kA P w K mg base 15 "is_right" ["check","node"] (Jz CK 9))(Ca3:kA P w K mg base 3 "is_right_function" ["check","start","body"] (Ju CK)):uE P w K mg base 19 f fd ["sheet","code","paper"] (Kz K CN CC):=by
 have n_reversed:=T.n_reversed;have n_reversed:=T.n_reversed;refine F.oX Bq λcdv A outer s H vs Q E hr h=>?_;obtain⟨a,v,yv,ns,rfl,ha,hn,h⟩:=h;refine⟨_,(zE (uA 3 Bq.nd (jB Cd hr rfl (kG (pv 0)) kZ))
   (zE (uA 4 Bq.nd (jB Cd4 hr rfl (kG (pv 1)) kZ))
   (zE (uA 5 Bq.nd (jB Ca6 hr rfl (kG (pv 1)) kZ))
   (zE (uA 6 Bq.nd (jB Ce2 hr rfl (kG (pv 0)) kZ))
   (zE (xS (PW.pt (vO (wK (qW (jB Ca8 hr rfl (kO (pv 3) (pv 4)) kZ))) (qT (wK (qW (jB Cd1 hr rfl (zB (pv 2) (zB (HF (RW rfl) rfl T.n_dict YS (kG (Dk (own:=["node"]) (ys:=[]) rfl (AE (pv 6)) (vI (sc:=zR FC) rfl (by decide+kernel)) .nil (λ_ _ _ _ _=>(vB (i:=0) (show List.Nodup [("node":Str)]from(by decide+kernel)) rfl (Or.inl rfl))) (λ_ _ _ _ _=>Bi) (λ_ _ _ _ _=>(xR (kO (Am (KF K rfl) (pv 0) zK) qG)))))) (zB (yS yM rfl T.n_len jZ (kG (pv 5))) yC))) kZ)))))) (zJ (zV qG)) yI)
   (zE (Ol (i:=7) Bq.nd rfl (Or.inr rfl) (Pt Ce1 hr rfl (kO (pv 5) (pv 2)) kZ))
   (zE (wL (Jb rfl rfl) rfl (Yd rfl n_reversed (kG (pv 6))) (Ar 8 Bq.nd) (zJ (Om (Hr hr) (xW (pv 7) rfl) (Am jO (pv 8) zK) (jB Cd2 hr rfl (kO (pv 7) (pv 8)) kZ) rfl)))
   (zJ (zV (yS (FR rfl) rfl T.n_all JS (kG (Dk (own:=["head","function"]) (ys:=["check"]) rfl (VU false false rfl T.n_zip (kO (pv 4) (pv 3))) (vI (sc:=zR FC) rfl (by decide+kernel)) (.cons (j:=7) rfl .nil) (λ_ _ _ _ _=>(Os (n:=2) K rfl rfl (yR (vB (i:=0) (show List.Nodup [("head":Str),("function":Str),("check":Str)]from(by decide+kernel)) rfl (Or.inl rfl)) (yR (vB (i:=1) (show List.Nodup [("head":Str),("function":Str),("check":Str)]from(by decide+kernel)) rfl (Or.inl rfl)) qP)))) (λ_ _ _ _ _=>Bi) (λ_ _ _ _ _=>(cN Ca3 hr (zB (pv 2) (zB (Am (KF K rfl) (pv 0) zK) (zB (Am (KF K rfl) (pv 1) zK) yC))))))))))))))))),?_⟩
 try dsimp only[Ah,Ai]
 have sl:sizeLine=16777216:=wU
 rcases h with⟨p,wd,ef,q⟩|⟨r,ef,h⟩
 ·refine⟨_,rfl,a,ns,rfl,ha,⟨λr er'=>(by rw[ef]at er';cases er'),λp' wd' e' d H' s ed=>?_⟩⟩;rw[ef]at e';cases e';exact q d H' s ed
 refine⟨_,rfl,a,ns,rfl,ha,?_,λp w e=>by rw[ef]at e;cases e⟩;intro r' er fl H1 s1 _ fa;rw[ef]at er;cases er
 rcases h with⟨o,th,nc,q⟩|⟨c,cs,hs,rs,o,rfl,hc,L,px,q⟩
 ·refine⟨_,rfl,v,o,rfl,th.same s1,λns' e hk=>absurd ⟨ns',e,hk⟩ nc,λ_ H' g=>q H' (s1.trans g)⟩
 have thg: ∀{H2:Hp},yU H H2->Ba K H2 (.ref c) (some (cs.map V.int)):=λg=>Ba.ints (g _ _ hc) L.cl;refine⟨_,rfl,.ref c,_,rfl,thg s1,λns' e hk hl H2 g2 _ gh=>?_,λn=>absurd ⟨cs,rfl,L.co⟩ n⟩;have e:=Ho (xU e);subst e;have s2:=s1.trans g2;refine⟨_,rfl,.ref c,_,rfl,thg s2,λns' e hk rl H3 g3 _ gr=>?_,λn=>absurd ⟨cs,rfl,L.co⟩ n⟩;have e:=Ho (xU e);subst e;have s3:=s2.trans g3;refine⟨_,rfl,a,ns,rfl,s3 _ _ ha,hn,?_,λp w e=>by rw[ef]at e;cases e⟩;intro r' er tl us H4 g4 _ et pt;rw[ef]at er;cases er;have s4:=s3.trans g4;rw[L.hd]at gh;rw[L.rw_]at gr;have g14:=g2.trans (g3.trans g4);refine⟨_,rfl,_,rfl,fl,hl,r,_,hs,rfl,fa.same g14,gh.same (g3.trans g4),rfl,L.f1,L.h1,L.bx,λH5 g5=>?_⟩;have s5:=s4.trans g5;have eq:lsO rs hs r o=(decide (r.1=hs.map λh=>(h.2.1,h.2.2))&&(Zt (UY (jR r.2)) rs.length o&&lbM rs (Ke (lnO o)) hs r.2)):=rfl;rw[eq]at q;rw[xI L.bx,jU]at q;refine⟨_,rfl,wD ?_⟩;refine⟨_,rfl,_,rfl,tl,rfl,⟨_,kS.of (g5 _ _ et)⟩,λu hu=>?_⟩;refine Hu (xs:=us) (λi σ' H'=>yU H5 H'/\(∃x,σ'=[x])/\ ∃as:List Addr,H' u=some (.lst (as.map V.ref))/\Paired (λa kv=>H' a=some (.tup [kV kv.1,kv.2])) as (((jR r.2).take i).map λx=>(Sum.inl (DK x),V.bl true))) ⟨zM hu _,⟨_,rfl⟩,[],zH,.nil⟩ ?_ ?_ ?_
 ·rintro i σ' H' _ ⟨g,_⟩;exact kS.of (g _ _ (g5 _ _ et))
 ·rintro i x σ' H' hi hx ⟨g,⟨y,rfl⟩,as,eu,pa'⟩;obtain⟨nd,hnd,na⟩:=Paired.yonder pt hx;obtain⟨k,p,own,ps⟩:=nd;obtain⟨t,o,y1,y2,rfl,et1,_⟩:=na;have tk:((jR r.2).take (i+1)).map (λx=>((Sum.inl (DK x):uT),V.bl true))=((jR r.2).take i).map (λx=>((Sum.inl (DK x):uT),V.bl true))++[(Sum.inl (p:Int),V.bl true)]:=by
   rw[jT,hnd,yP]<;>rfl
  have la:=Paired.len pa';rw[zF,yL]at la;have lu:=L.p1;dsimp only[BE];refine QM ⟨_,rfl,t,_,_,_,rfl,rfl,.of (g _ _ (g5 _ _ et1)),rfl,sm2,λa1 h1=>⟨_,zM h1 _ _ _ eu,by rw[zF];lia,CW.next hi ⟨λb o e=>?_,⟨_,rfl⟩,as++[a1],?_,?_⟩⟩⟩
  ·rw[zW (zZ e hu)];exact zM h1 _ _ _ (g _ _ e)
  ·rw[zH,yP];rfl
  ·rw[tk];have nu:a1≠u:=λz=>by rw[z,eu]at h1;cases h1
   refine Paired.append (Paired.imp ?_ pa') (.cons ?_ .nil)
   ·intro b kv e;rw[zW (λz=>by rw[z,eu]at e;cases e)];exact zM h1 _ _ _ e
   ·rw[zW nu,zH];rfl
 ·rintro σ' H6 ⟨g6,_,as,eu,pa'⟩;have lu:=Paired.len pt;rw[lu,xZ]at pa';refine⟨u,as,_,rfl,eu,pa',λd hd=>?_⟩;have s7:=(s5.trans g6).trans (zM hd (.dK (Hf ((jR r.2).map λx=>((Sum.inl (DK x):uT),V.bl true)))));have g7:=((g4.trans g5).trans g6).trans (zM hd (.dK (Hf ((jR r.2).map λx=>((Sum.inl (DK x):uT),V.bl true)))));obtain⟨vr,erl,prr⟩:=gr;have lr:vr.length=rs.length:=(Paired.len prr).trans (zF ..);refine⟨_,rfl,rl,_,rfl,.inl (kS.of (g7 _ _ erl)),yv,d,_,o,UY (jR r.2),rfl,px.same s7,⟨_,zH,λp=>ST (jR r.2) [] p⟩,λH8 g8=>?_⟩;have s8:=s7.trans g8;rw[lr];refine⟨_,rfl,?_⟩;cases z2:Zt (UY (jR r.2)) rs.length o with
  |false=>
   rw[z2]at q;exact qO (q _ s8)
  |true=>
  rw[z2,jU]at q;refine wD ?_;obtain⟨pa,rv,ls,rfl,rfl,hp,pp,l1,z3⟩:=zAw px z2;rw[LG]at q;refine⟨_,rfl,_,rfl,λx dx hx hdx ndx=>?_⟩;have gm:yU H8 (upd (upd H8 dx (.own x)) x (.ins CK dx [])):=λb o e=>by
   rw[zW (zZ e hx),zW (zZ e hdx)];exact e
  have s9:=s8.trans gm;have g9:=(g7.trans g8).trans gm;refine⟨x,dx,rl,pa,rs,rv,ls,rfl,zH,⟨vr,g9 _ _ erl,Paired.imp (λ_ _ ⟨t,e1,e2⟩=>⟨t,e1,g9 _ _ e2⟩) prr⟩,L.jo,L.r0,L.r1,s9 _ _ hp,Paired.imp (λ_ _ ⟨t,e1,e2⟩=>⟨t,e1,s9 _ _ e2⟩) pp,VM z3,l1,λll dd qq H9 k9 C9 eq9 nq hqn=>⟨rfl,?_⟩⟩;have gk:yU H8 H9:=λb o e=>k9 _ _ (zZ e hx) (gm _ _ e);have hq8:H8 qq=none:=by
   cases e:H8 qq with
   |none=>rfl
   |some o=>rw[gm _ _ e]at hqn;cases hqn
  have g48:yU H4 H8:=((g5.trans g6).trans (zM hd (.dK (Hf ((jR r.2).map λx=>((Sum.inl (DK x):uT),V.bl true)))))).trans g8;have lu:=Paired.len pt;have kd:Zc (jR r.2):=by
   have z:=LJ r.2 [] trivial;rw[yV]at z;exact z
  refine⟨_,rfl,tl,us,rfl,kS.of (gk _ _ (g48 _ _ et)),Xc (xs:=us) (λi σ' H'=>yU H8 H'/\(∃y,σ'=[some (.ref a),some (.ref c),some (.ref pa),some (.ref fl),some (.ref hl),some (.ref rl),some (.ref tl),some (.ref x),y])/\(∃kvs,H' qq=some (.dK kvs)/\kvs.length<=i)/\IH CK H' x dx rl ll dd qq rs (Ke ls) (UX rs (Ke ls) ((jR r.2).drop (us.length-i)))) ⟨gk,⟨_,rfl⟩,⟨[],eq9,zP _⟩,by rw[Nat.sub_zero,lu,AN];exact C9⟩ ?_ ?_ ?_⟩
  ·rintro i σ' H' _ ⟨g,_⟩;exact kS.of (g _ _ (g48 _ _ et))
  ·rintro i v σ' H' hv ⟨g,⟨y,rfl⟩,⟨kvs,ek,lk⟩,C⟩;have hi:i<us.length:=by
    have z:=(List.getElem?_eq_some_iff.mp hv).1
    rwa [Ee]at z
   rw[CJ hi]at hv;obtain⟨nd,hnd,na⟩:=Paired.yonder pt hv;obtain⟨hj,ej⟩:=List.getElem?_eq_some_iff.mp hnd;have ed:(jR r.2).drop (us.length-(i+1))=nd::(jR r.2).drop (us.length-i):=by
    rw[show us.length-(i+1)=us.length-1-i by lia,xO hj,ej,show us.length-1-i+1=us.length-i by lia]
   obtain⟨⟨hs',bx,fit⟩,fx,kl⟩:=L.fit nd (ej▸kY hj);have kc:=kd.drop ed;have lp1:=L.p1;obtain⟨k,p,own,ps⟩:=nd;have na1:qA H' (9+1) v (.mk k p own ps):=qA.tups (AT.same (g48.trans g)) na;have na0:=na1;obtain⟨t,o,y1,y2,rfl,et1,_⟩:=na0;dsimp only[BE];refine⟨_,rfl,_,rfl,x,dx,rl,ll,dd,qq,rs,_,_,_,k,p,own,ps,hs',bx,rfl,C,L.uo,na1,fit,fx,λz hz=>Oi (kc z hz),kl,λH2 g2=>?_⟩;refine⟨_,rfl,x,CK,dx,_,_,rfl,(C.same g2).ob,T.ck,T.cright,rfl,_,rfl,t,_,_,_,rfl,rfl,.of (g2 _ _ et1),rfl,qq,_,rfl,Sj.k (k:=.inl (p:Int)) (g2 _ _ ek) (by lia),?_⟩;refine⟨λb o e=>?_,⟨_,rfl⟩,⟨_,zH,yO (BD ..) (Gc lk)⟩,?_⟩
   ·rw[zW (zZ e hq8)];exact g2 _ _ (g _ _ e)
   ·rw[ed];exact zBw (C.same g2) (g2 _ _ ek) nq
  ·rintro σ' H' ⟨g,⟨y,rfl⟩,_,C⟩;rw[El,CB]at C;obtain⟨vf,efl,ln,pf⟩:=fa;obtain⟨vh,ehl,ph⟩:=gh;have gz1:yU H1 H':=(g14.trans g48).trans g;have gz2:yU H2 H':=((g3.trans g4).trans g48).trans g;have lf:=Paired.len pf;have lh:=Paired.len ph;have e11:r.1.length=hs.length:=by rw[L.bx,zF]
   rw[wM]at lf;rw[zF]at lh;have lh1:=L.h1;refine⟨_,rfl,_,rfl,hl,fl,vh,vf,rfl,kS.of (gz2 _ _ ehl),kS.of (gz1 _ _ efl),λu hu=>?_⟩;refine Xn (b1:=false) (b2:=false) (xs:=vh) (ys:=vf) (λi σ' H3=>yU H' H3/\(∃a b,σ'=[a,b,some (.ref x)])/\H3 u=some (.lst ((((hs.zip r.2).map λx=>Zn rs x.1.1.toNat ((UX rs (Ke ls) (jR r.2) (DK x.2)).getD false) (CV (Ke ls) x.2)).take i).map V.bl))) ⟨zM hu _,⟨_,_,rfl⟩,zH⟩ (by lia) ?_ ?_ ?_
   ·rintro i σ' H3 _ ⟨s,_⟩;exact⟨kS.of (s _ _ (gz2 _ _ ehl)),kS.of (s _ _ (gz1 _ _ efl))⟩
   ·rintro i v1 v2 σ' H3 t hi hv1 hv2 ⟨s,⟨a',b',rfl⟩,eu⟩ ht;obtain⟨hg,hhg,t1,rfl,et1⟩:=Paired.yonder ph hv1;rw[yQ]at hhg;obtain⟨h,hh,rfl⟩:=Option.map_eq_some_iff.mp hhg;obtain⟨⟨h2,nd⟩,hnd,t2,bd,rfl,et2,nb⟩:=Paired.yonder pf hv2;have hn2:=(List.getElem?_zip_eq_some.mp hnd).2;have ez:(hs.zip r.2)[i]? =some (h,nd):=List.getElem?_zip_eq_some.mpr ⟨hh,hn2⟩;have tk:((hs.zip r.2).map λx=>Zn rs x.1.1.toNat ((UX rs (Ke ls) (jR r.2) (DK x.2)).getD false) (CV (Ke ls) x.2)).take (i+1)=((hs.zip r.2).map λx=>Zn rs x.1.1.toNat ((UX rs (Ke ls) (jR r.2) (DK x.2)).getD false) (CV (Ke ls) x.2)).take i++[Zn rs h.1.toNat ((UX rs (Ke ls) (jR r.2) (DK nd)).getD false) (CV (Ke ls) nd)]:=by
     rw[jT,yQ,ez]<;>rfl
    have st:=zM ht (.tup [.ref t1,.ref t2]);have s3:=s.trans st;have nn:=L.h0 h (xL hh);have nb3:qA (upd H3 t (.tup [.ref t1,.ref t2])) 10 bd nd:=qA.tups (AT.same (gz1.trans s3)) nb;obtain⟨pv,_⟩:=OF (L:=Ke ls) (R:=UX rs (Ke ls) (jR r.2)) (Paired.cons nb3 .nil) (λz hz=>by
     rw[List.mem_singleton.mp hz];exact Oi (LD (xL hn2)))
    obtain _|⟨pv,_⟩:=pv
    refine⟨t,_,rfl,uS.of zH,rfl,_,_,rfl,_,_,rfl,rfl,?_⟩;refine QM ⟨_,rfl,_,rfl,t1,_,_,_,rfl,rfl,.of (s3 _ _ (gz2 _ _ et1)),rfl,_,rfl,t2,_,_,_,rfl,rfl,.of (s3 _ _ (gz1 _ _ et2)),rfl,x,dx,rl,ll,dd,qq,rs,_,_,h.1.toNat,bd,_,_,by rw[AV nn]<;>rfl,C.same s3,pv,λH5 g5=>?_⟩;refine⟨_,g5 _ _ (st _ _ eu),by rw[zF,yL,zF,wM];lia,CW.next hi ⟨λb o e=>?_,⟨_,_,rfl⟩,?_⟩⟩
    ·rw[zW (zZ e hu)];exact g5 _ _ (s3 _ _ e)
    ·rw[zH,tk,yP];rfl
   ·rintro σ' H3 ⟨s,_,eu⟩;rw[xJ (by rw[zF,wM];lia)]at eu;refine⟨u,_,rfl,kS.of eu,?_⟩;have e:((hs.zip r.2).map λx=>Zn rs x.1.1.toNat ((UX rs (Ke ls) (jR r.2) (DK x.2)).getD false) (CV (Ke ls) x.2)).all id=lbM rs (Ke ls) hs r.2:=by
     rw[List.all_map];rfl
    rw[e];exact q _ ((s8.trans g).trans s)
theorem My: ∀vs H Q E,GQ vs H Q E->FB K vs H Q E:=λvs H Q E ⟨a,ns,e,ha,hl,q⟩=>⟨.ref a,_,e,Ba.ints ha hl,λr H' g z=>q r H' g (z.trans codeV_ints)⟩
theorem Wd (T:HR K mg aP CL CN)(F:wE K "wrong" "wrong" Od f fd)(Cd:kA P w K mg base 17 "functions" ["sheet"] (HX CN)):
  uE P w K mg base 18 f fd ["numbers"] Kx:=by
 refine F.oN Pa λcdv A outer s H vs Q E hr h=>?_;obtain⟨a,ns,rfl,ha,t1,t2⟩:=h;refine⟨_,(zE (zAn (i:=1) Pa.nd rfl rfl rfl T.m_NoSheet (λ_ _=>(zJ (jF (jB Cd hr rfl (kG (pv 0)) kZ)))) (λ_=>(zJ (zV (xR (kO (IY K rfl (pv 1)) (IY K rfl (pv 1))))))))
   (zJ (zV qQ))),?_⟩
 try dsimp only[Ah,Ai]
 refine⟨_,rfl,a,ns,rfl,ha,λr er l H1 s1 _ _=>t1 r er H1 s1,λp wd er d H1 s1 ed=>⟨CN,d,rfl,rfl,T.mch,λx σ1 ex hn=>?_⟩⟩
 match σ1,hn with
 |[y0,y1],_=>
  refine⟨_,rfl,x,CN,d,_,_,rfl,ex,ed,T.exc,T.xplace,rfl,_,rfl,x,CN,d,_,_,rfl,ex,ed,T.exc,T.xword,rfl,sm2,λt ht=>?_⟩;exact t2 p wd er t _ (s1.trans (zM ht _)) zH
inductive KU (vs:List V) (H:Hp) (Q:VK) (E:XK):Prop
 |mk (a c:Addr) (ns cs:List Int) (b:Int) (r:wC×List Nd) (h0:vs=[.ref a,.ref c,.int b]) (h1:H a=some (.lst (ns.map V.int))) (h2:jL ns=.ok r) (h3:H c=some (.lst (cs.map V.int))) (h4:cs.length<=1000) (h5:ns.length<=1000) (h6:DQ cs) (h7:0<=b) (h8:b<=20000) (h9: ∀H',yU H H'->Q (.int (3*(b+2)*((ns.length:Int)+1)*(((GB 2 (rowNums cs)).length:Int)+1))) H'):KU vs H Q E
theorem Uk (T:Km K mg)(F:wE K "enough" "enough" Lg f fd)(Cd:kA P w K mg base 17 "functions" ["sheet"] (HX CN))(Ca6:kA P w K mg base 4 "rows_of" ["code"] KP):uE P w K mg base 18 f fd ["sheet","code","breaths"] KU:=by
 refine F.oX TR λcdv A outer s H vs Q E hr h=>?_;obtain⟨a,c,ns,cs,b,r,rfl,ha,ef,hc,l1,l2,ck,b0,b1,q⟩:=h;refine⟨_,(zE (jF (jB Cd hr rfl (kG (pv 0)) kZ))
   (zJ (zV (xQ HG (xQ HG (xQ HG zK (xQ qM (pv 2) zK)) (xQ qM (yS yM rfl T.n_len jZ (kG (pv 0))) zK)) (xQ qM (yS yM rfl T.n_len jZ (kG (jB Ca6 hr rfl (kG (pv 1)) kZ))) zK))))),?_⟩
 try dsimp only[Ah,Ai]
 refine⟨_,rfl,a,ns,rfl,ha,⟨λr' er fl H1 s1 _ fa=>?_,λp w e=>(by rw[ef]at e;cases e)⟩⟩;have big: ∀x:Int,0<=x->x<=100000000000000->x.natAbs<2^2000:=λx h1 h2=>xB (show x.natAbs<=100000000000000 by lia) (by decide);have m1:(0:Int)<=3*(b+2)*((ns.length:Int)+1):=Int.mul_nonneg (by lia) (by lia);have m2:3*(b+2)*((ns.length:Int)+1)<=60006*1001:=Int.mul_le_mul (by lia) (by lia) (by lia) (by decide);dsimp only;refine⟨_,rfl,_,_,rfl,rfl,_,_,rfl,rfl,⟨by decide,big _ (by lia) (by lia)⟩,_,rfl,a,_,rfl,.inl (kS.of (s1 _ _ ha)),_,_,rfl,rfl,_,_,rfl,rfl,⟨big _ (by lia) (by lia),big _ (by rw[zF];lia) (by rw[zF];lia)⟩,?_⟩;rw[zF];refine⟨_,rfl,c,cs,rfl,s1 _ _ hc,yO l1 (by decide),ck,λrl H2 g2 _ gr=>?_⟩;obtain⟨vr,erl,prr⟩:=gr;have lr:=Paired.len prr;have lg:(GB 2 (rowNums cs)).length<=1000:=by
  rw[Ta];have:(rowNums cs).length<=cs.length:=by unfold rowNums;rw[kE];lia
  lia
 refine⟨rl,_,rfl,.inl (kS.of erl),_,_,rfl,rfl,_,_,rfl,rfl,⟨big _ m1 (by lia),big _ (by lia) (by rw[lr];lia)⟩,?_⟩;rw[lr];exact q _ (s1.trans g2)
theorem Yt (T:Km K mg)(F:wE K "_law_cell" "_law_cell" Hd f fd):uE P w K mg base 1 f fd ["_law_script","_law_k"] (NS K):=by
 refine F.oN Oc λcdv A outer s H vs Q E hr h=>?_;obtain⟨a,ns,k,rfl,hs,hk,q⟩:=h;refine⟨_,(zE (xS (vH DZ (pv 1) (yS yM rfl T.n_len jZ (kG (pv 0)))) (zJ (zV (Am kQ (pv 0) (pv 1)))) yI)
   (zJ (zV zK))),?_⟩
 try dsimp only[Ah,Ai]
 have hlen:((ns.map V.int).length:Int)=ns.length:=by rw[zF]
 refine⟨_,rfl,_,rfl,a,_,rfl,.inl hs.sq,_,_,rfl,rfl,_,rfl,kH (λck=>?_) (λck=>q 0)⟩;have ck':=zO ck;rw[hlen]at ck';obtain⟨v,hv⟩:=YV (ns:=ns) hk ck';exact⟨_,rfl,_,rfl,a,_,_,_,rfl,rfl,hs.sq,hv,q v⟩
theorem Yp (T:Km K mg)(F:wE K "_law_take" "_law_take" Hc f fd)(Cc9:kA P w K mg base 1 "_law_cell" ["_law_script","_law_k"] (NS K)):uE P w K mg base 2 f fd ["_law_state","_law_most"] (Ii K):=by
 refine F.oN vM λcdv A outer s H vs Q E hr h=>?_;obtain⟨st,m,rfl,hm0,hm1,D,q⟩:=h;refine⟨_,(zE (AR (pv 0) (zAs rfl (yR (Ar 2 vM.nd) (yR (Ar 3 vM.nd) (yR (Ar 4 vM.nd) qP)))))
   (zE (Lp (xS (vH kW (pv 4) zK) (zE (uA 5 vM.nd (cN Cc9 hr (kO (pv 2) (xQ Hi (pv 3) zK))))
   (zE (AR (xQ qM (pv 3) zK) (Lu (pv 0) zK GR))
   (zJ (xS (PW.pt (VG (vH DZ (pv 3) (yS yM rfl T.n_len jZ (kG (pv 2)))) (SE (vH MV (pv 5) (xQ zAy zK zK))))) (zJ (uA 4 vM.nd (pv 5))) (zE (uA 6 vM.nd (xQ Hi (xQ Hh (xQ qM (xQ qM (xQ Hi (pv 5) zK) (xQ Hh zK (pv 3))) zK) zK) zK))
   (zE (uA 6 vM.nd (xQ Hi (xQ qM (xQ qM (xQ Hh (pv 6) (pv 6)) (xQ Hh zK (pv 6))) (pv 3)) zK))
   (zJ (zV (xQ Hi (xQ FF (pv 6) zK) (pv 1)))))))))) yI))
   (zE (AR (xQ FF (pv 4) (pv 1)) (Lu (pv 0) zK GR))
   (zJ (zV (xQ Hi (pv 4) (pv 1))))))),?_⟩
 try dsimp only[Ah,Ai]
 obtain⟨a,ns,k,c,hst,hs,hl,hk,hc⟩:=D;refine⟨_,rfl,st,_,rfl,kS.of hst,rfl,_,_,rfl,_,_,rfl,_,_,rfl,rfl,?_⟩;refine⟨λσ' H'=> ∃(v5 v6:Option V) (c':Int),σ'=[some (.ref st),some (.int m),some (.ref a),some (.int k),some (.int c'),v5,v6]/\0<=c'/\ ∃k' c0,H' st=some (.lst [.ref a,.int k',.int c0])/\jX st H H'/\0<=k'/\0<=c0,
  ⟨_,rfl,rfl,_,rfl,kH (λc0=>?_) (λc0=>⟨_,_,c,rfl,hc,k,c,hst,jX.refl _ _,hk,hc⟩)⟩,?_⟩
 ·refine⟨_,rfl,_,rfl,_,_,rfl,rfl,(by decide:(0:Int)<63),a,ns,_,rfl,hs,Ab _ (by decide),λx=>?_⟩;refine⟨_,rfl,_,_,rfl,rfl,_,rfl,st,_,_,_,rfl,rfl,hst,rfl,?_⟩;have h1:upd H st (.lst [.ref a,.int (k+1),.int c]) st=some (.lst [.ref a,.int (k+1),.int c]):=zH;have k1:jX st H (upd H st (.lst [.ref a,.int (k+1),.int c])):=jX.upd;have s1:Va K (upd H st (.lst [.ref a,.int (k+1),.int c])) a ns:=hs.keep hst k1;have p1:(0:Int)<2147483647:=by decide
  have p2:(0:Int)<2147483629:=by decide
  have p4:(0:Int)<2147483587:=by decide
  refine⟨_,rfl,_,rfl,a,_,rfl,.inl s1.sq,_,_,rfl,rfl,_,rfl,kH (λca=>?_) (λca=>wD ?_)⟩
  ·refine⟨_,rfl,_,_,rfl,rfl,⟨by decide,by decide,by decide⟩,_,_,rfl,rfl,_,rfl,kH (λcb=>?_) (λcb=>?_)⟩
   ·have cb':(10:Int)^18<=x:=zO cb;have x0:0<=x:=by
     have:(0:Int)<=10^18:=by decide
     lia
    exact⟨_,rfl,_,_,x,rfl,x0,k+1,c,zH,k1,by lia,hc⟩
   ·refine⟨_,rfl,_,_,rfl,rfl,p1,_,rfl,_,_,rfl,rfl,.inl ⟨by decide,by decide⟩,_,_,rfl,rfl,_,_,rfl,rfl,_,_,rfl,rfl,.inr ⟨by decide,by decide⟩,_,_,rfl,rfl,p2,?_⟩;generalize(x % 2147483647+31*k+17)*48271=A1;have a1:=Ab A1 (show(2147483629:Int)≠0 by decide);have a2:=uW A1 p2;generalize A1 % 2147483629=A2 at *
    refine⟨_,rfl,_,rfl,_,_,rfl,rfl,.inl ⟨by lia,by lia⟩,_,rfl,_,_,rfl,rfl,.inl ⟨by decide,by decide⟩,_,_,rfl,rfl,_,rfl,_,_,rfl,rfl,_,_,rfl,rfl,p4,?_⟩;refine⟨_,rfl,_,_,rfl,rfl,⟨by decide,by decide⟩,_,rfl,_,_,rfl,rfl,hm0,?_⟩;exact q _ _ (Ab _ (by lia)) (uW _ hm0) ⟨⟨a,ns,k+1,c,h1,s1,hl,by lia,hc⟩,k1⟩
  ·refine⟨_,rfl,_,_,rfl,rfl,p1,_,rfl,_,_,rfl,rfl,.inl ⟨by decide,by decide⟩,_,_,rfl,rfl,_,_,rfl,rfl,_,_,rfl,rfl,.inr ⟨by decide,by decide⟩,_,_,rfl,rfl,p2,?_⟩;generalize(x % 2147483647+31*k+17)*48271=A1;have a1:=Ab A1 (show(2147483629:Int)≠0 by decide);have a2:=uW A1 p2;generalize A1 % 2147483629=A2 at *
   refine⟨_,rfl,_,rfl,_,_,rfl,rfl,.inl ⟨by lia,by lia⟩,_,rfl,_,_,rfl,rfl,.inl ⟨by decide,by decide⟩,_,_,rfl,rfl,_,rfl,_,_,rfl,rfl,_,_,rfl,rfl,p4,?_⟩;refine⟨_,rfl,_,_,rfl,rfl,⟨by decide,by decide⟩,_,rfl,_,_,rfl,rfl,hm0,?_⟩;exact q _ _ (Ab _ (by lia)) (uW _ hm0) ⟨⟨a,ns,k+1,c,h1,s1,hl,by lia,hc⟩,k1⟩
 ·rintro σ' H' ⟨v5,v6,c',rfl,hc',k',c0,e',kp,hk',hc0⟩;refine⟨_,rfl,_,rfl,_,_,rfl,rfl,zEn hm0 (Int.lt_trans hm1 (by decide)),_,rfl,st,_,_,_,rfl,rfl,e',rfl,?_⟩;refine⟨_,rfl,_,rfl,_,_,rfl,rfl,hm0,?_⟩;exact q _ _ (Ab _ (by lia)) (uW _ hm0) ⟨⟨a,ns,k',c' / m,zH,(hs.keep hst kp).keep e' jX.upd,hl,hk',Int.ediv_nonneg hc' (by lia)⟩,kp.trans jX.upd⟩
def YU (x y:Int):List (List Int):=[[8,0,x,10,0,y,1,0],[4,2,0,x,1,0,2,0,0,y],[5,1,0,2,0,0,x],[7,0,x],[3,2,2,0,0,x,15,0,1,1,0],[6,0],[19],[7,8,1,0,0,y]]
theorem OO {x y:Int}{b:List Int}(h:b∈YU x y):b.length<=20:=by
 have: ∀n∈(YU x y).map List.length,n<=20:=by show ∀n∈[8,10,7,3,11,2,1,6],n<=20;decide
 exact this _ (wP h)
def PB (x y:Int)(H:Hp)(v:V):Prop:= ∃(a:Addr) (b:List Int),v=.ref a/\H a=some (.lst (b.map V.int))/\b∈YU x y
theorem Fh {x y:Int}:Stb (PB x y):=λ_ _ _ g ⟨a,b,e,z,m⟩=>⟨a,b,e,g _ _ z,m⟩
theorem Kl {x y:Int}{σ:St}{H:Hp}{ta:TA}{b:List Int}(h:AJ σ ta (b.map V.int))(m:b∈YU x y):HS (PB x y) σ H (TL ta):=HS.lst h (by rw[zF];exact yO (OO m) (by decide)) λt H' _ e=>⟨t,b,rfl,e,m⟩
theorem AH {H:Hp}{st b:Addr}{xs:List Int}(d:Bc K H st)(h:H b=some (.lst (xs.map V.int))):b≠st:=λz=>by
 obtain⟨a,ns,k,c,e,_⟩:=d;rw[z,e]at h
 match xs,h with
 |[],h=>cases h
 |x::xs,h=>cases h
inductive Jt (K:PySem.W.Frag) (vs:List V) (H:Hp) (Q:VK) (E:XK):Prop
 |mk (st:Addr) (h0:vs=[.ref st]) (h1:Bc K H st) (h2: ∀(l:Addr) (x y:Int) (b:List Int) (H':Hp),Drawn K st H H'->H l=none-> -4<=x->x<=4->1<=y->y<=5->b∈YU x y->H' l=some (.lst (([1,0,1]++b).map V.int))->Q (.ref l) H'):Jt K vs H Q E
theorem Rl (T:Km K mg)(F:wE K "_law_sheet" "_law_sheet" Gp f fd)(Ca:kA P w K mg base 2 "_law_take" ["_law_state","_law_most"] (Ii K)):uE P w K mg base 3 f fd ["_law_state"] (Jt K):=by
 refine F.oN AX λcdv A outer s H vs Q E hr h=>?_;obtain⟨st,rfl,D,q⟩:=h;refine⟨_,(zE (uA 1 AX.nd (xQ CU (cN Ca hr (kO (pv 0) zK)) zK))
   (zE (uA 2 AX.nd (xQ qM zK (cN Ca hr (kO (pv 0) zK))))
   (zE (uA 3 AX.nd (jE (zB (jE (zB zK (zB zK (zB (pv 1) (zB zK (zB zK (zB (pv 2) (zB zK (zB zK yC))))))))) (zB (jE (zB zK (zB zK (zB zK (zB (pv 1) (zB zK (zB zK (zB zK (zB zK (zB zK (zB (pv 2) yC))))))))))) (zB (jE (zB zK (zB zK (zB zK (zB zK (zB zK (zB zK (zB (pv 1) yC)))))))) yC)))))
   (zE (uA 3 AX.nd (xQ AS (pv 3) (jE (zB (jE (zB zK (zB zK (zB (pv 1) yC)))) (zB (jE (zB zK (zB zK (zB zK (zB zK (zB zK (zB (pv 1) (zB zK (zB zK (zB zK (zB zK (zB zK yC)))))))))))) (zB (jE (CQ (.int (.int .nil)))) (zB (jE (kG zK)) (zB (jE (zB zK (zB zK (zB zK (zB zK (zB zK (zB (pv 2) yC))))))) yC))))))))
   (zJ (zV (xQ AS (jE (CQ (.int (.int (.int .nil))))) (Am kQ (pv 3) (cN Ca hr (kO (pv 0) zK)))))))))),?_⟩
 try dsimp only[Ah,Ai]
 refine⟨_,rfl,st,9,rfl,by decide,by decide,D,λx H1 x0 x1 D1=>⟨_,_,rfl,rfl,?_⟩⟩;refine⟨_,rfl,st,5,rfl,by decide,by decide,D1.draw,λy H2 y0 y1 D2=>⟨_,_,rfl,rfl,?_⟩⟩;have D12:=D1.trans D2;refine UU.go (P:=PB (x-4) (1+y)) Fh (wH.cons Fh (Kl (b:=[8,0,x-4,10,0,1+y,1,0]) (.cons .c (.cons .c (.cons (.v rfl) (.cons .c (.cons .c (.cons (.v rfl) (.cons .c (.cons .c AJ.nil)))))))) (.head _)) (wH.cons Fh (Kl (b:=[4,2,0,x-4,1,0,2,0,0,1+y]) (.cons .c (.cons .c (.cons .c (.cons (.v rfl) (.cons .c (.cons .c (.cons .c (.cons .c (.cons .c (.cons (.v rfl) AJ.nil)))))))))) (.tail _ (.head _))) (wH.cons Fh (Kl (b:=[5,1,0,2,0,0,x-4]) (.cons .c (.cons .c (.cons .c (.cons .c (.cons .c (.cons .c (.cons (.v rfl) AJ.nil))))))) (.tail _ (.tail _ (.head _)))) wH.nil))) (show 3<=1000 by decide) λo1 G1 s1 _ L1=>?_;refine UU.goC (P:=PB (x-4) (1+y)) Fh rfl L1 (wH.cons Fh (Kl (b:=[7,0,x-4]) (.cons .c (.cons .c (.cons (.v rfl) AJ.nil))) (.tail _ (.tail _ (.tail _ (.head _))))) (wH.cons Fh (Kl (b:=[3,2,2,0,0,x-4,15,0,1,1,0]) (.cons .c (.cons .c (.cons .c (.cons .c (.cons .c (.cons (.v rfl) (.cons .c (.cons .c (.cons .c (.cons .c (.cons .c AJ.nil))))))))))) (.tail _ (.tail _ (.tail _ (.tail _ (.head _)))))) (wH.cons Fh (Kl (b:=[6,0]) (λ_ _ q=>q) (.tail _ (.tail _ (.tail _ (.tail _ (.tail _ (.head _))))))) (wH.cons Fh (Kl (b:=[19]) (.cons .c AJ.nil) (.tail _ (.tail _ (.tail _ (.tail _ (.tail _ (.tail _ (.head _)))))))) (wH.cons Fh (Kl (b:=[7,8,1,0,0,1+y]) (.cons .c (.cons .c (.cons .c (.cons .c (.cons .c (.cons (.v rfl) AJ.nil)))))) (.tail _ (.tail _ (.tail _ (.tail _ (.tail _ (.tail _ (.tail _ (.head _))))))))) wH.nil))))) (show 8<=1000 by decide) λo3 G2 s2 f3 L2=>?_;have g:yU H2 G2:=s1.trans s2;obtain⟨bs,zo3,pb,lbs⟩:=L2;have lbs:bs.length=8:=lbs;refine⟨sm3,λo4 ho4=>?_⟩;generalize eo4:upd G2 o4 _=G3;have s3:yU G2 G3:=by rw[<-eo4];exact zM ho4 _
 have zo4:G3 o4=some (.lst ([1,0,1].map V.int)):=by rw[<-eo4];exact zH
 have dg:Bc K G3 st:=D2.draw.same (g.trans s3);have n3:o3≠st:=Ne.symm ((D2.draw.same s1).ne f3);refine⟨_,rfl,_,rfl,st,8,rfl,by decide,by decide,dg,λk H3 k0 k1 D3=>?_⟩;obtain⟨n,rfl⟩:=qJ k0;have hn:n<bs.length:=by lia
 obtain⟨a,b,ea,eb,mb⟩:=pb _ (kY hn);have eb:=D3.keep _ _ (AH dg (s3 _ _ eb)) (s3 _ _ eb);have lb:b.length<=20:=OO mb;refine⟨o3,_,_,_,rfl,rfl,kS.of (D3.keep _ _ n3 (s3 _ _ zo3)),qF (by rw[zG hn,ea]),o4,a,_,_,rfl,rfl,D3.keep _ _ (AH dg zo4) zo4,eb,small (by rw[zF,zF];show 3+b.length<=1000;lia),λl hl=>?_⟩;have DD:Drawn K st H H3:=D12.trans ((⟨dg,jX.same (g.trans s3)⟩:Drawn K st H2 G3).trans D3);exact q l (x-4) (1+y) b _ (DD.trans (D3.draw.new hl _)) (DD.free hl) (by lia) (by lia) (by lia) (by lia) mb (by rw[zH,yP])
structure Xw (K:PySem.W.Frag)(mg:Str->Option Value)(CN CT CR CM CC CE:Addr):Prop extends Km K mg where
 n_ValueError:mg "ValueError"=none
 n_repr:mg "repr"=none
 m_NoSheet:mg "NoSheet"=some (.ref CN)
 m_NoText:mg "NoText"=some (.ref CT)
 m_NoRow:mg "NoRow"=some (.ref CR)
 m_NoName:mg "NoName"=some (.ref CM)
 m_NoCode:mg "NoCode"=some (.ref CC)
 m_ChainError:mg "ChainError"=some (.ref CE)
 exc:EF K CC
 is:Tw K CC
 mch:Mch K CC CE
 kN:PySem.W.kitOne K (.ref CC) (.ref CN)=some false
 kT:PySem.W.kitOne K (.ref CC) (.ref CT)=some false
 kR:PySem.W.kitOne K (.ref CC) (.ref CR)=some false
 kM:PySem.W.kitOne K (.ref CC) (.ref CM)=some false
 kC:PySem.W.kitOne K (.ref CC) (.ref CC)=some true
 kV:PySem.W.kitOne K (.ref CC) (.type "ValueError")=some true
 sexc:EF K CN
 sis:Tw K CN
 smch:Mch K CN CE
 sN:PySem.W.kitOne K (.ref CN) (.ref CN)=some true
 sT:PySem.W.kitOne K (.ref CN) (.ref CT)=some false
 sR:PySem.W.kitOne K (.ref CN) (.ref CR)=some false
 sM:PySem.W.kitOne K (.ref CN) (.ref CM)=some false
 sC:PySem.W.kitOne K (.ref CN) (.ref CC)=some false
 sV:PySem.W.kitOne K (.ref CN) (.type "ValueError")=some true
 xplace:vG K CN "place"
 xword:vG K CN "word"
variable {CT CR CC CE:Addr}
inductive NR (CN CC:Addr) (vs:List V) (H:Hp) (Q:VK) (E:XK):Prop
 |mk (x:_) (h0:vs=[.ref x]) (h1:((∃(d:Addr) (p:Nat) (wd:Str),H x=some (HM x CN (some d))/\H d=some (Mg d [("place",.int p),("word",.str wd)])/\ ∀t H',yU H H'->H' t=some (.tup [.str "sheet",.int (p:Nat),.str wd])->Q (.ref t) H')\/(H x=some (HM x CC none)/\ ∀H',yU H H'->Q (.str "code") H'))):NR CN CC vs H Q E
theorem Ws (T:Xw K mg CN CT CR CM CC CE)(F:wE K "_law_class" "_law_class" Gq f fd):uE P w K mg base 1 f fd ["_law_e"] (NR CN CC):=by
 refine F.oN HZ λcdv A outer s H vs Q E hr h=>?_;obtain⟨x,rfl,h⟩:=h;refine⟨_,(zE (uA 1 HZ.nd (jE (zB (yS FQ rfl T.n_isinstance jN (kO (pv 0) (HE rfl T.m_NoSheet))) (zB (yS FQ rfl T.n_isinstance jN (kO (pv 0) (HE rfl T.m_NoCode))) (zB (yS FQ rfl T.n_isinstance jN (kO (pv 0) (HE rfl T.m_NoName))) (zB (yS FQ rfl T.n_isinstance jN (kO (pv 0) (HE rfl T.m_NoRow))) yC))))))
   (zE (jF (Al zY yH yF kP (pv 1) (kG (yS FQ rfl T.n_isinstance jN (kO (pv 0) (HE rfl T.m_NoText))))))
   (zE (xS (PW.pt (vO (vH Ia (Al zY PySem.F.slot_list_count PySem.F.type_list_count Us (pv 1) (kG qG)) zK) (qT (wK (qW (yS FQ rfl T.n_isinstance jN (kO (pv 0) (Bk (v:=.ty "ValueError") rfl T.n_ValueError MA rfl)))))))) (zJ (zV Bu)) yI)
   (zE (xS (qW (Am kQ (pv 1) zK)) (zJ (zV (xR (zB Bu (zB (IY K rfl (pv 0)) (zB (IY K rfl (pv 0)) yC)))))) yI)
   (zJ (zV (Am kQ (jE (CQ (.str (.str (.str (.str (.str .nil))))))) (Al zY PySem.F.slot_list_index PySem.F.type_list_index Ur (pv 1) (kG qG))))))))),?_⟩
 try dsimp only[Ah,Ai]
 obtain⟨C,b,ea,kN,kC,kM,kR,kT,kV,h1,h2⟩: ∃(C:Addr) (b:Bool),(∀{H1:Hp},yU H H1->Tz K H1 x C)/\PySem.W.kitOne K (.ref C) (.ref CN)=some b/\PySem.W.kitOne K (.ref C) (.ref CC)=some (!b)/\PySem.W.kitOne K (.ref C) (.ref CM)=some false/\PySem.W.kitOne K (.ref C) (.ref CR)=some false/\PySem.W.kitOne K (.ref C) (.ref CT)=some false/\PySem.W.kitOne K (.ref C) (.type "ValueError")=some true/\(b=true-> ∃(d:Addr) (p:Nat) (wd:Str),C=CN/\H x=some (HM x CN (some d))/\H d=some (Mg d [("place",.int p),("word",.str wd)])/\ ∀t H',yU H H'->H' t=some (.tup [.str "sheet",.int (p:Nat),.str wd])->Q (.ref t) H')/\(b=false-> ∀H',yU H H'->Q (.str "code") H'):=by
  rcases h with⟨d,p,wd,ex,ed,q⟩|⟨ex,q⟩
  ·exact⟨CN,true,λg=>⟨some d,g _ _ ex,λd' e=>(by cases e;exact⟨_,g _ _ ed⟩),T.sexc,T.sis⟩,T.sN,T.sC,T.sM,T.sR,T.sT,T.sV,λ_=>⟨d,p,wd,rfl,ex,ed,q⟩,λe=>(nomatch e)⟩
  ·exact⟨CC,false,λg=>⟨none,g _ _ ex,λd e=>(nomatch e),T.exc,T.is⟩,T.kN,T.kC,T.kM,T.kR,T.kT,T.kV,λe=>(nomatch e),λ_=>q⟩
 have e0:=ea λ_ _ z=>z;refine⟨_,rfl,x,C,b,e0,.inr (.inl ⟨_,rfl,kN⟩),_,rfl,x,C,!b,e0,.inr (.inl ⟨_,rfl,kC⟩),_,rfl,x,C,false,e0,.inr (.inl ⟨_,rfl,kM⟩),_,rfl,x,C,false,e0,.inr (.inl ⟨_,rfl,kR⟩),sm4,λl hl=>?_⟩;have s1:=zM hl (.lst [.bl b,.bl !b,.bl false,.bl false]);generalize e1:upd H l _=H1 at s1;have z1:H1 l=some (.lst [.bl b,.bl !b,.bl false,.bl false]):=by rw[<-e1];exact zH
 refine⟨_,rfl,.inl ⟨rfl,_,kS.of z1⟩,_,rfl,x,C,false,ea s1,.inr (.inl ⟨_,rfl,kT⟩),l,_,_,rfl,rfl,z1,Ep (show 4<=1000 by decide),?_⟩;have s2:yU H (upd H1 l (.lst ([.bl b,.bl !b,.bl false,.bl false]++[.bl false]))):=s1.fresh hl;generalize e2:upd H1 l _=H2 at s2;have z2:H2 l=some (.lst [.bl b,.bl !b,.bl false,.bl false,.bl false]):=by rw[<-e2];exact zH
 have n1:(List.countP (λz=>Jp z (.bl true)) [.bl b,.bl !b,.bl false,.bl false,.bl false])=1:=by cases b<;>rfl
 refine⟨_,rfl,.inl ⟨rfl,_,kS.of z2⟩,l,_,_,rfl,rfl,kS.of z2,rfl,rfl,?_⟩;rw[n1];refine⟨rfl,_,rfl,wD ⟨_,rfl,x,C,true,ea s2,.inl ⟨_,rfl,kV⟩,_,rfl,wD ?_⟩⟩;refine⟨_,rfl,l,_,_,_,rfl,rfl,kS.of z2,rfl,_,rfl,?_⟩;cases b with
 |true=>
  obtain⟨d,p,wd,rfl,ex,ed,q⟩:=h1 rfl;refine qO ?_;refine⟨_,rfl,x,C,d,_,_,rfl,s2 _ _ ex,s2 _ _ ed,T.sexc,T.xplace,rfl,_,rfl,x,C,d,_,_,rfl,s2 _ _ ex,s2 _ _ ed,T.sexc,T.xword,rfl,sm3,λt ht=>?_⟩;exact q t _ (s2.trans (zM ht _)) zH
 |false=>
  refine wD ?_;refine⟨sm5,λk hk=>?_⟩;have s3:=zM hk (.lst [.str "sheet",.str "code",.str "other",.str "other",.str "other"]);refine⟨_,rfl,.inl ⟨rfl,_,kS.of (s3 _ _ z2)⟩,l,_,_,1,rfl,rfl,kS.of (s3 _ _ z2),rfl,rfl,⟨⟨_,rfl,rfl⟩,λm z hm e=>by
   have:m=0:=by lia
   subst this;cases e;rfl⟩,k,_,_,_,rfl,rfl,kS.of zH,rfl,h2 rfl _ (s2.trans s3)⟩
inductive GK (K:PySem.W.Frag) (vs:List V) (H:Hp) (Q:VK) (E:XK):Prop
 |mk (way:Int) (a:Addr) (ns:List Int) (v yv:V) (h0:vs=[.int way,.ref a,v,yv]) (h1:H a=some (.lst (ns.map V.int))) (h2:ns.length<=1000000) (h3:((∃(p:Nat) (wd:Str),jL ns=.error (p,wd)/\ ∀t H',yU H H'->H' t=some (.tup [.str "sheet",.int (p:Nat),.str wd])->Q (.ref t) H')\/(way=0/\ ∃(r:wC×List Nd) (o:Option (List V)),jL ns=.ok r/\Ba K H v o/\ ¬Ib o/\ ∀H',yU H H'->Q (.str "code") H'))):GK K vs H Q E
theorem Ow (T:Xw K mg CN CT CR CM CC CE)(F:wE K "_law_refused" "_law_refused" Ez f fd)(Ca2:kA P w K mg base 19 "lets_by" ["sheet","code","paper"] (Kz K CN CC))(Cc8:kA P w K mg base 23 "made" ["sheet"] (Jx CN))(Cz:kA P w K mg base 23 "made_paper" ["sheet"] (Jx CN))(Cc0:kA P w K mg base 1 "_law_class" ["_law_e"] (NR CN CC)):uE P w K mg base 24 f fd ["_law_way","_law_sheet_here","_law_code","_law_paper"] (GK K):=by
 refine F.okN Bh (λvs H Q E h=>?_) (λcdv A outer s H vs Q E hr h=>?_)
 ·obtain⟨way,a,ns,v,yv,rfl,_⟩:=h;rfl
 obtain⟨way,a,ns,v,yv,rfl,ha,hn,h⟩:=h;refine⟨_,(zE (uA 4 Bh.nd qQ)
   (zE (Ya (i:=5) Bh.nd rfl rfl rfl T.m_ChainError (λ_ _=>(zJ (xS (vH kW (pv 0) zK) (zJ (jF (Lv Ca2 hr rfl (zB (pv 1) (zB (pv 2) (zB (pv 3) yC)))))) (zJ (xS (vH kW (pv 0) zK) (zJ (jF (Lv Cc8 hr rfl (kG (pv 1))))) (zJ (jF (Lv Cz hr rfl (kG (pv 1)))))))))) (λ_=>(zJ (uA 4 Bh.nd (pv 5)))))
   (zJ (zV (cN Cc0 hr (kG (pv 4))))))),?_⟩
 try dsimp only[Ah,Ai]
 try dsimp only[BE,List.set]
 rcases h with⟨p,wd,ef,q⟩|⟨rfl,r,o,ef,th,nc,q⟩
 ·refine⟨_,rfl,rfl,_,rfl,kH (λc=>?_) (λc=>⟨_,rfl,rfl,_,rfl,kH (λc1=>?_) (λc1=>?_)⟩)⟩
  ·refine⟨_,rfl,_,rfl,_,rfl,a,v,yv,ns,rfl,ha,hn,.inl ⟨p,wd,ef,λd H1 g ed=>⟨CN,rfl,T.smch,λx ex=>?_⟩⟩⟩;exact⟨_,rfl,_,rfl,x,rfl,.inl ⟨d,p,wd,ex,ed,λt H' g' et=>q t H' (g.trans g') et⟩⟩
  ·refine⟨_,rfl,a,ns,p,wd,rfl,ha,ef,λd H1 g ed=>⟨CN,rfl,T.smch,λx ex=>?_⟩⟩;exact⟨_,rfl,_,rfl,x,rfl,.inl ⟨d,p,wd,ex,ed,λt H' g' et=>q t H' (g.trans g') et⟩⟩
  ·refine⟨_,rfl,a,ns,p,wd,rfl,ha,ef,λd H1 g ed=>⟨CN,rfl,T.smch,λx ex=>?_⟩⟩;exact⟨_,rfl,_,rfl,x,rfl,.inl ⟨d,p,wd,ex,ed,λt H' g' et=>q t H' (g.trans g') et⟩⟩
 ·refine⟨_,rfl,rfl,_,rfl,qO ?_⟩;refine⟨_,rfl,_,rfl,_,rfl,a,v,yv,ns,rfl,ha,hn,.inr ⟨r,ef,.inl ⟨o,th,nc,λH1 g=>⟨CC,rfl,T.mch,λx ex=>?_⟩⟩⟩⟩;exact⟨_,rfl,_,rfl,x,rfl,.inr ⟨ex,λH2 g2=>q H2 (g.trans g2)⟩⟩
inductive KO (K:PySem.W.Frag) (vs:List V) (H:Hp) (Q:VK) (E:XK):Prop
 |mk (st pa:Addr) (as:List Addr) (ls:EJ) (h0:vs=[.ref st,.ref pa]) (h1:Bc K H st) (h2:H pa=some (.lst (as.map V.ref))) (h3:Paired (DO H) as ls) (h4:pa≠st) (h5:as.length<=60) (h6: ∀(l:Addr) (as':List Addr) (ls':EJ) (H':Hp),Drawn K st H H'->H l=none->H' l=some (.lst (as'.map V.ref))->Paired (DO H') as' ls'->ls'.Perm ls->Q (.ref l) H'):KO K vs H Q E
theorem Ih {H:Hp}{st a:Addr}{l:Int×Int×Int}(d:Bc K H st)(h:DO H a l):a≠st:=λz=>by
 obtain⟨_,_,_,_,e,_⟩:=d;have h:H a=some (.tup [.int l.1,.int l.2.1,.int l.2.2]):=h;rw[z,e]at h;cases h
theorem Ue (T:Km K mg)(F:wE K "_law_turned" "_law_turned" Ff f fd)(Ca:kA P w K mg base 2 "_law_take" ["_law_state","_law_most"] (Ii K)):uE P w K mg base 3 f fd ["_law_state","_law_paper"] (KO K):=by
 refine F.oN Ev λcdv A outer s H vs Q E hr h=>?_;obtain⟨st,pa,as,ls,rfl,D,hp,tr,np,hl,q⟩:=h;refine⟨_,(zE (uA 2 Ev.nd (jE yC))
   (zE (wL xP rfl (AE (pv 1)) (Ar 3 Ev.nd) (zJ (jF (Al zY PySem.F.slot_list_insert PySem.F.type_list_insert Uq (pv 2) (kO (cN Ca hr (kO (pv 0) (xQ qM (yS yM rfl T.n_len jZ (kG (pv 2))) zK))) (pv 3))))))
   (zJ (zV (pv 2))))),?_⟩
 try dsimp only[Ah,Ai]
 refine⟨sm0,λl hl0=>?_⟩;have D0:=D.new hl0 (.lst []);have nl:l≠st:=Ne.symm (D.ne hl0);refine⟨_,rfl,pa,rfl,⟨_,kS.of (D0.keep _ _ np hp)⟩,Dv (xs:=as.map V.ref) (λi σ' H'=>Drawn K st H H'/\(∃x,σ'=[some (.ref st),some (.ref pa),some (.ref l),x])/\ ∃as':List Addr,H' l=some (.lst (as'.map V.ref))/\as'.Perm (as.take i)) ⟨D0,⟨_,rfl⟩,[],zH,.nil⟩ ?_ ?_ ?_⟩
 ·rintro i σ' H' _ ⟨d,_⟩;exact kS.of (d.keep _ _ np hp)
 ·rintro i x σ' H' hx ⟨d,⟨y,rfl⟩,as',el,pm⟩;rw[yQ]at hx;obtain⟨a,ha,rfl⟩:=Option.map_eq_some_iff.mp hx;have hi:i<as.length:=(List.getElem?_eq_some_iff.mp ha).1;have la:as'.length=i:=by rw[pm.length_eq,yL];lia
  have tk:as.take (i+1)=as.take i++[a]:=by rw[jT,ha]<;>rfl
  dsimp only[BE];refine⟨_,rfl,.inl ⟨rfl,_,kS.of el⟩,_,rfl,_,rfl,l,_,rfl,.inl (kS.of el),_,_,rfl,rfl,?_⟩;rw[zF,la];refine⟨st,_,rfl,by lia,by lia,d.draw,λr H2 r0 r1 D2=>?_⟩;have el2:=D2.keep _ _ nl el;refine⟨_,rfl,l,_,r,_,rfl,rfl,el2,r0,by rw[zF];lia,by rw[zF];lia,?_⟩;have dd:=d.trans D2;refine⟨⟨dd.draw.put el2 nl,dd.keep.fresh hl0⟩,⟨_,rfl⟩,as'.take r.toNat++a::as'.drop r.toNat,?_,?_⟩
  ·rw[zH,yP,xG,Ad,Ae]
  ·rw[tk];refine List.perm_middle.trans (((List.perm_cons a).mpr ?_).trans (EI a _).symm);rw[kJ];exact pm
 ·rintro σ' H' ⟨d,⟨y,rfl⟩,as',el,pm⟩;rw[zF,xZ]at pm;obtain⟨e1,g1⟩:=RI tr;refine⟨_,rfl,q l as' (as'.map (Mx H)) H' d hl0 el ?_ (by rw[e1];exact pm.map _)⟩;have:=RJ (H:=H) (as:=as') λa ha=>g1 a (pm.mem_iff.mp ha);exact Paired.imp (λa l' (h:DO H a l')=>d.keep _ _ (Ih D h) h) this
theorem Tk (ns:List Int)(lo hi:Option Int): ∃b:List Int,DL (ns.map V.int) lo hi=b.map V.int/\b.length<=ns.length:=by
 unfold DL;refine⟨(ns.drop _).take _,by rw[Ad,Ae],?_⟩;rw[yL,kE];lia
def LM (H:Hp)(vs:List V):Prop:= ∀v∈vs,∃(a:Addr) (b:List Int),v=V.ref a/\H a=some (.lst (b.map V.int))/\b.length<=300
theorem LM.same {H H':Hp}{vs:List V}(h:LM H vs)(g:yU H H'):LM H' vs:=λv hv=>by
 obtain⟨a,b,e,z,l⟩:=h v hv;exact⟨a,b,e,g _ _ z,l⟩
theorem LM.cons {H:Hp}{vs:List V}(h:LM H vs){a:Addr}{b:List Int}(e:H a=some (.lst (b.map V.int)))(l:b.length<=300):LM H (.ref a::vs):=λv hv=>by
 rcases List.mem_cons.mp hv with rfl|hv
 ·exact⟨a,b,rfl,e,l⟩
 ·exact h v hv
theorem LM.nil {H:Hp}:LM H []:=λ_ h=>(nomatch h)
theorem LM.keep {st:Addr}{H H':Hp}{vs:List V}(h:LM H vs)(d:Bc K H st)(D:Drawn K st H H'):LM H' vs:=λv hv=>by
 obtain⟨a,b,e,z,l⟩:=h v hv;exact⟨a,b,e,D.keep _ _ (AH d z) z,l⟩
inductive GM (K:PySem.W.Frag) (vs:List V) (H:Hp) (Q:VK) (E:XK):Prop
 |mk (st a:Addr) (ns:List Int) (h0:vs=[.ref st,.ref a]) (h1:Bc K H st) (h2:H a=some (.lst (ns.map V.int))) (h3:0<ns.length) (h4:ns.length<=100) (h5: ∀(l:Addr) (ms:List Int) (p:Nat) (wd:Str) (H':Hp),Drawn K st H H'->H' l=some (.lst (ms.map V.int))->ms.length<=1000->jL ms=.error (p,wd)->Q (.ref l) H'):GM K vs H Q E
theorem PF (T:Km K mg)(F:wE K "_law_no_sheet" "_law_no_sheet" DH f fd)(Ca:kA P w K mg base 2 "_law_take" ["_law_state","_law_most"] (Ii K))(Cb8:kA P w K mg base 18 "wrong" ["numbers"] Kx):uE P w K mg base 19 f fd ["_law_state","_law_sheet_here"] (GM K):=by
 refine F.oN AC λcdv A outer s H vs Q E hr h=>?_;obtain⟨st,a,ns,rfl,D,ha,h0,h1,q⟩:=h;refine⟨_,(zE (uA 2 AC.nd (cN Ca hr (kO (pv 0) (yS yM rfl T.n_len jZ (kG (pv 1))))))
   (zE (uA 3 AC.nd (jE (zB (vP Di (pv 1) Bj (uD (pv 2))) (zB (xQ AS (pv 1) (jE (kG zK))) (zB (xQ AS (xQ AS (vP Di (pv 1) Bj (uD (pv 2))) (jE (kG (xQ qM zK (cN Ca hr (kO (pv 0) zK)))))) (vP Di (pv 1) (uD (xQ qM (pv 2) zK)) Bj)) (zB (xQ AS (jE (kG (MN Js zK))) (pv 1)) (zB (jE yC) yC)))))))
   (zE (uA 4 AC.nd (Am kQ (pv 3) (cN Ca hr (kO (pv 0) zK))))
   (zE (xS (vH Hj (cN Cb8 hr (kG (pv 4))) qQ) (zJ (zV (jE yC))) yI)
   (zJ (zV (pv 4))))))),?_⟩
 try dsimp only[Ah,Ai]
 have na:=AH D ha;refine⟨_,rfl,_,rfl,a,_,rfl,.inl (kS.of ha),?_⟩;rw[zF];refine⟨st,_,rfl,by lia,by lia,D,λat_ H1 a0 a1 D1=>?_⟩;have ha1:=D1.keep _ _ na ha;obtain⟨b1,eb1,lb1⟩:=Tk ns none (some at_);obtain⟨b2,eb2,lb2⟩:=Tk ns (some (at_+1)) none;refine⟨_,rfl,_,rfl,_,rfl,a,_,rfl,kS.of ha1,λp1 h1'=>?_⟩;generalize x1:upd H1 p1 _=G1;have s1:yU H1 G1:=by rw[<-x1];exact zM h1' _
 have e1:G1 p1=some (.lst ((b1).map V.int)):=by rw[<-x1,zH];rw[eb1]
 refine⟨_,rfl,sm1,λp2 h2=>?_⟩;generalize x2:upd G1 p2 _=G2;have s2:yU G1 G2:=by rw[<-x2];exact zM h2 _
 have e2:G2 p2=some (.lst (([0]).map V.int)):=by rw[<-x2];exact zH
 refine⟨a,p2,_,_,rfl,rfl,s2 _ _ (s1 _ _ ha1),e2,small (by rw[zF];show ns.length+1<=1000;lia),λp3 h3=>?_⟩;generalize x3:upd G2 p3 _=G3;have s3:yU G2 G3:=by rw[<-x3];exact zM h3 _
 have e3:G3 p3=some (.lst ((ns++[0]).map V.int)):=by rw[<-x3,zH];rw[yP]
 have ha3:=s3 _ _ (s2 _ _ (s1 _ _ ha1));refine⟨_,rfl,_,rfl,_,rfl,a,_,rfl,kS.of ha3,λp4 h4=>?_⟩;generalize x4:upd G3 p4 _=G4;have s4:yU G3 G4:=by rw[<-x4];exact zM h4 _
 have e4:G4 p4=some (.lst ((b1).map V.int)):=by rw[<-x4,zH];rw[eb1]
 have g4:yU H1 G4:=((s1.trans s2).trans s3).trans s4;have d4:Bc K G4 st:=D1.draw.same g4;refine⟨_,rfl,st,90,rfl,by decide,by decide,d4,λr G5 r0 r1 D5=>⟨_,_,rfl,rfl,sm1,λp6 h6=>?_⟩⟩;have k5: ∀{b:Addr} {xs:List Int},G4 b=some (.lst (xs.map V.int))->G5 b=some (.lst (xs.map V.int)):=λz=>D5.keep _ _ (AH d4 z) z;generalize x6:upd G5 p6 _=G6;have s6:yU G5 G6:=by rw[<-x6];exact zM h6 _
 have e6:G6 p6=some (.lst (([20+r]).map V.int)):=by rw[<-x6];exact zH
 refine⟨p4,p6,_,_,rfl,rfl,s6 _ _ (k5 e4),e6,small (by rw[zF];show b1.length+1<=1000;lia),λp7 h7=>?_⟩;generalize x7:upd G6 p7 _=G7;have s7:yU G6 G7:=by rw[<-x7];exact zM h7 _
 have e7:G7 p7=some (.lst ((b1++[20+r]).map V.int)):=by rw[<-x7,zH];rw[yP]
 refine⟨_,rfl,_,rfl,_,_,rfl,rfl,_,rfl,a,_,rfl,kS.of (s7 _ _ (s6 _ _ (k5 (s4 _ _ ha3)))),λp8 h8=>?_⟩;generalize x8:upd G7 p8 _=G8;have s8:yU G7 G8:=by rw[<-x8];exact zM h8 _
 have e8:G8 p8=some (.lst ((b2).map V.int)):=by rw[<-x8,zH];rw[eb2]
 refine⟨p7,p8,_,_,rfl,rfl,s8 _ _ e7,e8,small (by rw[zF,zF,zD];show b1.length+1+b2.length<=1000;lia),λp9 h9=>?_⟩;generalize x9:upd G8 p9 _=G9;have s9:yU G8 G9:=by rw[<-x9];exact zM h9 _
 have e9:G9 p9=some (.lst ((b1++[20+r]++b2).map V.int)):=by rw[<-x9,zH];simp only[yP]
 refine⟨_,rfl,sm1,λp10 h10=>?_⟩;generalize x10:upd G9 p10 _=G10;have s10:yU G9 G10:=by rw[<-x10];exact zM h10 _
 have e10:G10 p10=some (.lst (([-1]).map V.int)):=by rw[<-x10];exact zH
 have ha10:=s10 _ _ (s9 _ _ (s8 _ _ (s7 _ _ (s6 _ _ (k5 (s4 _ _ ha3))))));refine⟨_,rfl,p10,a,_,_,rfl,rfl,e10,ha10,small (by rw[zF,zF];show 1+ns.length<=1000;lia),λp11 h11=>?_⟩;generalize x11:upd G10 p11 _=G11;have s11:yU G10 G11:=by rw[<-x11];exact zM h11 _
 have e11:G11 p11=some (.lst (([-1]++ns).map V.int)):=by rw[<-x11,zH];rw[yP]
 refine⟨sm0,λp12 h12=>?_⟩;generalize x12:upd G11 p12 _=G12;have s12:yU G11 G12:=by rw[<-x12];exact zM h12 _
 have e12:G12 p12=some (.lst (([]).map V.int)):=by rw[<-x12];exact zH
 have g5:yU G5 G12:=(((((s6.trans s7).trans s8).trans s9).trans s10).trans s11).trans s12;have L:LM G12 [.ref p1,.ref p3,.ref p9,.ref p11,.ref p12]:=LM.cons (LM.cons (LM.cons (LM.cons (LM.cons LM.nil e12 (xH _)) (s12 _ _ e11) (by rw[zD];show 1+ns.length<=300;lia)) (s12 _ _ (s11 _ _ (s10 _ _ e9))) (by rw[zD,zD];show b1.length+1+b2.length<=300;lia)) (g5 _ _ (k5 (s4 _ _ e3))) (by rw[zD];show ns.length+1<=300;lia)) (g5 _ _ (k5 (s4 _ _ (s3 _ _ (s2 _ _ e1))))) (by lia);refine⟨sm5,λo h13=>?_⟩;generalize x13:upd G12 o _=G13;have XT:yU G12 G13:=by rw[<-x13];exact zM h13 _
 have e13:G13 o=some (.lst [.ref p1,.ref p3,.ref p9,.ref p11,.ref p12]):=by rw[<-x13];exact zH
 have D13:Drawn K st H G13:=(D1.trans ⟨d4,jX.same g4⟩).trans (D5.trans ⟨D5.draw.same (g5.trans XT),jX.same (g5.trans XT)⟩);have no:o≠st:=Ne.symm ((D5.draw.same g5).ne h13);refine⟨_,rfl,_,rfl,st,5,rfl,by decide,by decide,D13.draw,λk H3 k0 k1 D3=>?_⟩;have L3:=(L.same XT).keep D13.draw D3;obtain⟨n,rfl⟩:=qJ k0;have hn:n<[V.ref p1,.ref p3,.ref p9,.ref p11,.ref p12].length:=by show n<5;lia
 obtain⟨l,ms,el,hl,lm⟩:=L3 _ (kY hn);have D:=D13.trans D3;refine⟨o,_,_,_,rfl,rfl,kS.of (D3.keep _ _ no e13),qF (by rw[zG hn,el]),?_⟩;refine⟨_,rfl,l,ms,rfl,hl,⟨λr er H4 g4'=>?_,λp wd er t H4 g4' et=>?_⟩⟩
 ·refine⟨rfl,_,rfl,qO ⟨sm0,λz hz=>?_⟩⟩;exact q z [] 0 "end" _ (D.trans ((⟨D.draw.same g4',jX.same g4'⟩:Drawn K st H3 H4).trans ((D.draw.same g4').new hz _))) zH (xH _) rfl
 ·refine⟨rfl,_,rfl,wD ⟨_,rfl,?_⟩⟩;exact q l ms p wd _ (D.trans ⟨D.draw.same g4',jX.same g4'⟩) (g4' _ _ hl) (by lia) er
end
section
variable {P:Program}{w:World}{K:PySem.W.Frag}{mg:Str->Option Value}{base:Heap}{f:Addr}{fd:FuncData}{aP CL CN CM CK:Addr}
variable {CT CR CC CE:Addr}
def Zf (m:Int)(l:Int×Int×Int)(x:Option (Int×Int×Int)):Prop:= ∀q,x=some q->q.1≠l.1\/q.2.1<0\/m<=q.2.1\/m<q.2.2\/q.2.2<0
def ZM (ls:EJ)(m:Int)(o:Option Sc):Prop:=o=none\/ ∃(k:Nat) (l:Int×Int×Int) (x:Option (Int×Int×Int)),ls[k]? =some l/\Zf m l x/\(o=some (ls.map some++[x])\/o=some ((ls.take k).map some++[x]++(ls.drop (k+1)).map some))
inductive BV (H:Hp) (m:Int) (l:Int×Int×Int) (ak:Addr):V->Prop where
 |non:BV H m l ak .non
 |int (i:Int) (h:i.natAbs<10^12):BV H m l ak (.int i)
 |lst {a:Addr} {xs:List V} (e:H a=some (.lst xs)) (s: ∀x∈xs,HU x) (n:xs.length<=10):BV H m l ak (.ref a)
 |len {a:Addr} {xs:List V} (e:H a=some (.tup xs)) (s: ∀x∈xs,HU x) (n:xs.length<=10) (n3:xs.length≠3):BV H m l ak (.ref a)
 |odd {a:Addr} {xs:List V} (e:H a=some (.tup xs)) (s: ∀x∈xs,HU x) (n3:xs.length=3) (o:xs.all HQ=false):BV H m l ak (.ref a)
 |yes {a:Addr} (q:Int×Int×Int) (e:H a=some (.tup [.int q.1,.int q.2.1,.int q.2.2])) (s: ∀x∈[V.int q.1,.int q.2.1,.int q.2.2],HU x) (b:q.1≠l.1\/q.2.1<0\/m<=q.2.1\/m<q.2.2\/q.2.2<0):BV H m l ak (.ref a)
 |own (e:H ak=some (.tup [.int l.1,.int l.2.1,.int l.2.2])) (s: ∀x∈[V.int l.1,.int l.2.1,.int l.2.2],HU x):BV H m l ak (.ref ak)
theorem zDi {K:PySem.W.Frag}{H:Hp}{x:V}(h:HU x):Kn K H x:=by
 cases h with
 |non=>exact⟨_,by decide,.non⟩
 |bl b=>exact⟨_,by decide,.bl b⟩
 |int i _=>exact⟨_,by decide,.int i⟩
 |s0=>exact⟨_,by decide,.str _⟩
 |s1=>exact⟨_,by decide,.str _⟩
theorem BV.rp {H:Hp}{m:Int}{l:Int×Int×Int}{ak:Addr}{v:V}(h:BV H m l ak v):Rp H v:=by
 cases h with
 |non=>exact .non
 |int i h=>exact .int i h
 |lst e s n=>exact .lst e s n
 |len e s n _=>exact .tup e s n
 |odd e s n _=>exact .tup e s (by lia)
 |yes q e s b=>exact .tup e s (show 3<=10 by decide)
 |own e s=>exact .tup e s (show 3<=10 by decide)
theorem BV.line {K:PySem.W.Frag}{H:Hp}{m:Int}{l:Int×Int×Int}{ak:Addr}{v:V}(h:BV H m l ak v):v=.ref ak\/ ∃x,BH K H v x/\Zf m l x:=by
 have no:Zf m l none:=λq z=>(nomatch z);cases h with
 |non=>exact .inr ⟨none,.no (t:="NoneType") (by decide) rfl .non,no⟩
 |int i h=>exact .inr ⟨none,.no (t:="int") (by decide) rfl (.int i),no⟩
 |lst e s n=>exact .inr ⟨none,.no (t:="list") (by decide) rfl (.lst e),no⟩
 |len e s n n3=>exact .inr ⟨none,.len e n3,no⟩
 |odd e s n o=>exact .inr ⟨none,.odd e n (λx hx=>zDi (s x hx)) o,no⟩
 |yes q e s b=>exact .inr ⟨some q,.yes e,λq' z=>by cases z;exact b⟩
 |own e s=>exact .inl rfl
theorem BV.move {H H':Hp}{m:Int}{l:Int×Int×Int}{ak:Addr}{v:V}(h:BV H m l ak v)(g1: ∀a xs,H a=some (.tup xs)->H' a=some (.tup xs))(g2: ∀a xs,(∀x∈xs,HU x)->H a=some (.lst xs)->H' a=some (.lst xs)):BV H' m l ak v:=by
 cases h with
 |non=>exact .non
 |int i h=>exact .int i h
 |lst e s n=>exact .lst (g2 _ _ s e) s n
 |len e s n n3=>exact .len (g1 _ _ e) s n n3
 |odd e s n o=>exact .odd (g1 _ _ e) s n o
 |yes q e s b=>exact .yes q (g1 _ _ e) s b
 |own e s=>exact .own (g1 _ _ e) s
theorem BV.same {m:Int}{l:Int×Int×Int}{ak:Addr}{H H':Hp}{v:V}(h:BV H m l ak v)(g:yU H H'):BV H' m l ak v:=h.move (λ_ _ e=>g _ _ e) λ_ _ _ e=>g _ _ e
theorem FM {H:Hp}{st b:Addr}{xs:List V}(d:Bc K H st)(h:H b=some (.tup xs)):b≠st:=λz=>by
 obtain⟨a,ns,k,c,e,_⟩:=d;rw[z,e]at h;cases h
theorem YN {H:Hp}{st b:Addr}{xs:List V}(d:Bc K H st)(s: ∀x∈xs,HU x)(h:H b=some (.lst xs)):b≠st:=λz=>by
 obtain⟨a,ns,k,c,e,_⟩:=d;rw[z,e]at h;cases h;have:=s (.ref a) (yT ..);cases this
theorem BV.keep {st:Addr}{H H':Hp}{m:Int}{l:Int×Int×Int}{ak:Addr}{v:V}(h:BV H m l ak v)(d:Bc K H st)(D:Drawn K st H H'):BV H' m l ak v:=
 h.move (λ_ _ e=>D.keep _ _ (FM d e) e) λ_ _ s e=>D.keep _ _ (YN d s e) e
theorem vW: ∀x∈([]:List V),HU x:=λ_ h=>(nomatch h)
theorem yZ {a:V}{xs:List V}(h:HU a)(t: ∀x∈xs,HU x): ∀x∈a::xs,HU x:=λx hx=>by
 rcases List.mem_cons.mp hx with rfl|hx
 ·exact h
 ·exact t x hx
theorem NF {st:Addr}{H H':Hp}{v:V}{t:Value}(d:Bc K H st)(D:Drawn K st H H')(h:CZ K H v t):CZ K H' v t:=by
 obtain⟨_,_,_,_,e0,_⟩:=d;obtain⟨_,_,_,_,e1,_⟩:=D.draw;have no: ∀{a:Addr} {o:HO},H a=some o->(∀xs,o≠ .lst xs)->H' a=some o:=fun{a o} e n=>D.keep _ _ (λz=>by rw[z,e0]at e;cases e;exact n _ rfl) e;cases h with
 |non=>exact .non
 |bl x=>exact .bl x
 |int i=>exact .int i
 |str x=>exact .str x
 |flt x=>exact .flt x
 |@lst a xs e=>
  by_cases z:a=st
  ·rw[z];exact .lst e1
  ·exact .lst (D.keep _ _ z e)
 |frz e=>exact .frz (no e λ_ z=>by cases z)
 |tup e=>exact .tup (no e λ_ z=>by cases z)
 |dK e=>exact .dK (no e λ_ z=>by cases z)
 |dT e=>exact .dT (no e λ_ z=>by cases z)
 |ins e cl ha hn htk hm=>exact .ins (no e λ_ z=>by cases z) cl ha hn htk hm
theorem JP {st:Addr}{H H':Hp}{v:V}{x:Option (Int×Int×Int)}(d:Bc K H st)(D:Drawn K st H H')(h:BH K H v x):BH K H' v x:=by
 cases h with
 |no m n ty=>exact .no m n (NF d D ty)
 |len h n=>exact .len (D.keep _ _ (FM d h) h) n
 |odd h n k o=>
  refine .odd (D.keep _ _ (FM d h) h) n (λx hx=>?_) o;obtain⟨t,m,ty⟩:=k x hx;exact⟨t,m,NF d D ty⟩
 |yes h=>exact .yes (D.keep _ _ (FM d h) h)
theorem EY {α β:Type}{F:α->β->Prop}: ∀(n:Nat) {xs:List α} {ys:List β},Paired F xs ys->Paired F (xs.take n) (ys.take n)
 |0,_,_,_=>.nil
 |_+1,_,_,.nil=>.nil
 |n+1,_,_,.cons h p=>.cons h (EY n p)
theorem EZ {α β:Type}{F:α->β->Prop}: ∀(n:Nat) {xs:List α} {ys:List β},Paired F xs ys->Paired F (xs.drop n) (ys.drop n)
 |0,_,_,p=>p
 |_+1,_,_,.nil=>.nil
 |n+1,_,_,.cons _ p=>EZ n p
theorem FH {H:Hp}: ∀{as:List Addr} {ls:EJ},Paired (DO H) as ls->Paired (BH K H) (as.map V.ref) (ls.map some)
 |_,_,.nil=>.nil
 |_,_,.cons h p=>.cons (.yes h) (FH p)
inductive Jy (K:PySem.W.Frag) (vs:List V) (H:Hp) (Q:VK) (E:XK):Prop
 |mk (st pa:Addr) (as:List Addr) (ls:EJ) (m:Int) (h0:vs=[.ref st,.ref pa,.int m]) (h1:Bc K H st) (h2:H pa=some (.lst (as.map V.ref))) (h3:Paired (DO H) as ls) (h4:pa≠st) (h5:0<as.length) (h6:as.length<=60) (h7:0<=m) (h8:m<=1000) (h9:(ls.map (·.1)).Nodup) (h10:(∀l∈ls,3<=l.1/\l.1<=1000/\0<=l.2.1/\l.2.1<=1000/\0<=l.2.2/\l.2.2<=1000)) (h11: ∀(v:V) (o:Option Sc) (H':Hp),Drawn K st H H'->OS K H' v o->ZM ls m o->Q v H'):Jy K vs H Q E
theorem UP {as:List Addr}{ls:EJ}{H:Hp}(tr:Paired (DO H) as ls)(nd:(ls.map (·.1)).Nodup){n:Nat}{ak:Addr}{l:Int×Int×Int}(ha:as[n]? =some ak)(hl:ls[n]? =some l): ∃(a:Addr) (q:Int×Int×Int),Jq (as.map V.ref) ((n:Int)-1)=some (.ref a)/\DO H a q/\q∈ls/\(a=ak\/q.1≠l.1):=by
 have hn:n<as.length:=(List.getElem?_eq_some_iff.mp ha).1;have ln:=Paired.len tr;have go: ∀i,i<as.length->i≠n-> ∃(a:Addr) (q:Int×Int×Int),(as.map V.ref)[i]? =some (.ref a)/\DO H a q/\q∈ls/\(a=ak\/q.1≠l.1):=λi hi ne=>by
  obtain⟨q,hq,t⟩:=Paired.yonder tr (zG hi);refine⟨as[i],q,by rw[yQ,zG hi]<;>rfl,t,xL hq,.inr λz=>ne ?_⟩;have e1:(ls.map (·.1))[i]? =(ls.map (·.1))[n]?:=by rw[yQ,yQ,hq,hl];exact qI some z
  exact(List.getElem?_inj (by rw[zF];lia) nd).mp e1
 cases n with
 |succ i=>
  obtain⟨a,q,e,t⟩:=go i (by lia) (by lia);refine⟨a,q,?_,t⟩;rw[show((i+1:Nat):Int)-1=(i:Int)by lia];exact qF e
 |zero=>
  have last: ∀{v:V},(as.map V.ref)[as.length-1]? =some v->Jq (as.map V.ref) (((0:Nat):Int)-1)=some v:=fun{v} e=>by
   have z:Jq (as.map V.ref) (((0:Nat):Int)-1)=Jq (as.map V.ref) ((as.length-1:Nat):Int):=by
    unfold Jq UZ;rw[zF,zN (by lia),zQ (by lia),zQ (by lia),zQ (by lia)];congr 2;lia
   rw[z];exact qF e
  by_cases c:as.length-1=0
  ·obtain⟨q,hq,t⟩:=Paired.yonder tr ha;exact⟨ak,q,last (by rw[c,yQ,ha]<;>rfl),t,xL hq,.inl rfl⟩
  ·obtain⟨a,q,e,t⟩:=go (as.length-1) (by lia) c;exact⟨a,q,last e,t⟩
theorem PH (T:Xw K mg CN CT CR CM CC CE)(F:wE K "_law_no_paper" "_law_no_paper" DI f fd)(Ca:kA P w K mg base 2 "_law_take" ["_law_state","_law_most"] (Ii K)):uE P w K mg base 3 f fd ["_law_state","_law_paper","_law_many"] (Jy K):=by
 refine F.oN jP λcdv A outer s H vs Q E hr h=>?_;obtain⟨st,pa,as,ls,m,rfl,D,hp,tr,np,l0,l60,m0,m1,nd,sm,q⟩:=h;refine⟨_,(zE (uA 3 jP.nd (cN Ca hr (kO (pv 0) (yS yM rfl T.n_len jZ (kG (pv 1))))))
   (zE (AR (Am kQ (pv 1) (pv 3)) (uJ rfl (yR (Ar 4 jP.nd) (yR (Ar 5 jP.nd) (yR (Ar 6 jP.nd) qP)))))
   (zE (uA 7 jP.nd (jE (zB (xR (kO (pv 4) (pv 5))) (zB (xR (zB (pv 4) (zB (pv 5) (zB (pv 6) (zB zK yC))))) (zB (jE (zB (pv 4) (zB (pv 5) (zB (pv 6) yC)))) (zB (xR (zB (pv 4) (zB qG (zB (pv 6) yC)))) (zB (xR (zB (pv 4) (zB (pv 5) (zB qQ yC)))) (zB qQ yC))))))))
   (zE (uA 7 jP.nd (xQ AS (pv 7) (jE (zB (xR (zB Bu (zB (pv 5) (zB (pv 6) yC)))) (zB (xR (zB (pv 4) (zB (MN Js zK) (zB (pv 6) yC)))) (zB (xR (zB (pv 4) (zB (pv 2) (zB (pv 6) yC)))) (zB (xR (zB (pv 4) (zB (pv 5) (zB (xQ qM (pv 2) zK) yC)))) (zB (xR (zB (pv 4) (zB (pv 5) (zB (MN Js zK) yC)))) yC))))))))
   (zE (uA 7 jP.nd (xQ AS (pv 7) (jE (zB (xR (zB (xQ qM (pv 4) zK) (zB (pv 5) (zB (pv 6) yC)))) (zB (xR (zB (MN Js zK) (zB (pv 5) (zB (pv 6) yC)))) (zB (xR (zB zK (zB (pv 5) (zB (pv 6) yC)))) (zB (xR (zB (pv 4) (zB (pv 5) (zB Bu yC)))) (zB zK (zB (Am kQ (pv 1) (xQ CU (pv 3) zK)) yC)))))))))
   (zE (uA 7 jP.nd (xQ AS (pv 7) (jE (zB (xR (zB (pv 4) (zB (pv 5) (zB qG yC)))) (zB (xR (zB qG (zB (pv 5) (zB (pv 6) yC)))) (zB (xR (zB (pv 4) (zB qG (zB (pv 6) yC)))) (zB (xR (zB (xQ qM (pv 4) zK) (zB (pv 5) (zB (pv 6) yC)))) yC)))))))
   (zE (uA 8 jP.nd (Am kQ (pv 7) (cN Ca hr (kO (pv 0) (yS yM rfl T.n_len jZ (kG (pv 7)))))))
   (zE (Lp (xS (vH kW (yS (Nu hr) rfl T.n_repr Tn (kG (pv 8))) (yS (Nu hr) rfl T.n_repr Tn (kG (Am kQ (pv 1) (pv 3))))) (zJ (uA 8 jP.nd (xR (zB zK (zB (pv 5) (zB (pv 6) yC)))))) yI))
   (zE (xS (vH kW (cN Ca hr (kO (pv 0) zK)) zK) (zJ (zV (Am kQ (jE (zB qQ (zB (HF Fo rfl T.n_tuple FS (kG (pv 1))) (zB IZ (zB Bu (zB zK (zB qG yC))))))) (cN Ca hr (kO (pv 0) zK))))) yI)
   (zE (xS (vH kW (cN Ca hr (kO (pv 0) zK)) zK) (zJ (zV (xQ AS (pv 1) (jE (kG (pv 8)))))) yI)
   (zJ (zV (xQ AS (xQ AS (vP Di (pv 1) Bj (uD (pv 3))) (jE (kG (pv 8)))) (vP Di (pv 1) (uD (xQ qM (pv 3) zK)) Bj)))))))))))))),?_⟩
 try dsimp only[Ah,Ai]
 refine⟨_,rfl,_,rfl,pa,_,rfl,.inl (kS.of hp),?_⟩;rw[zF];refine⟨st,_,rfl,by lia,by lia,D,λk H1 k0 k1 D1=>?_⟩;obtain⟨n,rfl⟩:=qJ k0;have hn:n<as.length:=by lia
 obtain⟨l,hl,tl⟩:=Paired.yonder tr (zG hn);have hak:as[n]? =some as[n]:=zG hn;obtain⟨la,lq,hlq,tlq,mlq,dlq⟩:=UP tr nd hak hl;generalize as[n]=ak at *
 have atk:Jq (as.map V.ref) (n:Int)=some (.ref ak):=qF (by rw[yQ,hak]<;>rfl);have bl:=sm l (xL hl);have bq:=sm lq mlq;have hp1:=D1.keep _ _ np hp;have tl1:H1 ak=some (.tup [.int l.1,.int l.2.1,.int l.2.2]):=D1.keep _ _ (Ih D tl) tl;have tq1:H1 la=some (.tup [.int lq.1,.int lq.2.1,.int lq.2.2]):=D1.keep _ _ (Ih D tlq) tlq;have sP:HU (.int l.1):=.int _ (by lia);have sB:HU (.int l.2.1):=.int _ (by lia);have sE:HU (.int l.2.2):=.int _ (by lia);have blq:BV H1 m l ak (.ref la):=by
  rcases dlq with rfl|z
  ·exact .own tl1 (yZ sP (yZ sB (yZ sE vW)))
  ·exact .yes lq tq1 (yZ (.int _ (by lia)) (yZ (.int _ (by lia)) (yZ (.int _ (by lia)) vW))) (.inl z)
 refine⟨_,rfl,_,rfl,pa,_,_,_,rfl,rfl,kS.of hp1,atk,ak,_,rfl,uS.of tl1,rfl,_,_,rfl,_,_,rfl,_,_,rfl,rfl,?_⟩;have sb:Stb (λH v=>BV H m l ak v):=λ_ _ _ g h=>h.same g;refine UU.go (P:=λH v=>BV H m l ak v) sb (wH.cons sb (HS.tup (vs:=[.int l.1,.int l.2.1]) (.cons (.v rfl) (.cons (.v rfl) AJ.nil)) (show 2<=1000 by decide) λ_ _ _ e=>.len e (yZ sP (yZ sB vW)) (show 2<=10 by decide) (show 2≠3 by decide)) (wH.cons sb (HS.tup (vs:=[.int l.1,.int l.2.1,.int l.2.2,.int 0]) (.cons (.v rfl) (.cons (.v rfl) (.cons (.v rfl) (.cons .c AJ.nil)))) (show 4<=1000 by decide) λ_ _ _ e=>.len e (yZ sP (yZ sB (yZ sE (yZ (HU.int (0) (by lia)) vW)))) (show 4<=10 by decide) (show 4≠3 by decide)) (wH.cons sb (HS.lst (vs:=[.int l.1,.int l.2.1,.int l.2.2]) (.cons (.v rfl) (.cons (.v rfl) (.cons (.v rfl) AJ.nil))) (show 3<=1000 by decide) λ_ _ _ e=>.lst e (yZ sP (yZ sB (yZ sE vW))) (show 3<=10 by decide)) (wH.cons sb (HS.tup (vs:=[.int l.1,.bl true,.int l.2.2]) (.cons (.v rfl) (.cons .c (.cons (.v rfl) AJ.nil))) (show 3<=1000 by decide) λ_ _ _ e=>.odd e (yZ sP (yZ (.bl _) (yZ sE vW))) rfl rfl) (wH.cons sb (HS.tup (vs:=[.int l.1,.int l.2.1,.non]) (.cons (.v rfl) (.cons (.v rfl) (.cons .c AJ.nil))) (show 3<=1000 by decide) λ_ _ _ e=>.odd e (yZ sP (yZ sB (yZ .non vW))) rfl rfl) (wH.cons sb (HS.pure .c λ_ _=>.non) wH.nil)))))) (show 6<=1000 by decide) λo1 G1 s1 _ L1=>?_;refine UU.goC (P:=λH v=>BV H m l ak v) sb rfl L1 (wH.cons sb (HS.tup (vs:=[.str "0",.int l.2.1,.int l.2.2]) (.cons .c (.cons (.v rfl) (.cons (.v rfl) AJ.nil))) (show 3<=1000 by decide) λ_ _ _ e=>.odd e (yZ .s0 (yZ sB (yZ sE vW))) rfl rfl) (wH.cons sb (HS.tup (vs:=[.int l.1,.int (-1),.int l.2.2]) (.cons (.v rfl) (.cons (.neg .c) (.cons (.v rfl) AJ.nil))) (show 3<=1000 by decide) λ_ _ _ e=>.yes (l.1,(-1),l.2.2) e (yZ sP (yZ (HU.int ((-1)) (by lia)) (yZ sE vW))) (by simp only;lia)) (wH.cons sb (HS.tup (vs:=[.int l.1,.int m,.int l.2.2]) (.cons (.v rfl) (.cons (.v rfl) (.cons (.v rfl) AJ.nil))) (show 3<=1000 by decide) λ_ _ _ e=>.yes (l.1,m,l.2.2) e (yZ sP (yZ (HU.int (m) (by lia)) (yZ sE vW))) (by simp only;lia)) (wH.cons sb (HS.tup (vs:=[.int l.1,.int l.2.1,.int (m+1)]) (.cons (.v rfl) (.cons (.v rfl) (.cons (.add (.v rfl) .c) AJ.nil))) (show 3<=1000 by decide) λ_ _ _ e=>.yes (l.1,l.2.1,(m+1)) e (yZ sP (yZ sB (yZ (HU.int ((m+1)) (by lia)) vW))) (by simp only;lia)) (wH.cons sb (HS.tup (vs:=[.int l.1,.int l.2.1,.int (-1)]) (.cons (.v rfl) (.cons (.v rfl) (.cons (.neg .c) AJ.nil))) (show 3<=1000 by decide) λ_ _ _ e=>.yes (l.1,l.2.1,(-1)) e (yZ sP (yZ sB (yZ (HU.int ((-1)) (by lia)) vW))) (by simp only;lia)) wH.nil))))) (show 11<=1000 by decide) λo2 G2 s2 _ L2=>?_;refine UU.goC (P:=λH v=>BV H m l ak v) sb rfl L2 (wH.cons sb (HS.tup (vs:=[.int (l.1+1000),.int l.2.1,.int l.2.2]) (.cons (.add (.v rfl) .c) (.cons (.v rfl) (.cons (.v rfl) AJ.nil))) (show 3<=1000 by decide) λ_ _ _ e=>.yes ((l.1+1000),l.2.1,l.2.2) e (yZ (HU.int ((l.1+1000)) (by lia)) (yZ sB (yZ sE vW))) (by simp only;lia)) (wH.cons sb (HS.tup (vs:=[.int (-1),.int l.2.1,.int l.2.2]) (.cons (.neg .c) (.cons (.v rfl) (.cons (.v rfl) AJ.nil))) (show 3<=1000 by decide) λ_ _ _ e=>.yes ((-1),l.2.1,l.2.2) e (yZ (HU.int ((-1)) (by lia)) (yZ sB (yZ sE vW))) (by simp only;lia)) (wH.cons sb (HS.tup (vs:=[.int 2,.int l.2.1,.int l.2.2]) (.cons .c (.cons (.v rfl) (.cons (.v rfl) AJ.nil))) (show 3<=1000 by decide) λ_ _ _ e=>.yes (2,l.2.1,l.2.2) e (yZ (HU.int (2) (by lia)) (yZ sB (yZ sE vW))) (by simp only;lia)) (wH.cons sb (HS.tup (vs:=[.int l.1,.int l.2.1,.str "1"]) (.cons (.v rfl) (.cons (.v rfl) (.cons .c AJ.nil))) (show 3<=1000 by decide) λ_ _ _ e=>.odd e (yZ sP (yZ sB (yZ .s1 vW))) rfl rfl) (wH.cons sb (HS.pure .c λ_ _=>.int 7 (by decide)) (wH.cons sb (λH2 t2 Q q=>⟨_,rfl,_,rfl,_,_,rfl,rfl,pa,_,_,_,rfl,rfl,kS.of (t2 _ _ (s2 _ _ (s1 _ _ hp1))),hlq,q _ H2 (λ_ _ z=>z) (blq.same ((s1.trans s2).trans t2))⟩) wH.nil)))))) (show 17<=1000 by decide) λo3 G3 s3 _ L3=>?_;refine UU.goC (P:=λH v=>BV H m l ak v) sb rfl L3 (wH.cons sb (HS.tup (vs:=[.int l.1,.int l.2.1,.bl true]) (.cons (.v rfl) (.cons (.v rfl) (.cons .c AJ.nil))) (show 3<=1000 by decide) λ_ _ _ e=>.odd e (yZ sP (yZ sB (yZ (.bl _) vW))) rfl rfl) (wH.cons sb (HS.tup (vs:=[.bl true,.int l.2.1,.int l.2.2]) (.cons .c (.cons (.v rfl) (.cons (.v rfl) AJ.nil))) (show 3<=1000 by decide) λ_ _ _ e=>.odd e (yZ (.bl _) (yZ sB (yZ sE vW))) rfl rfl) (wH.cons sb (HS.tup (vs:=[.int l.1,.bl false,.int l.2.2]) (.cons (.v rfl) (.cons .c (.cons (.v rfl) AJ.nil))) (show 3<=1000 by decide) λ_ _ _ e=>.odd e (yZ sP (yZ (.bl _) (yZ sE vW))) rfl rfl) (wH.cons sb (HS.tup (vs:=[.int (l.1+1),.int l.2.1,.int l.2.2]) (.cons (.add (.v rfl) .c) (.cons (.v rfl) (.cons (.v rfl) AJ.nil))) (show 3<=1000 by decide) λ_ _ _ e=>.yes ((l.1+1),l.2.1,l.2.2) e (yZ (HU.int ((l.1+1)) (by lia)) (yZ sB (yZ sE vW))) (by simp only;lia)) wH.nil)))) (show 21<=1000 by decide) λo4 GN s4 fo4 L4=>?_;have g0:yU H1 GN:=((s1.trans s2).trans s3).trans s4;have hpN:=g0 _ _ hp1;have tlN:=g0 _ _ tl1;obtain⟨bad,eN,bm,lbad⟩:=L4;have lbad:bad.length=21:=lbad;have DN:Drawn K st H GN:=D1.trans ⟨D1.draw.same g0,jX.same g0⟩;have nO:o4≠st:=Ne.symm (((D1.draw.same s1).same (s2.trans s3)).ne fo4);refine⟨_,rfl,_,rfl,_,rfl,o4,_,rfl,.inl (kS.of eN),?_⟩;rw[lbad];refine⟨st,_,rfl,by decide,by decide,DN.draw,λj H3 j0 j1 D3=>?_⟩;obtain⟨i,rfl⟩:=qJ j0;have hi:i<bad.length:=by lia
 refine⟨o4,_,_,_,rfl,rfl,kS.of (D3.keep _ _ nO eN),qF (zG hi),?_⟩;have bv:=(bm _ (kY hi)).keep DN.draw D3;generalize bad[i]=v at *
 have D3':=DN.trans D3;have hp3:=D3.keep _ _ np hpN;have tl3:=D3.keep _ _ (FM DN.draw tlN) tlN;clear bm eN nO lbad;refine⟨λσ' H'=> ∃(v':V) (x:Option (Int×Int×Int)),σ'=[some (.ref st),some (.ref pa),some (.int m),some (.int (n:Int)),some (.int l.1),some (.int l.2.1),some (.int l.2.2),some (.ref o4),some v']/\Drawn K st H H'/\BH K H' v' x/\Zf m l x,⟨_,rfl,v,rfl,bv.rp,_,rfl,_,rfl,pa,_,_,_,rfl,rfl,kS.of hp3,atk,.ref ak,rfl,.tup tl3 (yZ sP (yZ sB (yZ sE vW))) (show 3<=10 by decide),rfl,_,rfl,kH (λc=>?_) (λc=>?_)⟩,?_⟩
 ·refine⟨_,rfl,_,rfl,sm3,λt ht=>?_⟩;exact⟨.ref t,some (0,l.2.1,l.2.2),rfl,D3'.trans (D3'.draw.new ht _),.yes zH,λq z=>by cases z;exact .inl (by show(0:Int)≠l.1;lia)⟩
 ·rcases bv.line (K:=K)with rfl|⟨x,lx,bx⟩
  ·exact absurd (xI rfl) c
  ·exact⟨v,x,rfl,D3',lx,bx⟩
 clear bv tl3 hp3 D3' D3 D1 DN hpN tlN;rintro σ' H4 ⟨v',x,rfl,D4,lx,bx⟩;have hp4:=D4.keep _ _ np hp;have tr4:Paired (BH K H4) (as.map V.ref) (ls.map some):=FH (Paired.imp (λa l' (h:DO H a l')=>D4.keep _ _ (Ih D h) h) tr);refine⟨_,rfl,st,3,rfl,by decide,by decide,D4.draw,λw3 H5 _ _ D5'=>⟨rfl,_,rfl,kH (λc=>?_) (λc=>?_)⟩⟩
 ·have D5:=D4.trans D5';have hp5:=D5'.keep _ _ np hp4;refine⟨_,rfl,pa,_,rfl,.inl ⟨kS.of hp5,λtt htt=>?_⟩⟩;generalize x1:upd H5 tt _=X1;have a1:yU H5 X1:=by rw[<-x1];exact zM htt _
  have b1:X1 tt=some (.tup (as.map V.ref)):=by rw[<-x1];exact zH
  refine λdd hdd=>?_;generalize x2:upd X1 dd _=X2;have a2:yU X1 X2:=by rw[<-x2];exact zM hdd _
  have b2:X2 dd=some (.dK []):=by rw[<-x2];exact zH
  refine⟨sm6,λo ho=>?_⟩;generalize x3:upd X2 o _=X3;have a3:yU X2 X3:=by rw[<-x3];exact zM ho _
  have b3:X3 o=some (.lst [.non,.ref tt,.ref dd,.str "",.int 0,.bl true]):=by rw[<-x3];exact zH
  have aa:yU H5 X3:=(a1.trans a2).trans a3;have d3:Bc K X3 st:=D5.draw.same aa;have no:o≠st:=λz=>by
   rw[z]at b3;obtain⟨_,_,_,_,e,_⟩:=d3;rw[e]at b3;cases b3
  refine⟨_,rfl,st,6,rfl,by decide,by decide,d3,λr H6 r0 r1 D6=>?_⟩;obtain⟨i6,rfl⟩:=qJ r0;have h6:i6<([.non,.ref tt,.ref dd,.str "",.int 0,.bl true]:List V).length:=by show i6<6;lia
  refine⟨o,_,_,_,rfl,rfl,kS.of (D6.keep _ _ no b3),qF (zG h6),?_⟩;have all: ∀v∈([.non,.ref tt,.ref dd,.str "",.int 0,.bl true]:List V),∃t∈BP,(t=="list")=false/\CZ K X3 v (.type t):=λv hv=>by
   rcases List.mem_cons.mp hv with rfl|hv
   ·exact⟨_,by decide,rfl,.non⟩
   rcases List.mem_cons.mp hv with rfl|hv
   ·exact⟨"tuple",by decide,rfl,.tup (a3 _ _ (a2 _ _ b1))⟩
   rcases List.mem_cons.mp hv with rfl|hv
   ·exact⟨"dict",by decide,rfl,.dK (a3 _ _ b2)⟩
   rcases List.mem_cons.mp hv with rfl|hv
   ·exact⟨_,by decide,rfl,.str _⟩
   rcases List.mem_cons.mp hv with rfl|hv
   ·exact⟨_,by decide,rfl,.int _⟩
   rcases List.mem_cons.mp hv with rfl|hv
   ·exact⟨_,by decide,rfl,.bl _⟩
   ·cases hv
  obtain⟨t,mt,nt,ty⟩:=all _ (kY h6);exact q _ none H6 (D5.trans ((⟨d3,jX.same aa⟩:Drawn K st H5 X3).trans D6)) (.no mt nt (NF d3 D6 ty)) (.inl rfl)
 have D5:=D4.trans D5';have lx5:=JP D4.draw D5' lx;refine⟨_,rfl,st,2,rfl,by decide,by decide,D5.draw,λw2 H6 _ _ D6'=>⟨rfl,_,rfl,kH (λc2=>?_) (λc2=>?_)⟩⟩
 ·have D6:=D5.trans D6';have lx6:=JP D5.draw D6' lx5;have hp6:=D6.keep _ _ np hp;have tr6:Paired (BH K H6) (as.map V.ref) (ls.map some):=FH (Paired.imp (λa l' (h:DO H a l')=>D6.keep _ _ (Ih D h) h) tr);refine⟨_,rfl,_,rfl,sm1,λt ht=>?_⟩;generalize x1:upd H6 t _=X1;have a1:yU H6 X1:=by rw[<-x1];exact zM ht _
  have b1:X1 t=some (.lst [v']):=by rw[<-x1];exact zH
  refine⟨pa,t,_,_,rfl,rfl,a1 _ _ hp6,b1,small (by rw[zF];show as.length+1<=1000;lia),λo ho=>?_⟩;generalize x2:upd X1 o _=X2;have a2:yU X1 X2:=by rw[<-x2];exact zM ho _
  have b2:X2 o=some (.lst (as.map V.ref++[v'])):=by rw[<-x2];exact zH
  have aa:=a1.trans a2;exact q (.ref o) _ X2 (D6.trans ⟨D6.draw.same aa,jX.same aa⟩) (.yes b2 (Paired.append (Paired.imp (λ_ _ z=>z.same aa) tr6) (.cons (lx6.same aa) .nil)) (by rw[zD,zF];show as.length+1<=1000;lia)) (.inr ⟨n,l,x,hl,bx,.inl rfl⟩)
 ·have D6:=D5.trans D6';have lx6:=JP D5.draw D6' lx5;have hp6:=D6.keep _ _ np hp;have tr6:Paired (BH K H6) (as.map V.ref) (ls.map some):=FH (Paired.imp (λa l' (h:DO H a l')=>D6.keep _ _ (Ih D h) h) tr);refine⟨_,rfl,_,rfl,_,rfl,pa,_,rfl,kS.of hp6,λt1 ht1=>?_⟩;generalize x1:upd H6 t1 _=X1;have a1:yU H6 X1:=by rw[<-x1];exact zM ht1 _
  have b1:X1 t1=some (.lst ((as.map V.ref).take n)):=by rw[<-x1,zH,Nr]
  refine⟨_,rfl,sm1,λt2 ht2=>?_⟩;generalize x2:upd X1 t2 _=X2;have a2:yU X1 X2:=by rw[<-x2];exact zM ht2 _
  have b2:X2 t2=some (.lst [v']):=by rw[<-x2];exact zH
  refine⟨t1,t2,_,_,rfl,rfl,a2 _ _ b1,b2,small (by rw[yL,zF];show min n as.length+1<=1000;lia),λt3 ht3=>?_⟩;generalize x3:upd X2 t3 _=X3;have a3:yU X2 X3:=by rw[<-x3];exact zM ht3 _
  have b3:X3 t3=some (.lst ((as.map V.ref).take n++[v'])):=by rw[<-x3];exact zH
  refine⟨_,rfl,_,rfl,_,_,rfl,rfl,_,rfl,pa,_,rfl,kS.of (a3 _ _ (a2 _ _ (a1 _ _ hp6))),λt4 ht4=>?_⟩;generalize x4:upd X3 t4 _=X4;have a4:yU X3 X4:=by rw[<-x4];exact zM ht4 _
  have b4:X4 t4=some (.lst ((as.map V.ref).drop (n+1))):=by
   rw[<-x4,zH];exact qI (λz=>some (HO.lst z)) (FO (n+1))
  refine⟨t3,t4,_,_,rfl,rfl,a4 _ _ b3,b4,small (by rw[zD,yL,kE,zF];show min n as.length+1+(as.length-(n+1))<=1000;lia),λo ho=>?_⟩;generalize x5:upd X4 o _=X5;have a5:yU X4 X5:=by rw[<-x5];exact zM ho _
  have b5:X5 o=some (.lst ((as.map V.ref).take n++[v']++(as.map V.ref).drop (n+1))):=by rw[<-x5];exact zH
  have aa:yU H6 X5:=(((a1.trans a2).trans a3).trans a4).trans a5;have tx:=Paired.imp (λ_ _ z=>z.same aa) tr6;have pk:=Paired.append (Paired.append (EY n tx) (.cons (lx6.same aa) .nil)) (EZ (n+1) tx);rw[<-Ad,<-Ae]at pk;exact q (.ref o) _ X5 (D6.trans ⟨D6.draw.same aa,jX.same aa⟩) (.yes b5 (by rw[Ad,Ae]at *;exact pk) (by rw[zD,zD,yL,kE,zF];show min n as.length+1+(as.length-(n+1))<=1000;lia)) (.inr ⟨n,l,x,hl,bx,.inr (by rw[Ad,Ae])⟩)
end
section
variable {P:Program}{w:World}{K:PySem.W.Frag}{mg:Str->Option Value}{base:Heap}{f:Addr}{fd:FuncData}{aP CL CN CM CK:Addr}
def zDu (hs:wC)(b k:Int):List Int->Bool
 |[]=>decide (k=5\/7<=k)
 |[n]=>decide (k=0\/(k=1\/k=2)/\0<=n/\n<=b-1\/k=3/\1<=n/\n<=12\/k=4/\2<=n/\n<=12\/k=6/\0<=n/\n<=(hs.length:Int)-1)
 |_=>false
def YL (hs:wC)(b:Int):Nat->Tr->Bool
 |0,_=>false
 |n+1,.mk k own ps=>decide (0<=k/\k<=19)&&(zDu hs b k own&&(decide (ps.length=(Fm hs k own).toNat)&&(own.all (λv=>decide (-1000<v/\v<1000))&&ps.all (YL hs b n))))
def fxB:Nat->Tr->Bool
 |0,_=>false
 |n+1,.mk k own ps=>decide (k=0->own.length=1)&&(decide (8<=k->k<=14->none∈ps.map Eg/\ps.length<=10)&&ps.all (fxB n))
theorem Yl {hs:wC}{b k:Int}: ∀{own:List Int},zDu hs b k own=true->Hw hs b k own
 |[],h=>by
  have h:k=5\/7<=k:=zO h;exact .inr (.inr (.inr (.inr (.inr ⟨h,rfl⟩))))
 |[n],h=>by
  rcases zO (p:=k=0\/(k=1\/k=2)/\0<=n/\n<=b-1\/k=3/\1<=n/\n<=12\/k=4/\2<=n/\n<=12\/k=6/\0<=n/\n<=(hs.length:Int)-1) h with h|⟨h,a,c⟩|⟨h,a,c⟩|⟨h,a,c⟩|⟨h,a,c⟩
  ·exact .inl ⟨h,n,rfl⟩
  ·exact .inr (.inl ⟨h,n,rfl,a,c⟩)
  ·exact .inr (.inr (.inl ⟨h,n,rfl,a,c⟩))
  ·exact .inr (.inr (.inr (.inl ⟨h,n,rfl,a,c⟩)))
  ·exact .inr (.inr (.inr (.inr (.inl ⟨h,n,rfl,a,c⟩))))
 |_::_::_,h=>(nomatch h)
theorem Nq {hs:wC}{b:Int}{n:Nat}: ∀{ps:List Tr},(∀p∈ps,EE hs b n p)->uX hs b n ps
 |[],_=>by unfold uX;trivial
 |a::r,h=>by
  unfold uX;exact⟨h a (yT ..),Nq λp hp=>h p (yW _ hp)⟩
theorem OK {hs:wC}{b:Int}: ∀(n:Nat) (t:Tr),YL hs b n t=true->EE hs b n t
 |0,_,h=>(nomatch h)
 |n+1,.mk k own ps,h=>by
  obtain⟨h1,h⟩:=Bool.and_eq_true_iff.mp h;obtain⟨h2,h⟩:=Bool.and_eq_true_iff.mp h;obtain⟨h3,h⟩:=Bool.and_eq_true_iff.mp h;obtain⟨h4,h⟩:=Bool.and_eq_true_iff.mp h;have h1:=zO h1;unfold EE;refine⟨h1.1,h1.2,Yl h2,zO h3,λv hv=>?_,Nq λp hp=>OK n p (List.all_eq_true.mp h p hp)⟩;have:=zO (List.all_eq_true.mp h4 v hv);exact yJ (show v.natAbs<1000 by lia) (by decide)
theorem WZ: ∀(n:Nat) (t:Tr),fxB n t=true->Se n t
 |0,_,h=>(nomatch h)
 |n+1,.mk k own ps,h=>by
  obtain⟨h1,h⟩:=Bool.and_eq_true_iff.mp h;obtain⟨h2,h⟩:=Bool.and_eq_true_iff.mp h;refine⟨λk0=>?_,zO h2,λp hp=>WZ n p (List.all_eq_true.mp h p hp)⟩;have h1:=zO h1 k0
  match own,h1 with
  |[v],_=>exact⟨v,rfl⟩
def zHi (nf nr:Int):List Int->Bool
 |[op,n]=>decide (op=0\/(op=1\/op=2)/\0<=n/\n<12\/(op=4\/op=5)/\0<=n/\n<nr\/op=6/\0<=n/\n<nf\/op=10/\8<=n/\n<=19\/op=11/\2<=n/\n<=12\/(op=3\/op=7\/op=8\/op=9)/\n=0)
 |_=>false
def Hv:List Int->Bool
 |[]=>false
 |n::ms=>decide (1<=n/\n<=16/\3*n+2<=ms.length/\(ms.length-3*n.toNat) % 2=0)&&(GB 2 (rowNums (n::ms))).all (zHi (n.toNat:Nat) ((rowNums (n::ms)).length / 2:Nat))
theorem Xp {ns:List Int}(h:DQ ns):Hv ns=true:=by
 obtain⟨n,ms,rfl,a⟩:=h.big;refine Bool.and_eq_true_iff.mpr ⟨xI a,List.all_eq_true.mpr λg hg=>?_⟩;obtain⟨op,k,rfl,ok⟩:=h.rows g hg;exact xI ok
def rsO (l:List (List Int)):uB:=l.map λg=>(g.headD 0,g.getD 1 0)
def hsO (l:List (List Int)):EJ:=l.map λg=>(g.headD 0,g.getD 1 0,g.getD 2 0)
def hdB:wC->Bool
 |[(0,b)]=>decide (0<=b/\b<=12)
 |_=>false
theorem zBr: ∀{hs:wC},hdB hs=true->Gy hs
 |[(0,b)],h=>⟨zP _,(show 1<=16 by decide),λi x e=>by
   have h:=zO h
   match i,e with
   |0,e=>cases e;exact⟨(show(0:Int)<=0 by decide),(show(0:Int)<=4 by decide),h.1,h.2,λ_=>rfl⟩⟩
def chk (ns:List Int)(r:wC×List Nd)(fs:List Jr)(rows heads:List (List Int))(rs:uB)(hs ls:EJ)(cs:List Int):Bool:=
 decide (fs.map (·.1)=r.1)&&(hdB r.1&&((fs.all λf=>YL r.1 f.1.2 10 (bare f.2))&&(decide (GC fs<=90/\OT fs<60)&&
 (decide (Zs rs=rows)&&(decide (hs.map (λh=>[h.1,h.2.1,h.2.2])=heads)&&(decide (GB 3 (headNums cs)=heads)&&(decide (GB 2 (rowNums cs)=rows)&&
 (rs.all (λp=>decide (p.1=4->0<=p.2/\p.2<rs.length))&&(rs.all (λp=>decide (p.1=5->0<=p.2))&&(decide (0<rs.length/\rs.length<=100/\hs.length<=10/\r.1.length<=10/\(jR r.2).length<=60)&&
 (hs.all (λh=>decide (0<=h.1))&&((jR r.2).all (λnd=>YL r.1 1 10 (bare nd)&&(fxB 10 (bare nd)&&decide ((YD nd).length<=10)))&&(lsM rs hs r ls&&
 (decide (cs.length=4+2*rs.length/\0<ls.length/\ls.length<=60)&&(decide (ls.map (·.1)=(jR r.2).map DK)&&(ls.all (λl=>decide (3<=l.1/\l.1<=1000/\0<=l.2.1/\l.2.1<=1000/\0<=l.2.2/\l.2.2<=1000))&&
 (JZ ((Rh 0 fs).map λg=>g.headD 0)&&(!Hv cs.dropLast&&(!Hv (17::cs)&&(!Hv (cs.take 4)&&!Hv (cs++[4,1000])))))))))))))))))))))
def Xq (ns:List Int):Bool:=match jL ns with
 | .error _=>false
 | .ok r=>chk ns r (r.1.zip r.2) (Na 0 (r.1.zip r.2)) (OJ 0 (r.1.zip r.2)) (rsO (Na 0 (r.1.zip r.2))) (hsO (OJ 0 (r.1.zip r.2))) (lnF 0 (r.1.zip r.2)) (Ea (OJ 0 (r.1.zip r.2)) (Na 0 (r.1.zip r.2)))
theorem zEo:(([-4,-3,-2,-1,0,1,2,3,4]:List Int).all λx=>([1,2,3,4,5]:List Int).all λy=>(YU x y).all λb=>Xq ([1,0,1]++b))=true:=by decide+kernel
structure XI (ns:List Int)(r:wC×List Nd)(cs:List Int)(hs:EJ)(rs:uB)(ls:EJ):Prop where
 fn:jL ns=.ok r
 mks:Xy ns (r.1.zip r.2)
 nd:OT (r.1.zip r.2)<64
 so:JZ ((Rh 0 (r.1.zip r.2)).map λg=>g.headD 0)=true
 cs_:cs=Ea (OJ 0 (r.1.zip r.2)) (Na 0 (r.1.zip r.2))
 ls_:ls=lnF 0 (r.1.zip r.2)
 lt:LtP r cs hs rs []
 ok:lsM rs hs r ls=true
 rl:rs.length<=100
 len:cs.length=4+2*rs.length
 l0:0<ls.length
 l60:ls.length<=60
 pl:ls.map (·.1)=(jR r.2).map DK
 sm: ∀l∈ls,3<=l.1/\l.1<=1000/\0<=l.2.1/\l.2.1<=1000/\0<=l.2.2/\l.2.2<=1000
 b1:Hv cs.dropLast=false
 b2:Hv (17::cs)=false
 b3:Hv (cs.take 4)=false
 b4:Hv (cs++[4,1000])=false
theorem zBx {ns:List Int}(h:Xq ns=true): ∃r cs hs rs ls,XI ns r cs hs rs ls:=by
 unfold Xq at h;cases e:jL ns with
 |error b=>rw[e]at h;cases h
 |ok r=>
  rw[e]at h;dsimp only at h;generalize efs:r.1.zip r.2=fs at h;unfold chk at h;simp only[jW]at h;obtain⟨c1,c2,c3,c4,c5,c6,c7,c8,c9,c10,c11,c12,c13,c14,c15,c16,c17,c17s,c18,c19,c20,c21⟩:=h;have c1:=zO c1;have c4:=zO c4;have c5:=zO c5;have c6:=zO c6;have c7:=zO c7;have c8:=zO c8;have c11:=zO c11;have c15:=zO c15;have hg:=zBr c2;have ft: ∀f∈fs,EE r.1 f.1.2 10 (bare f.2):=λf hf=>OK _ _ (List.all_eq_true.mp c3 f hf);have cp:=Nt c1 hg ft (by lia);refine⟨r,_,_,_,_,⟨e,⟨r,e,rfl,by rw[efs];exact c1,hg,by rw[efs];exact ft,by rw[efs];lia,by rw[efs];lia⟩,by rw[efs];lia,by rw[efs];exact c17s,by rw[efs],by rw[efs],⟨by lia,cp.ok,c7.trans c6.symm,c8.trans c5.symm,λi n z=>?_,λi n z=>?_,c11.1,by lia,by lia,λh hh=>zO (List.all_eq_true.mp c12 h hh),xH _,by lia,by lia,λnd hn=>?_,zO (Bool.and_eq_true_iff.mp c14).1⟩,c14,c11.2.1,c15.1,c15.2.1,c15.2.2,zO c16,λl hl=>zO (List.all_eq_true.mp c17 l hl),by simpa using c18,by simpa using c19,by simpa using c20,by simpa using c21⟩⟩
  ·exact zO (List.all_eq_true.mp c9 _ (xL z)) rfl
  ·exact zO (List.all_eq_true.mp c10 _ (xL z)) rfl
  ·obtain⟨d1,d2⟩:=Bool.and_eq_true_iff.mp (List.all_eq_true.mp c13 nd hn);obtain⟨d2,d3⟩:=Bool.and_eq_true_iff.mp d2;exact⟨⟨_,_,OK _ _ d1⟩,WZ _ _ d2,yO (zO d3) (by decide)⟩
theorem zBs {x y:Int}{b:List Int}(x0: -4<=x)(x1:x<=4)(y0:1<=y)(y1:y<=5)(m:b∈YU x y): ∃r cs hs rs ls,XI ([1,0,1]++b) r cs hs rs ls:=by
 have mx:x∈([-4,-3,-2,-1,0,1,2,3,4]:List Int):=by simp only[Fv,Dd];lia
 have my:y∈([1,2,3,4,5]:List Int):=by simp only[Fv,Dd];lia
 exact zBx (List.all_eq_true.mp (List.all_eq_true.mp (List.all_eq_true.mp zEo x mx) y my) b m)
theorem WF {a b:EJ}(h:a.Perm b):(a.map (·.1)).Nodup-> ∀f,lkF f a=lkF f b:=by
 induction h
 ·exact λ_ _=>rfl
 ·rename_i ih;intro nd f;rw[xG,DV]at nd;exact ih nd.2 _
 ·rename_i x y l;intro nd f;rw[xG,xG,DV]at nd;have ne:y.1≠x.1:=λz=>nd.1 (by rw[z];exact yT ..);show lkF (λp=>if p=x.1 then some (x.2.1.toNat,x.2.2.toNat)else if p=y.1 then some (y.2.1.toNat,y.2.2.toNat)else f p) l=lkF (λp=>if p=y.1 then some (y.2.1.toNat,y.2.2.toNat)else if p=x.1 then some (x.2.1.toNat,x.2.2.toNat)else f p) l;congr 1;funext p
  by_cases c:p=x.1
  ·rw[zQ c,zN (λz=>ne (by rw[<-z,c])),zQ c]
  ·rw[zN c]
   by_cases c2:p=y.1
   ·rw[zQ c2,zQ c2]
   ·rw[zN c2,zN c2,zN c]
 ·rename_i h1 _ ih1 ih2;intro nd f;exact(ih1 nd f).trans (ih2 ((h1.map (·.1)).nodup_iff.mp nd) f)
theorem ppM_iff {D:Int->Bool}{m:Int}: ∀{ls:EJ} {S:Int->Bool},XF D m S ls=true ↔ (∀l∈ls,WG D m l.1 l.2.1 l.2.2=true)/\(ls.map (·.1)).Nodup/\ ∀l∈ls,S l.1=false
 |[],S=>⟨λ_=>⟨λ_ h=>(nomatch h),List.nodup_nil,λ_ h=>(nomatch h)⟩,λ_=>rfl⟩
 |l::ls,S=>by
  show(WG D m l.1 l.2.1 l.2.2&&(!S l.1&&XF D m (λx=>decide (x=l.1) || S x) ls))=true ↔ _;rw[jW,jW,ppM_iff,xG,DV];constructor
  ·rintro⟨h1,h2,h3,h4,h5⟩;have h2:S l.1=false:=by simpa using h2
   refine⟨λx hx=>?_,⟨λz=>?_,h4⟩,λx hx=>?_⟩
   ·rcases List.mem_cons.mp hx with rfl|hx
    ·exact h1
    ·exact h3 x hx
   ·obtain⟨x,hx,e⟩:=List.mem_map.mp z;have:=h5 x hx;rw[Ay,FY]at this;exact this.1 e
   ·rcases List.mem_cons.mp hx with rfl|hx
    ·exact h2
    ·have:=h5 x hx;rw[Ay]at this;exact this.2
  ·rintro⟨h1,⟨h2,h3⟩,h4⟩;refine⟨h1 l (yT ..),by rw[h4 l (yT ..)]<;>rfl,λx hx=>h1 x (yW _ hx),h3,λx hx=>?_⟩;rw[Ay,FY];exact⟨λz=>h2 (by rw[<-z];exact wP hx),h4 x (yW _ hx)⟩
theorem XI.parts {ns:List Int}{r:wC×List Nd}{cs:List Int}{hs:EJ}{rs:uB}{ls:EJ}(g:XI ns r cs hs rs ls):decide (r.1=hs.map λh=>(h.2.1,h.2.2))=true/\XF (UY (jR r.2)) rs.length (λ_=>false) ls=true/\lbM rs (Ke ls) hs r.2=true:=by
 have:=g.ok;unfold lsM at this;rw[jW,jW]at this;exact this
theorem XI.nod {ns:List Int}{r:wC×List Nd}{cs:List Int}{hs:EJ}{rs:uB}{ls:EJ}(g:XI ns r cs hs rs ls):(ls.map (·.1)).Nodup:=(ppM_iff.mp g.parts.2.1).2.1
theorem XI.turn {ns:List Int}{r:wC×List Nd}{cs:List Int}{hs:EJ}{rs:uB}{ls ls':EJ}(g:XI ns r cs hs rs ls)(p:ls'.Perm ls):lsM rs hs r ls'=true:=by
 obtain⟨h1,h2,h3⟩:=g.parts;have nd:=g.nod;have nd':(ls'.map (·.1)).Nodup:=(p.map (·.1)).nodup_iff.mpr nd;obtain⟨a1,a2,a3⟩:=ppM_iff.mp h2;unfold lsM;rw[jW,jW];refine⟨h1,ppM_iff.mpr ⟨λl hl=>a1 l (p.mem_iff.mp hl),nd',λ_ _=>rfl⟩,?_⟩;have e:Ke ls'=Ke ls:=WF p nd' _;rw[e];exact h3
theorem Pp (D:Int->Bool)(m:Int): ∀(ls:EJ) (S:Int->Bool),VL D m S (ls.map some)=XF D m S ls
 |[],_=>rfl
 |l::ls,S=>by
  show(WG D m l.1 l.2.1 l.2.2&&(!S l.1&&VL D m (λx=>decide (x=l.1) || S x) (ls.map some)))=_;rw[Pp D m ls];rfl
theorem WE {rs:uB}{hs:EJ}{r:wC×List Nd}{ls:EJ}:lsO rs hs r (some (ls.map some))=lsM rs hs r ls:=by
 unfold lsO lsM Zt;dsimp only;rw[Pp,LG]
theorem Ut {rs:uB}{hs:EJ}{r:wC×List Nd}{o:Option Sc}(h:Zt (UY (jR r.2)) rs.length o=false):lsO rs hs r o=false:=by
 unfold lsO;rw[h,Bool.false_and,Bool.and_false]
theorem XI.bent {ns:List Int}{r:wC×List Nd}{cs:List Int}{hs:EJ}{rs:uB}{ls:EJ}(g:XI ns r cs hs rs ls){o:Option Sc}(h:ZM ls rs.length o):Zt (UY (jR r.2)) rs.length o=false:=by
 rcases h with rfl|⟨k,l,x,hl,bx,h⟩
 ·rfl
 obtain⟨os,rfl,mo⟩: ∃os,o=some os/\(os=ls.map some++[x]\/os=(ls.take k).map some++[x]++(ls.drop (k+1)).map some):=by
  rcases h with rfl|rfl
  ·exact⟨_,rfl,.inl rfl⟩
  ·exact⟨_,rfl,.inr rfl⟩
 rw[<-Bool.not_eq_true];intro c;obtain⟨ls',e',c'⟩:=On (show VL (UY (jR r.2)) rs.length (λ_=>false) os=true from c);obtain⟨c1,c2,_⟩:=ppM_iff.mp c';have mx:x∈os:=by rcases mo with rfl|rfl<;>simp
 rw[e']at mx;obtain⟨q,hq,rfl⟩:=List.mem_map.mp mx;have li:=c1 q hq;unfold WG at li;rw[jW,jW]at li;obtain⟨i1,i2,i3⟩:=li;have i2:=zO i2;have i3:=zO i3;have ne:q.1≠l.1:=by
  rcases bx q rfl with z|z|z|z|z
  ·exact z
  all_goals lia
 have mp:q.1∈ls.map (·.1):=by
  rw[g.pl];obtain⟨nd,hn,e⟩:=List.any_eq_true.mp i1;rw[<-zO e];exact wP hn
 obtain⟨l2,m2,e2⟩:=List.mem_map.mp mp;have inj: ∀{a b:EJ},a.map some=b.map some->a=b:=fun{a b} e=>List.map_inj_right (λx y z=>xU z) |>.mp e
 rcases mo with rfl|rfl
 ·have el:ls++[q]=ls':=inj (by rw[yP];exact e');rw[<-el,yP,List.nodup_append]at c2;exact c2.2.2 q.1 mp q.1 (yT ..) rfl
 ·have el:ls.take k++[q]++ls.drop (k+1)=ls':=inj (by rw[yP,yP];exact e');rw[<-el,yP,yP,yA,List.nodup_append]at c2;obtain⟨_,c3,c4⟩:=c2;obtain⟨hk,ek⟩:=List.getElem?_eq_some_iff.mp hl;have sp:ls=ls.take k++l::ls.drop (k+1):=by
   conv=>lhs;rw[<-kJ k ls]
   rw[xO hk,ek]
  rw[sp]at m2
  rcases List.mem_append.mp m2 with z|z
  ·exact c4 l2.1 (wP z) q.1 (wG _ (yT ..)) e2
  ·rcases List.mem_cons.mp z with rfl|z
   ·exact ne e2.symm
   ·have c3:(q.1::(ls.drop (k+1)).map (·.1)).Nodup:=c3;rw[DV]at c3;exact c3.1 (by rw[<-e2];exact wP z)
end
section
variable {P:Program}{w:World}{K:PySem.W.Frag}{mg:Str->Option Value}{base:Heap}{f:Addr}{fd:FuncData}{aP CL CN CM CK:Addr}
variable {CT CR CC CE:Addr}
structure ZN (K:PySem.W.Frag)(st l c pa:Addr)(as:List Addr)(ls:EJ)(ns cs:List Int)(H:Hp):Prop where
 dr:Bc K H st
 sh:H l=some (.lst (ns.map V.int))
 co:H c=some (.lst (cs.map V.int))
 pp:H pa=some (.lst (as.map V.ref))
 tr:Paired (DO H) as ls
 np:pa≠st
theorem ZN.move {st l c pa:Addr}{as:List Addr}{ls:EJ}{ns cs:List Int}{H H':Hp}(h:ZN K st l c pa as ls ns cs H)(D:Drawn K st H H'):ZN K st l c pa as ls ns cs H':=
 ⟨D.draw,D.keep _ _ (AH h.dr h.sh) h.sh,D.keep _ _ (AH h.dr h.co) h.co,D.keep _ _ h.np h.pp,Paired.imp (λa x (z:DO H a x)=>D.keep _ _ (Ih h.dr z) z) h.tr,h.np⟩
theorem ZN.same {st l c pa:Addr}{as:List Addr}{ls:EJ}{ns cs:List Int}{H H':Hp}(h:ZN K st l c pa as ls ns cs H)(g:yU H H'):ZN K st l c pa as ls ns cs H':=h.move ⟨h.dr.same g,jX.same g⟩
theorem UJ (vals:List Int):DL (vals.map V.int) none (some (-1))=vals.dropLast.map V.int:=by
 have e:DL (vals.map V.int) none (some (-1))=(vals.map V.int).take ((vals.map V.int).length -1):=by
  cases vals with
  |nil=>rfl
  |cons z r=>
   unfold DL
   simp[HT.sIx]
   try lia
 rw[e,<-List.dropLast_eq_take,List.map_dropLast]
def NC (H:Hp)(v:V):Prop:=(∃(a:Addr) (xs:List Int),v=.ref a/\H a=some (.lst (xs.map V.int))/\xs.length<=1000/\Hv xs=false)\/v=.non\/v=.str "1"
theorem NC.thing {H:Hp}{v:V}(h:NC H v): ∃o,Ba K H v o/\ ¬Ib o:=by
 have no: ¬Ib none:=fun⟨_,e,_⟩=>(nomatch e)
 rcases h with⟨a,xs,rfl,e,l,b⟩|rfl|rfl
 ·refine⟨_,Ba.ints e (yO l (by decide)),λz=>?_⟩;rw[Xp (codeV_ints.mp z)]at b;cases b
 ·exact⟨none,.no (t:="NoneType") (by decide) (by decide) .non,no⟩
 ·exact⟨none,.no (t:="str") (by decide) (by decide) (.str _),no⟩
theorem NC.keep {st:Addr}{H H':Hp}{v:V}(h:NC H v)(d:Bc K H st)(D:Drawn K st H H'):NC H' v:=by
 rcases h with⟨a,xs,e,z,l,b⟩|h
 ·exact .inl ⟨a,xs,e,D.keep _ _ (AH d z) z,l,b⟩
 ·exact .inr h
theorem NC.same {H H':Hp}{v:V}(h:NC H v)(g:yU H H'):NC H' v:=by
 rcases h with⟨a,xs,e,z,l,b⟩|h
 ·exact .inl ⟨a,xs,e,g _ _ z,l,b⟩
 ·exact .inr h
theorem Fi:Stb NC:=λ_ _ _ g h=>h.same g
theorem Rx {σ:St}{H:Hp}{ta:TA}{xs:List Int}(h:AJ σ ta (xs.map V.int))(b:Hv xs=false)(l:xs.length<=1000):HS NC σ H (TL ta):=HS.lst h (by rw[zF];exact l) λt H' _ e=>.inl ⟨t,xs,rfl,e,l,b⟩
theorem Wl (T:Xw K mg CN CT CR CM CC CE)(F:wE K "law" "law" Vz f fd)(Ca:kA P w K mg base 2 "_law_take" ["_law_state","_law_most"] (Ii K))(Cc1:kA P w K mg base 3 "_law_sheet" ["_law_state"] (Jt K))(Cc8:kA P w K mg base 23 "made" ["sheet"] QU)(Cz:kA P w K mg base 23 "made_paper" ["sheet"] GO)(Ca2:kA P w K mg base 19 "lets_by" ["sheet","code","paper"] (Kz K CN CC))(Cb7:kA P w K mg base 3 "_law_turned" ["_law_state","_law_paper"] (KO K))(Cd9:kA P w K mg base 18 "enough" ["sheet","code","breaths"] KU)(Cb1:kA P w K mg base 3 "_law_no_paper" ["_law_state","_law_paper","_law_many"] (Jy K))(Cb3:kA P w K mg base 19 "_law_no_sheet" ["_law_state","_law_sheet_here"] (GM K))(Cb8:kA P w K mg base 18 "wrong" ["numbers"] Kx)(Ct:kA P w K mg base 24 "_law_refused" ["_law_way","_law_sheet_here","_law_code","_law_paper"] (GK K)):uE P w K mg base 25 f fd ["_law_script"] (OY K):=by
 refine F.oN BK λcdv A outer s H vs Q E hr h=>?_;obtain⟨a,ns,rfl,hs,hl,q⟩:=h;refine⟨_,(zE (uA 1 BK.nd (jE (zB (pv 0) (zB zK (zB zK yC)))))
   (zE (wL xP rfl (BC rfl T.n_range (kG zK)) (Ar 2 BK.nd) (zE (uA 3 BK.nd (cN Cc1 hr (kG (pv 1))))
   (zE (uA 4 BK.nd (cN Cc8 hr (kG (pv 3))))
   (zE (uA 5 BK.nd (cN Cz hr (kG (pv 3))))
   (zE (uA 6 BK.nd (xQ FF (xQ CU (yS yM rfl T.n_len jZ (kG (pv 4))) zK) zK))
   (zE (xS (vH SN (cN Ca2 hr (zB (pv 3) (zB (pv 4) (zB (cN Cb7 hr (kO (pv 1) (pv 5))) yC)))) qG) (zJ (zV qG)) yI)
   (zE (wL xP rfl (AE (jE (kO (pv 2) (xQ CU zK (cN Ca hr (kO (pv 1) zK)))))) (Ar 7 BK.nd) (zJ (xS (vH Ia (cN Cd9 hr (zB (pv 3) (zB (pv 4) (zB (pv 7) yC)))) (xQ HG (xQ HG (xQ HG zK (xQ qM (pv 7) zK)) (xQ qM (yS yM rfl T.n_len jZ (kG (pv 3))) zK)) (xQ qM (pv 6) zK))) (zJ (zV qG)) yI)))
   (zE (wL xP rfl (BC rfl T.n_range (kG zK)) (Ar 8 BK.nd) (zJ (xS (vH SN (cN Ca2 hr (zB (pv 3) (zB (pv 4) (zB (cN Cb1 hr (zB (pv 1) (zB (pv 5) (zB (pv 6) yC)))) yC)))) qG) (zJ (zV qG)) yI)))
   (zE (uA 9 BK.nd (cN Cb3 hr (kO (pv 1) (pv 3))))
   (zE (uA 10 BK.nd (xQ Yn (xR (kG Bu)) (cN Cb8 hr (kG (pv 9)))))
   (zE (uA 11 BK.nd (jE (zB (jE yC) (zB (jE (kG zK)) (zB (vP Di (pv 4) Bj (uD (MN Js zK))) (zB (xQ AS (jE (kG zK)) (pv 4)) (zB (vP Di (pv 4) Bj (uD zK)) (zB qQ (zB Bu (zB (jE (CQ (.int (.int (.int (.int (.int (.int .nil)))))))) (zB (xQ AS (pv 4) (jE (CQ (.int (.int .nil))))) yC)))))))))))
   (zE (uA 12 BK.nd (Am kQ (pv 11) (cN Ca hr (kO (pv 1) zK))))
   (zE (wL xP rfl (BC rfl T.n_range (kG zK)) (Ar 13 BK.nd) (zJ (xS (vH (zAz hr) (cN Ct hr (zB (pv 13) (zB (pv 9) (zB (pv 12) (zB qQ yC))))) (pv 10)) (zJ (zV qG)) yI)))
   (zJ (xS (PW.pt (vO (vH Ia (cN Ct hr (zB zK (zB (pv 3) (zB (pv 12) (zB qQ yC))))) Bu) (qT (vH Ia (cN Ct hr (zB zK (zB (pv 3) (zB (pv 12) (zB (pv 5) yC))))) Bu)))) (zJ (zV qG)) yI)))))))))))))))
   (zJ (zV qG)))),?_⟩
 try dsimp only[Ah,Ai]
 refine⟨_,rfl,sm3,λst hst=>?_⟩;have D0:Bc K (upd H st (.lst [.ref a,.int 0,.int 0])) st:=⟨a,ns,0,0,zH,hs.imp (fun⟨o,z⟩=>⟨o,zM hst _ _ _ z⟩) id,hl,by decide,by decide⟩;refine⟨_,rfl,by decide,by decide,CY (lo:=0) (n:=3) (λi σ' H'=>(∃v2 v3 v4 v5 v6 v7 v8 v9 v10 v11 v12 v13,σ'=[some (.ref a),some (.ref st),v2,v3,v4,v5,v6,v7,v8,v9,v10,v11,v12,v13])/\Bc K H' st) ⟨⟨_,_,_,_,_,_,_,_,_,_,_,_,rfl⟩,D0⟩ ?_ ?_⟩
 ·rintro i σ' H1 hi ⟨⟨v2,v3,v4,v5,v6,v7,v8,v9,v10,v11,v12,v13,rfl⟩,D1⟩;refine⟨_,rfl,st,rfl,D1,λl x y b H2 D2 fl x0 x1 y0 y1 mb el=>?_⟩;have lb:=OO mb;obtain⟨r,cs,hs,rs,ls,g⟩:=zBs x0 x1 y0 y1 mb;have ln:([1,0,1]++b).length<=100:=by rw[zD];show 3+b.length<=100;lia
  have l0:0<([1,0,1]++b).length:=by rw[zD];show 0<3+b.length;lia
  generalize[1,0,1]++b=ms at *
  refine⟨_,rfl,l,ms,_,rfl,el,g.mks,λc H3 s3 fc ec=>?_⟩;rw[<-g.cs_]at ec;refine⟨_,rfl,l,ms,_,rfl,s3 _ _ el,g.mks,g.nd,g.so,λpa as H4 s4 fpa epa tpa=>?_⟩;rw[<-g.ls_]at tpa;have D4:Bc K H4 st:=D2.draw.same (s3.trans s4);have A4:ZN K st l c pa as ls ms cs H4:=⟨D4,s4 _ _ (s3 _ _ el),s4 _ _ ec,epa,tpa,Ne.symm ((D2.draw.same s3).ne fpa)⟩;have las:=Paired.len tpa;have q0:=g.l0;have q60:=g.l60;have qr:=g.rl;have qlen:=g.len;refine⟨_,rfl,c,_,rfl,.inl (kS.of A4.co),_,_,rfl,rfl,_,_,rfl,rfl,zEn (by decide) (by decide),?_⟩;have em:(((cs.map V.int).length:Int)-4) / 2=(rs.length:Int):=by rw[zF,qlen];lia
  rw[em];clear el ec epa tpa s3 s4 fc fpa D4 fl;refine⟨_,rfl,_,rfl,_,rfl,_,rfl,st,pa,as,ls,rfl,A4.dr,A4.pp,A4.tr,A4.np,by lia,λtl as' ls' H5 D5 _ etl ttl pm=>?_⟩;have A5:=A4.move D5;have lt:=Paired.len ttl;have lp:=pm.length_eq;refine⟨l,.ref c,.ref tl,ms,rfl,A5.sh,by lia,.inr ⟨r,g.fn,.inr ⟨c,cs,hs,rs,_,rfl,A5.co,g.lt,.yes etl (FH ttl) (by rw[zF];lia),λH6 s6=>?_⟩⟩⟩;have A6:=A5.same s6;rw[WE,g.turn pm];refine⟨_,_,rfl,rfl,_,rfl,wD ?_⟩;clear lt lp ttl etl pm A5 A4 D5 s6;refine⟨_,rfl,_,rfl,st,9000,rfl,by decide,by decide,A6.dr,λk9 H7 k0 k1 D7=>⟨_,_,rfl,rfl,sm2,λbl hbl=>?_⟩⟩;have A7:=A6.move D7;generalize x8:upd H7 bl _=H8;have s8:yU H7 H8:=by rw[<-x8];exact zM hbl _
  have e8:H8 bl=some (.lst [.int (0+(i:Int)),.int (20000-k9)]):=by rw[<-x8];exact zH
  have A8:=A7.same s8;clear A6 A7 D7;have big: ∀x:Int,0<=x->x<=100000000000000->x.natAbs<2^2000:=λx h1 h2=>xB (show x.natAbs<=100000000000000 by lia) (by decide);have lg:(GB 2 (rowNums cs)).length =rs.length:=by rw[g.lt.rw_];exact zF ..
  refine⟨bl,rfl,⟨_,kS.of e8⟩,Dv (xs:=[.int (0+(i:Int)),.int (20000-k9)]) (λj σ' H'=>(∃v7,σ'=[some (.ref a),some (.ref st),some (.int (0+(i:Int))),some (.ref l),some (.ref c),some (.ref pa),some (.int rs.length),v7,v8,v9,v10,v11,v12,v13])/\yU H8 H') ⟨⟨_,rfl⟩,λ_ _ z=>z⟩ ?_ ?_ ?_⟩
  ·rintro j σ' H' _ ⟨_,sm⟩;exact kS.of (sm _ _ e8)
  ·rintro j z σ' H' hz ⟨⟨v7,rfl⟩,sm⟩;obtain⟨bv,rfl,bv0,bv1⟩: ∃bv:Int,z=.int bv/\0<=bv/\bv<=20000:=by
    rcases List.mem_cons.mp (xL hz)with rfl|z'
    ·exact⟨_,rfl,by lia,by lia⟩
    rcases List.mem_cons.mp z' with rfl|z'
    ·exact⟨_,rfl,by lia,by lia⟩
    ·cases z'
   have A9:=A8.same sm;have m1:(0:Int)<=3*(bv+2)*((ms.length:Int)+1):=Int.mul_nonneg (by lia) (by lia);have m2:3*(bv+2)*((ms.length:Int)+1)<=60006*1001:=Int.mul_le_mul (by lia) (by lia) (by lia) (by decide);dsimp only[BE];refine⟨_,rfl,_,rfl,_,rfl,l,c,ms,cs,bv,r,rfl,A9.sh,g.fn,A9.co,by lia,by lia,g.lt.co,bv0,bv1,λH9 s9=>?_⟩;have A10:=A9.same s9;refine⟨_,rfl,_,_,rfl,rfl,_,_,rfl,rfl,⟨by decide,big _ (by lia) (by lia)⟩,_,rfl,l,_,rfl,.inl (kS.of A10.sh),_,_,rfl,rfl,_,_,rfl,rfl,⟨big _ (by lia) (by lia),big _ (by rw[zF];lia) (by rw[zF];lia)⟩,?_⟩;rw[zF];refine⟨_,rfl,_,_,rfl,rfl,_,_,rfl,rfl,⟨big _ m1 (by lia),big _ (by lia) (by lia)⟩,rfl,_,rfl,WL (by rw[lg]) ⟨⟨_,rfl⟩,sm.trans s9⟩⟩
  rintro σ' H9 ⟨⟨v7',rfl⟩,s9⟩;have A9:=A8.same s9;clear A8 s9 big lg e8;refine⟨_,rfl,by decide,by decide,CY (lo:=0) (n:=4) (λj σ' H'=>(∃v8,σ'=[some (.ref a),some (.ref st),some (.int (0+(i:Int))),some (.ref l),some (.ref c),some (.ref pa),some (.int rs.length),v7',v8,v9,v10,v11,v12,v13])/\ZN K st l c pa as ls ms cs H') ⟨⟨_,rfl⟩,A9⟩ ?_ ?_⟩
  ·rintro j σ' H' _ ⟨⟨v8,rfl⟩,B⟩;refine⟨_,rfl,_,rfl,_,rfl,_,rfl,_,rfl,st,pa,as,ls,rs.length,rfl,B.dr,B.pp,B.tr,B.np,by lia,by lia,by lia,by lia,g.nod,g.sm,λyv o H10 D10 px bp=>?_⟩;have B1:=B.move D10;refine⟨l,.ref c,yv,ms,rfl,B1.sh,by lia,.inr ⟨r,g.fn,.inr ⟨c,cs,hs,rs,o,rfl,B1.co,g.lt,px,λH11 s11=>?_⟩⟩⟩;rw[Ut (g.bent bp)];exact⟨_,_,rfl,rfl,_,rfl,wD ⟨⟨_,rfl⟩,B1.same s11⟩⟩
  rintro σ' H10 ⟨⟨v8',rfl⟩,A10⟩;clear A9;refine⟨_,rfl,_,rfl,st,l,ms,rfl,A10.dr,A10.sh,l0,ln,λbad ns' p wd H11 D11 eb lb' ef=>?_⟩;have A11:=A10.move D11;refine⟨sm1,λt1 h1=>?_⟩;generalize x12:upd H11 t1 _=H12;have s12:yU H11 H12:=by rw[<-x12];exact zM h1 _
  have e12:H12 t1=some (.tup [.str "sheet"]):=by rw[<-x12];exact zH
  refine⟨_,rfl,bad,ns',rfl,s12 _ _ eb,⟨λr' er=>(by rw[ef]at er;cases er),λp' wd' er t2 H13 XT e13=>?_⟩⟩;rw[ef]at er;cases er;refine⟨t1,t2,_,_,rfl,rfl,uS.of (XT _ _ e12),uS.of e13,by simp,sm3,λz=>(nomatch z),λ_ dw hdw=>?_⟩;generalize x14:upd H13 dw _=H14;have s14:yU H13 H14:=by rw[<-x14];exact zM hdw _
  have e14:H14 dw=some (.tup [.str "sheet",.int (p:Nat),.str wd]):=by rw[<-x14];exact zH
  have g14:yU H11 H14:=(s12.trans XT).trans s14;have A14:=A11.same g14;have eb14:=g14 _ _ eb;clear A10 A11 D11 s12 XT s14 e12 e13 g14 eb;have lcs:cs.length<=204:=by lia
  refine UU.go (P:=NC) Fi (wH.cons Fi (Rx (xs:=[]) .nil rfl (xH _)) (wH.cons Fi (Rx (xs:=[0]) (.cons .c .nil) rfl (show 1<=1000 by decide)) (wH.cons Fi (λH2 t2 Q q=>⟨_,rfl,_,rfl,_,rfl,c,_,rfl,kS.of (t2 _ _ A14.co),λp hp=>q _ _ (zM hp _) (.inl ⟨p,cs.dropLast,rfl,by rw[zH,UJ],by rw[List.length_dropLast];lia,g.b1⟩)⟩) (wH.cons Fi (λH2 t2 Q q=>⟨sm1,λz hz=>⟨_,rfl,z,c,_,_,rfl,rfl,zH,zM hz _ _ _ (t2 _ _ A14.co),small (by rw[zF];show 1+cs.length<=1000;lia),λp hp=>q _ _ ((zM hz _).trans (zM hp _)) (.inl ⟨p,17::cs,rfl,zH,by rw[zI];lia,g.b2⟩)⟩⟩) (wH.cons Fi (λH2 t2 Q q=>⟨_,rfl,_,rfl,c,_,rfl,kS.of (t2 _ _ A14.co),λp hp=>q _ _ (zM hp _) (.inl ⟨p,cs.take 4,rfl,by rw[zH];exact qI (λz=>some (HO.lst z)) ((Nr 4).trans (Ad ..).symm),by rw[yL];lia,g.b3⟩)⟩) (wH.cons Fi (HS.pure .c λ_ _=>.inr (.inl rfl)) (wH.cons Fi (HS.pure .c λ_ _=>.inr (.inr rfl)) (wH.cons Fi (Rx (xs:=[1,0,0,0,12,0]) (λ_ _ q=>q) rfl (show 6<=1000 by decide)) (wH.cons Fi (λH2 t2 Q q=>⟨_,rfl,sm2,λz hz=>⟨c,z,_,_,rfl,rfl,zM hz _ _ _ (t2 _ _ A14.co),zH,small (by rw[zF];show cs.length+2<=1000;lia),λp hp=>q _ _ ((zM hz _).trans (zM hp _)) (.inl ⟨p,cs++[4,1000],rfl,by rw[zH,yP]<;>rfl,by rw[zD];show cs.length+2<=1000;lia,g.b4⟩)⟩⟩) wH.nil))))))))) (show 9<=1000 by decide) λo G10 g0 ko L10=>?_;obtain⟨ncs,e30,nc,lnc⟩:=L10;have lnc:ncs.length=9:=lnc;have A16:=A14.same g0;have no:o≠st:=Ne.symm (A14.dr.ne ko);have e16:=g0 _ _ e14;have eb16:=g0 _ _ eb14;clear A14 e14 eb14 g0;refine⟨_,rfl,_,rfl,st,9,rfl,by decide,by decide,A16.dr,λk17 H17 r0 r1 D17=>?_⟩;obtain⟨i17,rfl⟩:=qJ r0;have h17:i17<ncs.length:=by lia
  refine⟨o,_,_,_,rfl,rfl,kS.of (D17.keep _ _ no e30),qF (zG h17),?_⟩;have wv:=(nc _ (kY h17)).keep A16.dr D17;generalize ncs[i17]=wo at *
  have A17:=A16.move D17;have e17:=D17.keep _ _ (FM A16.dr e16) e16;have eb17:=D17.keep _ _ (AH A16.dr eb16) eb16;clear nc e30 A16 D17 e16 eb16 lnc;refine⟨_,rfl,by decide,by decide,CY (lo:=0) (n:=3) (λj σ' H'=>(∃v13',σ'=[some (.ref a),some (.ref st),some (.int (0+(i:Int))),some (.ref l),some (.ref c),some (.ref pa),some (.int rs.length),v7',v8',some (.ref bad),some (.ref dw),some (.ref o),some wo,v13'])/\yU H17 H') ⟨⟨_,rfl⟩,λ_ _ z=>z⟩ ?_ ?_⟩
  ·rintro j σ' H' _ ⟨⟨v13',rfl⟩,sm⟩;refine⟨_,rfl,_,rfl,_,rfl,_,bad,ns',wo,.non,rfl,sm _ _ eb17,by lia,.inl ⟨p,wd,ef,λt H18 s18 et=>?_⟩⟩;refine⟨_,rfl,t,dw,_,_,0,rfl,rfl,.inr ⟨uS.of et,uS.of (s18 _ _ (sm _ _ e17))⟩,.cons ⟨rfl,rfl⟩ (.cons ⟨rfl,rfl⟩ (.cons ⟨rfl,rfl⟩ .nil)),by decide,_,rfl,wD ⟨⟨_,rfl⟩,sm.trans s18⟩⟩
  rintro σ' H18 ⟨⟨v13',rfl⟩,s18⟩;have A18:=A17.same s18;obtain⟨oc,th,nco⟩:=(wv.same s18).thing (K:=K);refine⟨_,rfl,_,rfl,0,l,ms,wo,.non,rfl,A18.sh,by lia,.inr ⟨rfl,r,oc,g.fn,th,nco,λH19 s19=>?_⟩⟩;refine⟨rfl,_,rfl,wD ?_⟩;refine⟨_,rfl,_,rfl,_,rfl,0,l,ms,wo,.ref pa,rfl,s19 _ _ A18.sh,by lia,.inr ⟨rfl,r,oc,g.fn,th.same s19,nco,λH20 s20=>?_⟩⟩;exact⟨rfl,_,rfl,wD ⟨⟨_,_,_,_,_,_,_,_,_,_,_,_,rfl⟩,(A18.same (s19.trans s20)).dr⟩⟩
 ·rintro σ' H' _;exact q _
end
section
variable {P:Program}{w:World}{K:PySem.W.Frag}{mg:Str->Option Value}{base:Heap}{f:Addr}{fd:FuncData}{aP CL CN CM CK:Addr}
theorem Jf {K:PySem.W.Frag}{t a b:Value}(ha:PySem.W.kitOne K t a=some false)(hb:PySem.W.kitOne K t b=some false):PySem.W.kitAny K t [a,b]=some false:=by
 unfold PySem.W.kitAny;rw[ha];unfold PySem.W.kitAny;rw[hb]<;>rfl
theorem WC {Q:String->Prop}(h1:Q "int")(h2:Q "bool")(h3:Q "str")(h4:Q "NoneType")(h5:Q "list")(h6:Q "tuple")(h7:Q "dict"): ∀t∈BP,Q t:=λt m=>by
 unfold BP at m;simp only[Fv,Dd,or_false]at m
 rcases m with rfl|rfl|rfl|rfl|rfl|rfl|rfl
 ·exact h1
 ·exact h2
 ·exact h3
 ·exact h4
 ·exact h5
 ·exact h6
 ·exact h7
theorem YT {K:PySem.W.Frag}{C CE N nsC:Addr}{nm q:Str}{bs:List Value}{sn:List Str}{sub:List Value}{ab:Bool}{col:Option Bool}{dd ddC ddD ddY:Option Addr}{k0 k1 k2 k3 k5:Option Value}{ccC ccD ccY:Value}{cd:ClassData}{slC slD slY:Array (Option Value)}{esD esY:Array DictEntry}{nD nY:Nat}
  (h:K.lookup C=some (excClassObj nm q C N bs (.ref CE::Do) true sn sub ab col dd k0 k1 k2 k3 k5 "ValueError.__new__"))
  (hC:K.lookup CE=some ⟨ccC,ddC,.cls cd,slC⟩) (hn:cd.ns=nsC) (hD:K.lookup nsC=some ⟨ccD,ddD,.dict esD nD,slD⟩) (eD:(esD.toList.all λe=>match e.key with| .str _ _=>true|_=>false)=true) (fD:PySem.W.nsIn K nsC "__init__"=some none)
  (hY:K.lookup N=some ⟨ccY,ddY,.dict esY nY,slY⟩) (eY:(esY.toList.all λe=>match e.key with| .str _ _=>true|_=>false)=true) (fY:PySem.W.nsIn K N "__init__"=some none):Sh K C:=
 ⟨_,_,_,_,_,_,_,_,_,_,_,_,_,_,_,_,h,rfl,Qw hC hn (SQ hD eD) fD,λ_ X=>⟨_,.of_isNs (PySem.W.isNs_of_in X (SQ hY eY)),PySem.W.nsMap_none_of_in X (SQ hY eY) fY⟩⟩
end
open PySem.W in
theorem all_mk {l:OpenLaw}{w:World}{K:Frag}{h:Heap}{mg:Str->Option Value}{fa f0 f1 f2 f3 f4 f5 f6 f7 f8 f9 vi f11 wy zo vj f15 xf yo f18 f19 f20 zu uq wx wn f25 f26 uv vo f29 zi f31 ww yt vg f35 xk f37 xl ut f40 f41 f42 f43 wq f45 f46 xh uw f49 vd f51 yq zw f54 vq vm wg wz zr wj wt f62 wu f64 f65 zg xo f68 vk f70 yk:Addr}{nmN qN zk qC:Str}{NN iy uc:Addr}{xa tw bsC tf ug:List Value}{wb snC:List Str}{abN hdC yy ue:Bool}{ui ub:Option Bool}{vb wf wr:Option Addr}{k0N xy xp k3N xr:Option Value}{ccC vn:Value}{ve slD:Array (Option Value)}{ur:Array DictEntry}{nD:Nat}{ac aj aP:Addr}{qf tj sv sx rm sd si rn tm cv gf ic jb jq iw ia:Tok}{qh qc pd qk qj qi pe qt qd pj mz ny mq:Tok}{rh:Nat}{rj:Array (Option Value)}{af:Addr}{sy ng oz qg mw mf iz nj mv og jl rf mm jp jz:Tok}{ae ag ar cc au ah:Addr}{sf jm:Tok}{nmY qY:Str}{NY:Addr}{uz su:List Value}{xc:List Str}{yg:Bool}{ss:Option Bool}{ddY ddE:Option Addr}{k0Y zn k2Y k3Y wk:Option Value}{xj:Value}{xm:Array (Option Value)}{ul:Array DictEntry}{nE:Nat}(X:K.In h)(G:h.Ns mainGlobals mg)(hfa:mg "law"=some (.ref fa))
  (gj:nsIn K mainGlobals "NoCode"=some (some (.ref ae)))
  (fm:nsIn K mainGlobals "ChainError"=some (some (.ref ag)))
  (mh:nsIn K mainGlobals "NoText"=some (some (.ref ar)))
  (qm:nsIn K mainGlobals "NoRow"=some (some (.ref cc)))
  (oj:nsIn K mainGlobals "NoName"=some (some (.ref au)))
  (qo:nsIn K mainGlobals "Check"=some (some (.ref ah)))
  (ce:nsIn K mainGlobals "NoSheet"=some (some (.ref ac)))
  (rc:nsIn K mainGlobals "Look"=some (some (.ref aj)))
  (oq:nsIn K mainGlobals "Making"=some (some (.ref af)))
  (d0:Dm K ac "__init__" "NoSheet.__init__" Bs f0)
  (d1:Dm K aj "__init__" "Look.__init__" DJ f1)
  (d2:Dm K aj "take" "Look.take" He f2)
  (d3:Dm K aj "take_within" "Look.take_within" Bt f3)
  (d4:Dg K "is_whole" "is_whole" "is_whole" Gn f4)
  (d5:Dg K "take_heads" "take_heads" "take_heads" Gj f5)
  (d6:Dg K "take_own" "take_own" "take_own" Ir f6)
  (d7:Dg K "parts_of" "parts_of" "parts_of" Iu f7)
  (d8:Dg K "parts_due" "parts_due" "parts_due" GY f8)
  (d9:Dg K "take_node" "take_node" "take_node" ET f9)
  (d10:Dg K "functions" "functions" "functions" Hb vi)
  (d11:Dg K "wrong" "wrong" "wrong" Od f11)
  (d12:Dg K "is_head" "is_head" "is_head" JJ wy)
  (zb:Dg K "stands_alone" "stands_alone" "stands_alone" Ew zo)
  (ym:Dg K "is_row" "is_row" "is_row" Lf vj)
  (ze:Dg K "grouped" "grouped" "grouped" HC f15)
  (d16:Dg K "heads_in" "heads_in" "heads_in" Iz xf)
  (zc:Dg K "rows_in" "rows_in" "rows_in" JH yo)
  (xu:Dg K "is_list_of_wholes" "is_list_of_wholes" "is_list_of_wholes" uC f18)
  (xg:Dg K "is_code" "is_code" "is_code" CP f19)
  (wa:Dg K "joined" "joined" "joined" Le f20)
  (vy:Dg K "code_of" "code_of" "code_of" JK zu)
  (d22:Dm K af "__init__" "Making.__init__" BM uq)
  (d23:Dg K "make_all" "make_all" "make_all" Gm wx)
  (d24:Dg K "make_pick" "make_pick" "make_pick" EU wn)
  (zx:Dg K "make_loop" "make_loop" "make_loop" EW f25)
  (yb:Dg K "own_row" "own_row" "own_row" JI f26)
  (za:Dg K "make_node" "make_node" "make_node" EV uv)
  (d28:Dg K "making_of" "making_of" "making_of" GZ vo)
  (d29:Dg K "made" "made" "made" Og f29)
  (d30:Dg K "made_paper" "made_paper" "made_paper" Eh zi)
  (d31:Dg K "nodes_in" "nodes_in" "nodes_in" Iv f31)
  (d32:Dg K "nodes" "nodes" "nodes" Oe ww)
  (d33:Dg K "heads_of" "heads_of" "heads_of" Iy yt)
  (d34:Dg K "rows_of" "rows_of" "rows_of" JG vg)
  (ya:Dg K "worth" "worth" "worth" XR f35)
  (xt:Dg K "picked" "picked" "picked" Ld xk)
  (d37:Dg K "meant" "meant" "meant" Of f37)
  (vz:Dg K "fixed" "fixed" "fixed" IT xl)
  (xq:Dm K ah "__init__" "Check.__init__" AD ut)
  (wp:Dg K "begin_of" "begin_of" "begin_of" IA f40)
  (yu:Dg K "end_of" "end_of" "end_of" Lh f41)
  (zq:Dg K "row_meant" "row_meant" "row_meant" GX f42)
  (xx:Dg K "meet" "meet" "meet" Rc f43)
  (xn:Dg K "behind" "behind" "behind" Li wq)
  (d45:Dg K "are_right" "are_right" "are_right" EX f45)
  (zm:Dg K "begins_alike" "begins_alike" "begins_alike" Ey f46)
  (we:Dg K "ends_alike" "ends_alike" "ends_alike" Go xh)
  (vv:Dg K "is_pushed" "is_pushed" "is_pushed" Ha uw)
  (vw:Dg K "is_right_all" "is_right_all" "is_right_all" Ex f49)
  (vc:Dg K "is_right_pick" "is_right_pick" "is_right_pick" DE vd)
  (d51:Dg K "is_picked_ahead" "is_picked_ahead" "is_picked_ahead" BL f51)
  (d52:Dg K "left_by_unless" "left_by_unless" "left_by_unless" CO yq)
  (wc:Dg K "is_right_loop" "is_right_loop" "is_right_loop" DF zw)
  (d54:Dg K "own_row_at" "own_row_at" "own_row_at" Gk f54)
  (d55:Dg K "is_right_by_own_row" "is_right_by_own_row" "is_right_by_own_row" Ag vq)
  (yx:Dg K "is_right" "is_right" "is_right" Iw vm)
  (d57:Dg K "is_right_function" "is_right_function" "is_right_function" AQ wg)
  (d58:Dg K "is_line" "is_line" "is_line" HB wz)
  (zh:Dg K "is_paper" "is_paper" "is_paper" Ix zr)
  (xw:Dg K "have_same_boxes" "have_same_boxes" "have_same_boxes" vN wj)
  (d61:Dg K "lets_by" "lets_by" "lets_by" FC wt)
  (ux:Dg K "enough" "enough" "enough" Lg f62)
  (d63:Dg K "_law_cell" "_law_cell" "_law_cell" Hd wu)
  (zf:Dg K "_law_take" "_law_take" "_law_take" Hc f64)
  (d65:Dg K "_law_sheet" "_law_sheet" "_law_sheet" Gp f65)
  (yp:Dg K "_law_no_paper" "_law_no_paper" "_law_no_paper" DI zg)
  (d67:Dg K "_law_class" "_law_class" "_law_class" Gq xo)
  (uy:Dg K "_law_refused" "_law_refused" "_law_refused" Ez f68)
  (xv:Dg K "_law_turned" "_law_turned" "_law_turned" Ff vk)
  (yc:Dg K "_law_no_sheet" "_law_no_sheet" "_law_no_sheet" DH f70)
  (zv:Dg K "law" "law" "law" Vz yk)
  (ma:nsIn K mainGlobals "len"=some none)
  (sk:nsIn K mainGlobals "abs"=some none)
  (fv:nsIn K mainGlobals "range"=some none)
  (bg:nsIn K mainGlobals "isinstance"=some none)
  (qu:nsIn K mainGlobals "int"=some none)
  (ky:nsIn K mainGlobals "bool"=some none)
  (md:nsIn K mainGlobals "list"=some none)
  (jt:nsIn K mainGlobals "tuple"=some none)
  (bo:nsIn K mainGlobals "NUMBER"=some (some (.int 0 qf)))
  (qw:nsIn K mainGlobals "GET"=some (some (.int 1 tj)))
  (qx:nsIn K mainGlobals "SET"=some (some (.int 2 sv)))
  (mn:nsIn K mainGlobals "ALL"=some (some (.int 3 sx)))
  (jj:nsIn K mainGlobals "PICK"=some (some (.int 4 rm)))
  (jf:nsIn K mainGlobals "LOOP"=some (some (.int 5 sd)))
  (om:nsIn K mainGlobals "CALL"=some (some (.int 6 si)))
  (jc:nsIn K mainGlobals "FAIL"=some (some (.int 7 rn)))
  (qv:nsIn K mainGlobals "NEW"=some (some (.int 19 tm)))
  (ao:nsIn K mainGlobals "MOST_FUNCTIONS"=some (some (.int 16 cv)))
  (bb:nsIn K mainGlobals "MOST_PARAMS"=some (some (.int 4 gf)))
  (bt:nsIn K mainGlobals "MOST_BOXES"=some (some (.int 12 ic)))
  (im:nsIn K mainGlobals "MOST_DEEP"=some (some (.int 10 jb)))
  (cm:nsIn K mainGlobals "MOST_MANY"=some (some (.int 12 jq)))
  (gu:nsIn K mainGlobals "LEAST_ALL"=some (some (.int 1 iw)))
  (bn:nsIn K mainGlobals "LEAST_PICK"=some (some (.int 2 ia)))
  (qp:nsIn K mainGlobals "PARTS"=some (some (.ref aP)))
  (qb:K.lookup aP=some ⟨.type "tuple",none,.seq #[.int 1 qh,.int 2 qc,.int 2 pd,.int 2 qk,.int 2 qj,.int 2 qi,.int 2 pe,.int 2 qt,.int 2 qd,.int 2 pj,.int 3 mz,.int 1 ny,.int 0 mq] rh,rj⟩)
  (mi:subIn K (.type "int") (.type "bool")=some false)
  (iu:isFn K (.ref f0)=true)
  (cf:isFn K (.ref f1)=true)
  (fw:isFn K (.ref f2)=true)
  (aw:isFn K (.ref f3)=true)
  (bc:isFn K (.ref uq)=true)
  (bw:isFn K (.ref ut)=true)
  (se:makesIn K aj=true)
  (yh:keepIn K (.ref aj)=true)
  (pg:plainGet K aj Str.empty=true)
  (hd:hasDictIn K aj=true)
  (po:plainOver K aj=true)
  (sa:findIn K (.ref aj) "__setattr__"=some (some (.builtin "object.__setattr__")))
  (ud:findIn K (.ref aj) "numbers"=some none)
  (lpl:findIn K (.ref aj) "place"=some none)
  (xN:K.lookup ac=some (excClassObj nmN qN ac NN xa (.ref iy::Do) true wb tw abN ui vb k0N xy xp k3N xr "ValueError.__new__"))
  (xC:K.lookup iy=some ⟨ccC,wf,.cls ⟨zk,bsC,tf,uc,qC,hdC,snC,ug,yy,ub,ue⟩,ve⟩)
  (xD:K.lookup uc=some ⟨vn,wr,.dict ur nD,slD⟩)
  (xF:nsIn K uc "__init__"=some none)
  (yj:keepIn K (.ref ac)=true)
  (zp:typeIn K (.ref f0)=some (.type "function"))
  (ua:mroIn K ac (.type "object")=some true)
  (sg:mroIn K ac (.type "BaseException")=some true)
  (zy:findIn K (.ref ac) "__setattr__"=some (some (.builtin "object.__setattr__")))
  (ye:findIn K (.ref ac) "__getattribute__"=some (some (.builtin "BaseException.__getattribute__")))
  (zj:findIn K (.ref ac) "__getattr__"=some none)
  (xpl:findIn K (.ref ac) "place"=some none)
  (yf:findIn K (.ref ac) "word"=some none)
  (yw:subIn K (.ref ac) (.ref ac)=some true)
  (wm:typeIn K (.ref ac)=some (.type "type"))
  (xm3:isClsIn K ac=true)
  (xm4:subIn K (.ref ac) (.type "BaseException")=some true)
  (xE:(ur.toList.all λe=>match e.key with| .str _ _=>true|_=>false)=true)
  (rq:nsIn K mainGlobals "all"=some none)
  (sr:nsIn K mainGlobals "max"=some none)
  (cq:nsIn K mainGlobals "enumerate"=some none)
  (ou:nsIn K mainGlobals "sorted"=some none)
  (uu:nsIn K mainGlobals "sum"=some none)
  (qy:nsIn K mainGlobals "ADD"=some (some (.int 8 sy)))
  (du:nsIn K mainGlobals "OP_PUSH"=some (some (.int 0 ng)))
  (gw:nsIn K mainGlobals "OP_GET"=some (some (.int 1 oz)))
  (gn:nsIn K mainGlobals "OP_SET"=some (some (.int 2 qg)))
  (eg:nsIn K mainGlobals "OP_DROP"=some (some (.int 3 mw)))
  (dv:nsIn K mainGlobals "OP_JUMP"=some (some (.int 4 mf)))
  (cj:nsIn K mainGlobals "OP_UNLESS"=some (some (.int 5 iz)))
  (fb:nsIn K mainGlobals "OP_CALL"=some (some (.int 6 nj)))
  (dn:nsIn K mainGlobals "OP_BACK"=some (some (.int 7 mv)))
  (fh:nsIn K mainGlobals "OP_FAIL"=some (some (.int 8 og)))
  (cn:nsIn K mainGlobals "OP_BREATH"=some (some (.int 9 jl)))
  (jr:nsIn K mainGlobals "OP_DO"=some (some (.int 10 rf)))
  (dy:nsIn K mainGlobals "OP_PICK"=some (some (.int 11 mm)))
  (il:nsIn K mainGlobals "HEAD_SIZE"=some (some (.int 3 jp)))
  (jg:nsIn K mainGlobals "ROW_SIZE"=some (some (.int 2 jz)))
  (sw:subIn K (.type "tuple") (.type "list")=some false)
  (rk:nsIn K mainGlobals "zip"=some none)
  (re:nsIn K mainGlobals "dict"=some none)
  (jn:nsIn K mainGlobals "reversed"=some none)
  (qz:nsIn K mainGlobals "repr"=some none)
  (fj:nsIn K mainGlobals "ValueError"=some none)
  (rg:nsIn K mainGlobals "SAME"=some (some (.int 14 sf)))
  (ij:nsIn K mainGlobals "LINE_SIZE"=some (some (.int 3 jm)))
  (ja:subIn K (.type "int") (.type "bool")=some false)
  (cz:subIn K (.type "int") (.type "list")=some false)
  (cr:subIn K (.type "int") (.type "tuple")=some false)
  (je:subIn K (.type "bool") (.type "int")=some true)
  (cu:subIn K (.type "bool") (.type "list")=some false)
  (bu:subIn K (.type "bool") (.type "tuple")=some false)
  (jw:subIn K (.type "str") (.type "int")=some false)
  (jd:subIn K (.type "str") (.type "bool")=some false)
  (dh:subIn K (.type "str") (.type "list")=some false)
  (cg:subIn K (.type "str") (.type "tuple")=some false)
  (de:subIn K (.type "NoneType") (.type "int")=some false)
  (cw:subIn K (.type "NoneType") (.type "bool")=some false)
  (aq:subIn K (.type "NoneType") (.type "list")=some false)
  (ap:subIn K (.type "NoneType") (.type "tuple")=some false)
  (jh:subIn K (.type "list") (.type "int")=some false)
  (ig:subIn K (.type "list") (.type "bool")=some false)
  (fk:subIn K (.type "list") (.type "tuple")=some false)
  (ir:subIn K (.type "tuple") (.type "int")=some false)
  (fu:subIn K (.type "tuple") (.type "bool")=some false)
  (bf:subIn K (.type "tuple") (.type "list")=some false)
  (ix:subIn K (.type "dict") (.type "int")=some false)
  (ii:subIn K (.type "dict") (.type "bool")=some false)
  (ci:subIn K (.type "dict") (.type "list")=some false)
  (bj:subIn K (.type "dict") (.type "tuple")=some false)
  (dq:typeIn K (.ref ae)=some (.type "type"))
  (ff:isClsIn K ae=true)
  (am:subIn K (.ref ae) (.ref ae)=some true)
  (kh:subIn K (.ref ac) (.ref ae)=some false)
  (ax:typeIn K (.ref ag)=some (.type "type"))
  (ay:isClsIn K ag=true)
  (di:subIn K (.ref ae) (.ref ag)=some true)
  (dj:subIn K (.ref ac) (.ref ag)=some true)
  (cy:typeIn K (.ref ac)=some (.type "type"))
  (dc:isClsIn K ac=true)
  (ji:subIn K (.ref ae) (.ref ac)=some false)
  (ai:subIn K (.ref ac) (.ref ac)=some true)
  (dz:typeIn K (.ref ar)=some (.type "type"))
  (dk:isClsIn K ar=true)
  (kx:subIn K (.ref ae) (.ref ar)=some false)
  (ke:subIn K (.ref ac) (.ref ar)=some false)
  (ip:typeIn K (.ref cc)=some (.type "type"))
  (ik:isClsIn K cc=true)
  (nk:subIn K (.ref ae) (.ref cc)=some false)
  (oy:subIn K (.ref ac) (.ref cc)=some false)
  (fg:typeIn K (.ref au)=some (.type "type"))
  (ee:isClsIn K au=true)
  (jv:subIn K (.ref ae) (.ref au)=some false)
  (kj:subIn K (.ref ac) (.ref au)=some false)
  (az:subIn K (.ref ag) (.type "BaseException")=some true)
  (xb:subIn K (.ref ae) (.type "ValueError")=some true)
  (yn:subIn K (.ref ac) (.type "ValueError")=some true)
  (uf:mroIn K ae (.type "object")=some true)
  (sj:mroIn K ae (.type "BaseException")=some true)
  (ysa:findIn K (.ref ae) "__setattr__"=some (some (.builtin "object.__setattr__")))
  (yga:findIn K (.ref ae) "__getattribute__"=some (some (.builtin "BaseException.__getattribute__")))
  (vx:findIn K (.ref ae) "__getattr__"=some none)
  (yha:findIn K (.ref ae) "__class__"=some (some (.builtin "object.__class__")))
  (zd:findIn K (.ref ac) "__class__"=some (some (.builtin "object.__class__")))
  (um:specialIn K (.builtin "object.__class__") "__get__"=some (some (.builtin "getset_descriptor.__get__")))
  (uj:takesIn K (.builtin "object.__class__")=some true)
  (yN:K.lookup ae=some (excClassObj nmY qY ae NY uz (.ref iy::Do) true xc su yg ss ddY k0Y zn k2Y k3Y wk "ValueError.__new__"))
  (yD:K.lookup NY=some ⟨xj,ddE,.dict ul nE,xm⟩)
  (yG:nsIn K NY "__init__"=some none)
  (fo:makesIn K af=true)
  (ju:keepIn K (.ref af)=true)
  (kq:plainGet K af Str.empty=true)
  (jx:hasDictIn K af=true)
  (jy:plainOver K af=true)
  (ku:findIn K (.ref af) "__setattr__"=some (some (.builtin "object.__setattr__")))
  (fq:findIn K (.ref af) "heads"=some none)
  (io:findIn K (.ref af) "rows"=some none)
  (gc:findIn K (.ref af) "paper"=some none)
  (yE:(ul.toList.all λe=>match e.key with| .str _ _=>true|_=>false)=true)
  (gq:makesIn K ah=true)
  (mj:keepIn K (.ref ah)=true)
  (lj:plainGet K ah Str.empty=true)
  (nh:hasDictIn K ah=true)
  (oi:plainOver K ah=true)
  (oh:findIn K (.ref ah) "__setattr__"=some (some (.builtin "object.__setattr__")))
  (jk:findIn K (.ref ah) "rows"=some none)
  (ie:findIn K (.ref ah) "leads"=some none)
  (iq:findIn K (.ref ah) "lines"=some none)
  (gz:findIn K (.ref ah) "right"=some none)
  : ∃fd:FuncData,(∀(s:Shared) (v:Value),BindsTo s fd ⟨[v],[]⟩ [("_law_script",v)])/\ ∀base:Heap,K.In base->base.Ns mainGlobals mg->Bb l.prog w K mg base (Fx l.prog w) 25 fa fd ["_law_script"] (OY K):=by
 obtain⟨a0,_,F0⟩:=d0;have b0:=F0.b3 "self" "place" "word" λ_ _ _ _ _ _ _ _ _=>rfl;obtain⟨a1,_,F1⟩:=d1;have b1:=F1.b2 "self" "numbers" λ_ _ _ _ _ _ _ _=>rfl;obtain⟨a2,_,F2⟩:=d2;have b2:=F2.b1 "self" λ_ _ _ _ _ _ _=>rfl;have k2:=F2.kp;obtain⟨a3,_,F3⟩:=d3;have b3:=F3.b3 "self" "least" "most" λ_ _ _ _ _ _ _ _ _=>rfl;have k3:=F3.kp;obtain⟨a4,_,F4⟩:=d4;have b4:=F4.b1 "thing" λ_ _ _ _ _ _ _=>rfl;have m4:=mg_of X G a4;have k4:=F4.kp;obtain⟨a5,_,F5⟩:=d5;have b5:=F5.b1 "look" λ_ _ _ _ _ _ _=>rfl;obtain⟨a6,_,F6⟩:=d6;have b6:=F6.b4 "look" "kind" "heads" "boxes" λ_ _ _ _ _ _ _ _ _ _=>rfl;obtain⟨a7,_,F7⟩:=d7;have b7:=F7.b1 "kind" λ_ _ _ _ _ _ _=>rfl;obtain⟨a8,_,F8⟩:=d8;have b8:=F8.b3 "kind" "numbers" "heads" λ_ _ _ _ _ _ _ _ _=>rfl;obtain⟨a9,_,F9⟩:=d9;have b9:=F9.b4 "look" "heads" "boxes" "deep" λ_ _ _ _ _ _ _ _ _ _=>rfl;have m9:=mg_of X G a9;have k9:=F9.kp;obtain⟨a10,_,F10⟩:=d10;have b10:=F10.b1 "sheet" λ_ _ _ _ _ _ _=>rfl;obtain⟨a11,_,F11⟩:=d11;have b11:=F11.b1 "numbers" λ_ _ _ _ _ _ _=>rfl;obtain⟨a12,_,F12⟩:=d12;have b12:=F12.b3 "head" "function" "many_rows" λ_ _ _ _ _ _ _ _ _=>rfl;obtain⟨a13,_,F13⟩:=zb;have b13:=F13.b1 "op" λ_ _ _ _ _ _ _=>rfl;obtain⟨a14,_,F14⟩:=ym;have b14:=F14.b3 "row" "many_functions" "many_rows" λ_ _ _ _ _ _ _ _ _=>rfl;obtain⟨a15,_,F15⟩:=ze;have b15:=F15.b2 "numbers" "size" λ_ _ _ _ _ _ _ _=>rfl;obtain⟨a16,_,F16⟩:=d16;have b16:=F16.b1 "numbers" λ_ _ _ _ _ _ _=>rfl;obtain⟨a17,_,F17⟩:=zc;have b17:=F17.b1 "numbers" λ_ _ _ _ _ _ _=>rfl;obtain⟨a18,_,F18⟩:=xu;have b18:=F18.b1 "thing" λ_ _ _ _ _ _ _=>rfl;obtain⟨a19,_,F19⟩:=xg;have b19:=F19.b1 "thing" λ_ _ _ _ _ _ _=>rfl;obtain⟨a20,_,F20⟩:=wa;have b20:=F20.b2 "things" "size" λ_ _ _ _ _ _ _ _=>rfl;obtain⟨a21,_,F21⟩:=vy;have b21:=F21.b2 "heads" "rows" λ_ _ _ _ _ _ _ _=>rfl;obtain⟨a22,_,F22⟩:=d22;have b22:=F22.b1 "self" λ_ _ _ _ _ _ _=>rfl;obtain⟨a23,_,F23⟩:=d23;have b23:=F23.b2 "making" "parts" λ_ _ _ _ _ _ _ _=>rfl;have m23:=mg_of X G a23;have k23:=F23.kp;obtain⟨a24,_,F24⟩:=d24;have b24:=F24.b2 "making" "parts" λ_ _ _ _ _ _ _ _=>rfl;have m24:=mg_of X G a24;have k24:=F24.kp;obtain⟨a25,_,F25⟩:=zx;have b25:=F25.b2 "making" "parts" λ_ _ _ _ _ _ _ _=>rfl;have m25:=mg_of X G a25;have k25:=F25.kp;obtain⟨a26,_,F26⟩:=yb;have b26:=F26.b2 "kind" "numbers" λ_ _ _ _ _ _ _ _=>rfl;obtain⟨a27,_,F27⟩:=za;have b27:=F27.b2 "making" "node" λ_ _ _ _ _ _ _ _=>rfl;have m27:=mg_of X G a27;have k27:=F27.kp;obtain⟨a28,_,F28⟩:=d28;have b28:=F28.b1 "program" λ_ _ _ _ _ _ _=>rfl;have m28:=mg_of X G a28;have k28:=F28.kp;obtain⟨a29,_,F29⟩:=d29;have b29:=F29.b1 "sheet" λ_ _ _ _ _ _ _=>rfl;have m29:=mg_of X G a29;have k29:=F29.kp;obtain⟨a30,_,F30⟩:=d30;have b30:=F30.b1 "sheet" λ_ _ _ _ _ _ _=>rfl;have m30:=mg_of X G a30;have k30:=F30.kp;obtain⟨a31,_,F31⟩:=d31;have b31:=F31.b1 "body" λ_ _ _ _ _ _ _=>rfl;obtain⟨a32,_,F32⟩:=d32;have b32:=F32.b1 "sheet" λ_ _ _ _ _ _ _=>rfl;obtain⟨a33,_,F33⟩:=d33;have b33:=F33.b1 "code" λ_ _ _ _ _ _ _=>rfl;obtain⟨a34,_,F34⟩:=d34;have b34:=F34.b1 "code" λ_ _ _ _ _ _ _=>rfl;obtain⟨a35,_,F35⟩:=ya;have b35:=F35.b3 "kind" "values" "rows" λ_ _ _ _ _ _ _ _ _=>rfl;have m35:=mg_of X G a35;have k35:=F35.kp;obtain⟨a36,_,F36⟩:=xt;have YU:=F36.b2 "value" "parts" λ_ _ _ _ _ _ _ _=>rfl;obtain⟨a37,_,F37⟩:=d37;have b37:=F37.b2 "rows" "at" λ_ _ _ _ _ _ _ _=>rfl;obtain⟨a38,_,F38⟩:=vz;have b38:=F38.b1 "node" λ_ _ _ _ _ _ _=>rfl;have m38:=mg_of X G a38;have k38:=F38.kp;obtain⟨a39,_,F39⟩:=xq;have b39:=F39.b3 "self" "rows" "paper" λ_ _ _ _ _ _ _ _ _=>rfl;obtain⟨a40,_,F40⟩:=wp;have b40:=F40.b2 "check" "node" λ_ _ _ _ _ _ _ _=>rfl;obtain⟨a41,_,F41⟩:=yu;have b41:=F41.b2 "check" "node" λ_ _ _ _ _ _ _ _=>rfl;obtain⟨a42,_,F42⟩:=zq;have b42:=F42.b2 "check" "at" λ_ _ _ _ _ _ _ _=>rfl;obtain⟨a43,_,F43⟩:=xx;have b43:=F43.b3 "check" "first" "second" λ_ _ _ _ _ _ _ _ _=>rfl;obtain⟨a44,_,F44⟩:=xn;have b44:=F44.b3 "check" "at" "row" λ_ _ _ _ _ _ _ _ _=>rfl;obtain⟨a45,_,F45⟩:=d45;have b45:=F45.b2 "check" "parts" λ_ _ _ _ _ _ _ _=>rfl;obtain⟨a46,_,F46⟩:=zm;have b46:=F46.b3 "check" "node" "part" λ_ _ _ _ _ _ _ _ _=>rfl;obtain⟨a47,_,F47⟩:=we;have b47:=F47.b3 "check" "node" "part" λ_ _ _ _ _ _ _ _ _=>rfl;obtain⟨a48,_,F48⟩:=vv;have b48:=F48.b2 "check" "node" λ_ _ _ _ _ _ _ _=>rfl;obtain⟨a49,_,F49⟩:=vw;have b49:=F49.b2 "check" "node" λ_ _ _ _ _ _ _ _=>rfl;obtain⟨a50,_,F50⟩:=vc;have b50:=F50.b2 "check" "node" λ_ _ _ _ _ _ _ _=>rfl;obtain⟨a51,_,F51⟩:=d51;have b51:=F51.b2 "check" "node" λ_ _ _ _ _ _ _ _=>rfl;obtain⟨a52,_,F52⟩:=d52;have b52:=F52.b2 "check" "at" λ_ _ _ _ _ _ _ _=>rfl;obtain⟨a53,_,F53⟩:=wc;have b53:=F53.b2 "check" "node" λ_ _ _ _ _ _ _ _=>rfl;obtain⟨a54,_,F54⟩:=d54;have b54:=F54.b2 "check" "node" λ_ _ _ _ _ _ _ _=>rfl;obtain⟨a55,_,F55⟩:=d55;have b55:=F55.b2 "check" "node" λ_ _ _ _ _ _ _ _=>rfl;obtain⟨a56,_,F56⟩:=yx;have b56:=F56.b2 "check" "node" λ_ _ _ _ _ _ _ _=>rfl;obtain⟨a57,_,F57⟩:=d57;have b57:=F57.b3 "check" "start" "body" λ_ _ _ _ _ _ _ _ _=>rfl;obtain⟨a58,_,F58⟩:=d58;have b58:=F58.b3 "line" "places" "many_rows" λ_ _ _ _ _ _ _ _ _=>rfl;obtain⟨a59,_,F59⟩:=zh;have b59:=F59.b3 "paper" "places" "many_rows" λ_ _ _ _ _ _ _ _ _=>rfl;obtain⟨a60,_,F60⟩:=xw;have b60:=F60.b2 "program" "heads" λ_ _ _ _ _ _ _ _=>rfl;obtain⟨a61,_,F61⟩:=d61;have b61:=F61.b3 "sheet" "code" "paper" λ_ _ _ _ _ _ _ _ _=>rfl;obtain⟨a62,_,F62⟩:=ux;have b62:=F62.b3 "sheet" "code" "breaths" λ_ _ _ _ _ _ _ _ _=>rfl;obtain⟨a63,_,F63⟩:=d63;have b63:=F63.b2 "_law_script" "_law_k" λ_ _ _ _ _ _ _ _=>rfl;obtain⟨a64,_,F64⟩:=zf;have b64:=F64.b2 "_law_state" "_law_most" λ_ _ _ _ _ _ _ _=>rfl;obtain⟨a65,_,F65⟩:=d65;have b65:=F65.b1 "_law_state" λ_ _ _ _ _ _ _=>rfl;obtain⟨a66,_,F66⟩:=yp;have b66:=F66.b3 "_law_state" "_law_paper" "_law_many" λ_ _ _ _ _ _ _ _ _=>rfl;obtain⟨a67,_,F67⟩:=d67;have b67:=F67.b1 "_law_e" λ_ _ _ _ _ _ _=>rfl;obtain⟨a68,_,F68⟩:=uy;have b68:=F68.b4 "_law_way" "_law_sheet_here" "_law_code" "_law_paper" λ_ _ _ _ _ _ _ _ _ _=>rfl;obtain⟨a69,_,F69⟩:=xv;have b69:=F69.b2 "_law_state" "_law_paper" λ_ _ _ _ _ _ _ _=>rfl;obtain⟨a70,_,F70⟩:=yc;have b70:=F70.b2 "_law_state" "_law_sheet_here" λ_ _ _ _ _ _ _ _=>rfl;obtain⟨a71,_,F71⟩:=zv;have e:=hfa.symm.trans (mg_of X G a71);cases e;refine⟨_,F71.law "_law_script" λ_ _ _ _ _ _ _=>rfl,λbase _ _=>?_⟩;have cl: ∀{x q g:Str} {st:Stmt} {f:Addr} {fd:FuncData} {k:Nat} {ps:List Str} {sp:Sp},nsIn K mainGlobals g=some (some (.ref f))->wE K x q st f fd->An K fd ps []->Bb l.prog w K mg base (Fx l.prog w) k f fd ps sp->QK l.prog w K mg base (Fx l.prog w) k g ps sp:=λa F b o=>Cl X G a F b o;have TN:HR K mg aP aj ac:=by
  refine⟨xX X G ma,xX X G sk,xX X G fv,xX X G bg,xX X G qu,xX X G ky,xX X G md,xX X G jt,⟨_,mg_of X G bo⟩,⟨_,mg_of X G qw⟩,⟨_,mg_of X G qx⟩,⟨_,mg_of X G mn⟩,⟨_,mg_of X G jj⟩,⟨_,mg_of X G jf⟩,⟨_,mg_of X G om⟩,⟨_,mg_of X G jc⟩,⟨_,mg_of X G qv⟩,⟨_,mg_of X G ao⟩,⟨_,mg_of X G bb⟩,⟨_,mg_of X G bt⟩,⟨_,mg_of X G im⟩,⟨_,mg_of X G cm⟩,⟨_,mg_of X G gu⟩,⟨_,mg_of X G bn⟩,mg_of X G qp,mg_of X G ce,?_,vQ,jV mi,vQ,vQ,⟨pg,hd,po,sa⟩,ud,lpl,⟨Xh xN,ua,sg,zy,ye,zj⟩,xpl,yf,⟨yw,wm,xm3,xm4⟩⟩;exact zAa qb sm13 (.cons ⟨_,rfl⟩ (.cons ⟨_,rfl⟩ (.cons ⟨_,rfl⟩ (.cons ⟨_,rfl⟩ (.cons ⟨_,rfl⟩ (.cons ⟨_,rfl⟩ (.cons ⟨_,rfl⟩ (.cons ⟨_,rfl⟩ (.cons ⟨_,rfl⟩ (.cons ⟨_,rfl⟩ (.cons ⟨_,rfl⟩ (.cons ⟨_,rfl⟩ (.cons ⟨_,rfl⟩ (.nil))))))))))))))
 have T0:Km K mg:=⟨xX X G ma,xX X G fv,xX X G rq,xX X G sr,xX X G cq,xX X G bg,xX X G qu,xX X G ky,xX X G jt,xX X G md,⟨_,mg_of X G qy⟩,⟨_,mg_of X G qv⟩,⟨_,mg_of X G ao⟩,⟨_,mg_of X G bb⟩,⟨_,mg_of X G bt⟩,⟨_,mg_of X G cm⟩,⟨_,mg_of X G bn⟩,⟨_,mg_of X G du⟩,⟨_,mg_of X G gw⟩,⟨_,mg_of X G gn⟩,⟨_,mg_of X G eg⟩,⟨_,mg_of X G dv⟩,⟨_,mg_of X G cj⟩,⟨_,mg_of X G fb⟩,⟨_,mg_of X G dn⟩,⟨_,mg_of X G fh⟩,⟨_,mg_of X G cn⟩,⟨_,mg_of X G jr⟩,⟨_,mg_of X G dy⟩,⟨_,mg_of X G il⟩,⟨_,mg_of X G jg⟩,vQ,jV mi,vQ,LI vQ,Ql (jV sw) vQ,vQ⟩;have TK:JT K mg af:=⟨xX X G ma,xX X G fv,xX X G cq,xX X G ou,⟨_,mg_of X G bo⟩,⟨_,mg_of X G qw⟩,⟨_,mg_of X G qx⟩,⟨_,mg_of X G mn⟩,⟨_,mg_of X G jj⟩,⟨_,mg_of X G jf⟩,⟨_,mg_of X G om⟩,⟨_,mg_of X G jc⟩,⟨_,mg_of X G du⟩,⟨_,mg_of X G gw⟩,⟨_,mg_of X G gn⟩,⟨_,mg_of X G eg⟩,⟨_,mg_of X G dv⟩,⟨_,mg_of X G cj⟩,⟨_,mg_of X G fb⟩,⟨_,mg_of X G dn⟩,⟨_,mg_of X G fh⟩,⟨_,mg_of X G cn⟩,⟨_,mg_of X G jr⟩,⟨_,mg_of X G dy⟩,⟨kq,jx,jy,ku⟩,fq,io,gc⟩;have TO:Zb K:=⟨WC vQ (jV je) (jV jw) (jV de) (jV jh) (jV ir) (jV ix),WC (jV ja) vQ (jV jd) (jV cw) (jV ig) (jV fu) (jV ii),WC (jV cz) (jV cu) (jV dh) (jV aq) vQ (jV bf) (jV ci),WC (Jf (jV cz) (jV cr)) (Jf (jV cu) (jV bu)) (Jf (jV dh) (jV cg)) (Jf (jV aq) (jV ap)) (LI vQ) (Ql (jV bf) vQ) (Jf (jV ci) (jV bj))⟩;have TT:zEz K:=⟨WC (jV cr) (jV bu) (jV cg) (jV ap) (jV fk) vQ (jV bj)⟩;have TE:zCd K mg ae:=⟨YT yN xC rfl xD xE xF yD yE yG,mg_of X G gj⟩;have TX:Xw K mg ac ar cc au ae ag:=⟨T0,xX X G fj,xX X G qz,mg_of X G ce,mg_of X G mh,mg_of X G qm,mg_of X G oj,mg_of X G gj,mg_of X G fm,⟨Xh yN,uf,sj,ysa,yga,vx⟩,⟨yha,um,uj⟩,⟨di,ax,ay,az⟩,Dl ji cy dc am,Dl kx dz dk am,Dl nk ip ik am,Dl jv fg ee am,Dl am dq ff am,jV xb rfl,TN.exc,⟨zd,um,uj⟩,⟨dj,ax,ay,az⟩,Dl ai cy dc ai,Dl ke dz dk ai,Dl oy ip ik ai,Dl kj fg ee ai,Dl kh dq ff ai,jV yn rfl,TN.xplace,TN.xword⟩;have TP:DM K mg ah:=⟨T0,xX X G rk,xX X G re,xX X G jn,⟨_,mg_of X G ij⟩,⟨_,mg_of X G bo⟩,⟨_,mg_of X G mn⟩,⟨_,mg_of X G jj⟩,⟨_,mg_of X G jf⟩,⟨_,mg_of X G jc⟩,⟨lj,nh,oi,oh⟩,jk,ie,iq,gz⟩;have TF:zCc K mg:=⟨⟨_,mg_of X G bo⟩,⟨_,mg_of X G qy⟩,⟨_,mg_of X G rg⟩⟩;have X0:Sm l.prog w K mg base 1 "NoSheet" ac _ _:=⟨⟨_,_,Sg.ofValue ⟨_,_,_,_,_,_,_,_,_,_,_,_,_,_,_,_,xN,Qw xC rfl (SQ xD xE) xF⟩ a0 zp yj TN.exc,Wm TN F0,mg_of X G ce,b0⟩⟩;have K1:QJ l.prog w K mg base (Fx l.prog w) 1 "Look" aj _ _:=⟨⟨_,_,⟨se,a1,cf,yh⟩,Wo TN F1,mg_of X G rc,b1⟩⟩;have C4:=cl a4 F4 b4 (We TN F4);have M2:MB l.prog w K mg base (Fx l.prog w) 3 aj "take" _ _:=⟨⟨_,_,zDx TN F2 C4 X0,TN.look,⟨a2,fw,k2⟩,b2⟩⟩;have M3:MB l.prog w K mg base (Fx l.prog w) 4 aj "take_within" _ _:=⟨⟨_,_,Uc TN F3 M2 X0,TN.look,⟨a3,aw,k3⟩,b3⟩⟩;have C5:=cl a5 F5 b5 (Wq TN F5 M3);have C6:=cl a6 F6 b6 (zBb TN F6 M2 M3);have C7:=cl a7 F7 b7 (Wf TN F7);have C8:=cl a8 F8 b8 (zBd TN F8 C7);have N9:=Wg TN F9 X0 M3 C6 C8 m9 k9 b9;have C9:QK l.prog w K mg base (Fx l.prog w) 16 "take_node" _ (Jw aj ac 10):=⟨⟨_,_,N9 10 (zP _),m9,k9,b9⟩⟩;have C10:=cl a10 F10 b10 (zBc TN F10 X0 K1 C5 C9);have C11:=cl a11 F11 b11 (Wd TN F11 C10);have CWC:QK l.prog w K mg base (Fx l.prog w) 1 "is_whole" _ _:=⟨⟨_,_,Ud T0 TO F4,m4,k4,b4⟩⟩;have C12:=cl a12 F12 b12 (Rq T0 F12);have C13:=cl a13 F13 b13 (Wt T0 F13);have C14:=cl a14 F14 b14 (Ui T0 F14 C13);have C15:=cl a15 F15 b15 (Rs T0 F15);have C16:=cl a16 F16 b16 (PR T0 F16 C15);have C17:=cl a17 F17 b17 (Rm T0 F17 C15);have C18:=cl a18 F18 b18 (Rk T0 TO F18 CWC);have C19:=cl a19 F19 b19 (PP T0 F19 C18 C16 C17 C12 C14);have C20:=cl a20 F20 b20 (Uh T0 F20);have C21:=cl a21 F21 b21 (Rt T0 F21 C20 (QK.imp C19 My));have D22:QJ l.prog w K mg base (Fx l.prog w) 1 "Making" af _ _:=⟨⟨_,_,⟨fo,a22,bc,ju⟩,Wn TK F22,mg_of X G oq,b22⟩⟩;have C26:=cl a26 F26 b26 (Rn TK F26);have C28: ∀hs,QK l.prog w K mg base (Fx l.prog w) 22 "making_of" _ (Bp af hs):=λhs=>⟨⟨_,_,Ox TK F28 D22 (PJ (hs:=hs) TK F27 F23 F24 F25 C26 (λo=>⟨⟨_,_,o,m27,k27,b27⟩⟩) (λo=>⟨⟨_,_,o,m23,k23,b23⟩⟩) (λo=>⟨⟨_,_,o,m24,k24,b24⟩⟩) (λo=>⟨⟨_,_,o,m25,k25,b25⟩⟩) 10),m28,k28,b28⟩⟩;have C29:=cl a29 F29 b29 (Yr TK F29 C10 C28 C21);have C30:=cl a30 F30 b30 (Mu TK F30 C10 C28);have E29:QK l.prog w K mg base (Fx l.prog w) 23 "made" _ (Jx ac):=⟨⟨_,_,Wi TK F29 C10 C28 C21,m29,k29,b29⟩⟩;have E30:QK l.prog w K mg base (Fx l.prog w) 23 "made_paper" _ (Jx ac):=⟨⟨_,_,Lw TK F30 C10 C28,m30,k30,b30⟩⟩;have C31:=cl a31 F31 b31 (PD TN TP.n_reversed F31);have C32:=cl a32 F32 b32 (Ug TN F32 C10 C31);have C33:=cl a33 F33 b33 (OC T0 TE F33 C19 C16);have C34:=cl a34 F34 b34 (Py T0 TE F34 C19 C17);have C35:QK l.prog w K mg base (Fx l.prog w) 3 "worth" _ NL:=⟨⟨_,_,Tf (λ_ _ _ _ z=>z),m35,k35,b35⟩⟩;have A38: ∀d,QK l.prog w K mg base (Fx l.prog w) (3+d) "fixed" _ (Gg d):=λd=>⟨⟨_,_,Uj TF F38 C35 m38 k38 b38 d,m38,k38,b38⟩⟩;have C36:=cl a36 F36 YU (Uf TP F36);have C37:=cl a37 F37 b37 (Wh T0 F37);have D39:QJ l.prog w K mg base (Fx l.prog w) 2 "Check" ah _ _:=⟨⟨_,_,⟨gq,a39,bw,mj⟩,Wp TP F39 C37,mg_of X G qo,b39⟩⟩;have C40:=cl a40 F40 b40 (PU TP F40);have C41:=cl a41 F41 b41 (Ul TP F41);have C42:=cl a42 F42 b42 (Ou TP F42);have C43:=cl a43 F43 b43 (Yq TP F43 C42);have C44:=cl a44 F44 b44 (Uo TP F44 C42);have C45:=cl a45 F45 b45 (OD TP F45);have C46:=cl a46 F46 b46 (Ks TP F46 C40 C43);have C47:=cl a47 F47 b47 (Mv TP F47 C41 C43);have C48:=cl a48 F48 b48 (OA 10 TP F48 (A38 10) C40 C41 C44 C43);have C49:=cl a49 F49 b49 (Ov TP F49 C40 C41 C44 C43 C46 C47);have C50:=cl a50 F50 b50 (Mp TP F50 C40 C41 C44 C43 C46 C47);have C51:=cl a51 F51 b51 (Wu 9 TP F51 (A38 9) C36 C46 C47);have C52:=cl a52 F52 b52 (Ys TP F52 C42);have C53:=cl a53 F53 b53 (Mq TP F53 C40 C41 C44 C43 C52);have C54:=cl a54 F54 b54 (Mr TP F54 C40 C41 C43);have C55:=cl a55 F55 b55 (Um TP F55 C54 C26 C44 C41 C43);have C56:=cl a56 F56 b56 (PM 9 TP F56 C48 C51 C45 C49 C50 C53 C55);have C57:=cl a57 F57 b57 (Pz TP F57 C40 C41 C44 C43);have C58:=cl a58 F58 b58 (PN TP TT F58 CWC);have C59:=cl a59 F59 b59 (OB TP TO F59 C58);have C60:=cl a60 F60 b60 (Mo TP F60);have C61:=cl a61 F61 b61 (Wj TP F61 C10 C33 C34 C32 C60 C59 D39 C56 C57);have C62:=cl a62 F62 b62 (Uk T0 F62 C10 (Ml C34));have C63:=cl a63 F63 b63 (Yt T0 F63);have C64:=cl a64 F64 b64 (Yp T0 F64 C63);have C65:=cl a65 F65 b65 (Rl T0 F65 C64);have C66:=cl a66 F66 b66 (PH TX F66 C64);have C67:=cl a67 F67 b67 (Ws TX F67);have C68:=cl a68 F68 b68 (Ow TX F68 C61 E29 E30 C67);have C69:=cl a69 F69 b69 (Ue T0 F69 C64);have C70:=cl a70 F70 b70 (PF T0 F70 C64 C11);exact Wl TX F71 C64 C65 C29 C30 C61 C69 C62 C66 C70 C11 C68
theorem walk {l:PySem.W.OpenLaw}{q:Program}{loose:List Str}{XP:(Str->Option Value)->Heap->Prop}{YP:World->Heap->Prop}{d:DefRec}{K:Params->PySem.W.Frag}(hn:l.most=some 63)(hdf:d.params.defaults=[])
  (hY: ∀(w:World) (h:Heap),YP w h->(K w.params).In h)
  (F: ∀(w:World) (mg:Str->Option Value) (fa:Addr) (h:Heap),(K w.params).In h->h.Ns mainGlobals mg->mg d.name=some (.ref fa)->
   ∃fd:FuncData,(∀(s:Shared) (u:Value),BindsTo s fd ⟨[u],[]⟩ [("_law_script",u)])/\ ∀base:Heap,(K w.params).In base->base.Ns mainGlobals mg->Bb l.prog w (K w.params) mg base (Fx l.prog w) 25 fa fd ["_law_script"] (OY (K w.params))):
  PySem.W.WalkO q loose XP YP l.row.toRowW d [] (λf vs=>PySem.call f vs):=
 L2.walk_of (n:=63) (k:=25) (x:="_law_script") (CX:=λw=>(Fx l.prog w)) (sp:=λw=>OY (K w.params)) hn (by decide) hdf ⟨rfl,by decide,by decide,rfl⟩ hY F (λ_ _ a ns hl hO hS=>⟨a,ns,rfl,Va.of hO hS,hl,λ_=>rfl⟩) (λ_ _ _ _ _=>QD)
end OcL
namespace OcP
open PySem
set_option compiler.extract_closed false
def n:List Stmt->Nat->Stmt
 |a::_,0=>a
 |_::t,k+1=>n t k
 |_,_=>.Pass ⟨0,0,0,0⟩
def N:=n PySem.Challenge.pw_ownchain_k36_what_is_no_paper.main.body
def s0:=N 0
def s1:=N 1
def s2:=N 2
def s3:=N 3
def s4:=N 4
def s5:=N 5
def s6:=N 6
def s7:=N 7
def s8:=N 8
def s9:=N 9
def s10:=N 10
def s11:=N 11
def s12:=N 12
def XT:=N 13
def s14:=N 14
def s15:=N 15
def s16:=N 16
def s17:=N 17
def s18:=N 18
def s19:=N 19
def s20:=N 20
def s21:=N 21
def s22:=N 22
def s23:=N 23
def s24:=N 24
def s25:=N 25
def s26:=N 26
def s27:=N 27
def s28:=N 28
def s29:=N 29
def s30:=N 30
def s31:=N 31
def s32:=N 32
def s33:=N 33
def s34:=N 34
def s35:=N 35
def s36:=N 36
def s37:=N 37
def s38:=N 38
def s39:=N 39
def s40:=N 40
def s41:=N 41
def s42:=N 42
def s43:=N 43
def s44:=N 44
def s45:=N 45
def s46:=N 46
def s47:=N 47
def s48:=N 48
def s49:=N 49
def s50:=N 50
def s51:=N 51
def s52:=N 52
def s53:=N 53
def s54:=N 54
def s55:=N 55
def s56:=N 56
def s57:=N 57
def s58:=N 58
def s59:=N 59
def s60:=N 60
def s61:=N 61
def s62:=N 62
def s63:=N 63
def s64:=N 64
def s65:=N 65
def s66:=N 66
def s67:=N 67
def s68:=N 68
def s69:=N 69
def s70:=N 70
def s71:=N 71
def s72:=N 72
def s73:=N 73
def s74:=N 74
def s75:=N 75
def s76:=N 76
def s77:=N 77
def s78:=N 78
def s79:=N 79
def s80:=N 80
def s81:=N 81
def s82:=N 82
def s83:=N 83
def s84:=N 84
def s85:=N 85
def s86:=N 86
def s87:=N 87
def s88:=N 88
def s89:=N 89
def s90:=N 90
def s91:=N 91
def s92:=N 92
def s93:=N 93
def s94:=N 94
def s95:=N 95
def s96:=N 96
def s97:=N 97
def s98:=N 98
def s99:=N 99
def zHh:=N 100
def zHg:=N 101
def zHf:=N 102
def zHe:=N 103
def zHd:=N 104
def zHc:=N 105
def zHb:=N 106
def zHa:=N 107
def zGz:=N 108
def zGy:=N 109
def zGx:=N 110
def zGw:=N 111
def zGv:=N 112
def zGu:=N 113
def zGt:=N 114
def zGs:=N 115
def zGr:=N 116
def zGq:=N 117
def zGp:=N 118
def zGo:=N 119
def zGn:=N 120
def zGm:=N 121
def zGl:=N 122
def zGk:=N 123
def zGj:=N 124
def zGi:=N 125
def zGh:=N 126
def zGg:=N 127
def zGf:=N 128
def sc:=PySem.Challenge.pw_ownchain_k36_what_is_no_paper.main.scope
def gi:Given:={argv:=[],stdin:=[],environ:=(some [([76,67,95,65,76,76],[67,46,85,84,70,45,56])]):PySem.Given}
def fi:Str:="/claim/cut.py"
def pw:Program:={main:={body:=[s0,s1,s2,s3,s4,s5,s6,s7,s8,s9,s10,s11,s12,XT,s14,s15,s16,s17,s18,s19,s20,s21,s22,s23,s24,s25,s26,s27,s28,s29,s30,s31,s32,s33,s34,s35,s36,s37,s38,s39,s40,s41,s42,s43,s44,s45,s46,s47,s48,s49,s50,s51,s52,s53,s54,s55,s56,s57,s58,s59,s60,s61,s62,s63,s64,s65,s66,s67,s68,s69,s70,s71,s72,s73,s74,s75,s76,s77,s78,s79,s80,s81,s82,s83,s84,s85,s86,s87,s88,s89,s90,s91,s92,s93,s94,s95,s96,s97,s98,s99,zHh,zHg,zHf,zHe,zHd,zHc,zHb,zHa,zGz,zGy,zGx,zGw,zGv,zGu,zGt,zGs,zGr,zGq,zGp,zGo,zGn,zGm,zGl,zGk,zGj,zGi,zGh,zGg,zGf],scope:=sc,futureAnnotations:=false,file:=fi,more:=[]},modules:=[],parses:=[],absent:=[],harvested:=[],given:=gi}
def rw:PySem.W.OpenLaw:={prog:=pw,name:=(PySem.Str.ofString "law"),about:=[(PySem.Str.ofString "lets_by")],foot:=9,most:=some 63,bound:=none,writes:=false}
theorem rw_eq:PySem.Challenge.rw_ownchain_k36_what_is_no_paper=rw:=rfl
end OcP
namespace PySem.W.Fast
 def tw1381361130303806712:=() def tw1477010982792518379:=() def tw16926277099402976105:=() def tw13582950796877911779:=() def tw17715655395367633161:=() def tw1126794524676371629:=() def tw5942506069952695105:=() def tw13293422511709879676:=()
 def tw8693923509089662504:=() def tw1687753408925526667:=() def tw9153260070362774875:=() def tw2734730881366411551:=() def tw17790241355501432544:=() def tw17930673862410257061:=() def tw5895442918945170059:=() def tw14087947941817977316:=()
 def tw4931158221747718558:=() def tw18349202164301110789:=() def tw6351587677547539986:=() def tw941064051419119447:=() def tw14400855764152083846:=() def tw10510971992123096098:=() def tw1156245227937828461:=() def tw393692286686100061:=()
 def tw11582488725073441827:=() def tw10081395894470746958:=() def tw11291894017647252344:=() def tw7242514682800966993:=() def tw2845240320738991603:=() def tw8612789570701174936:=() def tw16797665329567307452:=() def tw13024333145075034958:=()
 def tw1518839334110055661:=() def tw5997150204523976322:=() def tw15048813295244256065:=() def tw10106451167365089141:=() def tw16474087776068431005:=() def tw548424727237471277:=() def tw10727749280083591927:=() def tw15505122140699215337:=()
 def tw13535742248155250520:=() def tw2014043621953705810:=() def tw1156180858858898206:=() def tw11037400946266798073:=() def tw13020786665704480014:=() def tw260722754375611291:=() def tw6664751325705672971:=() def tw18259995477452173165:=()
 def tw2766558426931377450:=() def tw1002746868510572553:=() def tw15580855130277592748:=() def tw852037336619341235:=() def tw11168140063430895088:=() def tw16639152662835418838:=() def tw2007439295450819292:=() def tw8550047115882186710:=()
 def tw2391447178146312793:=() def tw5089516292306187034:=() def tw17104694774644297271:=() def tw16345748678686571220:=() def tw18063373245289306592:=() def tw13902577338825658351:=() def tw6997858075303832095:=() def tw714416255116550491:=()
 def tw14641998567740259863:=() def tw3125513257251319750:=() def tw3117871998895728286:=() def tw6012004963777689159:=() def tw7952492430245571012:=() def tw1022334513392875111:=() def tw13937795938757197486:=() def tw2657156389486337372:=()
 def tw7210121291584614556:=() def tw13310579082781715905:=() def tw6241442944019765590:=() def tw9375120107290318584:=() def tw2242734017719537756:=() def tw14318031123047590181:=() def tw7030675386341481916:=() def tw8110986372536441738:=()
 def tw11825364108733997577:=() def tw13104274169726999331:=() def tw1272550674533648856:=() def tw4958186263096655512:=() def tw10156625850895089129:=() def tw11475536146314129457:=() def tw17374810478743325231:=() def tw9320981525550259925:=()
 def tw10863345553613160723:=() def tw1908506517027438956:=() def tw12232400795344311702:=() def tw9299422255005702432:=() def tw7343549022074783955:=() def tw14434333569489650126:=() def tw12817491510697603116:=() def tw9335604760958057252:=()
 def tw10268516677364266062:=() def tw13024844994192050321:=() def tw6614561537708405407:=() def tw15069403779964943188:=() def tw13011529951081763434:=() def tw5722174858843147270:=() def tw2958049493301850630:=() def tw5048317794712474307:=()
 def tw1684017964691752891:=() def tw18285503662070837036:=() def tw17377024029631806294:=() def tw8139160381472076952:=() def tw14460960239809847668:=() def tw3108834470486219807:=() def tw14426034168748106728:=() def tw798867339924353410:=()
 def tw5859094119328221568:=() def tw6249280903506173933:=() def tw2008077606679099705:=() def tw7397068078598608488:=() def tw18321308955369548275:=() def tw16314496607382830436:=() def tw15238577480986691106:=() def tw2771157404087105528:=()
 def tw1073240317796159889:=() def tw18042757956836279544:=() def tw2876571474834914791:=() def tw11126971167678981147:=() def tw5877886898497441845:=() def tw12501631992144177096:=() def tw17057408027632703015:=() def tw15628302267836815601:=()
 def tw6759870168570029933:=() def tw7114970397254189264:=() def tw17335936608354416123:=() def tw2469936070149013418:=() def tw1770476084522475187:=() def tw13101992451718936539:=() def tw10680298793457558771:=() def tw10869852581640191899:=()
 def tw12649773321123257525:=() def tw3602324130222866481:=() def tw12914957867987366412:=() def tw6325572851264466465:=() def tw18065412709776289446:=() def tw7931805588986335489:=() def tw7275474062278593048:=() def tw2150385133239612774:=()
 def tw9900098449935699096:=() def tw7255935333572125156:=() def tw15689579867858148008:=() def tw13604114895233148576:=() def tw15684491721285176886:=() def tw16898575643901489348:=() def tw5276946772212823312:=() def tw15019481507866493469:=()
 def tw12778644770312175344:=() def tw18288963393156514214:=() def tw10963108822170561984:=() def tw7610854084225336514:=() def tw5913872588180981525:=() def tw10119170463342649058:=() def tw14458419075074404735:=() def tw4097457843401330211:=()
 def tw979876013822131614:=() def tw5074286451068567727:=() def tw8016440362329485116:=() def tw13531763839044807662:=() def tw8838725598455538055:=() def tw167002465520454858:=() def tw3217523409658654344:=() def tw7811268734686059940:=()
 def tw7587177240796230723:=() def tw13716469452454409625:=() def tw3694880963893387080:=() def tw22343431530890214:=() def tw13472827417167279671:=() def tw5699881579258794707:=() def tw17661871145562813077:=() def tw3207504146500744219:=()
 def tw7947995629532790188:=() def tw13823084824080093250:=() def tw307684941167380873:=() def tw4362616750859381179:=() def tw14487873159941957646:=() def tw1789202407016725482:=() def tw12950683009736317599:=() def tw4795833407995955629:=()
 def tw8198905923576950223:=() def tw10573494994639592286:=() def tw12613555177203876780:=() def tw7591887306788179400:=() def tw10699591374041092359:=() def tw5373104812218471648:=() def tw16124588781742343543:=() def tw7394187303795649411:=()
 def tw8938664088649764818:=() def tw431583207479828404:=() def tw6298109588945291988:=() def tw4817396365497014061:=() def tw1379629193062550161:=() def tw14410200040339332790:=() def tw8241761956255143629:=() def tw14807837091996695555:=()
 def tw827073085585923273:=() def tw188906701971195776:=() def tw4523803958113910725:=() def tw6129263088097462916:=() def tw15306529792493165445:=() def tw5188847172280509138:=() def tw8706538219687182064:=() def tw5864688652435778249:=()
 def tw11149566270254286674:=() def tw405064793688333310:=() def tw1360264353544724671:=() def tw5527589919145697573:=() def tw6774480564903332525:=() def tw2893214420421598912:=() def tw5327144581037454520:=() def tw10083743227629301881:=()
 def tw1705210187714156092:=() def tw9886987818177526414:=() def tw12654228769116120279:=() def tw14882856609428192216:=() def tw11890122652366994286:=() def tw8192301426235765311:=() def tw8642191509059828560:=() def tw14123321042279740946:=()
 def tw11692344337987613142:=() def tw18335732135974466548:=() def tw2495018105206313423:=() def tw16499607159120338606:=() def tw17888996064238946250:=() def tw5859697806654022248:=() def tw2218154712357436203:=() def tw16988389347589620806:=()
 def tw9872831963253786293:=() def tw15893546224470162012:=() def tw7538503674580443408:=() def tw6846589481268501456:=() def tw11613022022818861967:=() def tw7639120483141145004:=() def tw15929975674477002517:=() def tw8048648596959535103:=()
 def tw15669069478286735178:=() def tw17616871593971828995:=() def tw11593292692150807136:=() def tw134404539668503958:=() def tw5300355251976049518:=() def tw12597699933546057960:=() def tw15410463522696273972:=() def tw10580737373147729876:=()
 def tw6447185377040003918:=() def tw10762840897089462043:=() def tw2668794434249093477:=() def tw2602534447036155818:=() def tw879559110003080549:=() def tw4036993033381201656:=() def tw3962588130212026464:=() def tw14637232355639092442:=()
 def tw13563451132500016663:=() def tw10832357214433567869:=() def tw7865140235281937593:=() def tw5787077896874924209:=() def tw17037279073832968024:=() def tw8278435534392430799:=() def tw16372830166356808953:=() def tw16699723562328545347:=()
 def tw1430531135195920810:=() def tw1766936681066860026:=() def tw12586582801410001716:=() def tw1170913656369566334:=() def tw17641704484069074488:=() def tw15953825256766092555:=()
end PySem.W.Fast
open PySem PySem.W PyProof.Rows
set_option maxRecDepth 100000 in
set_option maxHeartbeats 0 in
theorem PySem.Challenge.cw_ownchain_k36_what_is_no_paper_holds : PySem.Challenge.rw_ownchain_k36_what_is_no_paper.Holds := by
 rw[OcP.rw_eq]
 w_on;o_law;z_head;(case hw=>w_witness2)
 k_fill
 refine L2.walkX_of (λP=>rfl) ?_;refine OcL.walk (l:=OcP.rw) rfl rfl (λw h Y=>Y) ?F
 case F=>
  intro w mg fa h KX G hmg
  refine' OcL.all_mk KX G hmg ?_ ?_ ?_ ?_ ?_ ?_ ?_ ?_ ?_ ?_ ?_ ?_ ?_ ?_ ?_ ?_ ?_ ?_ ?_ ?_ ?_ ?_ ?_ ?_ ?_ ?_ ?_ ?_ ?_ ?_ ?_ ?_ ?_ ?_ ?_ ?_ ?_ ?_ ?_ ?_ ?_ ?_ ?_ ?_ ?_ ?_ ?_ ?_ ?_ ?_ ?_ ?_ ?_ ?_ ?_ ?_ ?_ ?_ ?_ ?_ ?_ ?_ ?_ ?_ ?_ ?_ ?_ ?_ ?_ ?_ ?_ ?_ ?_ ?_ ?_ ?_ ?_ ?_ ?_ ?_ ?_ ?_ ?_ ?_ ?_ ?_ ?_ ?_ ?_ ?_ ?_ ?_ ?_ ?_ ?_ ?_ ?_ ?_ ?_ ?_ ?_ ?_ ?_ ?_ ?_ ?_ ?_ ?_ ?_ ?_ ?_ ?_ ?_ ?_ ?_ ?_ ?_ ?_ ?_ ?_ ?_ ?_ ?_ ?_ ?_ ?_ ?_ ?_ ?_ ?_ ?_ ?_ ?_ ?_ ?_ ?_ ?_ ?_ ?_ ?_ ?_ ?_ ?_ ?_ ?_ ?_ ?_ ?_ ?_ ?_ ?_ ?_ ?_ ?_ ?_ ?_ ?_ ?_ ?_ ?_ ?_ ?_ ?_ ?_ ?_ ?_ ?_ ?_ ?_ ?_ ?_ ?_ ?_ ?_ ?_ ?_ ?_ ?_ ?_ ?_ ?_ ?_ ?_ ?_ ?_ ?_ ?_ ?_ ?_ ?_ ?_ ?_ ?_ ?_ ?_ ?_ ?_ ?_ ?_ ?_ ?_ ?_ ?_ ?_ ?_ ?_ ?_ ?_ ?_ ?_ ?_ ?_ ?_ ?_ ?_ ?_ ?_ ?_ ?_ ?_ ?_ ?_ ?_ ?_ ?_ ?_ ?_ ?_ ?_ ?_ ?_ ?_ ?_ ?_ ?_ ?_ ?_ ?_ ?_ ?_ ?_ ?_ ?_ ?_ ?_ ?_ ?_ ?_ ?_ ?_ ?_
  all_goals first|k_is|rfl|(refine' L2.dg_mk ?a ?b ?c ?d;(case a=>k_is);(case b=>k_is);(case c=>k_is);(case d=>k_is))|(refine' L2.dm_mk ?a ?b ?c ?d;(case a=>k_is);(case b=>k_is);(case c=>k_is);(case d=>k_is))|skip
