import PyProof.Rows.All
import PyProof.DictList
import PyProof.AttrMissHeap
import PyProof.ZipIter
import PyProof.TupleIter
import PyProof.Draws
import PyProof.Rows.TupAdd
import PyProof.Rows.SortRunsK
import KE.KSortTup
import PyProof.SumAny
import PyProof.AutoSeq1
import PyProof.LayNew
import PyProof.EnumFor
import PyProof.EnumStmt
import PyProof.EnumMake
import PyProof.ConsumeWalk
import KE.KRevSl
import KE.KRevIter
import Wide.All
import OpenK.AllK
import Wide.FinOn
import Lean
import PyProof.EqAt
import PyProof.EqKinds
import PyProof.TupleCall
import PyProof.NeKinds
import PySem.Challenge.RW_ownchain_k37_each_row_and_line_bent_alon
set_option maxHeartbeats 4000000
set_option genInjectivity false
set_option genSizeOfSpec false
set_option compiler.extract_closed false
set_option Elab.async false
set_option linter.all false
set_option maxRecDepth 100000
abbrev a6:=List
abbrev a7:=PySem.W.Frag
abbrev a9:=PySem.Value
abbrev i4:=PySem.Addr
abbrev i5:=Option
abbrev i6:=PySem.Shared
abbrev i7:=PySem.Program
abbrev i8:=Bool
abbrev i9:=PySem.Stmt
abbrev j3:=PySem.World
abbrev j4:=PySem.Heap
abbrev j5:=PySem.Around
abbrev j6:=PySem.Expr
abbrev j7:=Array
abbrev j8:=PySem.Obj
section
local macro_rules|`(())=>`(by lia)
local macro_rules|`(#[$x,*])=>do
 if x.getElems.size=0 then Lean.Macro.throwUnsupported
 let mut z:=#[]
 for y in x.getElems do
  match y with
  |`(-$n:num)=>for _ in [:n.getNat] do z:=(z.push (<-`(_))).push (<-`(rfl))
  |_=>z:=z.push y
 `(⟨$z,*⟩)
namespace L2
open PySem PySem.Spec PyProof.Rows
theorem aA (h:True:=by first|exact .inl rfl|exact .inr rfl|assumption):True:=h
theorem aB (h:True:=by decide):True:=h
theorem aC (h:True:=by first|exact PR _ (by decide) (by decide)|rfl):True:=h
theorem aD (h:True:=by intro _;rfl):True:=h
theorem aE (h:True:=by rfl):True:=h
theorem aF (h:True:=by exact .inl rfl):True:=h
theorem aG (h:True:=by with_unfolding_all rfl):True:=h
theorem aH (h:True:=by first|decide|lia):True:=h
theorem aI (h:True:=by intros;rfl):True:=h
abbrev zD:=@PySem.wpAny_bind
abbrev zE:=@List.length_append
abbrev zF:=@List.getElem?_eq_getElem
abbrev zG:=@List.length_map
abbrev zJ:=@PySem.Heap.get?_push_of_some
abbrev zK:=@List.length_cons
abbrev zN:=@if_neg
abbrev zO:=@Nat.le_refl
abbrev zP:=@decide_eq_true
abbrev zQ:=@if_pos
abbrev zR:=@decide_eq_false
abbrev zW:=@List.getElem?_map
abbrev zZ:=@PySem.wpAny_pure
abbrev yA:=@List.mem_cons_self
abbrev yB:=@of_decide_eq_true
abbrev yC:=@List.mem_cons_of_mem
abbrev yE:=@PySem.Heap.get?_push_size
abbrev yI:=@PySem.Heap.lt_size
abbrev yL:=@List.size_toArray
abbrev yM:=@List.map_cons
abbrev yN:=@List.append_assoc
abbrev yO:=@Bool.false_ne_true
abbrev yR:=@PySem.F.plainAttrs_list
abbrev yS:=@List.drop_eq_getElem_cons
abbrev yU:=@List.getD_eq_getElem?_getD
abbrev yV:=@List.map_append
abbrev yW:=@PySem.F.type_list_append
abbrev yX:=@PySem.F.slot_list_append
abbrev yY:=@PySem.PassesOwn.never
abbrev xB:=@List.mem_of_getElem?
abbrev xC:=@Bool.true_and
abbrev xE:=@Nat.zero_le
abbrev xH:=@Nat.le_trans
abbrev xI:=@List.append_nil
abbrev xM:=@List.length_take
abbrev xN:=@List.cons_append
abbrev xP:=@Nat.lt_of_lt_of_le
abbrev xQ:=@Nat.ne_of_lt
abbrev xR:=@Nat.lt_of_le_of_lt
abbrev xW:=@List.take_of_length_le
abbrev xY:=@Int.toNat_natCast
abbrev jA:=@List.mem_append_right
abbrev jC:=@PySem.wpAny_field
abbrev jD:=@decide_eq_true_iff
abbrev jG:=@PySem.wpAny_callSpecial?_slot
abbrev jH:=@PyProof.Rows.callWith_type1
abbrev jL:=@List.take_length
abbrev jN:=@Bool.eq_iff_iff
abbrev jP:=@PySem.F.slot_tuple_iterator_next
abbrev jT:=@PySem.wpAny_newObj_type
abbrev jU:=@List.take_add_one
abbrev jX:=@PySem.sizeLine_eq
abbrev jZ:=@Int.toNat_of_nonneg
abbrev kB:=@Option.some.inj
abbrev kC:=@List.nil_append
abbrev kD:=@List.length_zip
abbrev kF:=@PySem.wpAny_call_entry
abbrev kH:=@List.all_cons
abbrev kL:=@List.drop_of_length_le
abbrev kX:=@List.zip_cons_cons
abbrev kY:=@PySem.wpAny_holding
abbrev kZ:=@PySem.W.kia_one
abbrev qC:=@Bool.and_eq_true
abbrev qD:=@PySem.wpAny_truthy_bool
abbrev qF:=@List.take_append_drop
abbrev qG:=@List.length_replicate
abbrev qK:=@PySem.wpAny_seqItems
abbrev qL:=@Nat.lt_irrefl
abbrev qM:=@Bool.false_and
abbrev qR:=@List.length_drop
abbrev qZ:=@congrArg
abbrev wA:=@Bool.and_false
abbrev wB:=@List.map_congr_left
abbrev wE:=@List.getElem?_eq_none
abbrev wF:=@of_decide_eq_false
abbrev wG:=@PySem.Obj.data_mapFields
abbrev wH:=@List.getElem_mem
abbrev wM:=@PySem.AutoSeq1.wpAny_loadPart'
abbrev wQ:=@List.length_range
abbrev wT:=@Int.emod_nonneg
abbrev wU:=@PySem.F.args_tuple_iterator_next_1
abbrev wX:=@PySem.mem_of_lookup
abbrev wY:=@List.getElem?_range
abbrev wZ:=@Array.length_toList
abbrev vC:=@PySem.F.entry_tuple_iterator_next
abbrev vE:=@List.all_eq_true
abbrev vG:=@PySem.wpAny_setField_rec
abbrev vH:=@List.take_succ
abbrev vI:=@List.getElem?_append_right
abbrev vJ:=@PySem.Heap.size_push
abbrev vM:=@PySem.Heap.get?_update_self
abbrev vR:=@PySem.wpAny_passesOwn
abbrev vZ:=@PySem.wpAny_pyIter_list
abbrev uA:=@PySem.wpAny_of_eq
abbrev uB:=@List.pairwise_map
abbrev uC:=@List.mem_append_left
abbrev uE:=@List.Pairwise.imp_of_mem
abbrev uF:=@Bool.and_true
abbrev uK:=@PySem.Heap.SameBut.update
abbrev uP:=@PySem.wpAny_setField
abbrev uQ:=@List.drop_length
abbrev uY:=@PySem.wpAny_pyIter_tuple
abbrev uZ:=@PySem.wpAny_Call_Name_kw
abbrev Aa:=@List.map_map
abbrev Ab:=@Int.emod_lt_of_pos
abbrev Ac:=@PySem.Heap.get?_update_other
abbrev Ae:=@Nat.min_eq_left
abbrev Af:=@List.length_nil
abbrev Ag:=@List.find?_cons
abbrev Ap:=@PySem.builtinLookup_eq_fast
abbrev Aq:=@PySem.Obj.isFreed_of_fields
abbrev Ar:=@List.lookup_cons_self
abbrev Ay:=@Array.getD_eq_getD_getElem?
abbrev AG:=@PySem.wpAny_mono
abbrev AH:=@Nat.le_succ
abbrev AI:=@List.take_zero
abbrev AR:=@Nat.lt_succ_self
abbrev AT:=@List.getElem?_append_left
abbrev AX:=@List.mem_map_of_mem
abbrev Be:=@PySem.wpAny_attempt
abbrev Bg:=@List.any_cons
abbrev Bi:=@PySem.wpAny_specialOf
abbrev Bj:=@Nat.not_lt_zero
abbrev Bo:=@PySem.tupleKind_room_in1
abbrev Bp:=@beq_iff_eq
abbrev Bq:=@Bool.false_eq_true
abbrev Bt:=@Nat.add_sub_cancel_left
abbrev BK:=@PySem.wpAny_pyNext_list_item
abbrev BL:=@PySem.wpAny_pyIter_enum
abbrev BM:=@PySem.isSubtype_type
abbrev BN:=@Nat.lt_of_succ_lt
abbrev BO:=@Nat.le_of_lt
abbrev BP:=@List.drop_zero
abbrev BQ:=@PyProof.Rows.slot_tuple_getitem
abbrev BU:=@PySem.wpAny_pyNext_list_end
abbrev BZ:=@PySem.wpAny_isInstance
abbrev CA:=@Nat.succ_le_succ
abbrev CB:=@List.lookup_cons
abbrev CC:=@Array.toList_zip
abbrev CF:=@Array.toList_map
abbrev Dn:=@PySem.wpAny_updateSeq_pair
abbrev Do:=@PySem.Paired.snoc
abbrev Dp:=@List.take_append_of_le_length
abbrev Dr:=@List.replicate_succ'
abbrev Ds:=@PySem.Heap.get?_push_cases
abbrev Dt:=@Bool.and_eq_true_iff
abbrev Du:=@PySem.Around.under_plainId
abbrev DE:=@PySem.wpAny_execs_nil
abbrev DF:=@PySem.typeLookup_type
abbrev DH:=@Option.map_some
abbrev DI:=@List.of_mem_zip
abbrev DJ:=@List.forIn_cons
abbrev DK:=@List.foldl_cons
abbrev DL:=@PySem.F.slot_zip_next
abbrev DO:=@PySem.W.plainGet_of
abbrev DP:=@List.length_reverse
abbrev DQ:=@List.filterMap_cons
abbrev DU:=@if_true
abbrev DV:=@Nat.le_of_eq
abbrev Es:=@PySem.wpAny_rule
abbrev Et:=@PySem.W.callWith_K
abbrev Ex:=@List.getElem?_zip_eq_some
abbrev Ey:=@Int.natAbs_fdiv_le_natAbs
abbrev Ez:=@Decidable.byContradiction
abbrev EK:=@Sum.inl.inj
abbrev EL:=@PySem.W.kitx_list
abbrev EM:=@Option.isSome_map
abbrev EN:=@PySem.Obj.cls_mapFields
abbrev ET:=@PySem.wpAny_standAt
abbrev EU:=@PySem.wpAny_onRaise
abbrev EV:=@PySem.F.type_list_extend
abbrev EW:=@PySem.F.slot_list_extend
abbrev EX:=@PyProof.noPylong_of_log2
abbrev EY:=@PySem.Paired.length
abbrev EZ:=@List.getElem?_take_of_lt
abbrev Fs:=@if_false
abbrev Ft:=@beq_self_eq_true
abbrev Fu:=@PyProof.Rows.intBits_le
abbrev Fv:=@Nat.min_eq_right
abbrev Fw:=@List.getLast?_cons_cons
abbrev Fx:=@List.getElem_inj
abbrev Fy:=@List.getElem?_replicate
abbrev Gb:=@Nat.zero_add
abbrev Gc:=@List.getElem?_set_self
abbrev Gi:=@List.length_set
abbrev HR:=@Nat.add_assoc
abbrev Jy:=@Nat.sub_self
abbrev AQ:=Sum Int Str
noncomputable def Nf:AQ->a9->i8
 | .inl k,v=>Value.isInt k v
 | .inr x,v=>Value.isStrOf x v
noncomputable def zHi (w:j3):AQ->Int
 | .inl k=>hashInt k
 | .inr x=>hashStr w x
theorem vW: ∀{k:AQ} {v:a9},Nf k v=true->(∃i t,k=Sum.inl i/\v=Value.int i t)\/(∃x t,k=Sum.inr x/\v=Value.str x t)
 | .inl i,v,h=>by
  obtain⟨t,e⟩:=Value.isInt_shape (k:=i) (v:=v) h;exact .inl #[i,t,rfl,e]
 | .inr x,v,h=>by
  obtain⟨t,e⟩:=Value.isStrOf_shape (x:=x) (v:=v) h;exact .inr #[x,t,rfl,e]
theorem Uz (i:Int)(t:Tok):Nf (.inl i) (.int i t)=true:=by simp[Nf,Value.isInt]
theorem Uy (x:Str)(t:Tok):Nf (.inr x) (.str x t)=true:=by simp[Nf,Value.isStrOf]
theorem zAy (a b:Int):decide ((Sum.inl a:AQ)=Sum.inl b)=(a==b):=by
 by_cases e:a=b
 ·subst e;simp
 ·have h: ¬(Sum.inl a:AQ)=Sum.inl b:=λq=>e (EK q);rw[zR h];exact(beq_eq_false_iff_ne.mpr e).symm
theorem zAv (a b:Str):decide ((Sum.inr a:AQ)=Sum.inr b)=decide (a=b):=by
 by_cases e:a=b
 ·subst e;simp
 ·have h: ¬(Sum.inr a:AQ)=Sum.inr b:=λq=>e (Sum.inr.inj q);rw[zR h,zR e]
theorem zAx (a:Int)(b:Str):decide ((Sum.inl a:AQ)=Sum.inr b)=false:=zR (λq=>nomatch q)
theorem zAw (a:Str)(b:Int):decide ((Sum.inr a:AQ)=Sum.inl b)=false:=zR (λq=>nomatch q)
noncomputable def wP (prog:i7)(w:j3):PySem.KeyKind prog w AQ where
 is:=Nf
 hash:=zHi w
 inj:=λv a b ha hb=>by
  rcases vW ha with⟨i,t,rfl,rfl⟩|⟨x,t,rfl,rfl⟩
  ·rcases vW hb with⟨j,u,rfl,e⟩|⟨y,u,rfl,e⟩
   ·injection e with e1 _;rw[e1]
   ·exact nomatch e
  ·rcases vW hb with⟨j,u,rfl,e⟩|⟨y,u,rfl,e⟩
   ·exact nomatch e
   ·injection e with e1 _;rw[e1]
 byValue:=λk v h=>by
  rcases vW h with⟨i,t,rfl,rfl⟩|⟨x,t,rfl,rfl⟩<;>rfl
 pyHash:=λhv h=>by
  rcases vW hv with⟨i,t,rfl,rfl⟩|⟨x,t,rfl,rfl⟩
  ·exact wpAny_pyHash_int h
  ·exact wpAny_pyHash_str h
 eqBool:=λhu hv h=>by
  rcases vW hu with⟨i,t,rfl,rfl⟩|⟨x,t,rfl,rfl⟩
  ·rcases vW hv with⟨j,u,rfl,rfl⟩|⟨y,u,rfl,rfl⟩
   ·rw[zAy]at h;exact wpAny_eqBool_int h
   ·rw[zAx]at h;exact SeqAt.EqAt.int_str i t y u _ _ _ _ h
  ·rcases vW hv with⟨j,u,rfl,rfl⟩|⟨y,u,rfl,rfl⟩
   ·rw[zAw]at h;exact SeqAt.EqAt.str_int x t j u _ _ _ _ h
   ·rw[zAv]at h;exact wpAny_eqBool_str h
 «strs»:=λk x t v h=>by
  rcases vW h with⟨i,u,rfl,e⟩|⟨y,u,rfl,e⟩
  ·exact nomatch e
  ·injection e with e1 _
   subst e1;cases v<;>rfl
theorem Qb (prog:i7)(w:j3)(i:Int)(t:Tok):(wP prog w).is (.inl i) (.int i t)=true:=Uz i t
theorem Qa (prog:i7)(w:j3)(x:Str)(t:Tok):(wP prog w).is (.inr x) (.str x t)=true:=Uy x t
inductive V where
 |non|bl (b:i8)|int (i:Int)|str (x:Str)|byt (b:Array UInt8)|flt (b:UInt64)|ref (a:i4)|ty (n:String)
 deriving DecidableEq
def kU:V->a9->Prop
 | .non,u=>u=Value.none
 | .bl b,u=>u=Value.bool b
 | .int i,u=> ∃t,u=Value.int i t
 | .str x,u=> ∃t,u=Value.str x t
 | .byt b,u=> ∃t,u=Value.bytes b t
 | .flt b,u=> ∃t,u=Value.float b t
 | .ref a,u=>u=Value.ref a
 | .ty n,u=>u=Value.type n
abbrev kE:a6 V->a6 a9->Prop:=Paired kU
theorem kE.length {xs:a6 V}{us:a6 a9}(r:kE xs us):xs.length=us.length:=EY r
theorem kE.get: ∀{xs:a6 V} {us:a6 a9} {i:Nat} {x:V},kE xs us->xs[i]? =some x-> ∃u,us[i]? =some u/\kU x u
 |_,_,_,_,.nil,e=>by simp at e
 |_,_,0,_,.cons r _,e=>by simp at e;subst e;exact#[-1,r]
 |_,_,i+1,x,.cons _ t,e=>by
  obtain⟨u,h1,h2⟩:=kE.get (i:=i) (x:=x) t (by simpa using e);exact#[u,by simpa using h1,h2]
theorem kE.set {x:V}{u:a9}(r:kU x u): ∀{xs:a6 V} {us:a6 a9} (i:Nat),kE xs us->kE (xs.set i x) (us.set i u)
 |_,_,_,.nil=>.nil
 |_,_,0,.cons _ t=>.cons r t
 |_,_,i+1,.cons q t=>.cons q (kE.set r i t)
theorem kE.append {xs ys:a6 V}{us ws:a6 a9}(h:kE xs us)(q:kE ys ws):kE (xs++ys) (us++ws):=by
 induction h with
 |nil=>exact q
 |cons r t ih=>exact .cons r ih
theorem kE.take: ∀{xs:a6 V} {us:a6 a9} (n:Nat),kE xs us->kE (xs.take n) (us.take n)
 |_,_,0,_=>.nil
 |_,_,_+1,.nil=>.nil
 |_,_,n+1,.cons r t=>.cons r (kE.take n t)
theorem kE.drop: ∀{xs:a6 V} {us:a6 a9} (n:Nat),kE xs us->kE (xs.drop n) (us.drop n)
 |_,_,0,r=>r
 |_,_,_+1,.nil=>.nil
 |_,_,n+1,.cons _ t=>kE.drop n t
def He:i5 V->i5 a9->Prop
 |some v,some u=>kU v u
 |none,none=>True
 |_,_=>False
def KV {κ:Type}:a6 (κ×V)->a6 (κ×a9)->Prop:=Paired fun(p:κ×V) (q:κ×a9)=>p.1=q.1/\kU p.2 q.2
noncomputable def kV:AQ->V
 | .inl i=>.int i
 | .inr x=>.str x
inductive HO where
 |lst (xs:List V)
 |tup (xs:List V)
 |dK (kvs:List (AQ×V))|dT (kvs:List (List AQ×V))
 |set (S:Int->i8) (n:Nat)
 |ins (C dx:i4) (fs:List (Str×V))
 |own (x:i4)
 |xd (fs:List (Str×V))
 |met (f x:i4)
 |rng (lo hi:Int)
 |frz (o:j8) (u:HO)
 |tbl (ps:Array a9)
 |ext (φ:j4->Prop)
abbrev Hp:=i4->i5 HO
noncomputable def upd (H:Hp)(a:i4)(o:HO):Hp:=λb=>if b=a then some o else H b
theorem upd_same {H:Hp}{a:i4}{o:HO}:upd H a o a=some o:=by unfold upd;rw[zQ rfl]
theorem yJ {H:Hp}{a b:i4}{o:HO}(h:b≠a):upd H a o b=H b:=by unfold upd;rw[zN h]
theorem KG {H:Hp}{a:i4}{o u:HO}:upd (upd H a o) a u=upd H a u:=by
 funext b;unfold upd;split<;>rfl
theorem zDe {H:Hp}{a b:i4}{o u:HO}(h:H a=some o)(h':H b=some u)(d:o≠u):a≠b:=by
 intro e;subst e;rw[h]at h';exact d (kB h')
theorem yQ {H:Hp}{a b:i4}{o:HO}(h:H a=some o)(h':H b=none):a≠b:=by
 intro e;subst e;rw[h]at h';cases h'
section
variable (P:i7)(w:j3)
def vY (H:Hp)(h:j4)(a:i4):HO->Prop
 | .lst xs=>xs.length<=sizeLine/\ ∃(its:a6 a9) (n:Nat),kE xs its/\h.get? a=some {cls:=.type "list",data:=.seq its.toArray n}
 | .tup xs=>xs.length<=sizeLine/\ ∃its:a6 a9,kE xs its/\IsTup h a its.toArray
 | .dK kvs=>kvs.length<=sizeLine/\(a==sysModules)=false/\ ∃vs,KV kvs vs/\h.DictOf (wP P w) a vs
 | .dT kvs=>kvs.length<=sizeLine/\(a==sysModules)=false/\ ∃xs:a6 (a6 AQ×i4×a9),
   Paired (fun(p:a6 AQ×V) (q:a6 AQ×i4×a9)=>p.1=q.1/\H q.2.1=some (.tup (p.1.map kV))/\kU p.2 q.2.2) kvs xs/\
   ∃o es ep,h.get? a=some o/\o.ExactDict/\o.data=.dict es ep/\es.toList=xs.map (entryOfKey (tupleKind (wP P w)))/\(xs.map (·.1)).Nodup
 | .set S n=>h.SetOf (intKind P w) a S n
 | .ins C dx fs=>H dx=some (.own a)/\fs.length<=1000/\dx≠a/\h.get? a=some (PySem.W.instObj C dx)/\
   ∃mA,h.Ns1 dx mA/\(∀f,He (fs.lookup f) (mA f))/\PySem.Within mA (fs.map (·.1))
 | .own _=> ∃o,h.get? a=some o
 | .xd fs=> ∃mA,h.Ns1 a mA/\ ∀f,He (fs.lookup f) (mA f)
 | .rng lo hi=> ∃t u v,h.get? a=some {cls:=.type "range",data:=.fields (List.toArray [.int lo t,.int hi u,.int 1 v])}
 | .frz o u=>h.get? a=some o/\vY H h a u
 | .tbl ps=>h.get? a=some {cls:=.none,data:=.fields ps}
 | .met f x=>h.get? a=some (PySem.W.methodObj (.ref f) (.ref x))
 | .ext φ=>φ h/\(∃o,h.get? a=some o)/\ ∀h1 h2:j4,φ h1->(∀o,h1.get? a=some o->h2.get? a=some o)->φ h2
def IB (H:Hp)(h:j4):Prop:= ∀a o,H a=some o->vY P w H h a o
end
section
variable {P:i7}{w:j3}{H H':Hp}{h h':j4}{a:i4}{o:HO}
theorem vY.lt (x:vY P w H h a o):a<h.objs.size:=by
 cases o with
 |lst xs=>obtain⟨_,_,_,_,e⟩:=x;exact yI e
 |tup xs=>obtain⟨_,_,_,p⟩:=x;exact p.lt
 |dK kvs=>obtain⟨_,_,_,_,o,_,_,e,_⟩:=x;exact yI e
 |dT kvs=>obtain⟨_,_,_,_,o,_,_,e,_⟩:=x;exact yI e
 |set S n=>obtain⟨o,_,_,_,e,_⟩:=x;exact yI e
 |ins C dx fs=>obtain⟨_,_,_,e,_⟩:=x;exact yI e
 |own y=>obtain⟨_,e⟩:=x;exact yI e
 |xd fs=>obtain⟨_,⟨_,_,_,e,_⟩,_⟩:=x;exact yI e
 |rng lo hi=>obtain⟨_,_,_,e⟩:=x;exact yI e
 |frz ob u=>obtain⟨e,_⟩:=x;exact yI e
 |tbl ps=>exact yI (show h.get? a=some _ from x)
 |met f y=>exact yI (show h.get? a=some _ from x)
 |ext φ=>obtain⟨_,⟨_,e⟩,_⟩:=x;exact yI e
theorem Paired.mapP {α β:Type}{F G:α->β->Prop}{l₁:a6 α}{l₂:a6 β}(h:Paired F l₁ l₂)(f: ∀a b,F a b->G a b):Paired G l₁ l₂:=by
 induction h with
 |nil=>exact .nil
 |cons r t ih=>exact .cons (f _ _ r) ih
theorem vY.stay (x:vY P w H h a o)(k: ∀b u,(b=a\/H b=some (.own a))->h.get? b=some u->h'.get? b=some u)
  (ho: ∀b,H b=some (.own a)->H' b=some (.own a)) (ht: ∀b xs,H b=some (.tup xs)->H' b=some (.tup xs)):vY P w H' h' a o:=by
 induction o with
 |lst xs=>obtain⟨z,its,n,r,e⟩:=x;exact#[z,its,n,r,k _ _ (.inl rfl) e]
 |tup xs=>obtain⟨z,its,r,ob,e,c⟩:=x;exact#[z,its,r,ob,k _ _ (.inl rfl) e,c]
 |dK kvs=>obtain⟨z,y,vs,r,ob,es,ep,e,c⟩:=x;exact#[z,y,vs,r,ob,es,ep,k _ _ (.inl rfl) e,c]
 |dT kvs=>
  obtain⟨z,y,xs,r,ob,es,ep,e,c⟩:=x;exact#[z,y,xs,Paired.mapP r λp q z=>#[z.1,ht _ _ z.2.1,z.2.2],ob,es,ep,k _ _ (.inl rfl) e,c]
 |set S n=>obtain⟨ob,es,ep,t,e,c⟩:=x;exact#[ob,es,ep,t,k _ _ (.inl rfl) e,c]
 |ins C dx fs=>
  obtain⟨d,z,ne,e,mA,⟨od,es,ep,e2,c⟩,r⟩:=x;exact#[ho _ d,z,ne,k _ _ (.inl rfl) e,mA,#[od,es,ep,k _ _ (.inr d) e2,c],r]
 |own y=>obtain⟨ob,e⟩:=x;exact#[ob,k _ _ (.inl rfl) e]
 |xd fs=>obtain⟨mA,⟨od,es,ep,e,c⟩,r⟩:=x;exact#[mA,#[od,es,ep,k _ _ (.inl rfl) e,c],r]
 |rng lo hi=>obtain⟨t,u,v,e⟩:=x;exact#[t,u,v,k _ _ (.inl rfl) e]
 |frz ob u ih=>obtain⟨e,q⟩:=x;exact#[k _ _ (.inl rfl) e,ih q]
 |tbl ps=>
  have e:h.get? a=some {cls:=.none,data:=.fields ps}:=x;show h'.get? a=some {cls:=.none,data:=.fields ps};exact k a _ (.inl rfl) e
 |met f y=>
  have e:h.get? a=some (PySem.W.methodObj (.ref f) (.ref y)):=x;show h'.get? a=some (PySem.W.methodObj (.ref f) (.ref y));exact k a _ (.inl rfl) e
 |ext φ=>obtain⟨p,⟨o,e⟩,st⟩:=x;exact#[st _ _ p λo q=>k _ _ (.inl rfl) q,#[o,k _ _ (.inl rfl) e],st]
theorem IB.lt (x:IB P w H h)(e:H a=some o):a<h.objs.size:=(x a o e).lt
theorem IB.fresh (x:IB P w H h)(e:h.objs.size<=a):H a=none:=by
 cases q:H a with
 |none=>rfl
 |some u=>exact absurd (xP (x.lt q) e) (qL _)
theorem IB.kept (x:IB P w H h)(k: ∀b u,h.get? b=some u->h'.get? b=some u):IB P w H h':=λa o e=>
 (x a o e).stay (λb u _ q=>k b u q) (λ_ q=>q) λ_ _ q=>q
theorem IB.laid (x:IB P w H h)(k: ∀b u,h.get? b=some u->h'.get? b=some u)(hp:h.objs.size<=a)(new:vY P w (upd H a o) h' a o):IB P w (upd H a o) h':=λb u e=>by
 have hn:=x.fresh hp
 by_cases hb:b=a
 ·subst hb;rw[upd_same]at e;cases e;exact new
 ·rw[yJ hb]at e;exact(x b u e).stay (λc v _ q=>k c v q) (λc q=>by rw[yJ (yQ q hn)];exact q) λc xs q=>by rw[yJ (yQ q hn)];exact q
end
def Rd (H:Hp)(a:i4)(u:HO):Prop:=H a=some u\/ ∃o,H a=some (.frz o u)
theorem Rd.ok {P:i7}{w:j3}{H:Hp}{h:j4}{a:i4}{u:HO}(r:Rd H a u)(x:IB P w H h):vY P w H h a u:=by
 rcases r with r|⟨o,r⟩
 ·exact x a u r
 ·obtain⟨_,q⟩:=x a _ r;exact q
def Mut:i5 HO->Prop
 |some (.lst _)=>True
 |some (.dK _)=>True
 |some (.dT _)=>True
 |some (.set _ _)=>True
 |some (.ins _ _ _)=>True
 |some (.ext _)=>True
 |_=>False
section
variable {P:i7}{w:j3}{H:Hp}{h h':j4}{x e:i4}{o':HO}
theorem IB.write (ok:IB P w H h)(mu:Mut (H x))(he:e=x\/H e=some (.own x))(k: ∀b u,b≠e->h.get? b=some u->h'.get? b=some u)(heo: ∃u,h'.get? e=some u)
  (new:vY P w (upd H x o') h' x o'):IB P w (upd H x o') h':=λb u q=>by
 have nown: ∀c y,H c=some (.own y)->c≠x:=λc y r z=>by subst z;rw[r]at mu;exact mu
 have ntup: ∀c xs,H c=some (.tup xs)->c≠x:=λc xs r z=>by subst z;rw[r]at mu;exact mu
 by_cases hb:b=x
 ·subst hb;rw[upd_same]at q;cases q;exact new
 ·rw[yJ hb]at q
  by_cases hbe:b=e
  ·have q':H b=some (.own x):=by
    rcases he with z|z
    ·exact absurd (hbe.trans z) hb
    ·rw[hbe];exact z
   rw[q]at q';cases q';obtain⟨v,hv⟩:=heo;exact#[v,by rw[hbe];exact hv]
  ·refine(ok b u q).stay (λc v hc r=>k c v ?_ r) (λc r=>by rw[yJ (nown c b r)];exact r) λc xs r=>by rw[yJ (ntup c xs r)];exact r
   rcases hc with rfl|hc
   ·exact hbe
   ·rintro rfl
    rcases he with z|z
    ·exact nown c b hc z
    ·rw[hc]at z;cases z;exact hb rfl
end
structure Un (fs ex:List i4)(H H':Hp)(h h':j4):Prop where
 keep: ∀b o,h.get? b=some o->H b=none->b∉fs->b∉ex->h'.get? b=some o
 slot: ∀b o,h.get? b=some o->H b=none->b∈fs->b∉ex-> ∃sl,h'.get? b=some {o with slots:=sl}
 free: ∀b o,h.get? b=some o->H b=none->b∉ex->H' b=none
 there: ∀b o,h.get? b=some o->b∉ex-> ∃o',h'.get? b=some o'
 tups: ∀b xs,H b=some (.tup xs)->H' b=some (.tup xs)
 frzs: ∀b o u,H b=some (.frz o u)->H' b=some (.frz o u)
 tbls: ∀b ps,H b=some (.tbl ps)-> ∃more,H' b=some (.tbl (ps++more))
section
variable {fs fs' ex ex':a6 i4}{H H1 H2:Hp}{h h1 h2 h':j4}{a x e:i4}{o:HO}
theorem Un.any (u:Un fs ex H H1 h h1){b:i4}{ob:j8}(q:h.get? b=some ob)(n:H b=none)(hx:b∉ex): ∃sl,h1.get? b=some {ob with slots:=sl}:=by
 by_cases hb:b∈fs
 ·exact u.slot b ob q n hb hx
 ·exact#[ob.slots,u.keep b ob q n hb hx]
theorem Un.kept (k: ∀b u,h.get? b=some u->h'.get? b=some u):Un fs ex H H h h':=
 #[λb ob q _ _ _=>k b ob q,λb ob q _ _ _=>#[ob.slots,k b ob q],λ_ _ _ n _=>n,λb ob q _=>#[ob,k b ob q],λ_ _ q=>q,λ_ _ _ q=>q,λ_ ps q=>#[#[],by rw[q];simp]]
theorem Un.refl:Un fs ex H H h h:=Un.kept λ_ _ q=>q
theorem Un.laid (k: ∀b u,h.get? b=some u->h'.get? b=some u)(hp:h.objs.size<=a)(hn:H a=none):Un fs ex H (upd H a o) h h' where
 keep:=λb u q _ _ _=>k b u q
 slot:=λb u q _ _ _=>#[u.slots,k b u q]
 free:=λb u q n _=>by rw[yJ (xQ (xP (yI q) hp))];exact n
 there:=λb u q _=>#[u,k b u q]
 tups:=λb xs q=>by rw[yJ (yQ q hn)];exact q
 frzs:=λb u xs q=>by rw[yJ (yQ q hn)];exact q
 tbls:=λb ps q=>#[#[],by rw[yJ (yQ q hn),q];simp]
theorem Un.write (mu:Mut (H x))(he:e=x\/H e=some (.own x))(k: ∀b u,b≠e->h.get? b=some u->h'.get? b=some u)(heo: ∃u,h'.get? e=some u):Un fs ex H (upd H x o) h h':=by
 have hx: ∀b,H b=none->b≠x:=λb n z=>by subst z;rw[n]at mu;exact mu
 have hb: ∀b,H b=none->b≠e:=λb n z=>by
  subst z
  rcases he with r|r
  ·exact hx b n r
  ·rw[n]at r;cases r
 have hm: ∀b u,H b=some u-> ¬Mut (some u)->b≠x:=λb u q nm z=>by subst z;rw[q]at mu;exact nm mu
 refine#[λb u q n _ _=>k b u (hb b n) q,λb u q n _ _=>#[u.slots,k b u (hb b n) q],λb u q n _=>by rw[yJ (hx b n)];exact n,λb u q _=>?_,
  λb xs q=>by rw[yJ (hm b _ q λz=>z)];exact q,λb u xs q=>by rw[yJ (hm b _ q λz=>z)];exact q,λb ps q=>#[#[],by rw[yJ (hm b _ q λz=>z),q];simp]]
 by_cases hbe:b=e
 ·subst hbe;exact heo
 ·exact#[u,k b u hbe q]
end
noncomputable def trk (h:j4)(H:Hp):a6 i4:=(List.range h.objs.size).filter λa=>(H a).isSome
noncomputable def Ow (h:j4)(H:Hp):j4:=PySem.W.hideAll h (trk h H)
theorem UB (h:j4)(H:Hp):(Ow h H).objs.size =h.objs.size:=PySem.W.hideAll_size _ _
theorem WS {h:j4}{H:Hp}{b:i4}{o:j8}(e:h.get? b=some o)(n:H b=none):(Ow h H).get? b=some o:=
 PySem.W.hideAll_get _ e λhm=>by
  have q:(H b).isSome =true:=(List.mem_filter.mp hm).2;rw[n]at q;simp at q
theorem YA {h:j4}{H:Hp}{b:i4}{o:j8}(e:(Ow h H).get? b=some o):h.get? b=some o/\H b=none:=by
 have e':h.get? b=some o:=PySem.W.of_hideAll (trk h H) e;refine#[e',?_];cases q:H b with
 |none=>rfl
 |some x=>
  have hm:b∈trk h H:=List.mem_filter.mpr #[List.mem_range.mpr (yI e'),by simp[q]];have z:(Ow h H).get? b=none:=PySem.W.hideAll_none (trk h H) hm;rw[z]at e;cases e
noncomputable def YX (g h:j4)(L:i4):a6 (i4×j8):=(List.range h.objs.size).filterMap λa=>if a=L\/(g.get? a).isSome =true then none else(h.get? a).map λo=>(a,o)
noncomputable def rest (g h:j4)(L d:i4):a6 (i4×j8):=(YX g h L).filter λp=>decide (p.1≠d)
structure Mod (K:a7)(mg:Str->Option a9)(base:j4):Prop where
 kin:K.In base
 glob:base.Ns mainGlobals mg
 blt: ∃mb,base.Ns builtinsNs mb/\ ∀x:Str,x≠"__name__"->mb x=bootBuiltins x
 nolimit:base.NoLimit
structure Cx where
 prog:i7
 w:j3
 K:a7
 mg:Str->Option a9
 base:j4
 A:j5
 N:List Str
 s₀:i6
 H₀:Hp
 env:Env
 outer:List Env
 stack:List Env
 ex:List i4
 fn:Str->i8
 calm:i8
 pn:List (i4×j8)
 xe:a9->i6->Prop
noncomputable def frs (l:a6 Env):a6 i4:=l.filterMap (·.frame)
noncomputable abbrev Cx.fs (X:Cx):a6 i4:=frs X.outer
def Vis (sc:Scope)(x:Str):Prop:=sc.names.lookup x=some .local\/sc.names.lookup x=some .cell\/sc.names.lookup x=some .free
def Loc (sc:Scope)(x:Str):Prop:=sc.names.lookup x=some .local\/sc.names.lookup x=some .cell
def zIf (env:Env)(h:j4)(m:Str->i5 a9)(x:Str)(u:a9):Prop:=
 (env.kindOf x=some .local/\m x=some u)\/((env.kindOf x=some .cell\/env.kindOf x=some .free)/\ ∃c,env.cells.lookup x=some c/\h.IsCell c (some u))
structure Cx.Ok (X:Cx):Prop where
 mod:Mod X.K X.mg X.base
 kind:X.env.scope.kind=.function
 glob:X.env.globals=mainGlobals
 blt:X.env.builtins=builtinsNs
 above:X.s₀.heap.objs.size<=X.env.locals
 inj: ∀x y c,X.env.cells.lookup x=some c->X.env.cells.lookup y=some c->x=y
 has: ∀x,(X.env.kindOf x=some .cell\/X.env.kindOf x=some .free)-> ∃c,X.env.cells.lookup x=some c
 cab: ∀x c,X.fn x=true->X.env.cells.lookup x=some c->X.s₀.heap.objs.size<=c
 hd:X.calm=true->X.A.handled=none
 frames:X.A.frames=some X.stack
 stk:X.stack=X.outer\/(X.stack=X.env::X.outer/\X.env.frame=some X.env.locals)
 exf: ∀b∈X.ex,b≠X.env.locals/\ ∀x c,X.env.cells.lookup x=some c->c≠b
 bs: ∀b o,X.base.get? b=some o->X.s₀.heap.get? b=some o/\X.H₀ b=none
 bsz:X.base.objs.size<=X.s₀.heap.objs.size
 noex: ∀b o,X.base.get? b=some o->b∉X.ex
 exfs: ∀b∈X.ex,b∉X.fs
 funs:X.s₀.heap.FunFrames X.base X.outer
 frf: ∀b∈X.fs,X.H₀ b=none
structure xZ (X:Cx)(j9:List (i4×j8))(U:List (Option V))(H:Hp)(s:i6):Prop where
 ok:X.Ok
 os:s.os=X.s₀.os
 bare:AllBare s.gens
 base:Un X.fs X.ex X.H₀ H X.s₀.heap s.heap
 loc: ∃m,s.heap.Ns X.env.locals m/\ ∀(i:Nat) (x:Str) (v:V),X.N[i]? =some x->U[i]? =some (some v)->Vis X.env.scope x-> ∃u,kU v u/\zIf X.env s.heap m x u
 cell: ∀x c,X.env.cells.lookup x=some c-> ∃v,s.heap.IsCell c v
 free:H X.env.locals=none
 freeC: ∀x c,X.env.cells.lookup x=some c->H c=none
 pin: ∀p∈X.pn++j9,s.heap.get? p.1=some p.2/\H p.1=none/\p.1≠X.env.locals/\p.1∉X.fs/\ ∀v,p.2.data≠ .cell v
 hok:IB X.prog X.w H s.heap
 len:U.length=X.N.length
section
variable {X:Cx}{j9:a6 (i4×j8)}{U:a6 (i5 V)}{H H':Hp}{s:i6}{h':j4}
theorem Cx.Ok.nofr (ok:X.Ok){b:i4}{o:j8}(e:X.base.get? b=some o):b∉X.fs:=λhb=>by
 have:=(ok.funs.mem hb).1;rw[e]at this;cases this
theorem xZ.bs (I:xZ X j9 U H s): ∀b o,X.base.get? b=some o->s.heap.get? b=some o/\H b=none:=λb o e=>
 #[I.base.keep b o (I.ok.bs b o e).1 (I.ok.bs b o e).2 (I.ok.nofr e) (I.ok.noex b o e),I.base.free b o (I.ok.bs b o e).1 (I.ok.bs b o e).2 (I.ok.noex b o e)]
theorem xZ.bk (I:xZ X j9 U H s): ∀b o,X.base.get? b=some o->s.heap.get? b=some o:=λb o e=>(I.bs b o e).1
theorem xZ.mod (I:xZ X j9 U H s):Mod X.K X.mg X.base:=I.ok.mod
theorem xZ.kIn (I:xZ X j9 U H s):X.K.In s.heap:=I.ok.mod.kin.keeps I.bk
theorem xZ.lt (I:xZ X j9 U H s):X.env.locals<s.heap.objs.size:=let⟨_,hn,_⟩:=I.loc;hn.lt
theorem xZ.sz (I:xZ X j9 U H s):X.s₀.heap.objs.size<=s.heap.objs.size:=xH I.ok.above (BO I.lt)
theorem xZ.nofs (I:xZ X j9 U H s){a:i4}(h:s.heap.objs.size<=a):a∉X.fs:=λhb=>by
 obtain⟨_,o,ho,_⟩:=I.ok.funs.mem hb;exact absurd (xP (yI ho) (xH I.sz h)) (qL _)
theorem xZ.cne (I:xZ X j9 U H s): ∀x c,X.env.cells.lookup x=some c->c≠X.env.locals:=λx c e z=>by
 obtain⟨v,o,ho,hd⟩:=I.cell x c e;obtain⟨m,⟨o',es,ep,ho',hd',_⟩,_⟩:=I.loc;rw[z,ho']at ho;cases ho;rw[hd']at hd;cases hd
theorem xZ.funs (I:xZ X j9 U H s):s.heap.FunFrames X.base X.outer:=by
 have all: ∀(l:a6 Env),(∀b∈frs l,b∈X.fs)->X.s₀.heap.FunFrames X.base l->s.heap.FunFrames X.base l:=by
  intro l
  induction l with
  |nil=>intro _ _;trivial
  |cons env r ih=>
   intro hs hl;obtain⟨hk,⟨L,o,hf,hn,ho,hd⟩,hr⟩:=hl;have hL:L∈X.fs:=hs L (by unfold frs;rw[DQ,hf];exact yA);obtain⟨sl,e⟩:=I.base.slot L o ho (I.ok.frf L hL) hL λz=>I.ok.exfs L z hL;exact#[hk,#[L,_,hf,hn,e,hd],ih (λb hb=>hs b (by unfold frs;rw[DQ,hf];exact yC _ hb)) hr]
 exact all X.outer (λ_ hb=>hb) I.ok.funs
theorem xZ.stack (I:xZ X j9 U H s):s.heap.FunFrames X.base X.stack:=by
 rcases I.ok.stk with e|⟨e,hf⟩
 ·rw[e];exact I.funs
 ·rw[e];obtain⟨m,hn,_⟩:=I.loc;refine .cons (by rw[I.ok.kind];decide) hf hn ?_ I.funs;exact Heap.get?_none_of_le (xH I.ok.bsz I.ok.above)
theorem xZ.stkSub (I:xZ X j9 U H s): ∀b∈frs X.stack,b∈X.env.locals::X.fs:=λb hb=>by
 rcases I.ok.stk with e|⟨e,hf⟩
 ·rw[e]at hb;exact yC _ hb
 ·rw[e]at hb;unfold frs at hb;rw[DQ,hf]at hb;exact hb
theorem xZ.stkFree (I:xZ X j9 U H s): ∀b∈frs X.stack,H b=none:=λb hb=>by
 rcases List.mem_cons.mp (I.stkSub b hb)with e|hb
 ·rw[e];exact I.free
 ·obtain⟨_,o,ho,_⟩:=I.ok.funs.mem hb;exact I.base.free b o ho (I.ok.frf b hb) λz=>I.ok.exfs b z hb
theorem xZ.step {g':j7 GenState}{t':Nat}{d':Drawn}{ch:a6 i4}(I:xZ X j9 U H s)
  (hch: ∀b∈ch,(b∈X.ex\/X.s₀.heap.objs.size<=b)/\b≠X.env.locals/\(∀x c,X.env.cells.lookup x=some c->c≠b)/\ ∀p∈X.pn++j9,p.1≠b)
  (keep: ∀b o,b≠X.env.locals->b∉X.fs->b∉ch->s.heap.get? b=some o->H b=none->h'.get? b=some o)
  (slot: ∀b o,b≠X.env.locals->b∈X.fs->b∉ch->s.heap.get? b=some o->H b=none-> ∃sl,h'.get? b=some {o with slots:=sl}) (free: ∀b o,b∉ch->s.heap.get? b=some o->H b=none->H' b=none)
  (there: ∀b o,b∉ch->s.heap.get? b=some o-> ∃o',h'.get? b=some o')
  (tups: ∀b xs,H b=some (.tup xs)->H' b=some (.tup xs)) (frzs: ∀b o u,H b=some (.frz o u)->H' b=some (.frz o u)) (tbls: ∀b ps,H b=some (.tbl ps)-> ∃more,H' b=some (.tbl (ps++more)))
  (ns: ∀m,s.heap.Ns X.env.locals m->h'.Ns X.env.locals m) (hok:IB X.prog X.w H' h') (hg:AllBare g'):
  xZ X j9 U H' {s with heap:=h',gens:=g',drawn:=d',toks:=t'}:=by
 have neL: ∀b o,X.s₀.heap.get? b=some o->b≠X.env.locals:=λb o e=>xQ (xP (yI e) I.ok.above);have neC: ∀b o,X.s₀.heap.get? b=some o->b∉X.ex->b∉ch:=λb o e hx hb=>by
  rcases(hch b hb).1 with z|z
  ·exact hx z
  ·exact absurd (xP (yI e) z) (qL _)
 have cellK: ∀x c,X.env.cells.lookup x=some c-> ∀v,s.heap.IsCell c v->h'.IsCell c v:=λx c e v ⟨o,ho,hd⟩=>by
  have nch:c∉ch:=λz=>(hch c z).2.2.1 x c e rfl
  by_cases hc:c∈X.fs
  ·obtain⟨sl,q⟩:=slot c o (I.cne x c e) hc nch ho (I.freeC x c e);exact#[_,q,hd]
  ·exact#[o,keep c o (I.cne x c e) hc nch ho (I.freeC x c e),hd]
 refine#[I.ok,I.os,hg,#[λb o e n hb hx=>?_,λb o e n hb hx=>?_,λb o e n hx=>?_,λb o e hx=>?_,λb xs e=>tups b xs (I.base.tups b xs e),λb o xs e=>frzs b o xs (I.base.frzs b o xs e),λb ps e=>?_],?_,λx c e=>?_,?_,λx c e=>?_,λp hp=>?_,hok,I.len]
 ·exact keep b o (neL b o e) hb (neC b o e hx) (I.base.keep b o e n hb hx) (I.base.free b o e n hx)
 ·obtain⟨sl,e1⟩:=I.base.slot b o e n hb hx;obtain⟨sl',e2⟩:=slot b _ (neL b o e) hb (neC b o e hx) e1 (I.base.free b o e n hx);exact#[sl',e2]
 ·obtain⟨o',e1⟩:=I.base.there b o e hx;exact free b o' (neC b o e hx) e1 (I.base.free b o e n hx)
 ·obtain⟨o',e1⟩:=I.base.there b o e hx;exact there b o' (neC b o e hx) e1
 ·obtain⟨m1,e1⟩:=I.base.tbls b ps e;obtain⟨m2,e2⟩:=tbls b _ e1;exact#[m1++m2,by rw[e2,Array.append_assoc]]
 ·obtain⟨m,hn,hl⟩:=I.loc;refine#[m,ns m hn,λi x v e1 e2 e3=>?_];obtain⟨u,r,l⟩:=hl i x v e1 e2 e3;refine#[u,r,?_]
  rcases l with l|⟨k,c,e,z⟩
  ·exact .inl l
  ·exact .inr #[k,c,e,cellK x c e _ z]
 ·obtain⟨v,z⟩:=I.cell x c e;exact#[v,cellK x c e v z]
 ·obtain⟨m,⟨o,_,_,ho,_⟩,_⟩:=I.loc;exact free _ o (λz=>(hch _ z).2.1 rfl) ho I.free
 ·obtain⟨v,o,ho,hd⟩:=I.cell x c e;exact free c o (λz=>(hch c z).2.2.1 x c e rfl) ho (I.freeC x c e)
 ·obtain⟨e,n,ne,nf,d⟩:=I.pin p hp;have nch:p.1∉ch:=λz=>(hch p.1 z).2.2.2 p hp rfl;exact#[keep p.1 p.2 ne nf nch e n,free p.1 p.2 nch e n,ne,nf,d]
theorem xZ.un {t':Nat}(I:xZ X j9 U H s)(u:Un X.fs [] H H' s.heap h')(hok:IB X.prog X.w H' h'):xZ X j9 U H' {s with heap:=h',toks:=t'}:=by
 obtain⟨m,⟨o,es,ep,ho,r⟩,_⟩:=id I.loc;obtain⟨sl,hL⟩:=u.any ho I.free (by simp);exact I.step (g':=s.gens) (d':=s.drawn) (ch:=[]) (λ_ z=>nomatch z) (λb o _ hb _ e n=>u.keep b o e n hb (by simp)) (λb o _ hb _ e n=>u.slot b o e n hb (by simp)) (λb o _ e n=>u.free b o e n (by simp)) (λb o _ e=>u.there b o e (by simp)) u.tups u.frzs u.tbls (λm' hm=>by
  obtain⟨o',es',ep',ho',r'⟩:=hm;rw[ho]at ho';cases ho';exact#[_,es',ep',hL,r']) hok I.bare
theorem xZ.call {g':j7 GenState}{t':Nat}{d':Drawn}{ch:a6 i4}(I:xZ X j9 U H s)(u:Un (frs X.stack) ch H H' s.heap h')(hok:IB X.prog X.w H' h')(hg:AllBare g')
  (hch: ∀b∈ch,(b∈X.ex\/X.s₀.heap.objs.size<=b)/\b≠X.env.locals/\(∀x c,X.env.cells.lookup x=some c->c≠b)/\ ∀p∈X.pn++j9,p.1≠b):
  xZ X j9 U H' {s with heap:=h',gens:=g',drawn:=d',toks:=t'}:=by
 obtain⟨m,⟨o,es,ep,ho,r⟩,_⟩:=id I.loc;obtain⟨sl,hL⟩:=u.any ho I.free λz=>(hch _ z).2.1 rfl;exact I.step (ch:=ch) hch (λb o hL hb hc e n=>u.keep b o e n (λz=>(List.mem_cons.mp (I.stkSub b z)).elim hL hb) hc) (λb o _ _ hc e n=>u.any e n hc) (λb o hc e n=>u.free b o e n hc) (λb o hc e=>u.there b o e hc) u.tups u.frzs u.tbls (λm' hm=>by
  obtain⟨o',es',ep',ho',r'⟩:=hm;rw[ho]at ho';cases ho';exact#[_,es',ep',hL,r']) hok hg
theorem xZ.turned {t':Nat}{it:i4}(I:xZ X j9 U H s)(k: ∀b o,b≠it->s.heap.get? b=some o->h'.get? b=some o)(hn:H it=none)(hL:it≠X.env.locals)
  (h1:it∈X.ex\/X.s₀.heap.objs.size<=it) (h2: ∀x c,X.env.cells.lookup x=some c->c≠it) (h3: ∀p∈X.pn++j9,p.1≠it):xZ X j9 U H {s with heap:=h',toks:=t'}:=by
 have nit: ∀b u,H b=some u->b≠it:=λb u e z=>by rw[z,hn]at e;cases e
 refine I.step (g':=s.gens) (d':=s.drawn) (ch:=[it]) (λb hb=>?_) (λb o _ _ hc e _=>k b o (λz=>hc (by simp[z])) e) (λb o _ _ hc e _=>#[o.slots,k b o (λz=>hc (by simp[z])) e]) (λ_ _ _ _ n=>n)
  (λb o hc e=>#[o,k b o (λz=>hc (by simp[z])) e]) (λ_ _ e=>e) (λ_ _ _ e=>e) (λb ps e=>#[#[],by rw[e];simp]) (λm hm=>?_) (λb u e=>?_) I.bare
 ·have e:b=it:=by simpa using hb
  subst e;exact#[h1,hL,h2,h3]
 ·obtain⟨o,es,ep,ho,r⟩:=hm;exact#[o,es,ep,k _ o (Ne.symm hL) ho,r]
 ·refine(I.hok b u e).stay (λc v hc q=>k c v ?_ q) (λ_ q=>q) λ_ _ q=>q
  rcases hc with z|z
  ·rw[z];exact nit b u e
  ·exact nit c _ z
theorem xZ.tok (I:xZ X j9 U H s)(t:Nat):xZ X j9 U H {s with toks:=t}:=I.un (h':=s.heap) (t':=t) Un.refl I.hok
theorem xZ.kept {t':Nat}(I:xZ X j9 U H s)(k: ∀b u,s.heap.get? b=some u->h'.get? b=some u):xZ X j9 U H {s with heap:=h',toks:=t'}:=I.un (Un.kept k) (I.hok.kept k)
theorem xZ.laid {a:i4}{o:HO}{t':Nat}(I:xZ X j9 U H s)(k: ∀b u,s.heap.get? b=some u->h'.get? b=some u)(hp:s.heap.objs.size<=a)(new:vY X.prog X.w (upd H a o) h' a o):
  xZ X j9 U (upd H a o) {s with heap:=h',toks:=t'}:=I.un (Un.laid k hp (I.hok.fresh hp)) (I.hok.laid k hp new)
theorem xZ.write {x e:i4}{o:HO}{t':Nat}(I:xZ X j9 U H s)(mu:Mut (H x))(he:e=x\/H e=some (.own x))(k: ∀b u,b≠e->s.heap.get? b=some u->h'.get? b=some u)(heo: ∃u,h'.get? e=some u)
  (new:vY X.prog X.w (upd H x o) h' x o):xZ X j9 U (upd H x o) {s with heap:=h',toks:=t'}:=I.un (Un.write mu he k heo) (I.hok.write mu he k heo new)
theorem xZ.pins_of {pins':a6 (i4×j8)}(I:xZ X j9 U H s)(h: ∀p∈pins',s.heap.get? p.1=some p.2/\H p.1=none/\p.1≠X.env.locals/\p.1∉X.fs/\ ∀v,p.2.data≠ .cell v):xZ X pins' U H s:=
 #[I.ok,I.os,I.bare,I.base,I.loc,I.cell,I.free,I.freeC,λp hp=>(List.mem_append.mp hp).elim (λz=>I.pin p (uC _ z)) (h p),I.hok,I.len]
theorem PP {N:a6 Str}(hN:N.Nodup){i j:Nat}{x:Str}(a:N[i]? =some x)(b:N[j]? =some x):i=j:=by
 obtain⟨h1,e1⟩:=List.getElem?_eq_some_iff.mp a;obtain⟨h2,e2⟩:=List.getElem?_eq_some_iff.mp b;exact(Fx hN).mp (e1.trans e2.symm)
theorem MR {M:Model}{A:j5}{E:a9->i6->Prop}{i:Nat}{x:Str}{v:V}{u:a9}{Q:Unit->i6->Prop}(I:xZ X j9 U H s)(hN:X.N.Nodup)(hi:X.N[i]? =some x)(hx:Loc X.env.scope x)(r:kU v u)
  (h: ∀s',xZ X j9 (U.set i (some v)) H s'->(∃a,Heap.SameBut a s.heap s'.heap/\(a=X.env.locals\/X.env.cells.lookup x=some a))->Q Unit.unit s') (hf:autoParam (X.fn x=true\/X.env.scope.names.lookup x=some .local) L2.aA._auto_1):wpAny M A (storeName X.env x u) Q E s:=by
 obtain⟨m,hn,hl⟩:=id I.loc;have hcls:(X.env.scope.kind== .class || (X.env.scope.kind== .module&&X.env.locals !=X.env.globals))=false:=by rw[I.ok.kind];rfl
 have hiσ:i<U.length:=by rw[I.len];exact(List.getElem?_eq_some_iff.mp hi).1
 have cne:=I.cne;have tracked: ∀{a:i4} {h':j4},(∃o,s.heap.get? a=some o/\H a=none)->Heap.SameBut a s.heap h'->IB X.prog X.w H h':=fun{a h'} ha hs b ob e=>by
  obtain⟨_,_,hfree⟩:=ha;refine(I.hok b ob e).stay (λc w' hc q=>(hs.2 c ?_).trans q) (λ_ q=>q) λ_ _ q=>q;rintro rfl
  rcases hc with rfl|hc
  ·rw[hfree]at e;cases e
  ·rw[hfree]at hc;cases hc
 rcases hx with hk|hk
 ·refine wpAny_storeName_local hk hn (λh' hn' hs=>?_) hcls;obtain⟨oL,_,_,hoL,_⟩:=id hn;refine h _ #[I.ok,I.os,I.bare,#[λb o e n hb hx=>?_,λb o e n hb hx=>?_,I.base.free,λb o e hx=>?_,I.base.tups,I.base.frzs,I.base.tbls],#[_,hn',λj y v' e1 e2 e3=>?_],λy c e=>?_,I.free,I.freeC,λp hp=>?_,tracked #[oL,hoL,I.free] hs,by simpa using I.len] #[_,hs,.inl rfl]
  ·exact(hs.2 b (xQ (xP (yI e) I.ok.above))).trans (I.base.keep b o e n hb hx)
  ·obtain⟨sl,e1⟩:=I.base.slot b o e n hb hx;exact#[sl,(hs.2 b (xQ (xP (yI e) I.ok.above))).trans e1]
  ·obtain⟨o',e1⟩:=I.base.there b o e hx;exact#[o',(hs.2 b (xQ (xP (yI e) I.ok.above))).trans e1]
  ·by_cases hj:j=i
   ·subst hj;rw[hi]at e1;cases e1;rw[Gc hiσ]at e2;cases e2;exact#[u,r,.inl #[hk,by simp]]
   ·rw[List.getElem?_set_ne (Ne.symm hj)]at e2;obtain⟨u',r',q⟩:=hl j y v' e1 e2 e3;refine#[u',r',?_]
    rcases q with⟨k,e⟩|⟨k,c,e,z⟩
    ·refine .inl #[k,?_];have:y≠x:=λe=>hj (PP hN e1 (e▸hi))
     simp[this,e]
    ·exact .inr #[k,c,e,z.sameBut hs (cne y c e)]
  ·obtain⟨w',z⟩:=I.cell y c e;exact#[w',z.sameBut hs (cne y c e)]
  ·obtain⟨e,n,ne,nf,d⟩:=I.pin p hp;exact#[(hs.2 p.1 ne).trans e,n,ne,nf,d]
 ·have hfn:X.fn x=true:=by
   rcases hf with z|z
   ·exact z
   ·rw[z]at hk;cases hk
  obtain⟨c,hc⟩:=I.ok.has x (.inl hk);obtain⟨w',z⟩:=I.cell x c hc;refine wpAny_storeName_cell I.ok.kind hk hc z (λh' hc' hs=>?_);obtain⟨oc,hoc,hocd⟩:=id z;refine h {s with heap:=h'} #[I.ok,I.os,I.bare,#[λb o e n hb hx=>?_,λb o e n hb hx=>?_,I.base.free,λb o e hx=>?_,I.base.tups,I.base.frzs,I.base.tbls],#[m,hn.sameBut hs (Ne.symm (cne x c hc)),λj y v' e1 e2 e3=>?_],λy c' e=>?_,I.free,I.freeC,λp hp=>?_,tracked #[oc,hoc,I.freeC x c hc] hs,by simpa using I.len] #[c,hs,.inr hc]
  ·exact(hs.2 b (xQ (xP (yI e) (I.ok.cab x c hfn hc)))).trans (I.base.keep b o e n hb hx)
  ·obtain⟨sl,e1⟩:=I.base.slot b o e n hb hx;exact#[sl,(hs.2 b (xQ (xP (yI e) (I.ok.cab x c hfn hc)))).trans e1]
  ·obtain⟨o',e1⟩:=I.base.there b o e hx;exact#[o',(hs.2 b (xQ (xP (yI e) (I.ok.cab x c hfn hc)))).trans e1]
  ·by_cases hj:j=i
   ·subst hj;rw[hi]at e1;cases e1;rw[Gc hiσ]at e2;cases e2;exact#[u,r,.inr #[.inl hk,c,hc,hc']]
   ·rw[List.getElem?_set_ne (Ne.symm hj)]at e2;obtain⟨u',r',q⟩:=hl j y v' e1 e2 e3;refine#[u',r',?_]
    rcases q with q|⟨k,c',e,z'⟩
    ·exact .inl q
    ·refine .inr #[k,c',e,z'.sameBut hs ?_];rintro rfl;exact hj (PP hN e1 (I.ok.inj _ _ _ e hc▸hi))
  ·by_cases hcc:c'=c
   ·subst hcc;exact#[_,hc']
   ·obtain⟨w2,z2⟩:=I.cell y c' e;exact#[w2,z2.sameBut hs hcc]
  ·obtain⟨e,n,ne,nf,d⟩:=I.pin p hp;refine#[(hs.2 p.1 ?_).trans e,n,ne,nf,d];intro q;rw[q,hoc]at e;have q':oc=p.2:=kB e;exact d w' (by rw[<-q'];exact hocd)
theorem OR {M:Model}{A:j5}{E:a9->i6->Prop}{i:Nat}{x:Str}{v:V}{u:a9}{Q:Unit->i6->Prop}(I:xZ X j9 U H s)(hN:X.N.Nodup)(hi:X.N[i]? =some x)(hx:Loc X.env.scope x)(r:kU v u)
  (h: ∀s',xZ X j9 (U.set i (some v)) H s'->Q Unit.unit s') (hf:autoParam (X.fn x=true\/X.env.scope.names.lookup x=some .local) L2.aA._auto_1):wpAny M A (storeName X.env x u) Q E s:=
 MR I hN hi hx r (λs' I' _=>h s' I') hf
theorem xZ.call' {s':i6}{ch:a6 i4}(I:xZ X j9 U H s)(ho:s'.os=s.os)(u:Un (frs X.stack) ch H H' s.heap s'.heap)(hok:IB X.prog X.w H' s'.heap)(hg:AllBare s'.gens)
  (hch: ∀b∈ch,(b∈X.ex\/X.s₀.heap.objs.size<=b)/\b≠X.env.locals/\(∀x c,X.env.cells.lookup x=some c->c≠b)/\ ∀p∈X.pn++j9,p.1≠b):xZ X j9 U H' s':=by
 obtain⟨h',g',d',t',o'⟩:=s';have e:o'=s.os:=ho;subst e;exact I.call (g':=g') (t':=t') (d':=d') u hok hg hch
end
abbrev XK:=a9->i5 i4->Hp->Prop
abbrev St:=a6 (i5 V)
abbrev VK:=V->Hp->Prop
abbrev TE:=St->Hp->VK->Prop
abbrev TT:=St->Hp->(i8->Hp->Prop)->Prop
abbrev TA:=St->Hp->(a6 V->Hp->Prop)->Prop
structure Fp where
 nx:St->Hp->Prop
 rt:VK
 bk:St->Hp->Prop:=λ_ _=>False
 ct:St->Hp->Prop:=λ_ _=>False
abbrev TS:=Fp->St->Hp->Prop
def EP (X:Cx)(j9:a6 (i4×j8))(U:St)(Q:VK)(u:a9)(s':i6):Prop:= ∃v H',xZ X j9 U H' s'/\kU v u/\Q v H'
def TP (X:Cx)(j9:a6 (i4×j8))(U:St)(Q:i8->Hp->Prop)(b:i8)(s':i6):Prop:= ∃H',xZ X j9 U H' s'/\Q b H'
def AP (X:Cx)(j9:a6 (i4×j8))(U:St)(Q:a6 V->Hp->Prop)(us:a6 a9)(s':i6):Prop:= ∃vs H',xZ X j9 U H' s'/\kE vs us/\Q vs H'
def SP (X:Cx)(j9:a6 (i4×j8))(D:Fp)(f:Flow)(s':i6):Prop:=
 match f with
 | .next=> ∃U' H',xZ X j9 U' H' s'/\D.nx U' H'
 | .brk=> ∃U' H',xZ X j9 U' H' s'/\D.bk U' H'
 | .cont=> ∃U' H',xZ X j9 U' H' s'/\D.ct U' H'
 | .ret u=> ∃v U' H',xZ X j9 U' H' s'/\kU v u/\D.rt v H'
structure PE (X:Cx)(e:j6)(t:TE):Prop where
 go: ∀(j9:List (i4×j8)) (s:i6) (U:St) (H:Hp) (Q:VK),xZ X j9 U H s->t U H Q->wpAny (model X.prog X.w) X.A (eval e X.env) (EP X j9 U Q) X.xe s
instance {X:Cx}{e:j6}{t:TE}:CoeFun (PE X e t) (λ_=> ∀(j9:a6 (i4×j8)) (s:i6) (U:St) (H:Hp) (Q:VK),xZ X j9 U H s->t U H Q->wpAny (model X.prog X.w) X.A (eval e X.env) (EP X j9 U Q) X.xe s):=#[PE.go]
structure PT (X:Cx)(e:j6)(t:TT):Prop where
 go: ∀(j9:List (i4×j8)) (s:i6) (U:St) (H:Hp) (Q:i8->Hp->Prop),xZ X j9 U H s->t U H Q->wpAny (model X.prog X.w) X.A (isTrue e X.env (eval e X.env)) (TP X j9 U Q) X.xe s
instance {X:Cx}{e:j6}{t:TT}:CoeFun (PT X e t) (λ_=> ∀(j9:a6 (i4×j8)) (s:i6) (U:St) (H:Hp) (Q:i8->Hp->Prop),xZ X j9 U H s->t U H Q->wpAny (model X.prog X.w) X.A (isTrue e X.env (eval e X.env)) (TP X j9 U Q) X.xe s):=#[PT.go]
structure PW (X:Cx)(e:j6)(t:TT):Prop where
 go: ∀(whole:Sem a9) (j9:List (i4×j8)) (s:i6) (U:St) (H:Hp) (Q:i8->Hp->Prop),xZ X j9 U H s->t U H Q->wpAny (model X.prog X.w) X.A (isTrue e X.env whole) (TP X j9 U Q) X.xe s
instance {X:Cx}{e:j6}{t:TT}:CoeFun (PW X e t) (λ_=> ∀(whole:Sem a9) (j9:a6 (i4×j8)) (s:i6) (U:St) (H:Hp) (Q:i8->Hp->Prop),xZ X j9 U H s->t U H Q->wpAny (model X.prog X.w) X.A (isTrue e X.env whole) (TP X j9 U Q) X.xe s):=#[PW.go]
theorem PW.pt {X:Cx}{e:j6}{t:TT}(h:PW X e t):PT X e t:=#[h _]
structure PA (X:Cx)(es:List j6)(t:TA):Prop where
 go: ∀(pos:Pos) (j9:List (i4×j8)) (s:i6) (U:St) (H:Hp) (Q:List V->Hp->Prop),xZ X j9 U H s->t U H Q->wpAny (model X.prog X.w) X.A (spliced (backTo pos (starEach es X.env))) (AP X j9 U Q) X.xe s
instance {X:Cx}{es:a6 j6}{t:TA}:CoeFun (PA X es t) (λ_=> ∀(pos:Pos) (j9:a6 (i4×j8)) (s:i6) (U:St) (H:Hp) (Q:a6 V->Hp->Prop),xZ X j9 U H s->t U H Q->wpAny (model X.prog X.w) X.A (spliced (backTo pos (starEach es X.env))) (AP X j9 U Q) X.xe s):=#[PA.go]
structure PS (X:Cx)(st:i9)(t:TS):Prop where
 go: ∀(j9:List (i4×j8)) (s:i6) (U:St) (H:Hp) (D:Fp),xZ X j9 U H s->t D U H->wpAny (model X.prog X.w) X.A (exec st X.env) (SP X j9 D) X.xe s
instance {X:Cx}{st:i9}{t:TS}:CoeFun (PS X st t) (λ_=> ∀(j9:a6 (i4×j8)) (s:i6) (U:St) (H:Hp) (D:Fp),xZ X j9 U H s->t D U H->wpAny (model X.prog X.w) X.A (exec st X.env) (SP X j9 D) X.xe s):=#[PS.go]
structure QG (X:Cx)(st:List i9)(t:TS):Prop where
 go: ∀(j9:List (i4×j8)) (s:i6) (U:St) (H:Hp) (D:Fp),xZ X j9 U H s->t D U H->wpAny (model X.prog X.w) X.A (execs st X.env) (SP X j9 D) X.xe s
instance {X:Cx}{st:a6 i9}{t:TS}:CoeFun (QG X st t) (λ_=> ∀(j9:a6 (i4×j8)) (s:i6) (U:St) (H:Hp) (D:Fp),xZ X j9 U H s->t D U H->wpAny (model X.prog X.w) X.A (execs st X.env) (SP X j9 D) X.xe s):=#[QG.go]
theorem wK {α:Type}{t:Sem α}{Q Q':α->i6->Prop}{M:Model}{A:j5}{E:a9->i6->Prop}{s:i6}(h:wpAny M A t Q E s)(hQ: ∀a s,Q a s->Q' a s):wpAny M A t Q' E s:=AG h hQ λ_ _ x=>x
section
variable {X:Cx}
inductive ZO (i:Nat) (U:St) (H:Hp) (Q:VK):Prop
 |mk (v:_) (h0:U[i]? =some (some v)) (h1:Q v H):ZO i U H Q
def tC (v:V):TE:=λ_ H Q=>Q v H
theorem zAf {i:Nat}{x:Str}{pos:Pos}(hN:X.N[i]? =some x)(hv:Vis X.env.scope x)(hd:autoParam ((x==("__debug__":Str))=false) L2.aB._auto_1)(hcd:autoParam ((x==("__classdict__":Str))=false) L2.aB._auto_1):PE X (.Name x pos) (ZO i):=by
 refine#[?_];intro j9 s U H Q I h;obtain⟨v,e,h⟩:=h;obtain⟨m,hn,hl⟩:=I.loc;obtain⟨u,r,l⟩:=hl i x v hN e hv;have fin:EP X j9 U Q u s:=#[v,H,I,r,h]
 rcases l with⟨hk,hm⟩|⟨hk,c,hc,hcell⟩
 ·exact wpAny_Name (wpAny_loadName_local I.ok.kind hk hn hm fin) hd
 ·rcases hk with hk|hk
  ·exact wpAny_Name (wpAny_loadName_cell I.ok.kind hk hc hcell fin) hd
  ·exact wpAny_Name (wpAny_loadName_free I.ok.kind hk hc hcell fin hcd) hd
theorem zI {i j pos}:PE X (.Constant (.int i) j pos) (tC (.int i)):=#[λ_ _ _ H _ I h=>wpAny_Constant_int #[.int i,H,I.tok _,#[-1],h]]
theorem qI {b j pos}:PE X (.Constant (.bool b) j pos) (tC (.bl b)):=#[λ_ _ _ H _ I h=>Constant_bool #[.bl b,H,I,rfl,h]]
theorem qH {j pos}:PE X (.Constant .none j pos) (tC .non):=#[λ_ _ _ H _ I h=>Constant_none #[.non,H,I,rfl,h]]
theorem zAg {x j pos}:PE X (.Constant (.str x) j pos) (tC (.str x)):=#[λ_ _ _ H _ I h=>Calls.Constant_str #[.str x,H,I.tok _,#[-1],h]]
def Gl (X:Cx)(x:Str):Prop:=X.env.kindOf x=some .globalImplicit
theorem KO {E:a9->i6->Prop}{j9:a6 (i4×j8)}{s:i6}{U:St}{H:Hp}{x:Str}{u:a9}{pos:Pos}{Q:a9->i6->Prop}(I:xZ X j9 U H s)(hg:Gl X x)(hm:X.mg x=some u)(h:Q u s)
  (hd:autoParam ((x==("__debug__":Str))=false) L2.aB._auto_1):wpAny (model X.prog X.w) X.A (eval (.Name x pos) X.env) Q E s:=
 Calls.Name_function_global I.ok.kind hg (Calls.loadGlobal_global (by rw[I.ok.glob];exact I.mod.glob.keeps I.bk) hm h) hd
theorem EO {E:a9->i6->Prop}{j9:a6 (i4×j8)}{s:i6}{U:St}{H:Hp}{x:Str}{u:a9}{pos:Pos}{Q:a9->i6->Prop}(I:xZ X j9 U H s)(hg:Gl X x)(hm:X.mg x=none)(hv:bootBuiltins x=some u)(h:Q u s)
  (hn:autoParam (x≠"__name__") L2.aB._auto_1) (hd:autoParam ((x==("__debug__":Str))=false) L2.aB._auto_1):wpAny (model X.prog X.w) X.A (eval (.Name x pos) X.env) Q E s:=by
 obtain⟨mb,h1,h2⟩:=I.mod.blt;exact Calls.Name_function_global I.ok.kind hg (Calls.loadGlobal_builtin (by rw[I.ok.glob];exact I.mod.glob.keeps I.bk) hm (by rw[I.ok.blt];exact h1.keeps I.bk) ((h2 x hn).trans hv) h) hd
theorem SQ {x:Str}{v:V}{u:a9}{pos:Pos}(hg:Gl X x)(hm:X.mg x=some u)(r:kU v u)(hd:autoParam ((x==("__debug__":Str))=false) L2.aB._auto_1):PE X (.Name x pos) (tC v):=#[λ_ _ _ H _ I h=>KO I hg hm #[v,H,I,r,h] hd]
theorem BH {x:Str}{v:V}{u:a9}{pos:Pos}(hg:Gl X x)(hm:X.mg x=none)(hv:bootBuiltins x=some u)(r:kU v u)(hn:autoParam (x≠"__name__") L2.aB._auto_1)(hd:autoParam ((x==("__debug__":Str))=false) L2.aB._auto_1):PE X (.Name x pos) (tC v):=#[λ_ _ _ H _ I h=>EO I hg hm hv #[v,H,I,r,h] hn hd]
variable {a b:j6}{ta tb:TE}{pos:Pos}
structure PC (X:Cx)(op:CmpOp)(a b:j6)(t:TE):Prop where
 go: ∀(j9:List (i4×j8)) (s:i6) (U:St) (H:Hp) (Q:VK),xZ X j9 U H s->t U H Q->
  wpAny (model X.prog X.w) X.A (eval a X.env) (λv s₁=>wpAny (model X.prog X.w) X.A (eval b X.env) (λu s₂=>wpAny (model X.prog X.w) X.A (compareOp op v u) (EP X j9 U Q) X.xe s₂) X.xe s₁) X.xe s
instance {X:Cx}{op:CmpOp}{a b:j6}{t:TE}:CoeFun (PC X op a b t) (λ_=> ∀(j9:a6 (i4×j8)) (s:i6) (U:St) (H:Hp) (Q:VK),xZ X j9 U H s->t U H Q->
  wpAny (model X.prog X.w) X.A (eval a X.env) (λv s₁=>wpAny (model X.prog X.w) X.A (eval b X.env) (λu s₂=>wpAny (model X.prog X.w) X.A (compareOp op v u) (EP X j9 U Q) X.xe s₂) X.xe s₁) X.xe s):=#[PC.go]
theorem PR (b:j6){op:CmpOp}(h:op≠ .In)(h2:op≠ .NotIn):behindInMarks op b=false:=by
 have e1:(op==CmpOp.In)=false:=by cases op<;>first|rfl|exact absurd rfl h
 have e2:(op==CmpOp.NotIn)=false:=by cases op<;>first|rfl|exact absurd rfl h2
 cases b<;>simp[behindInMarks,e1,e2]
def tB (t:TE):TT:=λU H Q=>t U H λx H1=> ∃c,x=.bl c/\Q c H1
theorem zAh {op:CmpOp}{t:TE}(h:PC X op a b t)(h1:autoParam (behindInMarks op b=false) L2.aC._auto_1):PE X (.Compare a [op] [b] pos) t:=#[λj9 s U H Q I hw=>wpAny_Compare1 (h j9 s U H Q I hw) h1]
theorem Rg {op:CmpOp}{t:TE}(h:PC X op a b t)(h1:autoParam (behindInMarks op b=false) L2.aC._auto_1):PT X (.Compare a [op] [b] pos) (tB t):=by
 refine#[?_];intro j9 s U H Q I hw;refine wpAny_isTrue_Compare1 (wK (h j9 s U H _ I hw) λv s1 h1=>wK h1 λu s2 h2=>wK h2 λc s3 ⟨x,H1,I1,r1,q1⟩=>?_) h1;obtain⟨d,rfl,q⟩:=q1;cases r1;exact qD #[H1,I1,q]
theorem kR {e:j6}{t:TE}(h:PE X e t)(he:autoParam ( ∀whole,isTrue e X.env whole=(do let v<-whole;standAt e.pos;holding [v] (truthy v))) L2.aD._auto_1):PT X e (tB t):=by
 refine#[?_];intro j9 s U H Q I hw;refine isTrue_plain (wK (h j9 s U H _ I hw) λv s1 ⟨x,H1,I1,r1,q1⟩=>?_) (he _);obtain⟨d,rfl,q⟩:=q1;cases r1;exact qD #[H1,I1,q]
variable {tA tB':TT}{rest:a6 j6}
def zFl (t u:TT):TT:=λU H Q=>t U H λc H1=>if c=true then u U H1 Q else Q false H1
def tOr (t u:TT):TT:=λU H Q=>t U H λc H1=>if c=true then Q true H1 else u U H1 Q
def zFf (t:TT):TT:=λU H Q=>t U H λc H1=>Q (!c) H1
theorem Hs (ha:PT X a tA):PW X (.BoolOp .And [a] pos) tA:=by
 refine#[?_];intro wh j9 s U H Q I h;refine isTrue_and (wK (ha j9 s U H Q I h) λc s1 e=>?_);cases c with
 |true=>exact isTrue_and_nil e
 |false=>exact e
theorem kW (ha:PT X a tA):PW X (.BoolOp .Or [a] pos) tA:=by
 refine#[?_];intro wh j9 s U H Q I h;refine isTrue_or (wK (ha j9 s U H Q I h) λc s1 e=>?_);cases c with
 |false=>exact isTrue_or_nil e
 |true=>exact e
theorem JY (ha:PT X a tA)(hb:PW X (.BoolOp .And (b::rest) pos) tB'):PW X (.BoolOp .And (a::b::rest) pos) (zFl tA tB'):=by
 refine#[?_];intro wh j9 s U H Q I h;refine isTrue_and (wK (ha j9 s U H _ I h) λc s1 m9=>?_);obtain⟨H1,I1,q1⟩:=m9;cases c with
 |true=>exact hb wh j9 s1 U H1 Q I1 q1
 |false=>exact#[H1,I1,q1]
theorem qY (ha:PT X a tA)(hb:PW X (.BoolOp .Or (b::rest) pos) tB'):PW X (.BoolOp .Or (a::b::rest) pos) (tOr tA tB'):=by
 refine#[?_];intro wh j9 s U H Q I h;refine isTrue_or (wK (ha j9 s U H _ I h) λc s1 m9=>?_);obtain⟨H1,I1,q1⟩:=m9;cases c with
 |true=>exact#[H1,I1,q1]
 |false=>exact hb wh j9 s1 U H1 Q I1 q1
theorem qN (ha:PT X a tA):PT X (.UnaryOp .Not a pos) (zFf tA):=by
 refine#[?_];intro j9 s U H Q I h;exact isTrue_not (ha j9 s U H (λc H1=>Q (!c) H1) I h)
def Vr (ta tb:TE):TE:=λU H Q=>ta U H λx H1=> ∃c,x=.bl c/\if c=true then tb U H1 Q else Q (.bl false) H1
def zCf (ta:TE):TE:=λU H Q=>ta U H λx H1=> ∃c,x=.bl c/\Q (.bl (!c)) H1
theorem BE {op}{t:TE}(h:PE X a t):PE X (.BoolOp op [a] pos) t:=#[λj9 s U H Q I hw=>BoolOp_one (h j9 s U H Q I hw)]
theorem An (ha:PE X a ta)(hb:PE X (.BoolOp .And (b::rest) pos) tb):PE X (.BoolOp .And (a::b::rest) pos) (Vr ta tb):=by
 refine#[?_];intro j9 s U H Q I h;refine BoolOp_and (wK (ha j9 s U H _ I h) λv s1 m9=>?_);obtain⟨x,H1,I1,r1,q1⟩:=m9;obtain⟨c,rfl,q1⟩:=q1;cases r1;refine qD ?_;cases c with
 |true=>exact hb j9 s1 U H1 Q I1 q1
 |false=>exact#[.bl false,H1,I1,rfl,q1]
theorem VQ (ha:PE X a ta):PE X (.UnaryOp .Not a pos) (zCf ta):=by
 refine#[?_];intro j9 s U H Q I h;refine UnaryOp_ (wK (ha j9 s U H _ I h) λv s1 m9=>?_);obtain⟨x,H1,I1,r1,q1⟩:=m9;obtain⟨c,rfl,q1⟩:=q1;cases r1;exact not_of (qD #[.bl (!c),H1,I1,rfl,q1])
def tIf (t:TT)(ta tb:TE):TE:=λU H Q=>t U H λc H1=>if c=true then ta U H1 Q else tb U H1 Q
theorem Jc {c:j6}(hc:PT X c tA)(ha:PE X a ta)(hb:PE X b tb):PE X (.IfExp c a b pos) (tIf tA ta tb):=by
 refine#[?_];intro j9 s U H Q I h;refine wpAny_IfExp (wK (hc j9 s U H _ I h) λd s1 m9=>?_);obtain⟨H1,I1,q1⟩:=m9;cases d with
 |true=>exact ha j9 s1 U H1 Q I1 q1
 |false=>exact hb j9 s1 U H1 Q I1 q1
end
def kN (K:a7)(H:Hp)(a:i4)(xs:a6 V):Prop:=
 Rd H a (.lst xs)\/
  ∃(o:j8) (its:j7 a9) (n:Nat),K.lookup a=some o/\o.cls=.type "list"/\o.dict=none/\o.data=.seq its n/\its.size<=sizeLine/\kE xs its.toList
def Ax (K:a7)(H:Hp)(a:i4)(xs:a6 V):Prop:=
 Rd H a (.tup xs)\/
  ∃(o:j8) (its:j7 a9) (n:Nat),K.lookup a=some o/\o.cls=.type "tuple"/\o.data=.seq its n/\its.size<=sizeLine/\kE xs its.toList
noncomputable def zHw:a9->i5 V
 | .none=>some .non
 | .bool b=>some (.bl b)
 | .int i _=>some (.int i)
 | .str x _=>some (.str x)
 | .bytes b _=>some (.byt b)
 | .float b _=>some (.flt b)
 | .ref a=>some (.ref a)
 | .type n=>some (.ty n)
 |_=>none
theorem kU.abs {x:V}{u:a9}(r:kU x u):zHw u=some x:=by
 cases x with
 |non=>cases r;rfl
 |bl _=>cases r;rfl
 |int _=>obtain⟨t,rfl⟩:=r;rfl
 |str _=>obtain⟨t,rfl⟩:=r;rfl
 |byt _=>obtain⟨t,rfl⟩:=r;rfl
 |flt _=>obtain⟨t,rfl⟩:=r;rfl
 |ref _=>cases r;rfl
 |ty _=>cases r;rfl
theorem kU.inj {x y:V}{u:a9}(r:kU x u)(q:kU y u):x=y:=kB (r.abs.symm.trans q.abs)
theorem kE.inj {xs ys:a6 V}{us:a6 a9}(h:kE xs us)(q:kE ys us):xs=ys:=by
 induction h generalizing ys with
 |nil=>cases q;rfl
 |cons r t ih=>
 cases q with
 |cons r' t'=>rw[r.inj r',ih t']
section
variable {X:Cx}{j9:a6 (i4×j8)}{U:St}{H:Hp}{s:i6}{a:i4}{xs ys:a6 V}
theorem kN.of {K:a7}(h:H a=some (.lst xs)):kN K H a xs:=.inl (.inl h)
theorem Ax.of {K:a7}(h:H a=some (.tup xs)):Ax K H a xs:=.inl (.inl h)
theorem xZ.list (I:xZ X j9 U H s)(h:kN X.K H a xs): ∃its:a6 a9,kE xs its/\PlainL s.heap a its.toArray/\xs.length<=sizeLine:=by
 rcases h with h|⟨o,its,n,hk,hc,hd,hs,hz,r⟩
 ·obtain⟨z,its,n,r,e⟩:=h.ok I.hok;exact#[its,r,#[_,n,e,rfl,rfl,rfl],z]
 ·refine#[its.toList,r,#[o,n,I.kIn a o hk,hc,hd,by simpa using hs],?_];have e:=r.length;simp only[wZ]at e;lia
theorem xZ.tuple (I:xZ X j9 U H s)(h:Ax X.K H a xs): ∃its:a6 a9,kE xs its/\IsTup s.heap a its.toArray/\xs.length<=sizeLine:=by
 rcases h with h|⟨o,its,n,hk,hc,hs,hz,r⟩
 ·obtain⟨z,its,r,p⟩:=h.ok I.hok;exact#[its,r,p,z]
 ·refine#[its.toList,r,#[o,I.kIn a o hk,hc,n,by simpa using hs],?_];have e:=r.length;simp only[wZ]at e;lia
theorem xZ.list_inj (I:xZ X j9 U H s)(h:kN X.K H a xs)(h':kN X.K H a ys):xs=ys:=by
 obtain⟨its,r,⟨o,n,e,_,_,d⟩,_⟩:=I.list h;obtain⟨its',r',⟨o',n',e',_,_,d'⟩,_⟩:=I.list h';rw[e]at e';cases e';rw[d]at d';injection d' with d1 _
 have:its=its':=by simpa using qZ Array.toList d1
 subst this;exact r.inj r'
theorem xZ.tuple_inj (I:xZ X j9 U H s)(h:Ax X.K H a xs)(h':Ax X.K H a ys):xs=ys:=by
 obtain⟨its,r,⟨o,e,_,n,d⟩,_⟩:=I.tuple h;obtain⟨its',r',⟨o',e',_,n',d'⟩,_⟩:=I.tuple h';rw[e]at e';cases e';rw[d]at d';injection d' with d1 _
 have:its=its':=by simpa using qZ Array.toList d1
 subst this;exact r.inj r'
end
noncomputable abbrev Cx.wish (X:Cx)(E:a9->i6->Prop):Cx:={X with xe:=E}
noncomputable abbrev Cx.nox (X:Cx):Cx:=X.wish λ_ _=>False
theorem Cx.Ok.wish {X:Cx}(ok:X.Ok)(E:a9->i6->Prop):(X.wish E).Ok:=
 #[ok.mod,ok.kind,ok.glob,ok.blt,ok.above,ok.inj,ok.has,ok.cab,ok.hd,ok.frames,ok.stk,ok.exf,ok.bs,ok.bsz,ok.noex,ok.exfs,ok.funs,ok.frf]
theorem Cx.Ok.unwish {X:Cx}{E:a9->i6->Prop}(ok:(X.wish E).Ok):X.Ok:=
 #[ok.mod,ok.kind,ok.glob,ok.blt,ok.above,ok.inj,ok.has,ok.cab,ok.hd,ok.frames,ok.stk,ok.exf,ok.bs,ok.bsz,ok.noex,ok.exfs,ok.funs,ok.frf]
section
variable {X:Cx}{j9:a6 (i4×j8)}{U:St}{H:Hp}{s:i6}{E:a9->i6->Prop}
theorem xZ.wish (I:xZ X j9 U H s)(E:a9->i6->Prop):xZ (X.wish E) j9 U H s:=#[I.ok.wish E,I.os,I.bare,I.base,I.loc,I.cell,I.free,I.freeC,I.pin,I.hok,I.len]
theorem xZ.unwish (I:xZ (X.wish E) j9 U H s):xZ X j9 U H s:=#[I.ok.unwish,I.os,I.bare,I.base,I.loc,I.cell,I.free,I.freeC,I.pin,I.hok,I.len]
theorem SP.unwish {D:Fp}{f:Flow}{s':i6}(h:SP (X.wish E) j9 D f s'):SP X j9 D f s':=by
 cases f with
 |next=>obtain⟨U',H',I,q⟩:=h;exact#[U',H',I.unwish,q]
 |brk=>obtain⟨U',H',I,q⟩:=h;exact#[U',H',I.unwish,q]
 |cont=>obtain⟨U',H',I,q⟩:=h;exact#[U',H',I.unwish,q]
 |ret u=>obtain⟨v,U',H',I,r,q⟩:=h;exact#[v,U',H',I.unwish,r,q]
theorem QG.nox {st:a6 i9}{t:TS}(h:QG X.nox st t):QG X st t:=#[λj9 s U H D I hw=>
 AG (h j9 s U H D (I.wish _) hw) (λ_ _ q=>q.unwish) λ_ _ z=>False.elim z]
end
section
variable {X:Cx}{st:i9}{rest:a6 i9}{t u:TS}{e:j6}{te:TE}{pos:Pos}
def Zd:TS:=λD U H=>D.nx U H
def XQ (t u:TS):TS:=λD U H=>t {D with nx:=u D} U H
theorem yD:QG X [] Zd:=#[λ_ _ U H _ I h=>DE #[U,H,I,h]]
theorem zC (h1:PS X st t)(h2:QG X rest u):QG X (st::rest) (XQ t u):=by
 refine#[?_];intro j9 s U H D I h;refine wpAny_execs_cons (wK (h1 j9 s U H {D with nx:=u D} I h) λf s1 q=>?_);cases f with
 |next=>
  obtain⟨U',H',I',q⟩:=q;exact h2 j9 s1 U' H' D I' q
 |ret v=>exact q
 |brk=>exact q
 |cont=>exact q
theorem zL (h1:PS X st t):QG X [st] t:=by
 refine#[?_];intro j9 s U H D I h;refine wpAny_execs_cons (wK (h1 j9 s U H D I h) λf s1 q=>?_);cases f with
 |next=>exact DE q
 |ret v=>exact q
 |brk=>exact q
 |cont=>exact q
theorem xZ.quiet {j9:a6 (i4×j8)}{U:St}{H:Hp}{s:i6}(I:xZ X j9 U H s):interactive X.env=false:=by simp[interactive,I.ok.kind]
def zCh (te:TE):TS:=λD U H=>te U H λ_ H1=>D.nx U H1
theorem kG (he:PE X e te)(hs:autoParam (swapsWith e none pos.line X.env=pure false) L2.aE._auto_1):PS X (.Expr e pos) (zCh te):=by
 refine#[?_];intro j9 s U H D I h;exact wpAny_Expr_any (wK (he j9 s U H _ I h) λv s1 ⟨x,H1,I1,r1,q1⟩=>#[U,H1,I1,q1]) I.quiet hs
def Vo (te:TE):TS:=λD U H=>te U H D.rt
theorem zT (he:PE X e te):PS X (.Return (some e) pos) (Vo te):=by
 refine#[?_];intro j9 s U H D I h;exact wpAny_Return_some (wK (he j9 s U H _ I h) λv s1 ⟨x,H1,I1,r1,q1⟩=>#[x,U,H1,I1,r1,q1])
def zFg (c:TT)(t u:TS):TS:=λD U H=>c U H λb H1=>if b=true then t D U H1 else u D U H1
theorem xD {c:j6}{a b:a6 i9}{tc:TT}(hc:PT X c tc)(ha:QG X a t)(hb:QG X b u):PS X (.If c a b pos) (zFg tc t u):=by
 refine#[?_];intro j9 s U H D I h;refine wpAny_If (wK (hc j9 s U H _ I h) λd s1 m9=>?_);obtain⟨H1,I1,q1⟩:=m9;cases d with
 |true=>exact ha j9 s1 U H1 D I1 q1
 |false=>exact hb j9 s1 U H1 D I1 q1
def ZP:TS:=λ_ _ _=>False
theorem Ba:PS X st ZP:=#[λ_ _ _ _ _ _ h=>h.elim]
end
abbrev TG:=V->St->Hp->(St->Hp->Prop)->Prop
abbrev TGs:=a6 V->St->Hp->(St->Hp->Prop)->Prop
structure PG (X:Cx)(n9:j6)(t:TG):Prop where
 go: ∀(j9:List (i4×j8)) (s:i6) (U:St) (H:Hp) (v:V) (u:a9) (Q:St->Hp->Prop),xZ X j9 U H s->kU v u->t v U H Q->
  wpAny (model X.prog X.w) X.A (assign n9 X.env u) (λ_ s'=> ∃U' H',xZ X j9 U' H' s'/\Q U' H') X.xe s
instance {X:Cx}{n9:j6}{t:TG}:CoeFun (PG X n9 t) (λ_=> ∀(j9:a6 (i4×j8)) (s:i6) (U:St) (H:Hp) (v:V) (u:a9) (Q:St->Hp->Prop),xZ X j9 U H s->kU v u->t v U H Q->
  wpAny (model X.prog X.w) X.A (assign n9 X.env u) (λ_ s'=> ∃U' H',xZ X j9 U' H' s'/\Q U' H') X.xe s):=#[PG.go]
structure ZB (X:Cx)(ts:List j6)(t:TGs):Prop where
 go: ∀(j9:List (i4×j8)) (s:i6) (U:St) (H:Hp) (vs:List V) (us:List a9) (Q:St->Hp->Prop),xZ X j9 U H s->kE vs us->t vs U H Q->
  wpAny (model X.prog X.w) X.A (assignInOrder ((assignEach ts X.env).map (·.2)) us) (λ_ s'=> ∃U' H',xZ X j9 U' H' s'/\Q U' H') X.xe s
instance {X:Cx}{ts:a6 j6}{t:TGs}:CoeFun (ZB X ts t) (λ_=> ∀(j9:a6 (i4×j8)) (s:i6) (U:St) (H:Hp) (vs:a6 V) (us:a6 a9) (Q:St->Hp->Prop),xZ X j9 U H s->kE vs us->t vs U H Q->
  wpAny (model X.prog X.w) X.A (assignInOrder ((assignEach ts X.env).map (·.2)) us) (λ_ s'=> ∃U' H',xZ X j9 U' H' s'/\Q U' H') X.xe s):=#[ZB.go]
abbrev zBm:=V->V->V->Hp->(Hp->Prop)->Prop
def zEa (X:Cx)(t:zBm):Prop:=
 ∀(j9:a6 (i4×j8)) (s:i6) (U:St) (H:Hp) (o i v:V) (ov iv u:a9) (Q:Hp->Prop),xZ X j9 U H s->kU o ov->kU i iv->kU v u->t o i v H Q->
  wpAny (model X.prog X.w) X.A (setItem ov iv u) (λ_ s'=> ∃H',xZ X j9 U H' s'/\Q H') X.xe s
section
variable {X:Cx}{pos:Pos}
def wI (i:Nat):TG:=λv U H Q=>Q (U.set i (some v)) H
theorem zY (i:Nat){x:Str}(hN:X.N.Nodup)(hi:autoParam (X.N[i]? =some x) L2.aE._auto_1)(hx:autoParam (Loc X.env.scope x) L2.aF._auto_1)(hf:autoParam (X.fn x=true\/X.env.scope.names.lookup x=some .local) L2.aA._auto_1):PG X (.Name x pos) (wI i):=by
 refine#[?_];intro j9 s U H v u Q I r h;exact wpAny_assign_Name (OR I hN hi hx r (λs' I'=>#[_,H,I',h]) hf)
inductive zDn (vs:List V) (U:St) (H:Hp) (Q:St->Hp->Prop):Prop
 |mk (h0:vs=[]) (h1:Q U H):zDn vs U H Q
inductive Zx (t:TG) (u:TGs) (vs:List V) (U:St) (H:Hp) (Q:St->Hp->Prop):Prop
 |mk (v r:_) (h0:vs=v::r) (h1:t v U H λU' H'=>u r U' H' Q):Zx t u vs U H Q
theorem jS:ZB X [] zDn:=by
 refine#[?_];intro j9 s U H vs us Q I r h;obtain⟨e,h⟩:=h;subst e;cases r;exact assignInOrder_nil #[U,H,I,h]
theorem yF {e:j6}{es:a6 j6}{t:TG}{u:TGs}(h1:PG X e t)(h2:ZB X es u)
  (hs:autoParam ((assignEach (e::es) X.env).map (·.2)=assign e X.env::(assignEach es X.env).map (·.2)) L2.aE._auto_1):ZB X (e::es) (Zx t u):=by
 refine#[?_];intro j9 s U H vs us Q I r h;obtain⟨v,vr,e1,h⟩:=h;subst e1;cases r with
 |cons r rr=>
  rw[hs];refine assignInOrder_cons (wK (h1 j9 s U H _ _ _ I r h) λ_ s1 m9=>?_);obtain⟨U1,H1,I1,q1⟩:=m9;exact h2 j9 s1 U1 H1 _ _ Q I1 rr q1
inductive zBb (K:a7) (n:Nat) (t:TGs) (v:V) (U:St) (H:Hp) (Q:St->Hp->Prop):Prop
 |mk (a xs:_) (h0:v=.ref a) (h1:Ax K H a xs) (h2:xs.length=n) (h3:t xs U H Q):zBb K n t v U H Q
theorem qO {es:a6 j6}{k:Nat}{t:TGs}{n:Nat}(hc:X.calm=true)(h:ZB X es t)
  (hn:autoParam ((assignEach es X.env).length =n) L2.aE._auto_1) (hst:autoParam ((assignEach es X.env).findIdx? (·.1)=none) L2.aE._auto_1):PG X (.Tuple es k pos) (zBb X.K n t):=by
 refine#[?_];intro j9 s U H v u Q I r hw;obtain⟨a,xs,e1,hq,hl,hw⟩:=hw;subst e1;cases r;obtain⟨its,rv,ht,hz⟩:=I.tuple hq;refine assign_Tuple_tuple (I.ok.hd hc) ht (by simp[hn,<-hl,rv.length]) hst λh' hx=>?_;have I1:xZ X j9 U H {s with heap:=h'}:=I.kept (t':=s.toks) λb o e=>hx b o (xQ (yI e)) e;exact h j9 _ U H xs _ Q I1 (by simpa using rv) hw
def zHo (to ti:TE)(t:zBm):TG:=λv U H Q=>to U H λo H1=>ti U H1 λi H2=>t o i v H2 λH3=>Q U H3
theorem LI {o i:j6}{to ti:TE}{t:zBm}(ho:PE X o to)(hi:PE X i ti)(hs:zEa X t)
  (ha:autoParam ( ∀v,assign (.Subscript o i pos) X.env v=(do
   let ov<-holding [v] (eval o X.env)
   let iv<-holding [v,ov] (eval i X.env)
   standAt pos
   holding [v,ov,iv] (setItem ov iv v)
   release [v,ov,iv] [])) L2.aD._auto_1):PG X (.Subscript o i pos) (zHo to ti t):=by
 refine#[?_];intro j9 s U H v u Q I r h;rw[ha];refine zD (kY (wK (ho j9 s U H _ I h) λov s1 m9=>?_));obtain⟨x,H1,I1,r1,q1⟩:=m9;refine zD (kY (wK (hi j9 s1 U H1 _ I1 q1) λiv s2 m9=>?_));obtain⟨y,H2,I2,r2,q2⟩:=m9;refine zD (ET (zD (kY (wK (hs j9 s2 U H2 x y v ov iv u _ I2 r1 r2 r q2) λ_ s3 m9=>?_))));obtain⟨H3,I3,q3⟩:=m9;exact wpAny_release #[U,H3,I3,q3]
def TL (te:TE)(g:TG):TS:=λD U H=>te U H λx H1=>g x U H1 D.nx
theorem wS {tg e:j6}{te:TE}{g:TG}(he:PE X e te)(hg:PG X tg g)(hs:autoParam (swapsWithSole [tg] e pos.line X.env=pure false) L2.aE._auto_1)(hw:autoParam (swappedStores [tg] e X.env=pure none) L2.aE._auto_1)
  (h1:autoParam ((assignEach [tg] X.env).map (·.2)=[assign tg X.env]) L2.aE._auto_1):PS X (.Assign [tg] e pos) (TL te g):=by
 refine#[?_];intro j9 s U H D I h;refine wpAny_Assign_stores (wK (he j9 s U H _ I h) λv s1 ⟨x,H1,I1,r1,q1⟩=>?_) hs hw;rw[h1];exact wK (hg j9 s1 U H1 x v _ I1 r1 q1) λ_ s2 q=>q
theorem yP (i:Nat){x:Str}{e:j6}{te:TE}{pos':Pos}(hN:X.N.Nodup)(he:PE X e te)(hi:autoParam (X.N[i]? =some x) L2.aE._auto_1)(hx:autoParam (Loc X.env.scope x) L2.aF._auto_1)(hs:autoParam (swapsWith e (some (.Name x pos')) pos.line X.env=pure false) L2.aE._auto_1)(hf:autoParam (X.fn x=true\/X.env.scope.names.lookup x=some .local) L2.aA._auto_1):
  PS X (.Assign [.Name x pos'] e pos) (TL te (wI i)):=by
 refine#[?_];intro j9 s U H D I h;refine wpAny_Assign_Name (wK (he j9 s U H _ I h) λv s1 ⟨y,H1,I1,r1,q1⟩=>?_) hs;exact OR I1 hN hi hx r1 (λs2 I2=>#[_,H1,I2,q1]) hf
def ZN (c:TT)(tb:TS):TS:=λD U H=> ∃W:Nat->St->Hp->Prop,(∃m,W m U H)/\ ∀m U H,W m U H->
 c U H λb H1=>if b=true then ∃N:St->Hp->Prop,(∀U' H',N U' H'-> ∃m',m'<m/\W m' U' H')/\tb {D with nx:=N,ct:=N,bk:=D.nx} U H1 else D.nx U H1
theorem VF {c:j6}{body:a6 i9}{tc:TT}{tb:TS}(hp:PassesOwn (model X.prog X.w) X.A X.env X.xe)(hc:PT X c tc)(hb:QG X body tb):PS X (.While c body [] pos) (ZN tc tb):=by
 refine#[?_];intro j9 s U H D I h;obtain⟨W,⟨m0,w0⟩,turn⟩:=h;refine wpAny_While (codeAny_whileLoop (λn s'=> ∃U' H',xZ X j9 U' H' s'/\W n U' H') ?_ m0 #[U,H,I,w0]);rintro n s1 ⟨U1,H1,I1,w1⟩;refine vR hp (wK (hc j9 s1 U1 H1 _ I1 (turn n U1 H1 w1)) λb s2 m9=>?_);obtain⟨H2,I2,q2⟩:=m9;cases b with
 |true=>
  obtain⟨N,hN,q2⟩:=q2;rw[zQ rfl];refine vR hp (wK (hb j9 s2 U1 H2 _ I2 q2) λf s3 q3=>?_);cases f with
  |next=>
   obtain⟨U3,H3,I3,n3⟩:=q3;obtain⟨m',hm,w3⟩:=hN U3 H3 n3;exact#[m',hm,U3,H3,I3,w3]
  |cont=>
   obtain⟨U3,H3,I3,n3⟩:=q3;obtain⟨m',hm,w3⟩:=hN U3 H3 n3;exact#[m',hm,U3,H3,I3,w3]
  |brk=>exact q3
  |ret v=>exact q3
 |false=>
  rw[zN yO];exact DE #[U1,H2,I2,q2]
end
structure It where
 go:Nat->Hp->Prop
 yld:Nat->Hp->V->Hp->Prop
 stop:Nat->Hp->Prop
def HI (X:Cx)(j9:a6 (i4×j8))(H:Hp)(b:i4):Prop:=
 H b=none/\b≠X.env.locals/\b∉X.fs/\(b∈X.ex\/X.s₀.heap.objs.size<=b)/\(∀x c,X.env.cells.lookup x=some c->c≠b)/\ ∀p∈X.pn++j9,p.1≠b
theorem xZ.fpOk {X:Cx}{j9:a6 (i4×j8)}{U:St}{H H':Hp}{s:i6}{b:i4}(I:xZ X j9 U H s)(hb:s.heap.objs.size<=b)(hn:H' b=none):HI X j9 H' b:=by
 refine#[hn,Nat.ne_of_gt (xP I.lt hb),I.nofs hb,.inr (xH I.sz hb),λx c e z=>?_,λp hp z=>?_]
 ·obtain⟨v,q⟩:=I.cell x c e;exact absurd (xP q.lt (by rw[z];exact hb)) (qL _)
 ·exact absurd (xP (yI (I.pin p hp).1) (by rw[z];exact hb)) (qL _)
structure Mm (P:i7)(w:j3)(K:a7)(tg:j6)(J:It)(fp:List i4)(it:i4)(tn:Nat->j4->Prop):Prop where
 mem:it∈fp
 obj: ∀i h,tn i h-> ∀b∈fp,∃o,h.get? b=some o/\ ∀v,o.data≠ .cell v
 keep: ∀i h h',tn i h->(∀b∈fp,∀o,h.get? b=some o->h'.get? b=some o)->tn i h'
 item: ∀(X:Cx),X.prog=P->X.w=w->X.K=K->X.calm=true-> ∀(i:Nat) (j9:List (i4×j8)) (s:i6) (U:St) (H:Hp) (E:a9->i6->Prop),xZ X j9 U H s->(∀b∈fp,HI X j9 H b)->tn i s.heap->J.go i H->
  wpAny (model P w) X.A (pyNext (.ref it)) (λr s1=> ∃u,r=some u/\
   wpAny (model P w) X.A (letOwnedTupleGo tg (.ref it) u) (λ_ s2=> ∃x H',xZ X j9 U H' s2/\kU x u/\J.yld i H x H'/\tn (i+1) s2.heap/\ ∀b∈fp,H' b=none) E s1) E s
 done: ∀(X:Cx),X.prog=P->X.w=w->X.K=K->X.calm=true-> ∀(i:Nat) (j9:List (i4×j8)) (s:i6) (U:St) (H:Hp) (E:a9->i6->Prop),xZ X j9 U H s->(∀b∈fp,HI X j9 H b)->tn i s.heap->J.stop i H->
  wpAny (model P w) X.A (pyNext (.ref it)) (λr s1=>r=none/\xZ X j9 U H s1) E s
 self: ∀(A:j5) (i:Nat) (s:i6) (Q:a9->i6->Prop) (E:a9->i6->Prop),tn i s.heap->Q (.ref it) s->wpAny (model P w) A (pyIter (.ref it)) Q E s
abbrev TI:=St->Hp->(It->Hp->Prop)->Prop
def PIE (X:Cx)(j9:a6 (i4×j8))(U:St)(tg:j6)(R:It->Hp->Prop)(itv:a9)(s2:i6):Prop:=
 ∃(it:i4) (fp:a6 i4) (tn:Nat->j4->Prop) (J:It) (H':Hp),itv=.ref it/\xZ X j9 U H' s2/\Mm X.prog X.w X.K tg J fp it tn/\tn 0 s2.heap/\(∀b∈fp,HI X j9 H' b)/\R J H'
structure PI (X:Cx)(tg iter:j6)(wi:TI):Prop where
 go: ∀(j9:List (i4×j8)) (s:i6) (U:St) (H:Hp) (R:It->Hp->Prop),xZ X j9 U H s->wi U H R->
  wpAny (model X.prog X.w) X.A (eval iter X.env) (λv s1=>wpAny (model X.prog X.w) X.A (pyIter v) (PIE X j9 U tg R) X.xe s1) X.xe s
instance {X:Cx}{tg iter:j6}{wi:TI}:CoeFun (PI X tg iter wi) (λ_=> ∀(j9:a6 (i4×j8)) (s:i6) (U:St) (H:Hp) (R:It->Hp->Prop),xZ X j9 U H s->wi U H R->
  wpAny (model X.prog X.w) X.A (eval iter X.env) (λv s1=>wpAny (model X.prog X.w) X.A (pyIter v) (PIE X j9 U tg R) X.xe s1) X.xe s):=#[PI.go]
theorem Nl {M : Model} {A : j5} {E : a9 -> i6 -> Prop} {s : i6} {tg : j6} {it : i4} {u : a9} {o : j8} {n : String} {vs : j7 a9} {Q : Unit -> i6 -> Prop} (ho : s.heap.get? it = some o) (hc : o.cls = .type n) (hd : o.data = .fields vs)
    (hn : ["enumerate", "zip", "dict_itemiterator", "dict_reverseitemiterator", "odict_iterator", "itertools.zip_longest", "itertools.pairwise"].contains n = false) (hQ : Q Unit.unit s) : wpAny M A (letOwnedTupleGo tg (.ref it) u) Q E s := by
  unfold letOwnedTupleGo;cases tg <;> first
    | exact zZ hQ
    | (cases u <;> first
        | exact zZ hQ
        | (refine zD (wpAny_load ho ?_)
           rw [hc, hd];show wpAny M A (if (["enumerate", "zip", "dict_itemiterator", "dict_reverseitemiterator", "odict_iterator", "itertools.zip_longest", "itertools.pairwise"].contains n && vs[0]? == some (rawInt _)) = true then _ else _) Q E s;rw [zN (by intro h; rw [hn, qM] at h; cases h)];exact zZ hQ))
noncomputable def ZF (K:a7)(a:i4):It:=
 #[λi H=> ∃xs x,kN K H a xs/\xs[i]? =some x,λi H x H'=>H'=H/\ ∀xs,kN K H a xs->xs[i]? =some x,λi H=> ∃xs,kN K H a xs/\xs.length<=i]
noncomputable def ZD (K:a7)(a:i4):It:=
 #[λi H=> ∃xs x,Ax K H a xs/\xs[i]? =some x,λi H x H'=>H'=H/\ ∀xs,Ax K H a xs->xs[i]? =some x,λi H=> ∃xs,Ax K H a xs/\xs.length<=i]
noncomputable def ZE (lo:Int)(n:Nat):It:=#[λi _=>i<n,λi H x H'=>H'=H/\x=.int (lo+i),λi _=>n<=i]
theorem MQ {P:i7}{w:j3}{K:a7}{tg:j6}(a it:i4):Mm P w K tg (ZF K a) [it] it (λi h=>h.IsListIter it a i) where
 mem:=by simp
 obj:=λi h st b hb=>by
  have e:b=it:=by simpa using hb
  subst e;obtain⟨o,e,c,d⟩:=st;exact#[o,e,λv z=>by rw[d]at z;cases z]
 keep:=λi h h' st k=>st.at λo e=>k it (by simp) o e
 item:=by
  intro X hP hw hK hc i j9 s U H E I hf st hg;subst hP hw hK;obtain⟨xs,x,hq,hx⟩:=hg;obtain⟨its,rv,p,hz⟩:=I.list hq;obtain⟨u,hu,ru⟩:=rv.get hx;obtain⟨f0,f1,f2,f3,f4,f5⟩:=hf it (by simp);refine BK st p.isList (x:=u) (by simpa using hu) λh' st' sb=>?_;have I1:xZ X j9 U H {s with heap:=h'}:=I.turned (t':=s.toks) (λb o hb e=>(sb.2 b hb).trans e) f0 f1 f3 f4 f5;obtain⟨o,e,c,d⟩:=id st';exact#[u,rfl,Nl (s:={s with heap:=h'}) e c d (by decide) #[x,H,I1,ru,#[rfl,λys hy=>by rw[I.list_inj hy hq];exact hx],st',λb hb=>(hf b hb).1]]
 done:=by
  intro X hP hw hK hc i j9 s U H E I hf st hg;subst hP hw hK;obtain⟨xs,hq,hx⟩:=hg;obtain⟨its,rv,p,hz⟩:=I.list hq;obtain⟨f0,f1,f2,f3,f4,f5⟩:=hf it (by simp);have hl:=rv.length;exact BU (I.ok.hd hc) st p.isList (by simp;lia) λh' eb=>#[rfl,I.turned (t':=s.toks) (λb o hb e=>eb b o hb e) f0 f1 f3 f4 f5]
 self:=λ_ _ _ _ _ st h=>wpAny_pyIter_listiter st h
theorem KZ {P:i7}{w:j3}{K:a7}{tg:j6}(a it:i4):Mm P w K tg (ZD K a) [it] it (λi h=>h.IsTupleIter it a i) where
 mem:=by simp
 obj:=λi h st b hb=>by
  have e:b=it:=by simpa using hb
  subst e;obtain⟨o,e,c,d⟩:=st;exact#[o,e,λv z=>by rw[d]at z;cases z]
 keep:=λi h h' st k=>st.at λo e=>k it (by simp) o e
 item:=by
  intro X hP hw hK hc i j9 s U H E I hf st hg;subst hP hw hK;obtain⟨xs,x,hq,hx⟩:=hg;obtain⟨its,rv,p,hz⟩:=I.tuple hq;obtain⟨u,hu,ru⟩:=rv.get hx;obtain⟨f0,f1,f2,f3,f4,f5⟩:=hf it (by simp);refine wpAny_pyNext_tuple_item st (show s.heap.IsTuple a its.toArray from p) (x:=u) (by simpa using hu) λh' st' sb=>?_;have I1:xZ X j9 U H {s with heap:=h'}:=I.turned (t':=s.toks) (λb o hb e=>(sb.2 b hb).trans e) f0 f1 f3 f4 f5;obtain⟨o,e,c,d⟩:=id st';exact#[u,rfl,Nl (s:={s with heap:=h'}) e c d (by decide) #[x,H,I1,ru,#[rfl,λys hy=>by rw[I.tuple_inj hy hq];exact hx],st',λb hb=>(hf b hb).1]]
 done:=by
  intro X hP hw hK hc i j9 s U H E I hf st hg;subst hP hw hK;obtain⟨xs,hq,hx⟩:=hg;obtain⟨its,rv,p,hz⟩:=I.tuple hq;obtain⟨f0,f1,f2,f3,f4,f5⟩:=hf it (by simp);have hl:=rv.length;exact wpAny_pyNext_tuple_end (I.ok.hd hc) st (show s.heap.IsTuple a its.toArray from p) (by simp;lia) λh' eb=>#[rfl,I.turned (t':=s.toks) (λb o hb e=>eb b o hb e) f0 f1 f3 f4 f5]
 self:=λ_ _ _ _ _ st h=>wpAny_pyIter_tupleiter st h
theorem QI {P:i7}{w:j3}{K:a7}{tg:j6}(it:i4)(lo:Int)(n:Nat):Mm P w K tg (ZE lo n) [it] it (λi h=>IsRangeIter h it (lo+(i:Nat)*1) ((n:Int)-(i:Nat)) 1) where
 mem:=by simp
 obj:=λi h st b hb=>by
  have e:b=it:=by simpa using hb
  subst e;exact#[_,st,λv z=>by
   have z':Data.fields _=Data.cell v:=z;cases z']
 keep:=λi h h' st k=>k it (by simp) _ st
 item:=by
  intro X hP hw hK hc i j9 s U H E I hf st hg;subst hP hw hK;obtain⟨f0,f1,f2,f3,f4,f5⟩:=hf it (by simp);have W:=Walks.range (prog:=X.prog) (w:=X.w) (I.ok.hd hc) it lo 1 n;refine W.item i s _ _ hg st λv h' tk hv st' kk=>?_;obtain⟨t,rfl⟩:=hv;have I1:xZ X j9 U H {s with heap:=h',toks:=tk}:=I.turned (λb o hb e=>kk b o (by simpa using hb) e) f0 f1 f3 f4 f5;refine#[-1,Nl (s:={s with heap:=h',toks:=tk}) (n:="range_iterator") st' rfl rfl (by decide) #[.int (lo+i),H,I1,#[t,?_],#[rfl,rfl],st',λb hb=>(hf b hb).1]];rw[Int.mul_one]
 done:=by
  intro X hP hw hK hc i j9 s U H E I hf st hg;subst hP hw hK;obtain⟨f0,f1,f2,f3,f4,f5⟩:=hf it (by simp);exact wpAny_pyNext_range_end (I.ok.hd hc) st (by have:n<=i:=hg;lia) λh' eb=>#[rfl,I.turned (t':=s.toks) (λb o hb e=>eb b o hb e) f0 f1 f3 f4 f5]
 self:=λ_ _ _ _ _ st h=>wpAny_pyIter_rangeiter st h
section
variable {X:Cx}{tg:j6}
inductive WQ (K:a7) (x:V) (H1:Hp) (R:It->Hp->Prop):Prop
 |mk (a:_) (h0:x=.ref a) (h1:(∃xs,kN K H1 a xs)) (h2:R (ZF K a) H1):WQ K x H1 R
def zDl (K:a7)(tl:TE):TI:=λU H R=>tl U H λx H1=>WQ K x H1 R
inductive Zu (K:a7) (x:V) (H1:Hp) (R:It->Hp->Prop):Prop
 |mk (a:_) (h0:x=.ref a) (h1:(∃xs,Ax K H1 a xs)) (h2:R (ZD K a) H1):Zu K x H1 R
def zHk (K:a7)(tl:TE):TI:=λU H R=>tl U H λx H1=>Zu K x H1 R
theorem vK {l:j6}{tl:TE}(hl:PE X l tl):PI X tg l (zDl X.K tl):=by
 refine#[?_];intro j9 s U H R I h;refine wK (hl j9 s U H _ I h) λv s1 m9=>?_;obtain⟨x,H1,I1,r1,q1⟩:=m9;obtain⟨a,e,⟨xs,hq⟩,q⟩:=q1;subst e;cases r1;obtain⟨its,rv,p,hz⟩:=I1.list hq;refine vZ p.isList ?_;refine#[s1.heap.objs.size,[s1.heap.objs.size],_,_,H1,rfl,I1.kept (t':=s1.toks) λb o e=>zJ _ e,MQ a _,#[_,yE _ rfl,rfl,rfl],λb hb=>?_,q];have e:b=s1.heap.objs.size:=by simpa using hb
 subst e;exact I1.fpOk (zO _) (I1.hok.fresh (zO _))
theorem Ir {l:j6}{tl:TE}(hl:PE X l tl):PI X tg l (zHk X.K tl):=by
 refine#[?_];intro j9 s U H R I h;refine wK (hl j9 s U H _ I h) λv s1 m9=>?_;obtain⟨x,H1,I1,r1,q1⟩:=m9;obtain⟨a,e,⟨xs,hq⟩,q⟩:=q1;subst e;cases r1;obtain⟨its,rv,p,hz⟩:=I1.tuple hq;refine uY (show s1.heap.IsTuple a its.toArray from p) ?_;refine#[s1.heap.objs.size,[s1.heap.objs.size],_,_,H1,rfl,I1.kept (t':=s1.toks) λb o e=>zJ _ e,KZ a _,#[_,yE _ rfl,rfl,rfl],λb hb=>?_,q];have e:b=s1.heap.objs.size:=by simpa using hb
 subst e;exact I1.fpOk (zO _) (I1.hok.fresh (zO _))
theorem VA {j9:a6 (i4×j8)}{U:St}{H:Hp}{s:i6}{R:It->Hp->Prop}{E:a9->i6->Prop}{lo hi:Int}{t u v:Tok}{tk:Nat}(I:xZ X j9 U H s)(h1: -(2^62)<=lo)(h2:lo<2^62)(h3: -(2^62)<=hi)(h4:hi<2^62)
  (q:R (ZE lo (hi-lo).toNat) H):wpAny (model X.prog X.w) X.A (pyIter (.ref s.heap.objs.size)) (PIE X j9 U tg R) E {s with heap:=s.heap.push {cls:=.type "range",data:=.fields (List.toArray [.int lo t,.int hi u,.int 1 v])},toks:=tk}:=by
 refine wpAny_pyIter_range (IsRange.new ..) (small_one h1 h2 h3 h4) ?_;have I1:xZ X j9 U H {s with heap:=s.heap.push {cls:=.type "range",data:=.fields (List.toArray [.int lo t,.int hi u,.int 1 v])},toks:=tk}:=I.kept λb o e=>zJ _ e;refine#[(s.heap.push {cls:=.type "range",data:=.fields (List.toArray [.int lo t,.int hi u,.int 1 v])}).objs.size,[(s.heap.push {cls:=.type "range",data:=.fields (List.toArray [.int lo t,.int hi u,.int 1 v])}).objs.size],_,_,H,rfl,
  I1.kept (t':=tk) λb o e=>zJ _ e,QI _ lo (hi-lo).toNat,?_,λb hb=>?_,q]
 ·have e1:lo+((0:Nat):Int)*1=lo:=by simp
  have e2:(((hi-lo).toNat:Nat):Int)-((0:Nat):Int)=Builtin.Range.rangeSize lo hi 1:=by rw[rangeSize_one];split<;>lia
  show IsRangeIter _ _ (lo+((0:Nat):Int)*1) ((((hi-lo).toNat:Nat):Int)-((0:Nat):Int)) 1;rw[e1,e2];exact yE _ rfl
 ·have e:b=(s.heap.push {cls:=.type "range",data:=.fields (List.toArray [.int lo t,.int hi u,.int 1 v])}).objs.size:=by simpa using hb
  subst e;exact I1.fpOk (zO _) (I1.hok.fresh (zO _))
inductive WO (vs:List V) (H1:Hp) (R:It->Hp->Prop):Prop
 |mk (j:Int) (h0:vs=[.int j]) (h1: -(2^62)<=j) (h2:j<2^62) (h3:R (ZE 0 j.toNat) H1):WO vs H1 R
def zDj (ta:TA):TI:=λU H R=>ta U H λvs H1=>WO vs H1 R
theorem Aj {a:j6}{ta:TA}{p pos:Pos}(hg:Gl X "range")(hm:X.mg "range"=none)(ha:PA X [a] ta)(hs:autoParam (starEach [a] X.env=[(false,eval a X.env)]) L2.aE._auto_1):PI X tg (.Call (.Name "range" p) [a] [] pos) (zDj ta):=by
 refine#[?_];intro j9 s U H R I h;refine Call_ (EO I hg hm boot_range (jH (wK (ha pos j9 s U H _ I h) λus s1 ⟨vs,H1,I1,r1,q1⟩=>?_) hs rfl));obtain⟨j,e,q1,q2,q⟩:=q1;subst e;cases r1 with
 |cons r rr=>
  cases rr;obtain⟨t,rfl⟩:=r;exact call_range_1 (VA I1 () () q1 q2 (by simpa using q))
def zFh (wi:TI)(g:TG)(tb:TS):TS:=λD U H=>wi U H λJ H1=> ∃W:Nat->Nat->St->Hp->Prop,(∃m,W 0 m U H1)/\ ∀i m U H,W i m U H->
 (J.stop i H/\D.nx U H)\/(J.go i H/\ ∃N:St->Hp->Prop,(∀U' H',N U' H'-> ∃m',m'<m/\W (i+1) m' U' H')/\ ∀x H',J.yld i H x H'->g x U H' λU2 H2=>tb {D with nx:=N,ct:=N,bk:=D.nx} U2 H2)
noncomputable def LH (fp:a6 i4)(h:j4):a6 (i4×j8):=fp.filterMap λb=>(h.get? b).map λo=>(b,o)
theorem FW {fp:a6 i4}{h:j4}{b:i4}{o:j8}(hb:b∈fp)(e:h.get? b=some o):(b,o)∈LH fp h:=List.mem_filterMap.mpr #[b,hb,by rw[e];rfl]
theorem Uv {fp:a6 i4}{h:j4}{p:i4×j8}(hp:p∈LH fp h):p.1∈fp/\h.get? p.1=some p.2:=by
 obtain⟨b,hb,e⟩:=List.mem_filterMap.mp hp;cases q:h.get? b with
 |none=>rw[q]at e;cases e
 |some o=>
  rw[q]at e;have e':(b,o)=p:=kB e;subst e';exact#[hb,q]
theorem xZ.pinned {j9:a6 (i4×j8)}{U:St}{H:Hp}{s:i6}{fp:a6 i4}(I:xZ X j9 U H s)(hf: ∀b∈fp,HI X j9 H b)(ho: ∀b∈fp,∃o,s.heap.get? b=some o/\ ∀v,o.data≠ .cell v):xZ X (j9++LH fp s.heap) U H s:=
 I.pins_of λp hp=>(List.mem_append.mp hp).elim (λz=>I.pin p (jA _ z)) λz=>by
  obtain⟨hb,e⟩:=Uv z;obtain⟨f0,f1,f2,_⟩:=hf p.1 hb;obtain⟨o,e',d⟩:=ho p.1 hb;rw[e]at e';cases e';exact#[e,f0,f1,f2,d]
theorem xZ.unpinned {j9 pl:a6 (i4×j8)}{U:St}{H:Hp}{s:i6}(I:xZ X (j9++pl) U H s):xZ X j9 U H s:=I.pins_of λp hp=>I.pin p (jA _ (uC _ hp))
theorem qS {iter:j6}{body:a6 i9}{wi:TI}{g:TG}{tb:TS}{pos:Pos}(hp:PassesOwn (model X.prog X.w) X.A X.env X.xe)(hc:X.calm=true)(hi:PI X tg iter wi)(hg:PG X tg g)(hb:QG X body tb)
  (hs:autoParam ( ∀x,foldedSetIterable iter X.env x=pure x) L2.aD._auto_1):PS X (.For tg iter body [] pos) (zFh wi g tb):=by
 refine#[?_];intro j9 s U H D I h;refine wpAny_For (wK (hi j9 s U H _ I h) λv s1 h1=>wK h1 λitv s2 h2=>?_) hs;obtain⟨it,fp,tn,J,H2,e,I2,T,st2,f2,W,⟨m0,w0⟩,turn⟩:=h2;subst e;have stat: ∀{H':Hp},(∀b∈fp,H' b=none)-> ∀b∈fp,HI X j9 H' b:=λhn b hb=>#[hn b hb,(f2 b hb).2];refine codeAny_forLoop_any (λn s'=> ∃i U' H',xZ X j9 U' H' s'/\tn i s'.heap/\(∀b∈fp,H' b=none)/\W i n U' H') ?_ m0 #[0,U,H2,I2,st2,λb hb=>(f2 b hb).1,w0];rintro n s3 ⟨i,U3,H3,I3,st3,fr3,w3⟩
 rcases turn i n U3 H3 w3 with⟨stop,qn⟩|⟨go,N,hN,step⟩
 ·refine vR hp (wK (T.done X rfl rfl rfl hc i j9 s3 U3 H3 X.xe I3 (stat fr3) st3 stop) λr s4 m9=>?_);obtain⟨hr,I4⟩:=m9;subst hr;exact DE #[U3,H3,I4,qn]
 ·refine vR hp (wK (T.item X rfl rfl rfl hc i j9 s3 U3 H3 X.xe I3 (stat fr3) st3 go) λr s4 m9=>?_);obtain⟨u,hr,h4⟩:=m9;subst hr;refine vR hp (wK h4 λ_ s5 m9=>?_);obtain⟨x,H5,I5,r5,y5,st5,fr5⟩:=m9;have I5':=I5.pinned (stat fr5) (T.obj _ _ st5);refine vR hp (wK (hg _ s5 U3 H5 x u _ I5' r5 (step x H5 y5)) λ_ s6 m9=>?_);obtain⟨U6,H6,I6,q6⟩:=m9;refine vR hp (wK (hb _ s6 U6 H6 _ I6 q6) λf s7 q7=>?_);have again: ∀{U7:St} {H7:Hp},xZ X (j9++LH fp s5.heap) U7 H7 s7->N U7 H7-> ∃m,m<n/\ ∃i U' H',xZ X j9 U' H' s7/\tn i s7.heap/\(∀b∈fp,H' b=none)/\W i m U' H':=fun{U7 H7} I7 n7=>by
   obtain⟨m',hm,w7⟩:=hN U7 H7 n7;refine#[m',hm,i+1,U7,H7,I7.unpinned,T.keep _ _ _ st5 λb hb o e=>(I7.pin (b,o) (jA _ (jA _ (FW hb e)))).1,λb hb=>?_,w7];obtain⟨o,e,d⟩:=T.obj _ _ st5 b hb;exact(I7.pin (b,o) (jA _ (jA _ (FW hb e)))).2.1
  cases f with
  |next=>obtain⟨U7,H7,I7,n7⟩:=q7;exact again I7 n7
  |cont=>obtain⟨U7,H7,I7,n7⟩:=q7;exact again I7 n7
  |brk=>obtain⟨U7,H7,I7,q7⟩:=q7;exact#[U7,H7,I7.unpinned,q7]
  |ret v=>obtain⟨x7,U7,H7,I7,r7,q7⟩:=q7;exact#[x7,U7,H7,I7.unpinned,r7,q7]
end
theorem Dh {K:a7}{a:i4}{xs:a6 V}{g:TG}{tb:TS}{D:Fp}{U:St}{H:Hp}(Pv:Nat->St->Hp->Prop)(h0:Pv 0 U H)(hl: ∀i U H,i<=xs.length->Pv i U H->kN K H a xs)
  (hs: ∀i x U H,xs[i]? =some x->Pv i U H->g x U H λU2 H2=>tb {D with nx:=Pv (i+1),ct:=Pv (i+1),bk:=D.nx} U2 H2) (hd: ∀U H,Pv xs.length U H->D.nx U H):
  ∃W:Nat->Nat->St->Hp->Prop,(∃m,W 0 m U H)/\ ∀i m U H,W i m U H->
   ((ZF K a).stop i H/\D.nx U H)\/((ZF K a).go i H/\ ∃N:St->Hp->Prop,(∀U' H',N U' H'-> ∃m',m'<m/\W (i+1) m' U' H')/\ ∀x H',(ZF K a).yld i H x H'->g x U H' λU2 H2=>tb {D with nx:=N,ct:=N,bk:=D.nx} U2 H2):=by
 refine#[λi m U H=>m=xs.length-i/\i<=xs.length/\Pv i U H,#[xs.length,by simp,xE _,h0],?_];rintro i m U H ⟨rfl,hi,p⟩;have q:=hl i U H hi p
 by_cases o5:i<xs.length
 ·refine .inr #[#[xs,xs[i],q,by simp[o5]],Pv (i+1),λU' H' p'=>#[xs.length-(i+1),(),rfl,o5,p'],λx H' y=>?_];obtain⟨e,y⟩:=y;subst e;exact hs i x U _ (y xs q) p
 ·have e:i=xs.length:=()
  subst e;exact .inl #[#[xs,q,zO _],hd U H p]
theorem Jr {K:a7}{a:i4}{xs:a6 V}{g:TG}{tb:TS}{D:Fp}{U:St}{H:Hp}(Pv:Nat->St->Hp->Prop)(h0:Pv 0 U H)(hl: ∀i U H,i<=xs.length->Pv i U H->Ax K H a xs)
  (hs: ∀i x U H,xs[i]? =some x->Pv i U H->g x U H λU2 H2=>tb {D with nx:=Pv (i+1),ct:=Pv (i+1),bk:=D.nx} U2 H2) (hd: ∀U H,Pv xs.length U H->D.nx U H):
  ∃W:Nat->Nat->St->Hp->Prop,(∃m,W 0 m U H)/\ ∀i m U H,W i m U H->
   ((ZD K a).stop i H/\D.nx U H)\/((ZD K a).go i H/\ ∃N:St->Hp->Prop,(∀U' H',N U' H'-> ∃m',m'<m/\W (i+1) m' U' H')/\ ∀x H',(ZD K a).yld i H x H'->g x U H' λU2 H2=>tb {D with nx:=N,ct:=N,bk:=D.nx} U2 H2):=by
 refine#[λi m U H=>m=xs.length-i/\i<=xs.length/\Pv i U H,#[xs.length,by simp,xE _,h0],?_];rintro i m U H ⟨rfl,hi,p⟩;have q:=hl i U H hi p
 by_cases o5:i<xs.length
 ·refine .inr #[#[xs,xs[i],q,by simp[o5]],Pv (i+1),λU' H' p'=>#[xs.length-(i+1),(),rfl,o5,p'],λx H' y=>?_];obtain⟨e,y⟩:=y;subst e;exact hs i x U _ (y xs q) p
 ·have e:i=xs.length:=()
  subst e;exact .inl #[#[xs,q,zO _],hd U H p]
theorem AN {lo:Int}{n:Nat}{g:TG}{tb:TS}{D:Fp}{U:St}{H:Hp}(Pv:Nat->St->Hp->Prop)(h0:Pv 0 U H)
  (hs: ∀i U H,i<n->Pv i U H->g (.int (lo+i)) U H λU2 H2=>tb {D with nx:=Pv (i+1),ct:=Pv (i+1),bk:=D.nx} U2 H2) (hd: ∀U H,Pv n U H->D.nx U H):
  ∃W:Nat->Nat->St->Hp->Prop,(∃m,W 0 m U H)/\ ∀i m U H,W i m U H->
   ((ZE lo n).stop i H/\D.nx U H)\/((ZE lo n).go i H/\ ∃N:St->Hp->Prop,(∀U' H',N U' H'-> ∃m',m'<m/\W (i+1) m' U' H')/\ ∀x H',(ZE lo n).yld i H x H'->g x U H' λU2 H2=>tb {D with nx:=N,ct:=N,bk:=D.nx} U2 H2):=by
 refine#[λi m U H=>m=n-i/\i<=n/\Pv i U H,#[n,by simp,xE _,h0],?_];rintro i m U H ⟨rfl,hi,p⟩
 by_cases o5:i<n
 ·refine .inr #[o5,Pv (i+1),λU' H' p'=>#[n-(i+1),(),rfl,o5,p'],λx H' y=>?_];obtain⟨e,y⟩:=y;subst e y;exact hs i U _ o5 p
 ·have e:i=n:=()
  subst e;exact .inl #[zO _,hd U H p]
abbrev R2:=V->V->Hp->VK->Prop
def HC (X:Cx)(f:a9->a9->Sem a9)(r:R2):Prop:=
 ∀(j9:a6 (i4×j8)) (s:i6) (U:St) (H:Hp) (x y:V) (v u:a9) (Q:VK),xZ X j9 U H s->kU x v->kU y u->r x y H Q->
  wpAny (model X.prog X.w) X.A (f v u) (EP X j9 U Q) X.xe s
def UnR (X:Cx)(f:a9->Sem a9)(r:V->Hp->VK->Prop):Prop:=
 ∀(j9:a6 (i4×j8)) (s:i6) (U:St) (H:Hp) (x:V) (v:a9) (Q:VK),xZ X j9 U H s->kU x v->r x H Q->
  wpAny (model X.prog X.w) X.A (f v) (EP X j9 U Q) X.xe s
def Fq (X:Cx)(f:a9)(r:a6 V->Hp->VK->Prop):Prop:=
 ∀(j9:a6 (i4×j8)) (s:i6) (U:St) (H:Hp) (xs:a6 V) (us:a6 a9) (Q:VK),xZ X j9 U H s->kE xs us->r xs H Q->
  wpAny (model X.prog X.w) X.A (call f us) (EP X j9 U Q) X.xe s
def zHz (X:Cx)(r:V->Hp->(i8->Hp->Prop)->Prop):Prop:=
 ∀(j9:a6 (i4×j8)) (s:i6) (U:St) (H:Hp) (x:V) (v:a9) (Q:i8->Hp->Prop),xZ X j9 U H s->kU x v->r x H Q->
  wpAny (model X.prog X.w) X.A (truthy v) (TP X j9 U Q) X.xe s
def TH (r:R2)(ta tb:TE):TE:=λU H Q=>ta U H λx H1=>tb U H1 λy H2=>r x y H2 Q
def tUn (r:V->Hp->VK->Prop)(ta:TE):TE:=λU H Q=>ta U H λx H1=>r x H1 Q
inductive rI (C:Int->Int->Prop) (g:Int->Int->V) (x:V) (y:V) (H:Hp) (Q:VK):Prop
 |mk (i j:_) (h0:x=.int i) (h1:y=.int j) (h2:C i j) (h3:Q (g i j) H):rI C g x y H Q
inductive TW (g:Int->Int->V) (x:V) (y:V) (H:Hp) (Q:VK):Prop
 |mk (i j:_) (h0:x=.int i) (h1:y=.int j) (h2:Q (g i j) H):TW g x y H Q
inductive rU (g:Int->V) (x:V) (H:Hp) (Q:VK):Prop
 |mk (i:_) (h0:x=.int i) (h1:Q (g i) H):rU g x H Q
section
variable {X:Cx}{a b c:j6}{ta tb tc:TE}{pos:Pos}
theorem zBj (ha:PE X a ta)(hb:PE X b tb){j9:a6 (i4×j8)}{s:i6}{U:St}{H:Hp}{R:V->V->Hp->Prop}(I:xZ X j9 U H s)
  (h:ta U H λx H1=>tb U H1 λy H2=>R x y H2) {Q:a9->i6->Prop} {f:a9->a9->Sem a9}
  (hf: ∀v u s2 x y H2,xZ X j9 U H2 s2->kU x v->kU y u->R x y H2->wpAny (model X.prog X.w) X.A (f v u) Q X.xe s2):
  wpAny (model X.prog X.w) X.A (eval a X.env) (λv s₁=>wpAny (model X.prog X.w) X.A (eval b X.env) (λu s₂=>wpAny (model X.prog X.w) X.A (f v u) Q X.xe s₂) X.xe s₁) X.xe s:=by
 refine wK (ha j9 s U H _ I h) λv s1 m9=>?_;obtain⟨x,H1,I1,r1,q1⟩:=m9;refine wK (hb j9 s1 U H1 _ I1 q1) λu s2 m9=>?_;obtain⟨y,H2,I2,r2,q2⟩:=m9;exact hf v u s2 x y H2 I2 r1 r2 q2
theorem yK {op:Operator}{r:R2}(ho:HC X (binaryOp op) r)(ha:PE X a ta)(hb:PE X b tb):PE X (.BinOp a op b pos) (TH r ta tb):=by
 refine#[?_];intro j9 s U H Q I h;exact wpAny_BinOp (zBj ha hb I h λv u s2 x y H2 I2 rx ry q=>ho j9 s2 U H2 x y v u Q I2 rx ry q)
theorem Kn {op:UnaryOp}{r:V->Hp->VK->Prop}(ho:UnR X (unaryOp op) r)(ha:PE X a ta):PE X (.UnaryOp op a pos) (tUn r ta):=by
 refine#[?_];intro j9 s U H Q I h;exact UnaryOp_ (wK (ha j9 s U H _ I h) λv s1 ⟨x,H1,I1,r1,q1⟩=>ho j9 s1 U H1 x v Q I1 r1 q1)
theorem opI {f:a9->a9->Sem a9}{C:Int->Int->Prop}{g:Int->Int->Int}
  (rule: ∀(i j:Int) (t u:Tok) (s:i6) (Q:a9->i6->Prop) (E:a9->i6->Prop),C i j->Q (.int (g i j) s.toks) {s with toks:=s.toks+1}->wpAny (model X.prog X.w) X.A (f (.int i t) (.int j u)) Q E s):
  HC X f (rI C λi j=>.int (g i j)):=by
 intro j9 s U H x y v u Q I rx ry h;obtain⟨i,j,rfl,rfl,hc,q⟩:=h;obtain⟨t,rfl⟩:=rx;obtain⟨t',rfl⟩:=ry;exact rule i j t t' s _ _ hc #[.int (g i j),H,I.tok _,#[-1],q]
theorem zCz {f:a9->a9->Sem a9}{g:Int->Int->Int}
  (rule: ∀(i j:Int) (t u:Tok) (s:i6) (Q:a9->i6->Prop) (E:a9->i6->Prop),Q (.int (g i j) s.toks) {s with toks:=s.toks+1}->wpAny (model X.prog X.w) X.A (f (.int i t) (.int j u)) Q E s):
  HC X f (TW λi j=>.int (g i j)):=by
 intro j9 s U H x y v u Q I rx ry h;obtain⟨i,j,rfl,rfl,q⟩:=h;obtain⟨t,rfl⟩:=rx;obtain⟨t',rfl⟩:=ry;exact rule i j t t' s _ _ #[.int (g i j),H,I.tok _,#[-1],q]
theorem Yt {f:a9->a9->Sem a9}{g:Int->Int->i8}
  (rule: ∀(i j:Int) (t u:Tok) (s:i6) (Q:a9->i6->Prop) (E:a9->i6->Prop),Q (.bool (g i j)) s->wpAny (model X.prog X.w) X.A (f (.int i t) (.int j u)) Q E s):
  HC X f (TW λi j=>.bl (g i j)):=by
 intro j9 s U H x y v u Q I rx ry h;obtain⟨i,j,rfl,rfl,q⟩:=h;obtain⟨t,rfl⟩:=rx;obtain⟨t',rfl⟩:=ry;exact rule i j t t' s _ _ #[.bl (g i j),H,I,rfl,q]
def zIl (i j:Int):Prop:=0<=j/\j<=1000000/\i.natAbs<2^64
def XD (i j:Int):Prop:=(-(2^64)<i/\i<2^64)\/(-(2^64)<j/\j<2^64)
theorem XD.ok {i j:Int}(h:XD i j):IntMulOk i j:=by
 rcases h with⟨h1,h2⟩|⟨h1,h2⟩
 ·exact .of_left (intBits_le_64 h1 h2)
 ·exact .of_right (intBits_le_64 h1 h2)
theorem jF:HC X (binaryOp .Add) (TW λi j=>.int (i+j)):=zCz λ_ _ _ _ _ _ _ q=>add_int q
theorem uM:HC X (binaryOp .Sub) (TW λi j=>.int (i-j)):=zCz λ_ _ _ _ _ _ _ q=>sub_int q
theorem AC:HC X (binaryOp .Mult) (rI XD λi j=>.int (i*j)):=opI λ_ _ _ _ _ _ _ hc q=>mul_int q hc.ok
theorem Iu:HC X (binaryOp .Mod) (rI (λ_ j=>0<j) λi j=>.int (i % j)):=opI λi j _ _ _ _ _ hc q=>by
 have h1:(0:Int)<j:=hc;exact mod_int' () (by rw[Int.fmod_eq_emod_of_nonneg i ()];exact q)
theorem Ys:HC X (binaryOp .Mod) (rI (λ_ j=>j≠0) λi j=>.int (i.fmod j)):=opI λ_ _ _ _ _ _ _ hc q=>mod_int' hc q
theorem zAj:HC X (binaryOp .Pow) (rI zIl λi j=>.int (i^j.toNat)):=opI λ_ _ _ _ _ _ _ hc q=>pow_int_small hc.1 hc.2.1 hc.2.2 q
theorem unI {f:a9->Sem a9}{g:Int->Int}
  (rule: ∀(i:Int) (t:Tok) (s:i6) (Q:a9->i6->Prop) (E:a9->i6->Prop),Q (.int (g i) s.toks) {s with toks:=s.toks+1}->wpAny (model X.prog X.w) X.A (f (.int i t)) Q E s):
  UnR X f (rU λi=>.int (g i)):=by
 intro j9 s U H x v Q I rx h;obtain⟨i,rfl,q⟩:=h;obtain⟨t,rfl⟩:=rx;exact rule i t s _ _ #[.int (g i),H,I.tok _,#[-1],q]
theorem Gn:UnR X (unaryOp .USub) (rU λi=>.int (-i)):=unI λ_ _ _ _ _ q=>neg_int q
end
noncomputable def ZU:V->V->i8
 | .non,.non=>true| .non,.int _=>true| .int _,.non=>true| .non,.bl _=>true| .bl _,.non=>true| .non,.str _=>true| .str _,.non=>true
 | .int _,.int _=>true| .bl _,.bl _=>true| .str _,.str _=>true| .byt _,.byt _=>true
 | .int _,.str _=>true| .str _,.int _=>true| .bl _,.str _=>true| .str _,.bl _=>true
 |_,_=>false
def rEq:R2:=λx y H Q=>ZU x y=true/\Q (.bl (decide (x=y))) H
def rNe:R2:=λx y H Q=>ZU x y=true/\Q (.bl (!decide (x=y))) H
theorem Ox {i j:Int}:decide (V.int i=V.int j)=(i==j):=by
 rw[jN]
 simp
 exact#[λh=>by injection h,λh=>by rw[h]]
theorem Xm {i j:i8}:decide (V.bl i=V.bl j)=(i==j):=by
 rw[jN]
 simp
 exact#[λh=>by injection h,λh=>by rw[h]]
theorem Tk {i j:Str}:decide (V.str i=V.str j)=(i==j):=by
 rw[jN]
 simp
 exact#[λh=>by injection h,λh=>by rw[h]]
theorem Tl {i j:j7 UInt8}:decide (V.byt i=V.byt j)=(i.toList==j.toList):=by
 rw[jN];cases i;cases j
 simp
 exact#[λh=>by injection h with h;injection h,λh=>by rw[h]]
section
variable {X:Cx}{a b c:j6}{ta tb tc:TE}{pos:Pos}
theorem qJ {j9:a6 (i4×j8)}{U:St}{H:Hp}{s:i6}{Q:VK}{k k':i8}(I:xZ X j9 U H s)(q:Q (.bl k) H)(e:k=k'):EP X j9 U Q (.bool k') s:=by
 subst e;exact#[.bl k,H,I,rfl,q]
theorem jM:HC X (compareOp .Eq) rEq:=by
 intro j9 s U H x y v u Q I rx ry h;obtain⟨hs,q⟩:=h;cases x with
 |non=>
  cases rx;cases y with
  |non=>cases ry;exact PySem.EqNone.eq_none_none (qJ I q (by simp))
  |bl j=>cases ry;exact PySem.EqNone.eq_none_bool (qJ I q (by simp))
  |int j=>obtain⟨t',rfl⟩:=ry;exact PySem.EqNone.eq_none_int (qJ I q (by simp))
  |str j=>obtain⟨t',rfl⟩:=ry;exact PySem.EqNone.eq_none_str (qJ I q (by simp))
  |_=>exact absurd (show false=true from hs) yO
 |bl i=>
  cases rx;cases y with
  |non=>cases ry;exact PySem.EqNone.eq_bool_none (qJ I q (by simp))
  |bl j=>cases ry;exact eq_bool (qJ I q Xm)
  |str j=>obtain⟨t',rfl⟩:=ry;exact PySem.EqMixed.eq_bool_str (qJ I q (by simp))
  |_=>exact absurd (show false=true from hs) yO
 |int i=>
  obtain⟨t,rfl⟩:=rx;cases y with
  |non=>cases ry;exact PySem.EqNone.eq_int_none (qJ I q (by simp))
  |int j=>obtain⟨t',rfl⟩:=ry;exact eq_int (qJ I q Ox)
  |str j=>obtain⟨t',rfl⟩:=ry;exact PySem.EqMixed.eq_int_str (qJ I q (by simp))
  |_=>exact absurd (show false=true from hs) yO
 |str i=>
  obtain⟨t,rfl⟩:=rx;cases y with
  |non=>cases ry;exact PySem.EqNone.eq_str_none (qJ I q (by simp))
  |bl j=>cases ry;exact PySem.EqMixed.eq_str_bool (qJ I q (by simp))
  |int j=>obtain⟨t',rfl⟩:=ry;exact PySem.EqMixed.eq_str_int (qJ I q (by simp))
  |str j=>obtain⟨t',rfl⟩:=ry;exact eq_str (qJ I q Tk)
  |_=>exact absurd (show false=true from hs) yO
 |byt i=>
  obtain⟨t,rfl⟩:=rx;cases y with
  |byt j=>obtain⟨t',rfl⟩:=ry;exact PySem.W.eq_bytes (qJ I q Tl)
  |_=>exact absurd (show false=true from hs) yO
 |_=>cases y<;>exact absurd (show false=true from hs) yO
theorem Gf:HC X (compareOp .NotEq) rNe:=by
 intro j9 s U H x y v u Q I rx ry h;obtain⟨hs,q⟩:=h;cases x with
 |non=>
  cases rx;cases y with
  |non=>cases ry;exact PySem.EqNone.ne_none_none (qJ I q (by simp))
  |bl j=>cases ry;exact PySem.EqNone.ne_none_bool (qJ I q (by simp))
  |int j=>obtain⟨t',rfl⟩:=ry;exact PySem.EqNone.ne_none_int (qJ I q (by simp))
  |str j=>obtain⟨t',rfl⟩:=ry;exact PySem.EqNone.ne_none_str (qJ I q (by simp))
  |_=>exact absurd (show false=true from hs) yO
 |bl i=>
  cases rx;cases y with
  |non=>cases ry;exact PySem.EqNone.ne_bool_none (qJ I q (by simp))
  |bl j=>cases ry;exact ne_bool (qJ I q (qZ not Xm))
  |str j=>obtain⟨t',rfl⟩:=ry;exact PySem.EqMixed.ne_bool_str (qJ I q (by simp))
  |_=>exact absurd (show false=true from hs) yO
 |int i=>
  obtain⟨t,rfl⟩:=rx;cases y with
  |non=>cases ry;exact PySem.EqNone.ne_int_none (qJ I q (by simp))
  |int j=>obtain⟨t',rfl⟩:=ry;exact ne_int (qJ I q (qZ not Ox))
  |str j=>obtain⟨t',rfl⟩:=ry;exact PySem.EqMixed.ne_int_str (qJ I q (by simp))
  |_=>exact absurd (show false=true from hs) yO
 |str i=>
  obtain⟨t,rfl⟩:=rx;cases y with
  |non=>cases ry;exact PySem.EqNone.ne_str_none (qJ I q (by simp))
  |bl j=>cases ry;exact PySem.EqMixed.ne_str_bool (qJ I q (by simp))
  |int j=>obtain⟨t',rfl⟩:=ry;exact PySem.EqMixed.ne_str_int (qJ I q (by simp))
  |str j=>obtain⟨t',rfl⟩:=ry;exact ne_str (qJ I q (qZ not Tk))
  |_=>exact absurd (show false=true from hs) yO
 |byt i=>
  obtain⟨t,rfl⟩:=rx;cases y with
  |byt j=>obtain⟨t',rfl⟩:=ry;exact PySem.W.ne_bytes (qJ I q (qZ not Tl))
  |_=>exact absurd (show false=true from hs) yO
 |_=>cases y<;>exact absurd (show false=true from hs) yO
theorem Aw:HC X (compareOp .Lt) (TW λi j=>.bl (decide (i<j))):=Yt λ_ _ _ _ _ _ _ q=>lt_int q
theorem DN:HC X (compareOp .LtE) (TW λi j=>.bl (decide (i<=j))):=Yt λ_ _ _ _ _ _ _ q=>le_int q
theorem Kr:HC X (compareOp .Gt) (TW λi j=>.bl (decide (j<i))):=Yt λ_ _ _ _ _ _ _ q=>gt_int q
theorem HL:HC X (compareOp .GtE) (TW λi j=>.bl (decide (j<=i))):=Yt λ_ _ _ _ _ _ _ q=>ge_int q
theorem FV:HC X (compareOp .Is) (λx y H Q=>y=.non/\Q (.bl (decide (x=.non))) H):=by
 intro j9 s U H x y v u Q I rx ry h;obtain⟨rfl,q⟩:=h;cases ry;refine is_none_gen (qJ I q ?_);cases x<;>first
  |(cases rx;rfl)
  |(obtain⟨t,rfl⟩:=rx;rfl)
theorem Jf:HC X (compareOp .IsNot) (λx y H Q=>y=.non/\Q (.bl (!decide (x=.non))) H):=by
 intro j9 s U H x y v u Q I rx ry h;obtain⟨rfl,q⟩:=h;cases ry;refine isnot_none_gen (qJ I q ?_);cases x<;>first
  |(cases rx;rfl)
  |(obtain⟨t,rfl⟩:=rx;rfl)
theorem yG (b:j6){op:CmpOp}(h:autoParam (op≠ .In) L2.aB._auto_1)(h2:autoParam (op≠ .NotIn) L2.aB._auto_1):behindInMarks op b=false:=by
 have e1:(op==CmpOp.In)=false:=by cases op<;>first|rfl|exact absurd rfl h
 have e2:(op==CmpOp.NotIn)=false:=by cases op<;>first|rfl|exact absurd rfl h2
 cases b<;>simp[behindInMarks,e1,e2]
theorem uW {op:CmpOp}{r:R2}(ho:HC X (compareOp op) r)(ha:PE X a ta)(hb:PE X b tb)(hm:behindInMarks op b=false):PE X (.Compare a [op] [b] pos) (TH r ta tb):=by
 refine#[?_];intro j9 s U H Q I h;exact wpAny_Compare1 (zBj ha hb I h λv u s2 x y H2 I2 rx ry q=>ho j9 s2 U H2 x y v u Q I2 rx ry q) hm
inductive Vn (x:V) (H':Hp) (Q:i8->Hp->Prop):Prop
 |mk (k:_) (h0:x=.bl k) (h1:Q k H'):Vn x H' Q
def Zc (t:TE):TT:=λU H Q=>t U H λx H'=>Vn x H' Q
theorem zX {op:CmpOp}{r:R2}(ho:HC X (compareOp op) r)(ha:PE X a ta)(hb:PE X b tb)(hm:behindInMarks op b=false):PT X (.Compare a [op] [b] pos) (Zc (TH r ta tb)):=by
 refine#[?_];intro j9 s U H Q I h;refine wpAny_isTrue_Compare1 (wK (ha j9 s U H _ I h) λv s1 ⟨x,H1,I1,r1,q1⟩=>wK (hb j9 s1 U H1 _ I1 q1) λu s2 ⟨y,H2,I2,r2,q2⟩=>
  wK (ho j9 s2 U H2 x y v u _ I2 r1 r2 q2) λc s3 ⟨z,H3,I3,r3,k,e,q3⟩=>?_) hm
 subst e;cases r3;exact qD #[H3,I3,q3]
def NA (r r':R2)(ta tb tc:TE):TE:=λU H Q=>ta U H λx H1=>tb U H1 λy H2=>r x y H2 λz H3=> ∃k,z=.bl k/\
 (if k=true then tc U H3 λw' H4=>r' y w' H4 Q else Q (.bl false) H3)
theorem BF {op op':CmpOp}{r r':R2}(ho:HC X (compareOp op) r)(ho':HC X (compareOp op') r')(ha:PE X a ta)(hb:PE X b tb)(hc:PE X c tc)
  (hm:autoParam (lastMarks [op,op'] [b,c]=false) L2.aG._auto_1):PE X (.Compare a [op,op'] [b,c] pos) (NA r r' ta tb tc):=by
 refine#[?_];intro j9 s U H Q I h;refine Compare_chain (wK (ha j9 s U H _ I h) λv s1 ⟨x,H1,I1,r1,q1⟩=>chain_link (wK (hb j9 s1 U H1 _ I1 q1) λu s2 ⟨y,H2,I2,r2,q2⟩=>
  wK (ho j9 s2 U H2 x y v u _ I2 r1 r2 q2) λd s3 ⟨z,H3,I3,r3,k,e,q3⟩=>?_)) hm
 subst e;cases r3;refine qD ?_;cases k with
 |false=>exact ite_ff #[.bl false,H3,I3,rfl,q3]
 |true=>exact ite_tt (chain_last (wK (hc j9 s3 U H3 _ I3 q3) λw' s4 ⟨z',H4,I4,r4,q4⟩=>ho' j9 s4 U H4 y z' u w' Q I4 r2 r4 q4))
theorem VE {op op':CmpOp}{r r':R2}(ho:HC X (compareOp op) r)(ho':HC X (compareOp op') r')(ha:PE X a ta)(hb:PE X b tb)(hc:PE X c tc)
  (hm:autoParam (lastMarks [op,op'] [b,c]=false) L2.aG._auto_1):PT X (.Compare a [op,op'] [b,c] pos) (Zc (NA r r' ta tb tc)):=by
 refine#[?_];intro j9 s U H Q I h;refine isTrue_chain (wK (ha j9 s U H _ I h) λv s1 ⟨x,H1,I1,r1,q1⟩=>test_link (wK (hb j9 s1 U H1 _ I1 q1) λu s2 ⟨y,H2,I2,r2,q2⟩=>
  wK (ho j9 s2 U H2 x y v u _ I2 r1 r2 q2) λd s3 ⟨z,H3,I3,r3,k,e,q3⟩=>?_)) hm
 subst e;cases r3;refine qD ?_;cases k with
 |false=>
  obtain⟨k',e',q'⟩:=q3;cases e';exact ite_ff #[H3,I3,q']
 |true=>
  refine ite_tt (test_last (wK (hc j9 s3 U H3 _ I3 q3) λw' s4 ⟨z',H4,I4,r4,q4⟩=>wK (ho' j9 s4 U H4 y z' u w' _ I4 r2 r4 q4) λd' s5 m9=>?_));obtain⟨z2,H5,I5,r5,k2,e2,q5⟩:=m9;subst e2;cases r5;exact qD #[H5,I5,q5]
def zDy (K:a7)(x:V)(H:Hp)(k:i8):Prop:=
 match x with
 | .non=>k=false
 | .bl b=>k=b
 | .int i=>k=(i !=0)
 | .str y=>y.length<=sizeLine/\k=((y.length:Int)!=0)
 | .byt y=>y.size<=sizeLine/\k=((y.size:Int)!=0)
 | .ref p=>(∃xs,kN K H p xs/\k=!xs.isEmpty)\/(∃xs,Ax K H p xs/\k=!xs.isEmpty)\/ ∃kvs,H p=some (.dK kvs)/\k=!kvs.isEmpty
 |_=>False
theorem RT {κ:Type}{kvs:a6 (κ×V)}{vs:a6 (κ×a9)}(r:KV kvs vs):(!vs.isEmpty)=!kvs.isEmpty:=by
 cases r<;>rfl
theorem LV {xs:a6 V}{its:a6 a9}(r:kE xs its):(!its.toArray.isEmpty)=!xs.isEmpty:=by
 cases r<;>simp
theorem FY:(sizeLine:Nat)<2^63:=by rw[jX];decide
theorem ZK:zHz X (λx H Q=> ∃k,zDy X.K x H k/\Q k H):=by
 intro j9 s U H x v Q I rx h;obtain⟨k,e,q⟩:=h;have hl:=FY;have hs:sizeLine=16777216:=jX;cases x with
 |non=>
  cases rx;have e':k=false:=e;subst e';exact truthy_none #[H,I,q]
 |bl b=>
  cases rx;have e':k=b:=e;subst e';exact qD #[H,I,q]
 |int i=>
  obtain⟨t,rfl⟩:=rx;have e':k=(i !=0):=e;subst e';exact PySem.P.truthy_int #[H,I,q]
 |str y=>
  obtain⟨t,rfl⟩:=rx;obtain⟨hy,e'⟩:y.length<=sizeLine/\k=((y.length:Int)!=0):=e;subst e';exact PySem.P.truthy_str () #[H,I.tok _,q]
 |byt y=>
  obtain⟨t,rfl⟩:=rx;obtain⟨hy,e'⟩:y.size<=sizeLine/\k=((y.size:Int)!=0):=e;subst e';exact PySem.W.truthy_bytes () #[H,I.tok _,q]
 |ref p=>
  cases rx;have e':(∃xs,kN X.K H p xs/\k=!xs.isEmpty)\/(∃xs,Ax X.K H p xs/\k=!xs.isEmpty)\/ ∃kvs,H p=some (.dK kvs)/\k=!kvs.isEmpty:=e
  rcases e' with⟨xs,hx,e'⟩|⟨xs,hx,e'⟩|⟨kvs,hx,e'⟩
  ·subst e';obtain⟨its,r,pl,hz⟩:=I.list hx;have n8:=r.length;exact wpAny_truthy_list pl.isList (by simp only[yL];lia) #[H,I.tok _,by rw[LV r];exact q]
  ·subst e';obtain⟨its,r,pl,hz⟩:=I.tuple hx;have n8:=r.length;exact truthy_tuple pl (by simp only[yL];lia) #[H,I.tok _,by rw[LV r];exact q]
  ·subst e';obtain⟨hz,hS,vs,r,m⟩:kvs.length<=sizeLine/\(p==sysModules)=false/\ ∃vs,KV kvs vs/\s.heap.DictOf (wP X.prog X.w) p vs:=I.hok p _ hx;have n8:kvs.length=vs.length:=EY r;exact wpAny_truthy_dict hS m () #[H,I.tok _,by rw[RT r];exact q]
 |_=>exact(show False from e).elim
theorem Ph (ha:PE X a ta)(he: ∀whole,isTrue a X.env whole=(do let v<-whole;standAt a.pos;holding [v] (truthy v))):
  PT X a (λU H Q=>ta U H λx H'=> ∃k,zDy X.K x H' k/\Q k H'):=by
 refine#[?_];intro j9 s U H Q I h;exact isTrue_plain (wK (ha j9 s U H _ I h) λv s1 ⟨x,H1,I1,r1,q1⟩=>ZK j9 s1 U H1 x v Q I1 r1 q1) (he _)
theorem II {x:V}{us:a6 a9}(r:kE [x] us): ∃u,us=[u]/\kU x u:=by
 cases r with
 |cons r1 r2=>cases r2;exact#[-1,r1]
theorem ML {x y:V}{us:a6 a9}(r:kE [x,y] us): ∃u w',us=[u,w']/\kU x u/\kU y w':=by
 cases r with
 |cons r1 r2=>
  cases r2 with
  |cons r3 r4=>cases r4;exact#[_,-1,r1,r3]
theorem UN:Fq X (.type "int") (λxs H Q=>(∃i,xs=[.int i]/\Q (.int i) H)\/ ∃k,xs=[.bl k]/\Q (.int (if k then 1 else 0)) H):=by
 intro j9 s U H xs us Q I r h
 rcases h with⟨i,rfl,q⟩|⟨k,rfl,q⟩
 ·obtain⟨u,rfl,t,rfl⟩:=II r;exact call_int_int #[.int i,H,I,#[-1],q]
 ·obtain⟨u,rfl,r1⟩:=II r;cases r1;exact call_int_bool #[.int (if k then 1 else 0),H,I.tok _,#[-1],q]
end
structure Sj (h:j4)(x dx C:i4)(mA:Str->Option a9):Prop where
 obj:h.get? x=some (PySem.W.instObj C dx)
 ns:h.Ns1 dx mA
 ne:dx≠x
theorem Uw {h:j4}{dx:i4}{mA:Str->i5 a9}(n:h.Ns1 dx mA): ∃od,h.get? dx=some od/\ ∀name,PySem.W.lookIn name od=some (mA name):=by
 obtain⟨o,es,ep,ho,hd,hk,_,hm⟩:=n;refine#[o,ho,λname=>?_];have e:=hm name;unfold nsFind findBy at e;rw[<-Array.find?_toList]at e;unfold PySem.W.lookIn;rw[hd];dsimp only;split
 ·rename_i y q;rw[q]at e;exact qZ some e
 ·rename_i q;rw[q]at e;have a:es.toList.any (·.refKey)=false:=by
   rw[List.any_eq_false];intro y hy;obtain⟨z,t,hkey⟩:=hk y (Array.mem_toList_iff.mp hy)
   simp[DictEntry.refKey,hkey]
  have a': ¬es.toList.any (·.refKey)=true:=by rw[a];exact yO
  rw[zN a'];exact qZ some e
theorem Sj.look {h:j4}{x dx C:i4}{mA:Str->i5 a9}(I:Sj h x dx C mA): ∃od,PySem.W.InstAt h x (PySem.W.instObj C dx) C (some od)/\ ∀name,PySem.W.lookIn name od=some (mA name):=
 let⟨od,ho,hl⟩:=Uw I.ns
 #[od,#[I.obj,rfl,rfl,ho],hl]
section
variable {prog:i7}{w:j3}{A:j5}{E:a9->i6->Prop}{s:i6}{K:a7}{x dx C f:i4}{mA:Str->i5 a9}{name:Str}{v:a9}
theorem YL {expr:i8}{Q:a9->i6->Prop}(X:K.In s.heap)(I:Sj s.heap x dx C mA)(hg:PySem.W.plainGet K C name=true)(hh:PySem.W.hasDictIn K C=true)
  (ha:PySem.W.findIn K (.ref C) name=some none) (hv:mA name=some v) (hv':PySem.W.handedIn v=true) (h:Q v {s with toks:=s.toks+1}):
  wpAny (model prog w) A (getAttr (.ref x) name expr) Q E s:=by
 obtain⟨od,J,hl⟩:=I.look;exact PySem.W.get_value X J (DO hg).1 (PySem.W.findObj_own hh ha rfl (by rw[hl,hv])) hv' h
theorem WY {pl:Sem i8}{Q:a9×a6 a9->i6->Prop}(X:K.In s.heap)(I:Sj s.heap x dx C mA)(hg:PySem.W.plainGet K C name=true)
  (hf:PySem.W.findIn K (.ref C) name=some (some (.ref f))) (ht:PySem.W.isFn K (.ref f)=true) (hv:mA name=none) (h:Q (.ref f,[.ref x]) s):
  wpAny (model prog w) A (getMethod (.ref x) name pl) Q E s:=by
 obtain⟨od,J,hl⟩:=I.look;exact PySem.W.method_fn X J (DO hg).1 (DO hg).2 hf (beq_iff_eq.mp ht) (by show(PySem.W.lookIn name od).map (·.isSome)=some false;rw[hl,hv];rfl) h
theorem XW {ns:a6 Str}{Q:Unit->i6->Prop}(X:K.In s.heap)(I:Sj s.heap x dx C mA)
  (hs:PySem.W.findIn K (.ref C) "__setattr__"=some (some (.builtin "object.__setattr__"))) (hp:PySem.W.plainOver K C=true) (ht:PySem.W.takerIn K C name=some none) (hh:PySem.W.hasDictIn K C=true)
  (hw:PySem.Within mA ns) (hsz:ns.length<=sizeLine)
  (h: ∀h',Sj h' x dx C (λy=>if y=name then some v else mA y)->Heap.SameBut dx s.heap h'->Q Unit.unit {s with heap:=h',toks:=s.toks+2}):
  wpAny (model prog w) A (setAttr (.ref x) name v) Q E s:=by
 obtain⟨od,J,hl⟩:=I.look;refine PySem.W.set_plain X J hs (PySem.W.osa_open (s:={s with toks:=s.toks+1}) (r:=none) X J hp ht λb=>?_);obtain⟨cd,hc,hd'⟩:=PySem.W.any_some hh;have hx:s.heap.get? x=some #[.ref C,some dx,.plain,#[]]:=I.obj;refine zD (zZ (zD (zD (wpAny_loadPart hx (zD (PySem.W.Looks.here (s:={s with toks:=s.toks+1}) (PySem.W.looks_clsIn X hc) ?_))))));rw[hd'];refine zZ (a:=some dx) (zD (zZ (zD ?_)));refine wpAny_nsSet1 (s:={s with toks:=s.toks+1}) I.ns λh' hn2 hs2=>?_;obtain⟨oD,esD,epD,hoD,hdD,hcD⟩:=hn2.count (PySem.Within.cons name v hw);refine zD (wpAny_lookBehind hoD (by rw[hdD];exact pastItsLine_dict (xH hcD (by rw[zK];lia))) ?_);exact zZ (h _ #[(hs2.2 _ (Ne.symm I.ne)).trans I.obj,hn2,I.ne] hs2)
theorem Wy {R:Result->i6->Prop}{vs:a6 a9}{kw:a6 (Str×a9)}(X:K.In s.heap)(hm:PySem.W.makesIn K C=true)
  (hi:PySem.W.findIn K (.ref C) "__init__"=some (some (.ref f))) (hf:PySem.W.typeIn K (.ref f)=some (.type "function"))
  (h:codeAny (model prog w) (A.under (.builtin "type.__call__" #[.ref C::vs,kw])) (.call (.ref f) #[.ref (s.heap.objs.size+1)::vs,kw]) (PySem.W.InitBack (s.heap.objs.size+1) R)
   {s with heap:=(s.heap.push PySem.W.emptyDict).push (PySem.W.instObj C s.heap.objs.size)}):
  codeAny (model prog w) A (.call (.ref C) #[vs,kw]) R s:=by
 obtain⟨hh,g,d,t,os⟩:=s;exact PySem.W.make_core (PySem.W.makes_of X hm) (PySem.W.looks_findIn X hi) (λself=>PySem.W.bind_fn X self hf) (.inl rfl) h
end
noncomputable def GQ (f:Str)(v:V):a6 (Str×V)->a6 (Str×V)
 |[]=>[(f,v)]
 |(g,x)::r=>if g=f then(g,v)::r else(g,x)::GQ f v r
theorem Kt (f g:Str)(v:V): ∀fs:a6 (Str×V),(GQ f v fs).lookup g=if g=f then some v else fs.lookup g
 |[]=>by
  show List.lookup g [(f,v)]=_
  by_cases h:g=f
  ·have hb:(g==f)=true:=beq_iff_eq.mpr h;simp only[List.lookup,hb,zQ h]
  ·have hb:(g==f)=false:=beq_eq_false_iff_ne.mpr h;simp only[List.lookup,hb,zN h]
 |(k,x)::r=>by
  have ih:=Kt f g v r;rw[show GQ f v ((k,x)::r)=(if k=f then(k,v)::r else(k,x)::GQ f v r)from rfl]
  by_cases hk:k=f
  ·rw[zQ hk]
   by_cases h:g=k
   ·have hb:(g==k)=true:=beq_iff_eq.mpr h;simp only[List.lookup,hb,zQ (h.trans hk)]
   ·have hb:(g==k)=false:=beq_eq_false_iff_ne.mpr h;simp only[List.lookup,hb,zN (λe:g=f=>h (e.trans hk.symm))]
  ·rw[zN hk]
   by_cases h:g=k
   ·have hb:(g==k)=true:=beq_iff_eq.mpr h;simp only[List.lookup,hb,zN (λe:g=f=>hk (h.symm.trans e))]
   ·have hb:(g==k)=false:=beq_eq_false_iff_ne.mpr h;simp only[List.lookup,hb];exact ih
theorem Kc (f:Str)(v:V): ∀fs:a6 (Str×V),f∈(GQ f v fs).map (·.1)/\ ∀g,g∈fs.map (·.1)->g∈(GQ f v fs).map (·.1)
 |[]=>#[by simp[GQ],λg h=>by simp at h]
 |(k,x)::r=>by
  obtain⟨i1,i2⟩:=Kc f v r;rw[show GQ f v ((k,x)::r)=(if k=f then(k,v)::r else(k,x)::GQ f v r)from rfl]
  by_cases hk:k=f
  ·rw[zQ hk];subst hk;exact#[by simp,λg h=>by simpa using h]
  ·rw[zN hk];refine#[?_,λg h=>?_]
   ·rw[yM];exact yC _ i1
   ·rw[yM]at h ⊢
    rcases List.mem_cons.mp h with e|e
    ·exact List.mem_cons.mpr (.inl e)
    ·exact yC _ (i2 g e)
theorem Ku (f:Str)(v:V): ∀fs:a6 (Str×V),(GQ f v fs).length<=fs.length+1
 |[]=>by simp[GQ]
 |(k,x)::r=>by
  have ih:=Ku f v r;rw[show GQ f v ((k,x)::r)=(if k=f then(k,v)::r else(k,x)::GQ f v r)from rfl]
  by_cases hk:k=f
  ·rw[zQ hk,zK,zK];lia
  ·rw[zN hk,zK,zK];lia
theorem He.some_of {v:V}{o:i5 a9}(r:He (some v) o): ∃u,o=some u/\kU v u:=by
 cases o with
 |none=>exact(show False from r).elim
 |some u=>exact#[u,rfl,r]
theorem He.none_of {o:i5 a9}(r:He none o):o=none:=by
 cases o with
 |none=>rfl
 |some u=>exact(show False from r).elim
theorem UC {v:V}{u:a9}(r:kU v u):PySem.W.handedIn u=true:=by
 cases v with
 |non=>cases(show u=Value.none from r);rfl
 |bl b=>cases(show u=Value.bool b from r);rfl
 |int i=>obtain⟨t,e⟩:=(show ∃t,u=Value.int i t from r);cases e;rfl
 |str x=>obtain⟨t,e⟩:=(show ∃t,u=Value.str x t from r);cases e;rfl
 |byt b=>obtain⟨t,e⟩:=(show ∃t,u=Value.bytes b t from r);cases e;rfl
 |flt b=>obtain⟨t,e⟩:=(show ∃t,u=Value.float b t from r);cases e;rfl
 |ref a=>cases(show u=Value.ref a from r);rfl
 |ty n=>cases(show u=Value.type n from r);rfl
section
variable {P:i7}{w:j3}{H H':Hp}{h h':j4}{a C dx:i4}{fs fs':a6 (Str×V)}
theorem KP (hok:IB P w H h)(e:H a=some (.ins C dx fs)): ∃mA,Sj h a dx C mA/\(∀f,He (fs.lookup f) (mA f))/\PySem.Within mA (fs.map (·.1))/\fs.length<=1000/\H dx=some (.own a):=by
 obtain⟨d,z,ne,ob,mA,n,r,q⟩:=(show vY P w H h a (.ins C dx fs)from hok a _ e);exact#[mA,#[ob,n,ne],r,q,z,d]
end
structure So (K:a7)(C:i4):Prop where
 pg:PySem.W.plainGet K C Str.empty=true
 hd:PySem.W.hasDictIn K C=true
 po:PySem.W.plainOver K C=true
 sa:PySem.W.findIn K (.ref C) "__setattr__"=some (some (.builtin "object.__setattr__"))
theorem So.get {K:a7}{C:i4}(c:So K C)(f:Str):PySem.W.plainGet K C f=true:=c.pg
def AW (K:a7)(C:i4)(f:Str):Prop:=PySem.W.findIn K (.ref C) f=some none
theorem AW.taker {K:a7}{C:i4}{f:Str}(n:AW K C f):PySem.W.takerIn K C f=some none:=by
 unfold PySem.W.takerIn;rw[show PySem.W.findIn K (.ref C) f=some none from n];rfl
structure Zb (K:a7)(C:i4)(m:Str)(f:i4):Prop where
 at_:PySem.W.findIn K (.ref C) m=some (some (.ref f))
 fn:PySem.W.isFn K (.ref f)=true
 kp:PySem.W.keepIn K (.ref f)=true
section
variable {X:Cx}{j9:a6 (i4×j8)}{U:St}{H:Hp}{s:i6}{a C dx:i4}{fs:a6 (Str×V)}{f:Str}{v:V}{A:j5}{E:a9->i6->Prop}
theorem LY {b:i8}{Q:a9->i6->Prop}(I:xZ X j9 U H s)(e:H a=some (.ins C dx fs))(c:So X.K C)(n:AW X.K C f)(l:fs.lookup f=some v)
  (h: ∀u s',xZ X j9 U H s'->kU v u->Q u s'):wpAny (model X.prog X.w) A (getAttr (.ref a) f b) Q E s:=by
 obtain⟨mA,O,r,_,_,_⟩:=KP I.hok e;obtain⟨u,hu,ru⟩:=He.some_of (v:=v) (o:=mA f) (by rw[<-l];exact r f);exact YL I.kIn O (c.get f) c.hd n hu (UC ru) (h u _ (I.tok _) ru)
theorem LX {m:Str}{g:i4}{pl:Sem i8}{Q:a9×a6 a9->i6->Prop}(I:xZ X j9 U H s)(e:H a=some (.ins C dx fs))(c:So X.K C)(k:Zb X.K C m g)(l:fs.lookup m=none)
  (h:Q (.ref g,[.ref a]) s):wpAny (model X.prog X.w) A (getMethod (.ref a) m pl) Q E s:=by
 obtain⟨mA,O,r,_,_,_⟩:=KP I.hok e;have hn:mA m=none:=He.none_of (by rw[<-l];exact r m);exact WY I.kIn O (c.get m) k.at_ k.fn hn h
theorem Lq {y:V}{u:a9}{Q:Unit->i6->Prop}(I:xZ X j9 U H s)(e:H a=some (.ins C dx fs))(c:So X.K C)(n:AW X.K C f)(hl:fs.length<1000)(ry:kU y u)
  (h: ∀s',xZ X j9 U (upd H a (.ins C dx (GQ f y fs))) s'->Q Unit.unit s'):wpAny (model X.prog X.w) A (setAttr (.ref a) f u) Q E s:=by
 obtain⟨mA,O,r,wi,_,ho⟩:=KP I.hok e;have hz:(fs.map (·.1)).length<=sizeLine:=by rw[zG,jX];lia
 refine XW I.kIn O c.sa c.po n.taker c.hd wi hz λh' O' sb=>h _ ?_;have hd: ∃o,h'.get? dx=some o:=let⟨o,_,_,e',_⟩:=O'.ns;#[o,e'];refine I.write (x:=a) (e:=dx) (by rw[e];exact True.intro) (.inr ho) (λb q hb z=>(sb.2 b hb).trans z) hd ?_;refine#[by rw[yJ O.ne];exact ho,?_,O.ne,O'.obj,_,O'.ns,λg=>?_,λg hg=>?_]
 ·have:=Ku f y fs;lia
 ·show He ((GQ f y fs).lookup g) (if g=f then some u else mA g);rw[Kt]
  by_cases q:g=f
  ·rw[zQ q,zQ q];exact ry
  ·rw[zN q,zN q];exact r g
 ·by_cases q:g=f
  ·rw[q];exact(Kc f y fs).1
  ·refine(Kc f y fs).2 g (wi g λz=>hg ?_);show(if g=f then some u else mA g)=none;rw[zN q];exact z
theorem xZ.made (I:xZ X j9 U H s):xZ X j9 U (upd (upd H s.heap.objs.size (.own (s.heap.objs.size+1))) (s.heap.objs.size+1) (.ins C s.heap.objs.size []))
  {s with heap:=(s.heap.push PySem.W.emptyDict).push (PySem.W.instObj C s.heap.objs.size)}:=by
 have e1:(s.heap.push PySem.W.emptyDict).get? s.heap.objs.size=some PySem.W.emptyDict:=yE s.heap rfl;have e2:((s.heap.push PySem.W.emptyDict).push (PySem.W.instObj C s.heap.objs.size)).get? (s.heap.objs.size+1)=some (PySem.W.instObj C s.heap.objs.size):=by
  have:=yE (s.heap.push PySem.W.emptyDict) (o:=PySem.W.instObj C s.heap.objs.size) rfl
  rwa [vJ]at this
 have e3:(s.heap.push PySem.W.emptyDict).Ns s.heap.objs.size (λ_=>none):=#[PySem.W.emptyDict,#[],_,e1,rfl,(λe he=>absurd he (by simp)),λ_=>rfl];have I1:=I.laid (a:=s.heap.objs.size) (o:=.own (s.heap.objs.size+1)) (h':=s.heap.push PySem.W.emptyDict) (t':=s.toks) (λb u q=>zJ _ q) (zO _) #[_,e1];refine I1.laid (a:=s.heap.objs.size+1) (o:=.ins C s.heap.objs.size []) (t':=s.toks) (λb u q=>zJ _ q) (DV (vJ _ _)) ?_;have ne:s.heap.objs.size≠s.heap.objs.size+1:=xQ (AR _);refine#[by rw[yJ ne,upd_same],xE _,ne,e2,λ_=>none,(Heap.Ns1.of_empty e3).at λo q=>zJ _ q,λ_=>True.intro,λy hy=>absurd rfl hy]
theorem YV {prog:i7}{w:j3}{env:Env}{e:j6}{f:Str}{pos:Pos}{s:i6}{Q:a9->i6->Prop}(hb:attributeBase e f env (eval e env)=eval e env)
  (h:wpAny (model prog w) A (eval e env) (λo s₁=>wpAny (model prog w) A (getAttr o f true) Q E s₁) E s):wpAny (model prog w) A (eval (.Attribute e f pos) env) Q E s:=
 Attribute_any_ h (by rw[arm_eval_Attribute,hb])
end
inductive Zf (K:a7) (f:Str) (x:V) (H1:Hp) (Q:VK):Prop
 |mk (a C dx fs v:_) (h0:x=.ref a) (h1:H1 a=some (.ins C dx fs)) (h2:So K C) (h3:AW K C f) (h4:fs.lookup f=some v) (h5:Q v H1):Zf K f x H1 Q
def zCg (K:a7)(ta:TE)(f:Str):TE:=λU H Q=>ta U H λx H1=>Zf K f x H1 Q
def zFm (K:a7)(ta tv:TE)(f:Str):TS:=λD U H=>tv U H λy H1=>ta U H1 λx H2=> ∃a C dx fs,x=.ref a/\H2 a=some (.ins C dx fs)/\So K C/\AW K C f/\fs.length<1000/\
 D.nx U (upd H2 a (.ins C dx (GQ f y fs)))
def zEm (X:Cx)(op:Operator)(rd:V->V->Hp->VK->Prop):Prop:=
 ∀(j9:a6 (i4×j8)) (s:i6) (U:St) (H:Hp) (x y:V) (u v:a9) (Q:VK),xZ X j9 U H s->kU x u->kU y v->rd x y H Q->wpAny (model X.prog X.w) X.A (inplaceOp op u v) (EP X j9 U Q) X.xe s
def XX (K:a7)(ta tv:TE)(rd:V->V->Hp->VK->Prop)(f:Str):TS:=λD U H=>ta U H λx H1=> ∃a C dx fs v,x=.ref a/\H1 a=some (.ins C dx fs)/\So K C/\AW K C f/\fs.lookup f=some v/\
 tv U H1 λy H2=>rd v y H2 λz H3=> ∃dx' fs',H3 a=some (.ins C dx' fs')/\fs'.length<1000/\D.nx U (upd H3 a (.ins C dx' (GQ f z fs')))
section
variable {X:Cx}{o e value:j6}{f:Str}{pos pos' tpos:Pos}{ta tv:TE}
theorem jJ (he:PE X e ta)(hb:attributeBase e f X.env (eval e X.env)=eval e X.env):PE X (.Attribute e f pos) (zCg X.K ta f):=by
 refine#[?_];intro j9 s U H Q I h;refine YV hb (wK (he j9 s U H _ I h) λu s1 m9=>?_);obtain⟨x,H1,I1,rx,a,C,dx,fs,v,ex,ea,c,n,l,q⟩:=m9;subst ex;obtain rfl:u=Value.ref a:=rx;exact LY I1 ea c n l λu' s2 I2 ru=>#[v,H1,I2,ru,q]
theorem FT (ha:PE X o ta)(hv:PE X value tv)(hs:swapsWith value (some (.Attribute o f pos')) pos.line X.env=pure false):PS X (.Assign [.Attribute o f pos'] value pos) (zFm X.K ta tv f):=by
 refine#[?_];intro j9 s U H D I h;refine plainObj_wpAny_Assign_Attribute (wK (hv j9 s U H _ I h) λu s1 z=>?_) hs;obtain⟨y,H1,I1,ry,q⟩:=z;refine wK (ha j9 s1 U H1 _ I1 q) λov s2 z=>?_;obtain⟨x,H2,I2,rx,a,C,dx,fs,ex,ea,c,n,l,q2⟩:=z;subst ex;obtain rfl:ov=Value.ref a:=rx;exact Lq I2 ea c n l ry λs3 I3=>#[U,_,I3,q2]
theorem TX {op:Operator}{rd:V->V->Hp->VK->Prop}(ha:PE X o ta)(hv:PE X value tv)(hop:zEm X op rd):PS X (.AugAssign (.Attribute o f tpos) op value pos) (XX X.K ta tv rd f):=by
 refine#[?_];intro j9 s U H D I h;refine wpAny_AugAssign_AttributeAny (wK (ha j9 s U H _ I h) λov s1 m9=>?_);obtain⟨x,H1,I1,rx,a,C,dx,fs,v,ex,ea,c,n,l,q⟩:=m9;subst ex;obtain rfl:ov=Value.ref a:=rx;refine LY I1 ea c n l λu s2 I2 ru=>wK (hv j9 s2 U H1 _ I2 q) λw3 s3 ⟨y,H2,I3,ry,q3⟩=>wK (hop j9 s3 U H2 v y u w3 _ I3 ru ry q3) λw4 s4 m9=>?_;obtain⟨z,H3,I4,rz,dx',fs',ea',l',q4⟩:=m9;exact Lq I4 ea' c n l' rz λs5 I5=>#[U,_,I5,q4]
def zHc:V->V->Hp->VK->Prop:=λx y H Q=> ∃i j,x=.int i/\y=.int j/\Q (.int (i+j)) H
theorem zAz:zEm X .Add zHc:=by
 rintro j9 s U H x y u v Q I rx ry ⟨i,j,rfl,rfl,q⟩;obtain⟨t,rfl⟩:=(show ∃t,u=Value.int i t from rx);obtain⟨t',rfl⟩:=(show ∃t',v=Value.int j t' from ry);exact PyProof.Rows.iadd_int #[.int (i+j),H,I.tok _,#[-1],q]
end
section
variable {X:Cx}{j9:a6 (i4×j8)}{U:St}{H:Hp}{s:i6}{A:j5}{E:a9->i6->Prop}{Q:a9->i6->Prop}{c:a9}{b:i8}
inductive Jv (K:a7) (H:Hp):V->a9->Prop where
 |non:Jv K H .non (.type "NoneType")
 |bl (x:i8):Jv K H (.bl x) (.type "bool")
 |int (i:Int):Jv K H (.int i) (.type "int")
 |str (x:Str):Jv K H (.str x) (.type "str")
 |flt (x:UInt64):Jv K H (.flt x) (.type "float")
 |lst {a:i4} {xs:List V} (e:H a=some (.lst xs)):Jv K H (.ref a) (.type "list")
 |frz {a:i4} {o:j8} {xs:List V} (e:H a=some (.frz o (.lst xs))):Jv K H (.ref a) (.type "list")
 |tup {a:i4} {xs:List V} (e:H a=some (.tup xs)):Jv K H (.ref a) (.type "tuple")
 |dK {a:i4} {kvs:List (AQ×V)} (e:H a=some (.dK kvs)):Jv K H (.ref a) (.type "dict")
 |dT {a:i4} {kvs:List (List AQ×V)} (e:H a=some (.dT kvs)):Jv K H (.ref a) (.type "dict")
 |ins {a C dx:i4} {fs:List (Str×V)} (e:H a=some (.ins C dx fs)) (cl:So K C) (ha:PySem.W.findIn K (.ref C) "__class__"=some (some (.builtin "object.__class__")))
   (hn:PySem.W.specialIn K (.builtin "object.__class__") "__get__"=some (some (.builtin "getset_descriptor.__get__"))) (htk:PySem.W.takesIn K (.builtin "object.__class__")=some true)
   (hm:PySem.W.mroIn K C (.type "object")=some true):Jv K H (.ref a) (.ref C)
theorem Nj {x:V}{u t:a9}(I:xZ X j9 U H s)(rx:kU x u)(ty:Jv X.K H x t)(e:PySem.W.kitOne X.K t c=some b)(h: ∀tk,Q (.bool b) {s with toks:=tk}):
  wpAny (model X.prog X.w) A (call (.builtin "isinstance") [u,c]) Q E s:=by
 cases ty with
 |non=>cases(show u=Value.none from rx);exact kZ PySem.W.kitx_none I.kIn True.intro e (λz=>nomatch z) h
 |bl y=>cases(show u=Value.bool y from rx);exact kZ PySem.W.kitx_bool I.kIn True.intro e (λz=>nomatch z) h
 |int i=>obtain⟨t,q⟩:=(show ∃t,u=Value.int i t from rx);cases q;exact kZ PySem.W.kitx_int I.kIn True.intro e (λz=>nomatch z) h
 |str y=>obtain⟨t,q⟩:=(show ∃t,u=Value.str y t from rx);cases q;exact kZ PySem.W.kitx_str I.kIn True.intro e (λz=>nomatch z) h
 |flt y=>obtain⟨t,q⟩:=(show ∃t,u=Value.float y t from rx);cases q;exact kZ PySem.W.kitx_float I.kIn True.intro e (λz=>nomatch z) h
 |@lst a xs ea=>
  cases(show u=Value.ref a from rx);obtain⟨_,_,n,_,h1⟩:=(show vY X.prog X.w H s.heap a (.lst xs)from I.hok a _ ea);exact kZ EL I.kIn #[_,h1,rfl] e (λz=>nomatch z) h
 |@frz a ob xs ea=>
  cases(show u=Value.ref a from rx);obtain⟨_,_,_,n,_,h1⟩:=(show vY X.prog X.w H s.heap a (.frz ob (.lst xs))from I.hok a _ ea);exact kZ EL I.kIn #[_,h1,rfl] e (λz=>nomatch z) h
 |@tup a xs ea=>
  cases(show u=Value.ref a from rx);obtain⟨_,_,_,p⟩:=(show vY X.prog X.w H s.heap a (.tup xs)from I.hok a _ ea);obtain⟨o,h1,h2,_⟩:=p;exact kZ PySem.W.kitx_tuple I.kIn #[o,h1,h2] e (λz=>nomatch z) h
 |@dK a kvs ea=>
  cases(show u=Value.ref a from rx);obtain⟨_,_,vs,_,p⟩:=(show vY X.prog X.w H s.heap a (.dK kvs)from I.hok a _ ea);obtain⟨o,es,ep,h1,h2,_⟩:=p;exact kZ PySem.W.kitx_dict I.kIn #[o,h1,h2.1] e (λz=>nomatch z) h
 |@dT a kvs ea=>
  cases(show u=Value.ref a from rx);obtain⟨_,_,xs,_,o,es,ep,h1,h2,_⟩:=(show vY X.prog X.w H s.heap a (.dT kvs)from I.hok a _ ea);exact kZ PySem.W.kitx_dict I.kIn #[o,h1,h2.1] e (λz=>nomatch z) h
 |@ins a C dx fs ea cl ha hn htk hm=>
  cases(show u=Value.ref a from rx);obtain⟨mA,O,_⟩:=KP I.hok ea;obtain⟨od,J,_⟩:=O.look;exact kZ (PySem.W.kitx_own (cl.get _) cl.hd ha hn htk hm) I.kIn J e (λz=>nomatch z) h
end
structure Ao (k:Nat)(A:j5):Prop where
 hd:A.handled=none
 dp:A.depth+3*k+5<recursionLimit
 un:A.units+16*k+200<cLine
 gd:A.guards=some []
theorem Ao.mono {j k:Nat}{A:j5}(r:Ao k A)(h:j<=k):Ao j A:=#[r.hd,by have:=r.dp;lia,by have:=r.un;lia,r.gd]
theorem Ao.deeper {k:Nat}{A:j5}(r:Ao (k+1) A)(env:Env):Ao k (A.deeper env):=
 #[r.hd,by have:=r.dp;show A.depth+1+3*k+5<_;lia,by have:=r.un;show A.units+3+16*k+200<_;lia,r.gd]
theorem RM {A:j5}{C:i4}{us:a6 a9}{kw:a6 (Str×a9)}:(A.under (.builtin "type.__call__" #[.ref C::us,kw])).depth =A.depth+1:=by
 first|rfl|simp[Around.under,Code.weight,Code.isCreation,Code.isGuard,Code.isCaller,Code.frames,Code.isFrame,guardIds]
theorem RL {A:j5}{C:i4}{us:a6 a9}{kw:a6 (Str×a9)}:(A.under (.builtin "type.__call__" #[.ref C::us,kw])).units =A.units+1:=by
 first|rfl|simp[Around.under,Code.cUnits,Code.frames,Code.isFrame]
theorem Ao.make {k:Nat}{A:j5}(r:Ao (k+1) A)(C:i4)(us:a6 a9)(kw:a6 (Str×a9)):Ao k (A.under (.builtin "type.__call__" #[.ref C::us,kw])):=
 #[r.hd,by have:=r.dp;rw[RM];lia,by have:=r.un;rw[RL];lia,r.gd]
theorem Ao.depth {k:Nat}{A:j5}(r:Ao k A):A.depth<recursionLimit:=by have:=r.dp;lia
theorem Ao.units {k:Nat}{A:j5}(r:Ao k A):A.units+64<cLine:=by have:=r.un;lia
def Mp:TA:=λ_ H Q=>Q [] H
def HK (ta:TE)(tr:TA):TA:=λU H Q=>ta U H λx H1=>tr U H1 λxs H2=>Q (x::xs) H2
section
variable {X:Cx}{e:j6}{es:a6 j6}{te:TE}{t:TA}{pos:Pos}
theorem zB:PA X [] Mp:=#[λ_ _ _ _ H Q I h=>Calls.spliced_nil #[[],H,I,.nil,h]]
theorem zA (ha:PE X e te)(hr:PA X es t)(hs:autoParam (starEach (e::es) X.env=(false,eval e X.env)::starEach es X.env) L2.aE._auto_1):PA X (e::es) (HK te t):=by
 refine#[?_];intro pos j9 s U H Q I h;rw[hs];show wpAny _ _ (spliced ((false,eval e X.env)::backTo pos (starEach es X.env))) _ _ s;refine Calls.spliced_cons (wK (ha j9 s U H _ I h) λu s1 m9=>?_);obtain⟨x,H1,I1,r1,q1⟩:=m9;exact wK (hr pos j9 s1 U H1 _ I1 q1) λus s2 ⟨xs,H2,I2,r2,q2⟩=>#[x::xs,H2,I2,.cons r1 r2,q2]
inductive Vm (xs:List V) (H1:Hp) (Q:VK):Prop
 |mk (h0:xs.length<=sizeLine) (h1: ∀p,H1 p=none->Q (.ref p) (upd H1 p (.tup xs))):Vm xs H1 Q
def zCd (t:TA):TE:=λU H Q=>t U H λxs H1=>Vm xs H1 Q
inductive Ze (xs:List V) (H1:Hp) (Q:VK):Prop
 |mk (h0:xs.length<=sizeLine) (h1: ∀p,H1 p=none->Q (.ref p) (upd H1 p (.lst xs))):Ze xs H1 Q
def TJ (t:TA):TE:=λU H Q=>t U H λxs H1=>Ze xs H1 Q
theorem xO {x1}(h:PA X es t):PE X (.Tuple es x1 pos) (zCd t):=by
 refine#[?_];intro j9 s U H Q I hq;refine wpAny_Tuple_spliced (wK (h pos j9 s U H _ I hq) λus s1 ⟨xs,H1,I1,r,z,q⟩=>#[by rw[<-r.length];exact z,?_]);have hf:H1 s1.heap.objs.size=none:=I1.hok.fresh (zO _);refine#[.ref s1.heap.objs.size,upd H1 s1.heap.objs.size (.tup xs),I1.laid (t':=s1.toks) (λb u e=>zJ _ e) (zO _) ?_,rfl,q _ hf];exact#[z,us,r,#[_,yE _ rfl,rfl,-1]]
theorem xF (h:PA X es t):PE X (.List es pos) (TJ t):=by
 refine#[?_];intro j9 s U H Q I hq;refine wpAny_List_spliced (wK (h pos j9 s U H _ I hq) λus s1 ⟨xs,H1,I1,r,z,q⟩=>#[by rw[<-r.length];exact z,?_]);have hf:H1 s1.heap.objs.size=none:=I1.hok.fresh (zO _);refine#[.ref s1.heap.objs.size,upd H1 s1.heap.objs.size (.lst xs),I1.laid (t':=s1.toks) (λb u e=>zJ _ e) (zO _) ?_,rfl,q _ hf];exact#[z,us,0,r,yE _ rfl]
end
abbrev Sp:=a6 V->Hp->VK->XK->Prop
abbrev MI:=a6 Env->Hp->i6->XK->a9->i6->Prop
structure Sl (P:i7)(w:j3)(K:a7)(mg:Str->Option a9)(base:j4)(A:j5)(outer:List Env)(s:i6)(H:Hp):Prop where
 frames:A.frames=some outer
 mod:Mod K mg base
 bs: ∀b o,base.get? b=some o->s.heap.get? b=some o/\H b=none
 bsz:base.objs.size<=s.heap.objs.size
 funs:s.heap.FunFrames base outer
 frf: ∀b∈frs outer,H b=none
 hok:IB P w H s.heap
 bare:AllBare s.gens
def CE (outer:a6 Env)(P:i7)(w:j3)(H:Hp)(s:i6)(Q:VK)(u:a9)(s':i6):Prop:=
 ∃v H',s'.os=s.os/\AllBare s'.gens/\Un (frs outer) [] H H' s.heap s'.heap/\IB P w H' s'.heap/\kU v u/\Q v H'
def CR (CX:MI)(outer:a6 Env)(P:i7)(w:j3)(H:Hp)(s:i6)(Q:VK)(E:XK)(r:Result)(s':i6):Prop:=
 match r with
 | .ok (.ret u)=>CE outer P w H s Q u s'
 | .ok _=>False
 | .error e=>CX outer H s E e s'
structure Dl (P:i7)(w:j3)(K:a7)(mg:Str->Option a9)(base:j4)(CX:MI)(k:Nat)(f:i4)(fd:FuncData)(ps:List Str)(sp:Sp):Prop where
 len: ∀vs H Q E,sp vs H Q E->vs.length=ps.length
 run: ∀(A:j5) (outer:List Env) (s:i6) (H:Hp) (args:Args) (us:List a9) (vs:List V) (Q:VK) (E:XK),Ao k A->Sl P w K mg base A outer s H->BindsTo s fd args (ps.zip us)->kE vs us->sp vs H Q E->
  codeAny (model P w) A (.call (.ref f) args) (CR CX outer P w H s Q E) s
theorem Sl.make {P:i7}{w:j3}{K:a7}{mg:Str->i5 a9}{base:j4}{A:j5}{outer:a6 Env}{s:i6}{H:Hp}(e:Sl P w K mg base A outer s H)(C:i4)(us:a6 a9)(kw:a6 (Str×a9)):
  Sl P w K mg base (A.under (.builtin "type.__call__" #[.ref C::us,kw])) outer s H:=#[by first|exact e.frames|(simpa[Around.under,Code.envs,Code.isFrame,pushEnvs]using e.frames),e.mod,e.bs,e.bsz,e.funs,e.frf,e.hok,e.bare]
section
variable {X:Cx}{j9:a6 (i4×j8)}{U:St}{H:Hp}{s s':i6}
theorem xZ.env0 (I:xZ X j9 U H s):Sl X.prog X.w X.K X.mg X.base X.A X.stack s H:=
 #[I.ok.frames,I.ok.mod,I.bs,xH I.ok.bsz I.sz,I.stack,I.stkFree,I.hok,I.bare]
theorem xZ.after {Q:VK}{u:a9}(I:xZ X j9 U H s)(h:CE X.stack X.prog X.w H s Q u s'):EP X j9 U Q u s':=by
 obtain⟨v,H',os,bare,un,hok,r,q⟩:=h;obtain⟨hh,g,d,t,os'⟩:=s';obtain rfl:os'=s.os:=os;exact#[v,H',I.call (h':=hh) (g':=g) (d':=d) (t':=t) (ch:=[]) un hok bare (λb z=>absurd z (by simp)),r,q]
end
def Vq (sp:Sp)(dvs:a6 V)(E:XK)(t:TA):TE:=λU H Q=>t U H λvs H1=>sp (vs++dvs) H1 Q E
inductive Vp (C:i4) (m:Str) (sp:Sp) (dvs:List V) (E:XK) (t:TA) (U:St) (x:V) (H1:Hp) (Q:VK):Prop
 |mk (a dx fs:_) (h0:x=.ref a) (h1:H1 a=some (.ins C dx fs)) (h2:fs.lookup m=none) (h3:t U H1 λvs H2=>sp (x::(vs++dvs)) H2 Q E):Vp C m sp dvs E t U x H1 Q
def Sv (C:i4)(m:Str)(sp:Sp)(dvs:a6 V)(E:XK)(ta:TE)(t:TA):TE:=λU H Q=>ta U H λx H1=>Vp C m sp dvs E t U x H1 Q
def Sw (C:i4)(sp:Sp)(dvs:a6 V)(E:XK)(t:TA):TE:=λU H Q=>t U H λvs H1=> ∀x dx,H1 x=none->H1 dx=none->dx≠x->
 sp (.ref x::(vs++dvs)) (upd (upd H1 dx (.own x)) x (.ins C dx [])) (λv H2=>v=.non/\Q (.ref x) H2) E
def uG (K:a7)(fd:FuncData)(ps:a6 Str)(ds:a6 a9):Prop:=
 ∀(s:i6) (us:a6 a9),K.In s.heap->(us++ds).length =ps.length->BindsTo s fd #[us,[]] (ps.zip (us++ds))
theorem uG.all {K:a7}{fd:FuncData}{ps:a6 Str}(h: ∀us:a6 a9,us.length=ps.length->bindArgs fd #[us,[]]=pure (ps.zip us)):uG K fd ps []:=λs us _ hl=>by
 rw[xI]at hl ⊢;exact .of_eq (h us hl)
def BY (CX:MI)(X:Cx)(E:XK):Prop:= ∀(j9:a6 (i4×j8)) (U:St) (H:Hp) (s:i6) (e:a9) (s':i6),xZ X j9 U H s->CX X.stack H s E e s'->X.xe e s'
section
variable {X:Cx}{CX:MI}{k:Nat}{f C:i4}{fd:FuncData}{ps:a6 Str}{sp:Sp}{dvs:a6 V}{ds:a6 a9}{E:XK}{x m:Str}{p pos o8:Pos}{e o:j6}{es:a6 j6}{ta:TE}{t:TA}
theorem Rf {j9:a6 (i4×j8)}{U:St}{H:Hp}{s:i6}{Q:VK}{us:a6 a9}{vs:a6 V}(F:Dl X.prog X.w X.K X.mg X.base CX k f fd ps sp)(hr:Ao k X.A)(hb:uG X.K fd ps ds)(hd:kE dvs ds)(hx:BY CX X E)
  (I:xZ X j9 U H s) (r:kE vs us) (h:sp (vs++dvs) H Q E):wpAny (model X.prog X.w) X.A (call (.ref f) us) (EP X j9 U Q) X.xe s:=by
 have r2:kE (vs++dvs) (us++ds):=r.append hd;have hl:(us++ds).length =ps.length:=by rw[<-r2.length];exact F.len _ _ _ _ h
 refine wpAny_call (codeAny_mono (F.run X.A X.stack s H #[us,[]] (us++ds) (vs++dvs) Q E hr I.env0 (hb s us I.kIn hl) r2 h) λr s' hq=>?_);cases r with
 |error e=>exact hx j9 U H s e s' I hq
 |ok fl=>
  cases fl with
  |ret u=>exact I.after hq
  |next=>exact False.elim hq
  |brk=>exact False.elim hq
  |cont=>exact False.elim hq
theorem Ym (F:Dl X.prog X.w X.K X.mg X.base CX k f fd ps sp)(hr:Ao k X.A)(hg:Gl X x)(hm:X.mg x=some (.ref f))(hk:PySem.W.keepIn X.K (.ref f)=true)(hb:uG X.K fd ps ds)(hd:kE dvs ds)(hx:BY CX X E)
  (ha:PA X (e::es) t) (hdb:autoParam ((x==("__debug__":Str))=false) L2.aB._auto_1) (he:autoParam (starEach (e::es) X.env=(false,eval e X.env)::starEach es X.env) L2.aE._auto_1) (hpl:autoParam ((backTo pos (starEach es X.env)).any (·.1)=false) L2.aE._auto_1):
  PE X (.Call (.Name x p) (e::es) [] pos) (Vq sp dvs E t):=by
 refine#[?_];intro j9 s U H Q I h;refine uZ (KO I hg hm ?_ hdb);refine Et (h₀:=X.base) I.ok.mod.kin hk (wK (ha pos j9 s U H _ I h) λus s1 ⟨vs,H1,I1,r,q⟩=>#[I1.kIn,?_]) he hpl;exact Rf F hr hb hd hx I1 r q
theorem Yi {pl:Sem i8}(he:PE X o ta)(c:So X.K C)(hm:Zb X.K C m f)(F:Dl X.prog X.w X.K X.mg X.base CX k f fd ps sp)(hr:Ao k X.A)(hb:uG X.K fd ps ds)(hd:kE dvs ds)(hx:BY CX X E)(ha:PA X (e::es) t)
  (hst:autoParam (starEach (e::es) X.env=(false,eval e X.env)::starEach es X.env) L2.aE._auto_1) (hpl:autoParam ((backTo pos (starEach es X.env)).any (·.1)=false) L2.aE._auto_1)
  (ht:autoParam (eval (.Call (.Attribute o m o8) (e::es) [] pos) X.env=(do
   let ov<-eval o X.env
   standAt o8.atName
   let(f,first)<-holding [ov] (getMethod ov m pl)
   callWith pos f first (backTo pos (starEach (e::es) X.env)) (backToKw pos (keywordEach [] X.env)))) L2.aE._auto_1):
  PE X (.Call (.Attribute o m o8) (e::es) [] pos) (Sv C m sp dvs E ta t):=by
 refine#[?_];intro j9 s U H Q I h;refine PySem.W.methodCall_KW (pl:=pl) (wK (he j9 s U H _ I h) λu s1 ⟨x,H1,I1,rx,a,dx,fs,ex,ea,l,q⟩=>?_) ht;subst ex;obtain rfl:u=Value.ref a:=rx;refine LX I1 ea c hm l ?_;refine Et (first:=[.ref a]) (h₀:=X.base) I.ok.mod.kin hm.kp (wK (ha pos j9 s1 U H1 _ I1 q) λus s2 ⟨vs,H2,I2,r,q2⟩=>#[I2.kIn,?_]) hst hpl;exact Rf (us:=.ref a::us) (vs:=.ref a::vs) F hr hb hd hx I2 (.cons rfl r) q2
theorem VR {pl:Sem i8}(he:PE X o ta)(c:So X.K C)(hm:Zb X.K C m f)(F:Dl X.prog X.w X.K X.mg X.base CX k f fd ps sp)(hr:Ao k X.A)(hb:uG X.K fd ps ds)(hd:kE dvs ds)(hx:BY CX X E)
  (ht:autoParam (eval (.Call (.Attribute o m o8) [] [] pos) X.env=(do
   let ov<-eval o X.env
   standAt o8.atName
   let(f,first)<-holding [ov] (getMethod ov m pl)
   callWith pos f first (backTo pos (starEach [] X.env)) (backToKw pos (keywordEach [] X.env)))) L2.aE._auto_1):
  PE X (.Call (.Attribute o m o8) [] [] pos) (Sv C m sp dvs E ta Mp):=by
 refine#[?_];intro j9 s U H Q I h;refine PySem.W.methodCall_KW (pl:=pl) (wK (he j9 s U H _ I h) λu s1 ⟨x,H1,I1,rx,a,dx,fs,ex,ea,l,q⟩=>?_) ht;subst ex;obtain rfl:u=Value.ref a:=rx;refine LX I1 ea c hm l ?_;exact PySem.W.callWith_K0 (first:=[.ref a]) I1.kIn hm.kp (Rf (us:=[.ref a]) (vs:=[.ref a]) F hr hb hd hx I1 (.cons rfl .nil) q)
structure Mk (K:a7)(C f:i4):Prop where
 makes:PySem.W.makesIn K C=true
 init:PySem.W.findIn K (.ref C) "__init__"=some (some (.ref f))
 fn:PySem.W.isFn K (.ref f)=true
 kp:PySem.W.keepIn K (.ref C)=true
theorem OZ {j9:a6 (i4×j8)}{U:St}{H:Hp}{s:i6}{Q:VK}{us:a6 a9}{vs:a6 V}(M:Mk X.K C f)(F:Dl X.prog X.w X.K X.mg X.base CX k f fd ps sp)(hr:Ao (k+1) X.A)(hb:uG X.K fd ps ds)(hd:kE dvs ds)
  (hx:BY CX X E) (I:xZ X j9 U H s) (r:kE vs us)
  (h: ∀x dx,H x=none->H dx=none->dx≠x->sp (.ref x::(vs++dvs)) (upd (upd H dx (.own x)) x (.ins C dx [])) (λv H2=>v=.non/\Q (.ref x) H2) E):
  wpAny (model X.prog X.w) X.A (call (.ref C) us) (EP X j9 U Q) X.xe s:=by
 have hq:=h (s.heap.objs.size+1) s.heap.objs.size (I.hok.fresh (AH _)) (I.hok.fresh (zO _)) (xQ (AR _));have I2:=xZ.made (C:=C) I;have r2:kE (V.ref (s.heap.objs.size+1)::(vs++dvs)) (Value.ref (s.heap.objs.size+1)::(us++ds)):=.cons rfl (r.append hd);have hl:(Value.ref (s.heap.objs.size+1)::us++ds).length =ps.length:=by
  have e:=r2.length;rw[F.len _ _ _ _ hq]at e;exact e.symm
 refine wpAny_call (Wy (f:=f) I.kIn M.makes M.init (beq_iff_eq.mp M.fn) (codeAny_mono (F.run _ X.stack _ _ #[Value.ref (s.heap.objs.size+1)::us,[]] (Value.ref (s.heap.objs.size+1)::(us++ds)) _ _ E (hr.make C us [])
  (I2.env0.make C us []) (hb _ (Value.ref (s.heap.objs.size+1)::us) I2.kIn hl) r2 hq) λr s' hq'=>?_))
 cases r with
 |error e=>exact hx j9 U _ _ e s' I2 hq'
 |ok fl=>
  cases fl with
  |ret u=>
   obtain⟨v,H',I3,rv,ev,q3⟩:=I2.after hq';subst ev;exact#[rv,#[V.ref (s.heap.objs.size+1),H',I3,rfl,q3]]
  |next=>exact False.elim hq'
  |brk=>exact False.elim hq'
  |cont=>exact False.elim hq'
theorem Yj (M:Mk X.K C f)(F:Dl X.prog X.w X.K X.mg X.base CX k f fd ps sp)(hr:Ao (k+1) X.A)(hg:Gl X x)(hm:X.mg x=some (.ref C))(hb:uG X.K fd ps ds)(hd:kE dvs ds)(hx:BY CX X E)
  (ha:PA X (e::es) t) (hdb:autoParam ((x==("__debug__":Str))=false) L2.aB._auto_1) (he:autoParam (starEach (e::es) X.env=(false,eval e X.env)::starEach es X.env) L2.aE._auto_1) (hpl:autoParam ((backTo pos (starEach es X.env)).any (·.1)=false) L2.aE._auto_1):
  PE X (.Call (.Name x p) (e::es) [] pos) (Sw C sp dvs E t):=by
 refine#[?_];intro j9 s U H Q I h;refine uZ (KO I hg hm ?_ hdb);refine Et (h₀:=X.base) I.ok.mod.kin M.kp (wK (ha pos j9 s U H _ I h) λus s1 ⟨vs,H1,I1,r,q⟩=>#[I1.kIn,?_]) he hpl;exact OZ M F hr hb hd hx I1 r q
theorem VS (M:Mk X.K C f)(F:Dl X.prog X.w X.K X.mg X.base CX k f fd ps sp)(hr:Ao (k+1) X.A)(hg:Gl X x)(hm:X.mg x=some (.ref C))(hb:uG X.K fd ps ds)(hd:kE dvs ds)(hx:BY CX X E)
  (hdb:autoParam ((x==("__debug__":Str))=false) L2.aB._auto_1):PE X (.Call (.Name x p) [] [] pos) (Sw C sp dvs E Mp):=by
 refine#[?_];intro j9 s U H Q I h;refine uZ (KO I hg hm ?_ hdb);exact PySem.W.callWith_K0 I.kIn M.kp (OZ (us:=[]) M F hr hb hd hx I .nil h)
end
structure PK (X:Cx)(kws:List Keyword)(t:TA):Prop where
 go: ∀(pos:Pos) (j9:List (i4×j8)) (s:i6) (U:St) (H:Hp) (Q:List V->Hp->Prop),xZ X j9 U H s->t U H Q->wpAny (model X.prog X.w) X.A (evalAll ((backToKw pos (keywordEach kws X.env)).map (·.2))) (AP X j9 U Q) X.xe s
instance {X:Cx}{kws:a6 Keyword}{t:TA}:CoeFun (PK X kws t) (λ_=> ∀(pos:Pos) (j9:a6 (i4×j8)) (s:i6) (U:St) (H:Hp) (Q:a6 V->Hp->Prop),xZ X j9 U H s->t U H Q->wpAny (model X.prog X.w) X.A (evalAll ((backToKw pos (keywordEach kws X.env)).map (·.2))) (AP X j9 U Q) X.xe s):=#[PK.go]
structure yT (N P:List Str)(sc:Scope):Prop where
 kind:sc.kind=.function
 co:sc.isCoroutine=false
 gen:sc.isGenerator=false
 nd:N.Nodup
 pre:N.take P.length=P
 par: ∀x∈P,sc.names.lookup x=some .local\/sc.names.lookup x=some .cell
 nofree: ∀y∈sc.names,y.2≠ .free
theorem aK (h:True:=by decide+kernel):True:=h
theorem yT.of {N P:List Str}{sc:Scope}(h:autoParam (N.Nodup/\N.take P.length=P/\(∀x∈P,sc.names.lookup x=some .local\/sc.names.lookup x=some .cell)/\ ∀y∈sc.names,y.2≠ .free) L2.aK._auto_1)(a:autoParam (sc.kind=.function) L2.aE._auto_1)(b:autoParam (sc.isCoroutine=false) L2.aE._auto_1)(c:autoParam (sc.isGenerator=false) L2.aE._auto_1):yT N P sc:=#[a,b,c,h.1,h.2.1,h.2.2.1,h.2.2.2]
theorem Nr {kindOf:Str->i5 NameKind}{x:Str}: ∀{binds:a6 (Str×a9)} {m:Str->i5 a9},(∀v,(x,v)∉binds)->bindL kindOf binds m x=m x
 |[],_,_=>rfl
 |(n,v)::r,m,h=>by
  unfold bindL;rw[Nr λw hw=>h w (yC _ hw)];split
  ·have:x≠n:=by rintro rfl;exact h v yA
   simp[this]
  ·rfl
theorem Nu {kindOf:Str->i5 NameKind}{x:Str}: ∀{binds:a6 (Str×a9)} {m:Str->i5 a9},(∀v,(x,v)∉binds)->bindC kindOf binds m x=m x
 |[],_,_=>rfl
 |(n,v)::r,m,h=>by
  unfold bindC;rw[Nu λw hw=>h w (yC _ hw)];split
  ·rfl
  ·have:x≠n:=by rintro rfl;exact h v yA
   simp[this]
theorem Nt {kindOf:Str->i5 NameKind}{x:Str}{v:a9}: ∀{P:a6 Str} {vs:a6 a9} {i:Nat} {m:Str->i5 a9},P.Nodup->P[i]? =some x->vs[i]? =some v->kindOf x=some .local->
  bindL kindOf (P.zip vs) m x=some v
 |[],_,_,_,_,h,_,_=>by simp at h
 |_::_,[],_,_,_,_,h,_=>by simp at h
 |p::P,w::vs,0,m,nd,h1,h2,hk=>by
  simp at h1 h2;subst h1;subst h2
  show bindL kindOf ((p,w)::P.zip vs) m p=_;unfold bindL;rw[Nr λv hv=>(List.nodup_cons.mp nd).1 (DI hv).1,zQ hk]
  simp
 |p::P,w::vs,i+1,m,nd,h1,h2,hk=>by
  show bindL kindOf ((p,w)::P.zip vs) m x=_;unfold bindL;exact Nt (i:=i) (List.nodup_cons.mp nd).2 (by simpa using h1) (by simpa using h2) hk
theorem Nv {kindOf:Str->i5 NameKind}{x:Str}{v:a9}: ∀{P:a6 Str} {vs:a6 a9} {i:Nat} {m:Str->i5 a9},P.Nodup->P[i]? =some x->vs[i]? =some v->kindOf x≠some .local->
  bindC kindOf (P.zip vs) m x=some v
 |[],_,_,_,_,h,_,_=>by simp at h
 |_::_,[],_,_,_,_,h,_=>by simp at h
 |p::P,w::vs,0,m,nd,h1,h2,hk=>by
  simp at h1 h2;subst h1;subst h2
  show bindC kindOf ((p,w)::P.zip vs) m p=_;unfold bindC;rw[Nu λv hv=>(List.nodup_cons.mp nd).1 (DI hv).1,zN hk]
  simp
 |p::P,w::vs,i+1,m,nd,h1,h2,hk=>by
  show bindC kindOf ((p,w)::P.zip vs) m x=_;unfold bindC;exact Nv (i:=i) (List.nodup_cons.mp nd).2 (by simpa using h1) (by simpa using h2) hk
noncomputable def IL (N:a6 Str)(vs:a6 V):St:=vs.map some++List.replicate (N.length-vs.length) none
noncomputable def Qu (CX:MI)(P:i7)(w:j3)(K:a7)(mg:Str->i5 a9)(base:j4)(N:a6 Str)(qual:Str)(scope:Scope)(f:i4)(cd:a9)(A:j5)(outer:a6 Env)(s:i6)(H:Hp)(E:XK):Cx where
 prog:=P
 w:=w
 K:=K
 mg:=mg
 base:=base
 A:=A.deeper (envOfC qual scope s.heap.objs.size f cd)
 N:=N
 s₀:=s
 H₀:=H
 env:=envOfC qual scope s.heap.objs.size f cd
 outer:=outer
 stack:=envOfC qual scope s.heap.objs.size f cd::outer
 ex:=[]
 calm:=true
 fn:=λ_=>true
 pn:=[]
 xe:=λe s'=>wpAny (model P w) (A.deeper (envOfC qual scope s.heap.objs.size f cd)) (leaving (envOfC qual scope s.heap.objs.size f cd) e) (λ_ s''=>CX outer H s E e s'') (λe' s''=>CX outer H s E e' s'') s'
theorem Qx {sc:Scope}{n:Nat}{x:Str}(h:sc.names.lookup x=some .cell): ∃c,(cellsFrom n sc.names []).lookup x=some c:=by
 have q:=PySem.W.cellsFrom_some sc.names n [] (.inl h);exact Option.isSome_iff_exists.mp q
theorem UA {CX:MI}{P:i7}{w:j3}{K:a7}{mg:Str->i5 a9}{base:j4}{N ps:a6 Str}{qual:Str}{scope:Scope}{f:i4}{cd:a9}{A:j5}{outer:a6 Env}{s s1:i6}{H:Hp}{E:XK}{us:a6 a9}{vs:a6 V}
  (S:yT N ps scope) (hd:A.handled=none) (e0:Sl P w K mg base A outer s H) (hl:vs.length=ps.length) (r:kE vs us)
  (x:InCallC s s.heap.objs.size (bindL (envOfC qual scope s.heap.objs.size f cd).kindOf (ps.zip us) λ_=>none) (cellsFrom (s.heap.objs.size+1) scope.names []) (bindC (envOfC qual scope s.heap.objs.size f cd).kindOf (ps.zip us) λ_=>none) s1):
  xZ (Qu CX P w K mg base N qual scope f cd A outer s H E) [] (IL N vs) H s1:=by
 have hpl:ps.length<=N.length:=by have:=qZ List.length S.pre;rw[xM]at this;lia
 obtain⟨h1,tk,rfl,hk⟩:=x.done;have noA: ∀b:i4,b∉(Qu CX P w K mg base N qual scope f cd A outer s H E).ex:=λb z=>absurd (show b∈([]:a6 i4)from z) (by simp);refine#[#[e0.mod,S.kind,rfl,rfl,zO _,λy z c h1 h2=>?_,λy hy=>?_,λy c _ h=>?_,λ_=>hd,Around.frames_deeper e0.frames,.inr #[rfl,rfl],λb z=>absurd z (noA b),e0.bs,e0.bsz,λb _ _=>noA b,λb z=>absurd z (noA b),e0.funs,e0.frf],
  rfl,e0.bare,Un.kept hk,#[_,x.toInCall.ns,λi y v h1 h2 h3=>?_],λy c h=>#[_,x.cell y c h],e0.hok.fresh (zO _),λy c h=>?_,λp hp=>absurd (show p∈([]:a6 (i4×j8))from hp) (by simp),e0.hok.kept hk,?_]
 ·exact name_of_addr x.apart (wX h1) (wX h2)
 ·have hy:scope.names.lookup y=some .cell\/scope.names.lookup y=some .free:=hy
  rcases hy with hy|hy
  ·exact Qx hy
  ·exact absurd rfl (S.nofree _ (wX hy))
 ·exact BO (x.above y c (wX h))
 ·have hi:i<vs.length:=by
   unfold IL at h2
   by_cases hi:i<vs.length
   ·exact hi
   ·rw[vI (by simpa using hi)]at h2;rw[Fy]at h2;split at h2<;>cases h2
  have ha:vs[i]? =some v:=by
   unfold IL at h2;rw[AT (by simpa using hi),zW]at h2;cases e:vs[i]? with
   |none=>rw[e]at h2;cases h2
   |some a=>rw[e]at h2;cases h2;rfl
  obtain⟨u,hu,rv⟩:=r.get ha;have hp:ps[i]? =some y:=by
   rw[<-S.pre,EZ ()];exact h1
  have ndP:ps.Nodup:=by rw[<-S.pre];exact S.nd.sublist (List.take_sublist _ _)
  refine#[u,rv,?_]
  rcases S.par y (xB hp)with k|k
  ·exact .inl #[k,Nt ndP hp hu k]
  ·obtain⟨c,e⟩:=Qx (n:=s.heap.objs.size+1) k;refine .inr #[.inl k,c,e,?_];have q:=x.cell y c e;rw[Nv ndP hp hu (by show scope.names.lookup y≠_;rw[k];decide)]at q;exact q
 ·exact e0.hok.fresh (BO (x.above y c (wX h)))
 ·unfold IL;show _=N.length;rw[zE,zG,qG];lia
theorem zDp {CX:MI}{P:i7}{w:j3}{K:a7}{mg:Str->i5 a9}{base:j4}{k:Nat}{f:i4}{name qual:Str}{params:Arguments}{body:a6 i9}{scope:Scope}{dV kV doc pm cdv ct oc:a9}{an od:i5 i4}
  {osl:j7 (i5 a9)} {N ps:a6 Str} {sp:Sp} (lk:K.lookup f=some #[oc,od,.func (PySem.W.fnOf name qual params body scope dV kV doc pm an cdv ct),osl]) (hcd:PySem.W.codeIn K cdv qual=true) (S:yT N ps scope)
  (len: ∀vs H Q E,sp vs H Q E->vs.length=ps.length)
  (hbody: ∀(A:j5) (outer:a6 Env) (s:i6) (H:Hp) (vs:a6 V) (Q:VK) (E:XK),Ao k (A.deeper (envOfC qual scope s.heap.objs.size f cdv))->sp vs H Q E->
   ∃t,QG (Qu CX P w K mg base N qual scope f cdv A outer s H E) body t/\t {nx:=λ_ H'=>Q .non H',rt:=Q} (IL N vs) H):
  Dl P w K mg base CX (k+1) f (PySem.W.fnOf name qual params body scope dV kV doc pm an cdv ct) ps sp:=by
 refine#[len,λA outer s H args us vs Q E hr e0 hb r hsp=>?_];have hl:=len _ _ _ _ hsp;have KX:K.In s.heap:=e0.mod.kin.keeps λb o e=>(e0.bs b o e).1;have lim:s.heap.NoLimit:=e0.mod.nolimit.keeps λb o e=>(e0.bs b o e).1;have hkind: ∀y∈ps.zip us,scope.names.lookup y.1=some .local\/(scope.names.lookup y.1=some .cell/\((cellsFrom (s.heap.objs.size+1) scope.names []).lookup y.1).isSome =true):=fun⟨n,v⟩ hy=>by
  rcases S.par n (DI hy).1 with q|q
  ·exact .inl q
  ·exact .inr #[q,PySem.W.cellsFrom_some _ _ _ (.inl q)]
 refine codeAny_call_function hr.depth (KX _ _ lk) rfl S.co S.gen rfl (PySem.W.codeRec_of KX hcd) (hb _ _ _ _ ?_);refine wpAny_newFunctionEnv_cells S.kind hkind λenv he s1 x=>?_;subst he;refine#[lim.keeps x.toInCall.keep,codeAny_func ?_];obtain⟨t,ht,hq⟩:=hbody A outer s H vs Q E (hr.deeper _) hsp;have I:xZ (Qu CX P w K mg base N qual scope f cdv A outer s H E) [] (IL N vs) H s1:=UA S hr.hd e0 hl r x;refine AG (ht [] s1 (IL N vs) H _ I hq) (λfl s' hs=>?_) λe s' hs=>hs;have fin: ∀{U':St} {H':Hp} {v:V} {u:a9},xZ (Qu CX P w K mg base N qual scope f cdv A outer s H E) [] U' H' s'->kU v u->Q v H'->CE outer P w H s Q u s':=
  fun{U' H' v u} J rv q=>#[v,H',J.os,J.bare,J.base,J.hok,rv,q]
 cases fl with
 |ret u=>
  obtain⟨v,U',H',J,rv,q⟩:=hs;exact fin J rv q
 |next=>
  obtain⟨U',H',J,q⟩:=hs;exact fin (v:=V.non) (u:=Value.none) J rfl q
 |brk=>
  obtain⟨_,_,_,q⟩:=hs;exact False.elim q
 |cont=>
  obtain⟨_,_,_,q⟩:=hs;exact False.elim q
section
variable {X:Cx}{x:Str}{p pos:Pos}{e:j6}{es:a6 j6}{t:TA}{id T:String}{r:a6 V->Hp->VK->Prop}
def r8 (r:a6 V->Hp->VK->Prop)(t:TA):TE:=λU H Q=>t U H λvs H1=>r vs H1 Q
theorem xK (hc:Fq X (.builtin id) r)(hg:Gl X x)(hm:X.mg x=none)(hv:bootBuiltins x=some (.builtin id))(ha:PA X (e::es) t)(hn:autoParam (x≠"__name__") L2.aB._auto_1)(hdb:autoParam ((x==("__debug__":Str))=false) L2.aB._auto_1)
  (he:autoParam (starEach (e::es) X.env=(false,eval e X.env)::starEach es X.env) L2.aE._auto_1) (hpl:autoParam ((backTo pos (starEach es X.env)).any (·.1)=false) L2.aE._auto_1):PE X (.Call (.Name x p) (e::es) [] pos) (r8 r t):=by
 refine#[?_];intro j9 s U H Q I h;refine uZ (EO I hg hm hv ?_ hn hdb);exact PyProof.Rows.callWith_builtin1 (wK (ha pos j9 s U H _ I h) λus s1 ⟨vs,H1,I1,r1,q1⟩=>hc j9 s1 U H1 vs us Q I1 r1 q1) he hpl
theorem Fe (hc:Fq X (.type T) r)(hg:Gl X x)(hm:X.mg x=none)(hv:bootBuiltins x=some (.type T))(ha:PA X (e::es) t)(hn:autoParam (x≠"__name__") L2.aB._auto_1)(hdb:autoParam ((x==("__debug__":Str))=false) L2.aB._auto_1)
  (he:autoParam (starEach (e::es) X.env=(false,eval e X.env)::starEach es X.env) L2.aE._auto_1) (hpl:autoParam ((backTo pos (starEach es X.env)).any (·.1)=false) L2.aE._auto_1):PE X (.Call (.Name x p) (e::es) [] pos) (r8 r t):=by
 refine#[?_];intro j9 s U H Q I h;refine uZ (EO I hg hm hv ?_ hn hdb);exact jH (wK (ha pos j9 s U H _ I h) λus s1 ⟨vs,H1,I1,r1,q1⟩=>hc j9 s1 U H1 vs us Q I1 r1 q1) he hpl
end
end L2
namespace HT
open PySem PyProof.Rows
section
variable {prog:i7}{w:j3}{A:j5}{E:a9->i6->Prop}{s:i6}
noncomputable def sIx (n d:Nat):i5 Int->Nat
 |none=>d
 |some v=>if v<0 then(v+(n:Int)).toNat else min v.toNat n
theorem sIx_none (n d:Nat):sIx n d none=d:=rfl
theorem sIx_nat (n d k:Nat):sIx n d (some (k:Int))=min k n:=by
 show(if(k:Int)<0 then((k:Int)+(n:Int)).toNat else min (k:Int).toNat n)=min k n;rw[if_neg (),Int.toNat_natCast]
theorem ZV (n d:Nat)(hd:d<=n)(o:i5 Int):sIx n d o<=n:=by
 cases o with
 |none=>exact hd
 |some v=>
  show(if v<0 then(v+(n:Int)).toNat else min v.toNat n)<=n
  by_cases hv:v<0
  ·rw[if_pos hv];lia
  ·rw[if_neg hv];exact Nat.min_le_right _ _
theorem To (v:Int)(n d:Nat):(if v<0 then max (v+(n:Int)) 0 else min v (n:Int))=((sIx n d (some v):Nat):Int):=by
 show(if v<0 then max (v+(n:Int)) 0 else min v (n:Int))=(((if v<0 then(v+(n:Int)).toNat else min v.toNat n):Nat):Int)
 by_cases hv:v<0
 ·simp only[if_pos hv];lia
 ·simp only[if_neg hv];lia
theorem Sd (lo hi:i5 Int)(n:Nat):Builtin.Slice.sliceAdjust lo hi 1 (n:Int)=(((sIx n 0 lo:Nat):Int),((sIx n n hi:Nat):Int)):=by
 have h1: ¬((1:Int)<0):=()
 unfold Builtin.Slice.sliceAdjust;simp only[h1,if_false];refine Prod.ext ?_ ?_
 ·cases lo with
  |none=>rfl
  |some v=>exact To v n 0
 ·cases hi with
  |none=>rfl
  |some v=>exact To v n n
theorem Ri (i j:Nat):Builtin.Slice.slicePlaces (i:Int) (j:Int) 1=j-i:=by
 unfold Builtin.Slice.slicePlaces;have h1:(1:Int) > 0:=()
 simp only[h1,if_true,Int.ediv_one];split<;>lia
theorem Lo {v:a9}{o:i5 Int}{Q:i5 Int->i6->Prop}(p:IsPart v o)(h:Q o s):wpAny (model prog w) A (Builtin.Slice.slicePartIndex v) Q E s:=by
 cases p with
 |none=>exact slicePart_none h
 |int i t=>exact slicePart_int h
theorem JN {sl:i4}{vl vu:a9}{lo hi:i5 Int}{n:Nat}{Q:Int×Int×Nat->i6->Prop}(hs:s.heap.IsSliceOf sl vl vu .none)(pl:IsPart vl lo)(pu:IsPart vu hi)
  (h:Q (((sIx n 0 lo:Nat):Int),1,sIx n n hi-sIx n 0 lo) s):wpAny (model prog w) A (Builtin.Slice.sliceApplied (.ref sl) (pure (n:Int))) Q E s:=by
 obtain⟨os,hos,hcs,hds⟩:=id hs;unfold Builtin.Slice.sliceApplied Builtin.Slice.sliceFields;refine wpAny_bind (wpAny_bind (wpAny_field hos hds (x:=vl) rfl (wpAny_bind (wpAny_field hos hds (x:=vu) rfl (wpAny_bind (wpAny_field hos hds (x:=.none) rfl (wpAny_pure ?_)))))));refine wpAny_bind (slicePart_none ?_);show wpAny _ _ (if((1:Int)==0)=true then _ else _) _ _ s;rw[if_neg (by decide)];refine wpAny_bind (Lo pl (wpAny_bind (Lo pu (wpAny_bind (wpAny_pure ?_)))));show wpAny _ _ (match Builtin.Slice.sliceAdjust lo hi 1 (n:Int)with|(lo,hi)=>pure (lo,(1:Int),Builtin.Slice.slicePlaces lo hi 1)) _ _ s;rw[Sd lo hi n];show wpAny _ _ (pure (((sIx n 0 lo:Nat):Int),(1:Int),Builtin.Slice.slicePlaces ((sIx n 0 lo:Nat):Int) ((sIx n n hi:Nat):Int) 1)) _ _ s;rw[Ri];exact wpAny_pure h
theorem VO (xs:j7 a9)(i k:Nat):((List.range k).filterMap fun(m:Nat)=>xs[((i:Int)+(m:Int)*1).toNat]?).toArray =((xs.toList.drop i).take k).toArray:=by
 have e:(fun(m:Nat)=>xs[((i:Int)+(m:Int)*1).toNat]?)=λm=>xs[i+m]?:=by
  funext m;have:((i:Int)+(m:Int)*1).toNat =i+m:=()
  rw[this]
 rw[e];have:=pick_run xs i k;rw[List.filterMap_map]at this;have e2:((λx=>xs[x]?)∘λx=>i+x)=λm=>xs[i+m]?:=rfl;rw[e2]at this;rw[this]
theorem getItem_tuple_cut {t sl:i4}{m6:j7 a9}{vl vu:a9}{lo hi:i5 Int}{Q:a9->i6->Prop}(ht:IsTup s.heap t m6)(hs:s.heap.IsSliceOf sl vl vu .none)(pl:IsPart vl lo)(pu:IsPart vu hi)
  (hw: ¬(sIx m6.size 0 lo=0/\sIx m6.size m6.size hi=m6.size))
  (h:Q (.ref s.heap.objs.size) {s with heap:=s.heap.push {cls:=.type "tuple",data:=.seq ((m6.toList.drop (sIx m6.size 0 lo)).take (sIx m6.size m6.size hi-sIx m6.size 0 lo)).toArray}})
  (hsz:m6.size<=sizeLine):wpAny (model prog w) A (getItem (.ref t) (.ref sl)) Q E s:=by
 have htake:sizeOk (.seq ((m6.toList.drop (sIx m6.size 0 lo)).take (sIx m6.size m6.size hi-sIx m6.size 0 lo)).toArray):=by
  show((m6.toList.drop (sIx m6.size 0 lo)).take (sIx m6.size m6.size hi-sIx m6.size 0 lo)).toArray.size<=sizeLine;rw[List.size_toArray,List.length_take,List.length_drop,Array.length_toList];lia
 have hj:sIx m6.size m6.size hi<=m6.size:=ZV _ _ (Nat.le_refl _) hi;obtain⟨os,hos,hcs,hds⟩:=id hs;have hTs:s.TypeIs (.ref sl) "slice":=#[os,hos,hcs];unfold getItem
 try with_reducible refine wpAny_holding ?_
 first|refine wpAny_bind (wpAny_pure ?_)|skip
 refine wpAny_bind (wpAny_sequenceKey ht.typeIs (by decide) ?_);refine wpAny_bind (wpAny_callSpecial?_slot (name:=Str.ofString "__getitem__") ht.typeIs PyProof.Rows.slot_tuple_getitem
  (wpAny_call_entry PyProof.Rows.slot_tuple_getitem ht.typeIs entry_tuple_getitem ?_ (args_tuple_getitem _ _)))
 show wpAny _ _ (Builtin.Tuple.tupleItemsOf (.ref t)>>=_) _ _ s;refine wpAny_bind (tupleItemsOf_ ht ?_);refine wpAny_bind (wpAny_typeOf hTs ?_);rw[if_pos (by decide)];refine wpAny_bind (JN hs pl pu ?_);have hno: ¬((((sIx m6.size 0 lo:Nat):Int)==0&&(1:Int)==1&&(sIx m6.size m6.size hi-sIx m6.size 0 lo)==m6.size)=true):=by
  intro q;rw[Bool.and_eq_true,Bool.and_eq_true]at q;have q1:((sIx m6.size 0 lo:Nat):Int)=0:=eq_of_beq q.1.1;have q2:sIx m6.size m6.size hi-sIx m6.size 0 lo=m6.size:=eq_of_beq q.2;exact hw #[(),()]
 show wpAny _ _ (if(((sIx m6.size 0 lo:Nat):Int)==0&&(1:Int)==1&&(sIx m6.size m6.size hi-sIx m6.size 0 lo)==m6.size)=true then _ else _) _ _ s;rw[if_neg hno,VO]
 first
  |exact wpAny_bind (m:=Builtin.Tuple.tupleExact _) (wpAny_newObj_type (wpAny_pure #[-1,wpAny_pure h]) htake)
  |exact wpAny_bind (m:=Builtin.Tuple.tupleExact _) (wpAny_newObj_type (wpAny_bind (wpAny_pure (wpAny_pure #[-1,wpAny_pure h]))) htake)
  |exact wpAny_bind (wpAny_bind (m:=Builtin.Tuple.tupleExact _) (wpAny_newObj_type (wpAny_pure (wpAny_pure #[-1,wpAny_pure h])) htake))
  |exact wpAny_bind (wpAny_bind (m:=Builtin.Tuple.tupleExact _) (wpAny_newObj_type (wpAny_pure #[-1,wpAny_pure h]) htake))
end
end HT
namespace L2
open PySem PySem.Spec PyProof.Rows
abbrev TO:=St->Hp->(i5 Int->Hp->Prop)->Prop
structure PO (X:Cx)(e:Option j6)(t:TO):Prop where
 go: ∀(j9:List (i4×j8)) (s:i6) (U:St) (H:Hp) (Q:Option Int->Hp->Prop),xZ X j9 U H s->t U H Q->
  wpAny (model X.prog X.w) X.A (evalPart e X.env) (λu s'=> ∃o H',xZ X j9 U H' s'/\IsPart u o/\Q o H') X.xe s
instance {X:Cx}{e:i5 j6}{t:TO}:CoeFun (PO X e t) (λ_=> ∀(j9:a6 (i4×j8)) (s:i6) (U:St) (H:Hp) (Q:i5 Int->Hp->Prop),xZ X j9 U H s->t U H Q->
  wpAny (model X.prog X.w) X.A (evalPart e X.env) (λu s'=> ∃o H',xZ X j9 U H' s'/\IsPart u o/\Q o H') X.xe s):=#[PO.go]
def XR:TO:=λ_ H Q=>Q none H
def zCe (t:TE):TO:=λU H Q=>t U H λx H1=> ∃i,x=.int i/\Q (some i) H1
section
variable {X:Cx}{e:j6}{te:TE}{lo hi:i5 j6}{tl th:TO}{pos p2:Pos}
theorem Au:PO X none XR:=by
 refine#[?_];intro j9 s U H Q I h;rw[evalPart_none];exact zZ #[none,H,I,.none,h]
theorem wC (h:PE X e te):PO X (some e) (zCe te):=by
 refine#[?_];intro j9 s U H Q I hw;rw[evalPart_some];refine wK (h j9 s U H _ I hw) λu s1 m9=>?_;obtain⟨x,H1,I1,r1,q1⟩:=m9;obtain⟨i,rfl,q⟩:=q1;obtain⟨t,rfl⟩:=r1;exact#[some i,H1,I1,.int i t,q]
def SlR (X:Cx)(r:V->i5 Int->i5 Int->Hp->VK->Prop):Prop:=
 ∀(j9:a6 (i4×j8)) (s:i6) (U:St) (H:Hp) (x:V) (v vl vu:a9) (lo hi:i5 Int) (sl:i4) (Q:VK),xZ X j9 U H s->kU x v->s.heap.IsSliceOf sl vl vu .none->IsPart vl lo->IsPart vu hi->r x lo hi H Q->
  ∃T id,typeLookup (.type T) "__getitem__"=pure (some (.builtin id))/\s.TypeIs v T/\wpAny (model X.prog X.w) X.A (getItem v (.ref sl)) (EP X j9 U Q) X.xe s
def tSl (r:V->i5 Int->i5 Int->Hp->VK->Prop)(te:TE)(tl th:TO):TE:=λU H Q=>te U H λx H1=>tl U H1 λl H2=>th U H2 λu H3=>r x l u H3 Q
theorem wD {r:V->i5 Int->i5 Int->Hp->VK->Prop}(hr:SlR X r)(he:PE X e te)(hl:PO X lo tl)(hu:PO X hi th):PE X (.Subscript e (.Slice lo hi none p2) pos) (tSl r te tl th):=by
 refine#[?_];intro j9 s U H Q I h;refine Subscript_ (wK (he j9 s U H _ I h) λv s1 m9=>?_);obtain⟨x,H1,I1,r1,q1⟩:=m9;refine wpAny_Slice (wK (hl j9 s1 U H1 _ I1 q1) λvl s2 ⟨l,H2,I2,pl,q2⟩=>wK (hu j9 s2 U H2 _ I2 q2) λvu s3 m9=>?_);obtain⟨u,H3,I3,pu,q3⟩:=m9;rw[evalPart_none];refine zZ ?_;have I4:xZ X j9 U H3 {s3 with heap:=s3.heap.push {cls:=.type "slice",data:=.fields (List.toArray [vl,vu,.none])}}:=I3.kept (t':=s3.toks) λb ob q=>zJ _ q;obtain⟨T,id,hT,ht,hg⟩:=hr j9 {s3 with heap:=s3.heap.push {cls:=.type "slice",data:=.fields (List.toArray [vl,vu,.none])}} U H3 x v vl vu l u s3.heap.objs.size Q I4 r1 (Heap.IsSliceOf.new ..) pl pu q3;show wpAny (model X.prog X.w) X.A (subscriptTail e (.Slice lo hi none p2) v (.ref s3.heap.objs.size)) (EP X j9 U Q) X.xe {s3 with heap:=s3.heap.push {cls:=.type "slice",data:=.fields (List.toArray [vl,vu,.none])}};exact tail_any (ops:=[.ref s3.heap.objs.size,v]) ht hT hg (by with_unfolding_all rfl)
noncomputable def Bu (xs:a6 V)(lo hi:i5 Int):a6 V:=(xs.drop (HT.sIx xs.length 0 lo)).take (HT.sIx xs.length xs.length hi-HT.sIx xs.length 0 lo)
theorem Dj (xs:a6 V)(lo hi:i5 Int):(Bu xs lo hi).length<=xs.length:=by
 unfold Bu;rw[xM,qR];lia
inductive zCs (K:a7) (x:V) (lo:Option Int) (hi:Option Int) (H:Hp) (Q:VK):Prop
 |mk (a xs:_) (h0:x=.ref a) (h1:Ax K H a xs) (h2: ¬(HT.sIx xs.length 0 lo=0/\HT.sIx xs.length xs.length hi=xs.length)) (h3: ∀p,H p=none->Q (.ref p) (upd H p (.tup (Bu xs lo hi)))):zCs K x lo hi H Q
theorem Lp:SlR X (zCs X.K):=by
 intro j9 s U H x v vl vu lo hi sl Q I rx hs pl pu h;obtain⟨a,xs,rfl,hx,hw,q⟩:=h;cases rx;obtain⟨its,r,ht,hz⟩:=I.tuple hx;have n8:its.toArray.size=xs.length:=by rw[yL];exact r.length.symm
 refine#["tuple",_,PyProof.Rows.slot_tuple_getitem.lookup,ht.typeIs,?_];refine HT.getItem_tuple_cut ht hs pl pu (by rw[n8];exact hw) ?_ (by rw[n8];exact hz);rw[n8];refine#[.ref s.heap.objs.size,_,I.laid (t':=s.toks) (o:=.tup (Bu xs lo hi)) (λb ob q=>zJ _ q) (zO _) ?_,rfl,q _ (I.hok.fresh (zO _))];exact#[xH (Dj xs lo hi) hz,_,(r.drop (HT.sIx xs.length 0 lo)).take (HT.sIx xs.length xs.length hi-HT.sIx xs.length 0 lo),IsTup.new _ _]
end
noncomputable def WK (n:Nat)(i:Int):i5 Nat:=if 0<=i then(if i<n then some i.toNat else none)else if-(n:Int)<=i then some (i+n).toNat else none
noncomputable def IF {α:Type}(xs:a6 α)(i:Int):i5 α:=(WK xs.length i).bind λj=>xs[j]?
theorem Tc {n:Nat}{i:Int}{j:Nat}(h:WK n i=some j):seqIndex? i n=some j/\j<n/\ -(n:Int)<=i/\i<n:=by
 unfold WK at h
 by_cases h0:0<=i
 ·rw[zQ h0]at h
  by_cases h1:i<n
  ·rw[zQ h1]at h;have e:i.toNat=j:=kB h;exact#[by rw[seqIndex_of h0 h1,e],(),(),h1]
  ·rw[zN h1]at h;cases h
 ·rw[zN h0]at h
  by_cases h1: -(n:Int)<=i
  ·rw[zQ h1]at h;have e:(i+n).toNat =j:=kB h;exact#[by rw[seqIndex_neg () h1,e],(),h1,()]
  ·rw[zN h1]at h;cases h
theorem Tx {α:Type}{xs:a6 α}{i:Int}{v:α}(h:IF xs i=some v): ∃j,seqIndex? i xs.length=some j/\xs[j]? =some v/\j<xs.length/\ -(xs.length:Int)<=i/\i<xs.length:=by
 unfold IF at h;cases e:WK xs.length i with
 |none=>rw[e]at h;cases h
 |some j=>
  rw[e]at h;obtain⟨h1,h2,h3,h4⟩:=Tc e;exact#[j,h1,h,h2,h3,h4]
theorem kK {α:Type}{xs:a6 α}{j:Nat}{v:α}(h:xs[j]? =some v):IF xs (j:Int)=some v:=by
 have hj:j<xs.length:=(List.getElem?_eq_some_iff.mp h).1;have e:WK xs.length (j:Int)=some j:=by
  unfold WK;rw[zQ (),zQ ()];simp
 unfold IF;rw[e];exact h
def YZ (b:j6):Prop:= ∀o i,subscripted b false o i=operate [o,i] (getItem o i)
def IxR (X:Cx)(r:R2):Prop:=
 ∀(value slice:j6) (j9:a6 (i4×j8)) (s:i6) (U:St) (H:Hp) (x y:V) (v u:a9) (Q:VK),xZ X j9 U H s->kU x v->kU y u->r x y H Q->
  subscripted slice false v u=operate [v,u] (getItem v u)->wpAny (model X.prog X.w) X.A (subscriptTail value slice v u) (EP X j9 U Q) X.xe s
def MtR (X:Cx)(id:String)(r:V->a6 V->Hp->VK->Prop):Prop:=
 ∀(j9:a6 (i4×j8)) (s:i6) (U:St) (H:Hp) (x:V) (xs:a6 V) (v:a9) (us:a6 a9) (Q:VK),xZ X j9 U H s->kU x v->kE xs us->r x xs H Q->
  wpAny (model X.prog X.w) X.A (call (.builtin id) (v::us)) (EP X j9 U Q) X.xe s
section
variable {X:Cx}{a b:j6}{ta tb:TE}{pos:Pos}
theorem yZ {r:R2}(hr:IxR X r)(ha:PE X a ta)(hb:PE X b tb)(hs:YZ b):PE X (.Subscript a b pos) (TH r ta tb):=by
 refine#[?_];intro j9 s U H Q I h;exact Subscript_ (zBj ha hb I h λv u s2 x y H2 I2 rx ry q=>hr a b j9 s2 U H2 x y v u Q I2 rx ry q (hs _ _))
inductive ZZ (K:a7) (x:V) (y:V) (H:Hp) (Q:VK):Prop
 |mk (p xs i v:_) (h0:x=.ref p) (h1:y=.int i) (h2:kN K H p xs) (h3:IF xs i=some v) (h4:Q v H):ZZ K x y H Q
inductive ZY (K:a7) (x:V) (y:V) (H:Hp) (Q:VK):Prop
 |mk (p xs i v:_) (h0:x=.ref p) (h1:y=.int i) (h2:Ax K H p xs) (h3:IF xs i=some v) (h4:Q v H):ZY K x y H Q
theorem jB:IxR X (ZZ X.K):=by
 intro value slice j9 s U H x y v u Q I rx ry h hs;obtain⟨p,xs,i,z,rfl,rfl,hq,he,q⟩:=h;cases rx;obtain⟨t,rfl⟩:=ry;obtain⟨its,r,pl,hz⟩:=I.list hq;obtain⟨j,h1,h2,h3,h4,h5⟩:=Tx he;obtain⟨w,ew,rw'⟩:=r.get h2;have hl:=r.length;have hn:=FY;have fin:EP X j9 U Q w s:=#[z,H,I,rw',q]
 by_cases h0:0<=i
 ·have hj:i.toNat=j:=by
   rw[seqIndex_of h0 h5]at h1;exact kB h1
  exact item_listR pl.isList h0 () (by rw[hj];simpa using ew) fin hs
 ·have hj:(i+(its.toArray.size:Int)).toNat =j:=by
   rw[seqIndex_neg () h4]at h1;rw[yL,<-hl];exact kB h1
  exact subscriptTail_builtinR (x:=w) pl.isList.typeIs slot_list_getitem.lookup
   (wpAny_getItem_list_neg (Q:=λr s'=>r=w/\EP X j9 U Q r s') pl.isList () (by rw[yL]<;>lia) () (by rw[hj];simpa using ew) #[rfl,fin]) hs
theorem xL:IxR X (ZY X.K):=by
 intro value slice j9 s U H x y v u Q I rx ry h hs;obtain⟨p,xs,i,z,rfl,rfl,hq,he,q⟩:=h;cases rx;obtain⟨t,rfl⟩:=ry;obtain⟨its,r,pl,hz⟩:=I.tuple hq;obtain⟨j,h1,h2,h3,h4,h5⟩:=Tx he;obtain⟨w,ew,rw'⟩:=r.get h2;have hl:=r.length;have hn:=FY;have fin:EP X j9 U Q w s:=#[z,H,I,rw',q];exact subscriptTail_builtinR (x:=w) pl.typeIs slot_tuple_getitem.lookup
  (getItem_tuple (j:=j) (Q:=λr s'=>r=w/\EP X j9 U Q r s') pl () () (by rw[yL,<-hl];exact h1) (by simpa using ew) #[rfl,fin]) hs
theorem RK (its:a6 a9)(n j:Nat)(u:a9):Obj.mapSeq (·.setIfInBounds j u) {cls:=.type "list",data:=.seq its.toArray n}={cls:=.type "list",data:=.seq (its.set j u).toArray n}:=by
 simp[Obj.mapSeq]
theorem xZ.lst {j9:a6 (i4×j8)}{U:St}{H:Hp}{s:i6}{p:i4}{xs:a6 V}(I:xZ X j9 U H s)(h:H p=some (.lst xs)):
  ∃(its:a6 a9) (n:Nat),kE xs its/\s.heap.get? p=some {cls:=.type "list",data:=.seq its.toArray n}/\xs.length<=sizeLine:=by
 obtain⟨z,its,n,r,e⟩:=I.hok p _ h;exact#[its,n,r,e,z]
theorem xZ.lstUpd {j9:a6 (i4×j8)}{U:St}{H:Hp}{s:i6}{p:i4}{xs ys:a6 V}{its its':a6 a9}{n n':Nat}{f:j8->j8}(I:xZ X j9 U H s)(h:H p=some (.lst xs))
  (ho:s.heap.get? p=some {cls:=.type "list",data:=.seq its.toArray n}) (hf:f {cls:=.type "list",data:=.seq its.toArray n}={cls:=.type "list",data:=.seq its'.toArray n'}) (r:kE ys its') (hz:ys.length<=sizeLine) (t:Nat):
  xZ X j9 U (upd H p (.lst ys)) {s with heap:=s.heap.update p f,toks:=t}:=by
 have e:(s.heap.update p f).get? p=some {cls:=.type "list",data:=.seq its'.toArray n'}:=by
  rw[vM f ho (by rw[hf]<;>rfl),hf]
 refine I.write (x:=p) (e:=p) (by rw[h];trivial) (.inl rfl) (λb u hb q=>(Ac _ _ (Ne.symm hb)).trans q) #[_,e] ?_;exact#[hz,its',n',r,e]
def zCt:V->V->V->Hp->(Hp->Prop)->Prop:=λo i v H Q=> ∃p xs k j,o=.ref p/\i=.int k/\H p=some (.lst xs)/\WK xs.length k=some j/\Q (upd H p (.lst (xs.set j v)))
theorem Gv:zEa X zCt:=by
 intro j9 s U H o i v ov iv u Q I ro ri rv h;obtain⟨p,xs,k,j,rfl,rfl,hp,hj,q⟩:=h;cases ro;obtain⟨t,rfl⟩:=ri;obtain⟨its,n,r,ho,hz⟩:=I.lst hp;obtain⟨h1,h2,h3,h4⟩:=Tc hj;have hl:=r.length;have hn:=FY;have I':xZ X j9 U (upd H p (.lst (xs.set j v))) {s with heap:=s.heap.update p (Obj.mapSeq (·.setIfInBounds j u))}:=
  I.lstUpd hp ho (RK its n j u) (r.set rv j) (by rw[Gi];exact hz) s.toks
 by_cases h0:0<=k
 ·have hk:k.toNat=j:=by
   rw[seqIndex_of h0 h4]at h1;exact kB h1
  exact PySem.W.ki_setAt ho h0 () (by rw[yL,<-hl];exact h4) (by rw[hk];exact#[_,I',q])
 ·have hk:(k+(its.toArray.size:Int)).toNat =j:=by
   rw[seqIndex_neg () h3]at h1;rw[yL,<-hl];exact kB h1
  exact PySem.W.ki_setBack ho () (by rw[yL,<-hl];exact h3) () (by rw[hk];exact#[_,I',q])
theorem NO (lo hi:i5 Int)(n:Nat):(sliceBounds lo hi none n).1=((HT.sIx n 0 lo:Nat):Int)/\(sliceBounds lo hi none n).2.1=((HT.sIx n n hi:Nat):Int)/\(sliceBounds lo hi none n).2.2=1:=by
 refine#[?_,?_,rfl]
 ·cases lo with
  |none=>simp[sliceBounds,HT.sIx]
  |some i=>
   simp only[sliceBounds,HT.sIx,Option.getD_none,show(1:Int) > 0 by decide,DU]
   by_cases h:i<0
   ·simp only[h,DU]<;>lia
   ·simp only[h,Fs]<;>lia
 ·cases hi with
  |none=>simp[sliceBounds,HT.sIx]
  |some i=>
   simp only[sliceBounds,HT.sIx,Option.getD_none,show(1:Int) > 0 by decide,DU]
   by_cases h:i<0
   ·simp only[h,DU]<;>lia
   ·simp only[h,Fs]<;>lia
theorem Mq (its:a6 a9)(lo hi:i5 Int):slicePick its.toArray lo hi none=((its.drop (HT.sIx its.length 0 lo)).take (HT.sIx its.length its.length hi-HT.sIx its.length 0 lo)).toArray:=by
 obtain⟨h1,h2,h3⟩:=NO lo hi its.toArray.size;unfold slicePick;rw[h1,h2,h3];simp only[sliceRange_one,pick_run,yL]<;>rfl
inductive VB (K:a7) (x:V) (lo:Option Int) (hi:Option Int) (H:Hp) (Q:VK):Prop
 |mk (a xs:_) (h0:x=.ref a) (h1:kN K H a xs) (h2: ∀p,H p=none->Q (.ref p) (upd H p (.lst (Bu xs lo hi)))):VB K x lo hi H Q
theorem FC:SlR X (VB X.K):=by
 intro j9 s U H x v vl vu lo hi sl Q I rx hs pl pu h;obtain⟨a,xs,rfl,hx,q⟩:=h;cases rx;obtain⟨its,r,ht,hz⟩:=I.list hx;have n8:=r.length;refine#["list",_,slot_list_getitem.lookup,ht.isList.typeIs,?_];refine wpAny_getItem_list_slice ht.isList hs pl pu .none (by simp) ?_ (by rw[yL]<;>lia);rw[Mq,<-n8];refine#[.ref s.heap.objs.size,_,I.laid (t':=s.toks) (o:=.lst (Bu xs lo hi)) (λb ob q=>zJ _ q) (zO _) ?_,rfl,q _ (I.hok.fresh (zO _))];exact#[xH (Dj xs lo hi) hz,_,0,(r.drop (HT.sIx xs.length 0 lo)).take (HT.sIx xs.length xs.length hi-HT.sIx xs.length 0 lo),yE _ rfl]
noncomputable def GZ:V->i8
 | .non=>true
 | .bl _=>true
 | .int _=>true
 | .str _=>true
 |_=>false
noncomputable def Ha:V->V->i8
 | .non,.non=>true
 | .bl a,.bl b=>a==b
 | .bl a,.int b=>(if a then 1 else 0)==b
 | .int a,.bl b=>a==(if b then 1 else 0)
 | .int a,.int b=>a==b
 | .str a,.str b=>a==b
 |_,_=>false
theorem Iw {A:j5}{s:i6}{y x:V}{u v:a9}(ry:kU y u)(rx:kU x v)(fy:GZ y=true)(fx:GZ x=true):SeqAt.EqAt A s u v (Ha y x):=by
 cases y with
 |non=>
  cases ry;cases x with
  |non=>cases rx;exact SeqAt.EqAt.same _
  |bl b=>cases rx;exact SeqAt.EqAt.none_bool b
  |int b=>obtain⟨t,rfl⟩:=rx;exact SeqAt.EqAt.none_int b t
  |str b=>obtain⟨t,rfl⟩:=rx;exact SeqAt.EqAt.none_str b t
  |_=>exact absurd (show false=true from fx) yO
 |bl a=>
  cases ry;cases x with
  |non=>cases rx;exact SeqAt.EqAt.bool_none a
  |bl b=>cases rx;exact SeqAt.EqAt.bool_bool a b
  |int b=>obtain⟨t,rfl⟩:=rx;exact SeqAt.EqAt.bool_int a b t
  |str b=>obtain⟨t,rfl⟩:=rx;exact SeqAt.EqAt.bool_str a b t
  |_=>exact absurd (show false=true from fx) yO
 |int a=>
  obtain⟨t',rfl⟩:=ry;cases x with
  |non=>cases rx;exact SeqAt.EqAt.int_none a t'
  |bl b=>cases rx;exact SeqAt.EqAt.int_bool a t' b
  |int b=>obtain⟨t,rfl⟩:=rx;exact SeqAt.EqAt.int_int a t' b t
  |str b=>obtain⟨t,rfl⟩:=rx;exact SeqAt.EqAt.int_str a t' b t
  |_=>exact absurd (show false=true from fx) yO
 |str a=>
  obtain⟨t',rfl⟩:=ry;cases x with
  |non=>cases rx;exact SeqAt.EqAt.str_none a t'
  |bl b=>cases rx;exact SeqAt.EqAt.str_bool a t' b
  |int b=>obtain⟨t,rfl⟩:=rx;exact SeqAt.EqAt.str_int a t' b t
  |str b=>obtain⟨t,rfl⟩:=rx;exact SeqAt.EqAt.str_str a t' b t
  |_=>exact absurd (show false=true from fx) yO
 |_=>exact absurd (show false=true from fy) yO
noncomputable def YQ (x:V)(u:a9):i8:=match u with
 | .none=>Ha .non x
 | .bool b=>Ha (.bl b) x
 | .int i _=>Ha (.int i) x
 | .str z _=>Ha (.str z) x
 |_=>false
theorem Xj {x y:V}{u:a9}(r:kU y u)(f:GZ y=true):YQ x u=Ha y x:=by
 cases y with
 |non=>cases r;rfl
 |bl b=>cases r;rfl
 |int i=>obtain⟨t,rfl⟩:=r;rfl
 |str z=>obtain⟨t,rfl⟩:=r;rfl
 |_=>exact absurd (show false=true from f) yO
theorem OE {x:V}: ∀{xs:a6 V} {us:a6 a9},kE xs us->xs.all GZ=true->us.any (YQ x)=xs.any λy=>Ha y x
 |_,_,.nil,_=>rfl
 |y::xs,u::us,.cons r t,f=>by
  rw[kH,qC]at f;rw[Bg,Bg,Xj r f.1,OE t f.2]
theorem LP {A:j5}{s:i6}{x:V}{v:a9}(rx:kU x v)(fx:GZ x=true): ∀{xs:a6 V} {us:a6 a9},kE xs us->xs.all GZ=true-> ∀u∈us,SeqAt.EqAt A s u v (YQ x u)
 |_,_,.nil,_=>λu hu=>by cases hu
 |y::xs,u::us,.cons r t,f=>λu' hu=>by
  rw[kH,qC]at f
  rcases List.mem_cons.mp hu with rfl|hu
  ·rw[Xj r f.1];exact Iw r rx f.1 fx
  ·exact LP rx fx t f.2 u' hu
noncomputable def Zs (x:V)(xs:a6 V):i8:=xs.any λy=>Ha y x
inductive rIn (K:a7) (neg:i8) (x:V) (y:V) (H:Hp) (Q:VK):Prop
 |mk (p xs:_) (h0:y=.ref p) (h1:(kN K H p xs\/Ax K H p xs)) (h2:GZ x=true) (h3:xs.all GZ=true) (h4:Q (.bl (if neg then !Zs x xs else Zs x xs)) H):rIn K neg x y H Q
theorem Ff:HC X (compareOp .In) (rIn X.K false):=by
 intro j9 s U H x y v u Q I rx ry h;obtain⟨p,xs,rfl,hq,fx,fs,q⟩:=h;cases ry
 rcases hq with hq|hq
 ·obtain⟨its,r,pl,hz⟩:=I.list hq;refine SeqAt.in_listAt (YQ x) pl.isList (λw hw=>LP rx fx r fs w (by simpa using hw)) #[.bl _,H,I,rfl,?_];rw[show its.toArray.any (YQ x)=its.any (YQ x)by simp,OE r fs];exact q
 ·obtain⟨its,r,pl,hz⟩:=I.tuple hq;refine SeqAt.in_tupleAt (YQ x) pl (λw hw=>LP rx fx r fs w (by simpa using hw)) #[.bl _,H,I,rfl,?_];rw[show its.toArray.any (YQ x)=its.any (YQ x)by simp,OE r fs];exact q
theorem xA:Fq X (.builtin "len") (λxs H Q=> ∃p ys,xs=[.ref p]/\(kN X.K H p ys\/Ax X.K H p ys)/\Q (.int ys.length) H):=by
 intro j9 s U H xs us Q I r h;obtain⟨p,ys,rfl,hq,q⟩:=h;obtain⟨u,rfl,rx⟩:=II r;cases rx;have hn:=FY
 rcases hq with hq|hq
 ·obtain⟨its,r',pl,hz⟩:=I.list hq;have n8:=r'.length;exact Calls.call_len_list pl.isList (by simp only[yL]<;>lia) #[.int ys.length,H,I.tok _,#[s.toks+1,by rw[yL,n8]],q]
 ·obtain⟨its,r',pl,hz⟩:=I.tuple hq;have n8:=r'.length;exact len_tuple pl (by simp only[yL]<;>lia) #[.int ys.length,H,I.tok _,#[s.toks+1,by rw[yL,n8]],q]
theorem HN:Fq X (.type "tuple") (λxs H Q=> ∃p ys,xs=[.ref p]/\((kN X.K H p ys/\ ∀l,H l=none->Q (.ref l) (upd H l (.tup ys)))\/(Ax X.K H p ys/\Q (.ref p) H))):=by
 intro j9 s U H xs us Q I r h;obtain⟨p,ys,rfl,h⟩:=h;obtain⟨u,rfl,rx⟩:=II r;cases rx
 rcases h with⟨hq,q⟩|⟨hq,q⟩
 ·obtain⟨its,r',pl,hz⟩:=I.list hq;have n8:=r'.length;refine call_tuple_list pl.isList (λh' kp=>?_) (by simp only[yL]<;>lia);have I1:xZ X j9 U H {s with heap:=h'}:=I.kept (t':=s.toks) kp;have I2:xZ X j9 U (upd H h'.objs.size (.tup ys)) {s with heap:=h'.push {cls:=.type "tuple",data:=.seq its.toArray}}:=
   I1.laid (t':=s.toks) (λb o e=>zJ _ e) (zO _) (show vY X.prog X.w _ _ _ (.tup ys)from#[hz,its,r',IsTup.new _ _])
  exact#[.ref h'.objs.size,_,I2,rfl,q _ (I1.hok.fresh (zO _))]
 ·obtain⟨its,r',pl,hz⟩:=I.tuple hq;exact call_tuple_same pl #[.ref p,H,I,rfl,q]
def tyV (K:a7)(T:String)(x:V)(H:Hp):Prop:=match x with
 | .str _=>T="str"
 | .int _=>T="int"
 | .ref p=>(T="list"/\ ∃xs,kN K H p xs)\/(T="tuple"/\ ∃o,K.lookup p=some o/\o.cls=.type "tuple"/\o.dict=none)\/
   (T="dict"/\((∃kvs,H p=some (.dK kvs))\/ ∃kvs,H p=some (.dT kvs)))\/(T="set"/\ ∃S n,H p=some (.set S n))
 |_=>False
theorem Vf {j9:a6 (i4×j8)}{U:St}{H:Hp}{s:i6}{T:String}{x:V}{v:a9}(I:xZ X j9 U H s)(r:kU x v)(ty:tyV X.K T x H):
  s.TypeIs v T/\ ∀a,v=.ref a-> ∃ob,s.heap.get? a=some ob/\ob.dict=none:=by
 cases x with
 |str z=>
  obtain⟨t,rfl⟩:=r;cases(show T="str" from ty);exact#[typeIs_str s z t,λ_ e=>nomatch e]
 |int i=>
  obtain⟨t,rfl⟩:=r;cases(show T="int" from ty);exact#[typeIs_int s i t,λ_ e=>nomatch e]
 |ref p=>
  cases r
  rcases ty with⟨rfl,xs,hq⟩|⟨rfl,o,hk,hc,hd⟩|⟨rfl,hk⟩|⟨rfl,S,n,hk⟩
  ·obtain⟨its,_,pl,_⟩:=I.list hq;refine#[pl.isList.typeIs,λa e=>?_];cases e;obtain⟨o,n,e,c,hd,_⟩:=pl;exact#[o,e,hd]
  ·refine#[#[o,I.kIn p o hk,hc],λa e=>?_];cases e;exact#[o,I.kIn _ o hk,hd]
  ·have z: ∃o,s.heap.get? p=some o/\o.ExactDict:=by
    rcases hk with⟨kvs,hk⟩|⟨kvs,hk⟩
    ·obtain⟨_,_,_,_,o,_,_,e,ex,_⟩:=I.hok p _ hk;exact#[o,e,ex]
    ·obtain⟨_,_,_,_,o,_,_,e,ex,_⟩:=I.hok p _ hk;exact#[o,e,ex]
   obtain⟨o,e,ex⟩:=z;refine#[#[o,e,ex.1],λa e2=>?_];cases e2;exact#[o,e,ex.2.1]
  ·obtain⟨o,_,_,_,e,ex,_⟩:=I.hok p _ hk;refine#[#[o,e,ex.1],λa e2=>?_];cases e2;exact#[o,e,ex.2.1]
 |_=>exact False.elim ty
inductive Zh (K:a7) (T:String) (r:V->List V->Hp->VK->Prop) (x:V) (H1:Hp) (Q:VK):Prop
 |mk (h0:tyV K T x H1) (h1:r x [] H1 Q):Zh K T r x H1 Q
def zFk (K:a7)(T:String)(r:V->a6 V->Hp->VK->Prop)(to:TE):TE:=λU H Q=>to U H λx H1=>Zh K T r x H1 Q
inductive zCj (K:a7) (T:String) (r:V->List V->Hp->VK->Prop) (t:TA) (U:St) (x:V) (H1:Hp) (Q:VK):Prop
 |mk (h0:tyV K T x H1) (h1:t U H1 λxs H2=>r x xs H2 Q):zCj K T r t U x H1 Q
def p9 (K:a7)(T:String)(r:V->a6 V->Hp->VK->Prop)(to:TE)(t:TA):TE:=λU H Q=>to U H λx H1=>zCj K T r t U x H1 Q
variable {o e:j6}{es:a6 j6}{to:TE}{t:TA}{name:Str}{o8 p8:Pos}{T id:String}{r:V->a6 V->Hp->VK->Prop}
theorem zAi (pa:PlainAttrs T)(slot:Slot T name id)(hty:typeOf (.builtin id)=pure (.type "method_descriptor"))(hm:MtR X id r)(ho:PE X o to)
  (hbase:autoParam (attributeBase o name X.env (eval o X.env)=eval o X.env) L2.aE._auto_1) (hline:autoParam ((o8.endLine==p8.line)=true) L2.aE._auto_1):PE X (.Call (.Attribute o name o8) [] [] p8) (zFk X.K T r to):=by
 refine#[?_];intro j9 s U H Q I h;refine wpAny_Call_method0_late hbase hline (wK (ho j9 s U H _ I h) λv s1 m9=>?_);obtain⟨x,H1,I1,r1,ty,q1⟩:=m9;obtain⟨h1,h2⟩:=Vf I1 r1 ty;exact#[T,id,pa,slot,hty,h1,h2,Calls.callWith_builtin rfl (PySem.evalArgs_none (hm j9 s1 U H1 x [] v [] Q I1 r1 .nil q1))]
theorem Bb (pa:PlainAttrs T)(slot:Slot T name id)(hty:typeOf (.builtin id)=pure (.type "method_descriptor"))(hm:MtR X id r)(ho:PE X o to)(ha:PA X (e::es) t)
  (hbase:autoParam (attributeBase o name X.env (eval o X.env)=eval o X.env) L2.aE._auto_1)
  (hfew:autoParam (((backTo p8 (starEach (e::es) X.env)).all (λx=>!x.1)&&(backToKw p8 (keywordEach [] X.env)).all (λx=>x.1.isSome)
   &&decide ((e::es).length +([]:a6 Keyword).length +(if([]:a6 Keyword).isEmpty then 0 else 1)<30))=true) L2.aE._auto_1)
  (hline:autoParam ((o8.endLine==p8.line)=true) L2.aE._auto_1) (hs:autoParam (starEach (e::es) X.env=(false,eval e X.env)::starEach es X.env) L2.aE._auto_1) (hplain:autoParam ((backTo p8 (starEach es X.env)).any (·.1)=false) L2.aE._auto_1):
  PE X (.Call (.Attribute o name o8) (e::es) [] p8) (p9 X.K T r to t):=by
 refine#[?_];intro j9 s U H Q I h;refine wpAny_Call_method_late hbase hfew hline rfl (wK (ho j9 s U H _ I h) λv s1 m9=>?_);obtain⟨x,H1,I1,r1,ty,q1⟩:=m9;obtain⟨h1,h2⟩:=Vf I1 r1 ty;refine#[T,id,pa,slot,hty,h1,h2,?_];have hA:=ha p8 j9 s1 U H1 _ I1 q1;rw[hs]at hA ⊢;refine Calls.callWith_builtin (by show(false || (backTo p8 (starEach es X.env)).any (·.1))=false;rw[hplain]<;>rfl) (Calls.evalArgs_plain ?_);exact wK hA λus s2 ⟨vs,H2,I2,r2,q2⟩=>hm j9 s2 U H2 x vs v us Q I2 r1 r2 q2
/-xs.append(e),list.index on a module's tuple .. are MtR facts of 06m-/
end
def MtM (X:Cx)(id:String)(r:V->a6 V->Hp->VK->Prop):Prop:=
 ∀(j9:a6 (i4×j8)) (s:i6) (U:St) (H:Hp) (x:V) (xs:a6 V) (v:a9) (us:a6 a9) (Q:VK),xZ X j9 U H s->kU x v->kE xs us->r x xs H Q->
  wpAny (model X.prog X.w) X.A (call (.builtin id) (v::us)) (EP X j9 U Q) X.xe s
theorem kE.one {x:V}{us:a6 a9}(h:kE [x] us): ∃u,us=[u]/\kU x u:=by
 cases h with
 |cons r h=>
 cases h;exact#[-1,r]
theorem kE.two {x y:V}{us:a6 a9}(h:kE [x,y] us): ∃u v,us=[u,v]/\kU x u/\kU y v:=by
 cases h with
 |cons r h=>
 obtain⟨v,rfl,q⟩:=kE.one h;exact#[_,-1,r,q]
theorem kE.zero: ∀{us:a6 a9},kE [] us->us=[]
 |_,.nil=>rfl
theorem kE.dropLast {xs:a6 V}{us:a6 a9}(h:kE xs us):kE xs.dropLast us.dropLast:=by
 induction h with
 |nil=>exact .nil
 |cons r t ih=>
  cases t with
  |nil=>exact .nil
  |cons q t'=>exact .cons r ih
theorem RW {α:Type}(l:a6 α):l.eraseIdx (l.length-1)=l.dropLast:=by
 induction l with
 |nil=>rfl
 |cons a r ih=>
  cases r with
  |nil=>rfl
  |cons b r=>
   have e:(a::b::r).length -1=((b::r).length -1)+1:=by
    have h1:(a::b::r).length =r.length+2:=rfl;have h2:(b::r).length =r.length+1:=rfl;lia
   rw[e,List.eraseIdx_cons_succ,ih]
   all_goals rfl
section
variable {X:Cx}{j9:a6 (i4×j8)}{U:St}{H:Hp}{s:i6}{l b:i4}{xs ys zs:a6 V}
theorem xZ.lset {its its':a6 a9}{n:Nat}{f:j7 a9->j7 a9}{t':Nat}(I:xZ X j9 U H s)(hH:H l=some (.lst xs))
  (e:s.heap.get? l=some {cls:=.type "list",data:=.seq its.toArray n}) (hf:f its.toArray=its'.toArray) (hv:kE ys its') (hz:ys.length<=sizeLine):
  xZ X j9 U (upd H l (.lst ys)) {s with heap:=s.heap.update l (Obj.mapSeq f),toks:=t'}:=by
 have q:=PySem.IsL.update e f;rw[hf]at q;refine I.write (x:=l) (e:=l) (by rw[hH];exact trivial) (.inl rfl) (λb' u hb hu=>(Ac s.heap (Obj.mapSeq f) (Ne.symm hb)).trans hu) #[_,q] ?_;exact#[hz,its',_,hv,q]
theorem xZ.lnew {its:a6 a9}{t':Nat}(I:xZ X j9 U H s)(hv:kE ys its)(hz:ys.length<=sizeLine):
  xZ X j9 U (upd H s.heap.objs.size (.lst ys)) {s with heap:=s.heap.push {cls:=.type "list",data:=.seq its.toArray},toks:=t'}:=
 I.laid (λ_ _ q=>zJ _ q) (zO _) #[hz,its,0,hv,yE _ rfl]
theorem xZ.fresh (I:xZ X j9 U H s):H s.heap.objs.size=none:=I.hok.fresh (zO _)
theorem xZ.lstM (I:xZ X j9 U H s)(hH:H l=some (.lst xs)):xs.length<=sizeLine/\ ∃(its:a6 a9) (n:Nat),kE xs its/\xs.length=its.length/\s.heap.get? l=some {cls:=.type "list",data:=.seq its.toArray n}:=by
 obtain⟨z,its,n,r,e⟩:=I.hok l _ hH;exact#[z,its,n,r,r.length,e]
theorem PN {n:Nat}(h:n<=sizeLine):Builtin.List.listTooLong n=false:=by
 unfold Builtin.List.listTooLong;exact zR ()
end
section
variable {X:Cx}
inductive SK (x:V) (vs:List V) (H:Hp) (Q:VK):Prop
 |mk (l xs y:_) (h0:x=.ref l) (h1:vs=[y]) (h2:H l=some (.lst xs)) (h3:xs.length<sizeLine) (h4:Q .non (upd H l (.lst (xs++[y])))):SK x vs H Q
theorem kT:MtM X "list.append" SK:=by
 intro j9 s U H x vs v us Q I rx rv h;obtain⟨l,xs,y,rfl,rfl,hH,hz,q⟩:=h;cases rx;obtain⟨u,rfl,ru⟩:=rv.one;obtain⟨z,its,n,r,hl,e⟩:=I.lstM hH;refine call_meets F.slot_list_append #[_,e,rfl] F.entry_list_append (F.args_list_append_2 _ _) (PySem.list_append l its.toArray n u (by rw[yL];lia)) #[e,?_];refine#[.non,_,I.lset (its':=its++[u]) hH e (by simp) (r.append (.cons ru .nil)) ?_,rfl,q];rw[zE,List.length_singleton];lia
inductive Ob (x:V) (vs:List V) (H:Hp) (Q:VK):Prop
 |mk (l b xs zs:_) (h0:x=.ref l) (h1:vs=[.ref b]) (h2:H l=some (.lst xs)) (h3:H b=some (.lst zs)) (h4:xs.length+zs.length<=sizeLine) (h5:Q .non (upd H l (.lst (xs++zs)))):Ob x vs H Q
theorem Nb:MtM X "list.extend" Ob:=by
 intro j9 s U H x vs v us Q I rx rv h;obtain⟨l,b,xs,zs,rfl,rfl,hH,hB,hz,q⟩:=h;cases rx;obtain⟨u,rfl,ru⟩:=rv.one;cases ru;obtain⟨z,its,n,r,hl,e⟩:=I.lstM hH;obtain⟨z2,its2,n2,r2,hl2,e2⟩:=I.lstM hB;have hsz:its.toArray.size+its2.toArray.size<=sizeLine:=by rw[yL,yL];lia
 have hlong: ¬(!its.toArray.isEmpty&&Builtin.List.listTooLong (its.toArray.size+its2.toArray.size))=true:=by
  rw[PN hsz,wA];exact yO
 refine call_meets F.slot_list_extend #[_,e,rfl] F.entry_list_extend (F.args_list_extend_2 _ _)
  (AutoSeq1.list_extend_list_list_0 l its.toArray n b its2.toArray n2 hlong (by rw[yL];lia) ()) #[e,e2,?_]
 refine#[.non,_,I.lset (its':=its++its2) hH e (by simp) (r.append r2) ?_,rfl,q];rw[zE];lia
inductive zCu (x:V) (vs:List V) (H:Hp) (Q:VK):Prop
 |mk (l xs y:_) (h0:x=.ref l) (h1:vs=[]) (h2:H l=some (.lst xs)) (h3:xs[xs.length-1]? =some y) (h4:Q y (upd H l (.lst xs.dropLast))):zCu x vs H Q
theorem zAq:MtM X "list.pop" zCu:=by
 intro j9 s U H x vs v us Q I rx rv h;obtain⟨l,xs,y,rfl,rfl,hH,hy,q⟩:=h;cases rx;have hus:=rv.zero;subst hus;obtain⟨z,its,n,r,hl,e⟩:=I.lstM hH;obtain⟨u,hu,ru⟩:=r.get hy;have hy':its.toArray[its.toArray.size-1]? =some u:=by
  show its.toArray[its.length-1]? =some u;rw[<-Array.getElem?_toList,<-hl];exact hu
 refine call_meets F.slot_list_pop #[_,e,rfl] F.entry_list_pop (F.args_list_pop_1 _) (MeetsSeq.list_pop_last l its.toArray n u hy' (by rw[yL];lia)) #[e,?_];refine#[y,_,I.lset (its':=its.dropLast) hH e ?_ r.dropLast ?_,ru,q]
 ·show its.toArray.eraseIdxIfInBounds (its.toArray.size-1)=its.dropLast.toArray;rw[yL,List.eraseIdxIfInBounds_toArray,RW]
 ·rw[List.length_dropLast];lia
inductive JX (x:V) (y:V) (H:Hp) (Q:VK):Prop
 |mk (l b xs zs:_) (h0:x=.ref l) (h1:y=.ref b) (h2:H l=some (.lst xs)) (h3:H b=some (.lst zs)) (h4:xs.length+zs.length<=sizeLine) (h5: ∀p,H p=none->Q (.ref p) (upd H p (.lst (xs++zs)))):JX x y H Q
theorem xV:HC X (binaryOp .Add) JX:=by
 intro j9 s U H x y v u Q I rx ry h;obtain⟨l,b,xs,zs,rfl,rfl,hH,hB,hz,q⟩:=h;cases rx;cases ry;obtain⟨z,its,n,r,hl,e⟩:=I.lstM hH;obtain⟨z2,its2,n2,r2,hl2,e2⟩:=I.lstM hB;refine PySem.P.add_list e e2 ?_ (by rw[yL,yL];lia);have ea:its.toArray++its2.toArray=(its++its2).toArray:=by simp
 rw[ea];exact#[.ref _,_,I.lnew (t':=s.toks) (r.append r2) (by rw[zE];lia),rfl,q _ I.fresh]
end
section
variable {prog:i7}{w:j3}{A:j5}{E:a9->i6->Prop}{s:i6}
set_option maxRecDepth 100000 in
end
end L2
namespace Att
open PySem PySem.W PySem.Calls PyProof.Rows
theorem KC {P:Params}{h:j4}: ∀(ns:a6 Int) (vs:a6 a9),WellAll P h vs (ns.map WData.int)->IntsAre vs ns:=by
 intro ns
 induction ns with
 |nil=>
  intro vs w;rw[List.map_nil]at w;cases w;exact .nil
 |cons n ns ih=>
  intro vs w;rw[List.map_cons]at w;cases w with
  |cons a b=>
   cases a;exact .cons _ _ (ih _ b)
theorem TQ {l:OpenLaw}{n:Nat}(hn:l.most=some n){P:Params}{h:j4}{args:a6 WData}{o7:a6 a9}
  (hpre:l.row.toRowW.claim.pre args=true) (hwl:WellAll P h o7 args):
  ∃a vs ns,o7=[Value.ref a]/\args=[WData.list (ns.map WData.int)]/\h.get? a=some {cls:=.type "list",data:=.seq vs.toArray}/\IntsAre vs ns/\ns.length<=n:=by
 have hsh:WShape.hasAll [] args [.list .int]=true:=(pre_splitW hpre).1;have hc:l.pre.holds [] {args:=args}=true:=(pre_splitW hpre).2;obtain⟨d,r,rfl,h1,h2⟩:=hasAllW_cons hsh;obtain rfl:=hasAllW_nil h2;obtain⟨xs,rfl,h3⟩:=hasW_list h1;obtain⟨ns,rfl⟩:=items_int h3;have n8:ns.length<=n:=by
  unfold OpenLaw.pre at hc;have h4:(WTm.not (.lt (.lit (.int (n:Int))) (.len (.arg 0)))).holds [] {args:=[.list (ns.map .int)]}=true:=by
   have h4:=(holds_andW hc).1;rw[hn]at h4;exact h4
  have h5:=condW_of h4 (w_not (w_lt w_lit (w_len_list (w_arg rfl))));rw[List.length_map]at h5;refine Nat.le_of_not_lt λq=>?_;have q':(n:Int)<((ns.length:Nat):Int):=()
  first
   |(rw[decide_eq_true q']at h5;exact absurd h5 (by decide))
   |(simp at h5;lia)
 cases hwl with
 |cons w1 w2=>
  cases w2;cases w1 with
  |list ho hall=>exact#[_,_,ns,rfl,rfl,ho,KC ns _ hall,n8]
theorem TZ (l:OpenLaw)(args:a6 WData):l.row.toRowW.claim.post args (.bool true) args=true:=
 postW_of (r:=l.row.toRowW) (X:=(true==true))
  (show WShape.has [] (.bool true) .bool =true by first|rfl|decide|simp[WShape.has,WShape.arms,WShape.armsAll])
  (show(WTm.eq .res (.lit (.bool true))).value [] {args:=args,res:=some (.bool true),after:=args}=some (.bool (true==true))from w_eq_bool (w_res rfl) w_lit) rfl
theorem attach_call {l:OpenLaw}{n:Nat}{q:i7}{loose:a6 Str}{XP:(Str->i5 a9)->j4->Prop}{YP:j3->j4->Prop}{d:DefRec}
  (hn:l.most=some n) (hdf:d.params.defaults=[])
  (call: ∀(w:j3) (s₀ s₁:i6) (mg mb:Str->i5 a9) (fa:i4) (o:j8) (pm cd doc:a9) (a:i4) (vs:a6 a9) (ns:a6 Int),
   Ground q loose [] XP w s₀ mg mb s₁.heap->YP w s₁.heap->
   s₁.heap.get? fa=some o->o.data=.func (docDef d.name d.params d.body d.scope pm cd doc)->s₁.heap.CodeRec cd d.name->mg d.name=some (.ref fa)->
   s₁.heap.get? a=some {cls:=.type "list",data:=.seq vs.toArray}->IntsAre vs ns->ns.length<=n->s₁.gens=#[]->
   codeAny (model l.prog w) callerA (.call (.ref fa) #[[.ref a],[]]) (λr s'=>r=.ok (.ret (.bool true))/\OldK s₁.heap s'.heap/\s'.os=s₁.os/\AllBare s'.gens) s₁):
  WalkO q loose XP YP l.row.toRowW d [] (λf vs=>PySem.call f vs):=by
 intro w s₀ s₁ mg mb G Y fa o pm cd doc dV kV ho hd hcd hD hmg hg args o7 as hpre hlay hrd hwl hlo;obtain rfl:dV=.none:=Dflts.none hD hdf;obtain rfl:kV=.none:=Dflts.noKw hD;obtain⟨a,vs,ns,rfl,rfl,hobj,hints,n8⟩:=TQ hn hpre hwl;refine enter_call (codeAny_mono (call w s₀ s₁ mg mb fa o pm cd doc a vs ns G Y ho (fd_plain hd) hcd hmg hobj hints n8 hg) λr s' hq=>?_);obtain⟨rfl,h2,h3,h4⟩:=hq;exact#[.inl #[.bool true,.bool true,[],rfl,λ_=>rfl,.bool true,TZ l _,λ_=>#[List.Pairwise.nil,λ_ hm=>(nomatch hm)]],h2,h3,h4]
section
variable {prog:i7}{w:j3}{A:j5}{E:a9->i6->Prop}{s:i6}{K:Frag}
noncomputable def zHh (h:j4)(L d:i4):a6 (i4×j8):=(List.range h.objs.size).filterMap λa=>if a=L\/a=d then none else(h.get? a).map λo=>(a,o)
end
end Att
namespace L2
open PySem PySem.Spec PyProof.Rows
theorem MK {vs:a6 a9}{ns:a6 Int}(h:IntsAre vs ns):kE (ns.map V.int) vs:=by
 induction h with
 |nil=>exact .nil
 |cons n t h ih=>exact .cons #[t,rfl] ih
def Za (H:Hp):Prop:= ∀b,H b=none\/ ∃o xs,H b=some (.frz o (.lst xs))
theorem WH {P:i7}{w:j3}{K:a7}{mg mb:Str->i5 a9}{CX:MI}{k:Nat}{fa a:i4}{fd:FuncData}{x:Str}{sp:Sp}{s₁:i6}{vs:a6 a9}{ns:a6 Int}
  (KX:K.In s₁.heap) (hns:s₁.heap.Ns mainGlobals mg) (hb:s₁.heap.Ns builtinsNs mb) (hbb: ∀x:Str,x≠"__name__"->mb x=bootBuiltins x) (hlim:s₁.heap.NoLimit) (hg:s₁.gens=#[])
  (ha:s₁.heap.get? a=some {cls:=.type "list",data:=.seq vs.toArray}) (hi:IntsAre vs ns) (hl:ns.length<=sizeLine) (hr:Ao k callerA)
  (F: ∀base:j4,K.In base->base.Ns mainGlobals mg->Dl P w K mg base CX k fa fd [x] sp) (hbind: ∀(s:i6) (u:a9),BindsTo s fd #[[u],[]] [(x,u)])
  (hsp: ∀H:Hp,Za H->kN K H a (ns.map V.int)->sp [.ref a] H (λv _=>v=.bl true) λ_ _ _=>False)
  (hCX: ∀H e s',CX [] H s₁ (λ_ _ _=>False) e s'->False):
  codeAny (model P w) callerA (.call (.ref fa) #[[.ref a],[]]) (λr s'=>r=.ok (.ret (.bool true))/\OldK s₁.heap s'.heap/\s'.os=s₁.os/\AllBare s'.gens) s₁:=by
 have rv:=MK hi;have lenV:=hi.length;have core: ∀H:Hp,Za H->kN K H a (ns.map V.int)->IB P w H s₁.heap->(∀b,H b≠none->b=a)->(H a≠none->K.lookup a=none)->
   codeAny (model P w) callerA (.call (.ref fa) #[[.ref a],[]]) (λr s'=>r=.ok (.ret (.bool true))/\OldK s₁.heap s'.heap/\s'.os=s₁.os/\AllBare s'.gens) s₁:=by
  intro H hO hS hok hA hK;have base_of: ∀{b:i4} {o:j8},s₁.heap.get? b=some o->H b=none->(Ow s₁.heap H).get? b=some o:=λe n=>WS e n;have noA: ∀{b:i4} {o:j8} {es:j7 DictEntry} {ep:Nat},s₁.heap.get? b=some o->o.data=.dict es ep->H b=none:=fun{b o es ep} e d=>by
   cases q:H b with
   |none=>rfl
   |some u=>
    have e':b=a:=hA b (by rw[q];simp);subst e';rw[ha]at e;cases e;have d':Data.seq vs.toArray _=Data.dict es ep:=d;cases d'
  have nsK: ∀{b:i4} {m:Str->i5 a9},s₁.heap.Ns b m->(Ow s₁.heap H).Ns b m:=fun{b m} ⟨o,es,ep,e,d,r⟩=>#[o,es,ep,base_of e (noA e d),d,r];have hKb:K.In (Ow s₁.heap H):=λb o e=>base_of (KX b o e) (by
   cases q:H b with
   |none=>rfl
   |some u=>
    have e':b=a:=hA b (by rw[q];simp);subst e';rw[hK (by rw[q];simp)]at e;cases e)
  have hM:Mod K mg (Ow s₁.heap H):=#[hKb,nsK hns,#[mb,nsK hb,hbb],let⟨mc,h1,h2⟩:=hlim;#[mc,nsK h1,h2]];have e0:Sl P w K mg (Ow s₁.heap H) callerA [] s₁ H:=#[rfl,hM,λb o e=>YA e,DV (UB _ _),trivial,λb hb=>absurd (show b∈([]:a6 i4)from hb) (by simp),hok,.of_eq hg];refine codeAny_mono ((F _ hKb (nsK hns)).run callerA [] s₁ H #[[.ref a],[]] [.ref a] [.ref a] _ _ hr e0 (hbind s₁ (.ref a)) (.cons rfl .nil) (hsp H hO hS)) λr s' h=>?_;cases r with
  |error e=>exact(hCX H e s' h).elim
  |ok fl=>
   cases fl with
   |next=>exact False.elim h
   |brk=>exact False.elim h
   |cont=>exact False.elim h
   |ret u=>
    obtain⟨v,H',os,bare,un,hok',r',q⟩:=h;have q':v=.bl true:=q;subst q';obtain rfl:u=Value.bool true:=r';refine#[rfl,OldK.of_keep λb o e=>?_,os,bare];cases q:H b with
    |none=>exact un.keep b o e q (by intro z;exact absurd (show b∈([]:a6 i4)from z) (by simp)) (by simp)
    |some u=>
     rcases hO b with z|⟨ob,xs,z⟩
     ·rw[q]at z;cases z
     ·have z2:=un.frzs b ob _ z;obtain⟨e1,_⟩:=hok b _ z;obtain⟨e2,_⟩:=hok' b _ z2;rw[e]at e1;cases e1;exact e2
 cases hk:K.lookup a with
 |some o=>
  have e:=KX a o hk;rw[ha]at e;cases e;refine core (λ_=>none) (λ_=>.inl rfl) (.inr #[_,vs.toArray,_,hk,rfl,rfl,rfl,by rw[yL,lenV];exact hl,by simpa using rv]) (λb u z=>by have z':(none:i5 HO)=some u:=z;cases z') (λb z=>absurd rfl z) λz=>absurd rfl z
 |none=>
  refine core (λb=>if b=a then some (.frz {cls:=.type "list",data:=.seq vs.toArray} (.lst (ns.map V.int)))else none) (λb=>?_) (.inl (.inr #[{cls:=.type "list",data:=.seq vs.toArray},zQ rfl])) (λb u z=>?_) (λb z=>?_) λ_=>hk
  ·by_cases hb:b=a
   ·exact .inr #[_,_,zQ hb]
   ·exact .inl (zN hb)
  ·by_cases hb:b=a
   ·have z':=(zQ hb).symm.trans z;cases z';subst hb;exact#[ha,by rw[zG];exact hl,vs,_,rv,ha]
   ·have z':=(zN hb).symm.trans z;cases z'
  ·by_cases hb:b=a
   ·exact hb
   ·exact absurd (zN hb) z
theorem walk_of {l:PySem.W.OpenLaw}{n k:Nat}{q:i7}{loose:a6 Str}{XP:(Str->i5 a9)->j4->Prop}{YP:j3->j4->Prop}{d:DefRec}{K:Params->a7}{CX:j3->MI}{sp:j3->Sp}{x:Str}
  (hn:l.most=some n) (hn2:n<=sizeLine) (hdf:d.params.defaults=[]) (hr:Ao k callerA)
  (hY: ∀(w:j3) (h:j4),YP w h->(K w.params).In h)
  (F: ∀(w:j3) (mg:Str->i5 a9) (fa:i4) (h:j4),(K w.params).In h->h.Ns mainGlobals mg->mg d.name=some (.ref fa)->
   ∃fd:FuncData,(∀(s:i6) (u:a9),BindsTo s fd #[[u],[]] [(x,u)])/\
    ∀base:j4,(K w.params).In base->base.Ns mainGlobals mg->Dl l.prog w (K w.params) mg base (CX w) k fa fd [x] (sp w))
  (hsp: ∀(w:j3) (H:Hp) (a:i4) (ns:a6 Int),ns.length<=n->Za H->kN (K w.params) H a (ns.map V.int)->sp w [.ref a] H (λv _=>v=.bl true) λ_ _ _=>False)
  (hCX: ∀(w:j3) (H:Hp) (s:i6) (e:a9) (s':i6),CX w [] H s (λ_ _ _=>False) e s'->False):
  PySem.W.WalkO q loose XP YP l.row.toRowW d [] (λf vs=>PySem.call f vs):=by
 refine Att.attach_call hn hdf λw s₀ s₁ mg mb fa o pm cd doc a vs ns G Y ho hd hcd hmg hobj hints n8 hg=>?_;have KX:=hY w _ Y;obtain⟨fd,hb,hF⟩:=F w mg fa _ KX G.T.g hmg;exact WH KX G.T.g G.T.b G.T.builtins G.T.nolimit hg hobj hints (xH n8 hn2) hr hF hb (λH hO hS=>hsp w H a ns n8 hO hS) λH e s'=>hCX w H s₁ e s'
noncomputable def Jp (s:i9)(j:Nat):i9:=match s with
 | .ClassDef _ _ _ body _ _ _ _ _ _ _=>body.getD j (.Pass #[0,0,0,0])
 |_=>.Pass #[0,0,0,0]
noncomputable def uJ (s:i9):Arguments:=match s with
 | .FunctionDef _ a _ _ _ _ _ _ _ _=>a
 |_=>{posonlyargs:=[],args:=[],vararg:=none,kwonlyargs:=[],kw_defaults:=[],kwarg:=none,defaults:=[]}
noncomputable def vL (s:i9):a6 i9:=match s with
 | .FunctionDef _ _ b _ _ _ _ _ _ _=>b
 |_=>[]
noncomputable def zS (s:i9):Scope:=match s with
 | .FunctionDef _ _ _ _ _ _ sc _ _ _=>sc
 |_=>{kind:=.function,names:=[],isGenerator:=false,isCoroutine:=false}
abbrev E0:XK:=λ_ _ _=>False
structure qT (K:a7)(x qual:Str)(st:i9)(f:i4)(fd:FuncData):Prop where
 ex: ∃(oc:a9) (od:Option i4) (kV doc pm:a9) (an:Option i4) (cdv ct:a9) (osl:Array (Option a9)),
  fd=PySem.W.fnOf x qual (uJ st) (vL st) (zS st) .none kV doc pm an cdv ct/\K.lookup f=some #[oc,od,.func fd,osl]/\PySem.W.codeIn K cdv qual=true
 kp:PySem.W.keepIn K (.ref f)=true
section
variable {P:i7}{w:j3}{K:a7}{mg:Str->i5 a9}{base:j4}
theorem qT.binds {x qual:Str}{st:i9}{f:i4}{fd:FuncData}{ps:a6 Str}(F:qT K x qual st f fd)
  (h: ∀(kV doc pm:a9) (an:i5 i4) (cdv ct:a9) (us:a6 a9),us.length=ps.length->bindArgs (PySem.W.fnOf x qual (uJ st) (vL st) (zS st) .none kV doc pm an cdv ct) #[us,[]]=pure (ps.zip us)):uG K fd ps []:=by
 obtain⟨oc,od,kV,doc,pm,an,cdv,ct,osl,rfl,lk,hcd⟩:=F.ex;exact .all (h kV doc pm an cdv ct)
theorem Xa {x qual:Str}{st:i9}{f:i4}{oc:a9}{od an:i5 i4}{osl:j7 (i5 a9)}{kV doc pm cdv ct:a9}(l:K.lookup f=some #[oc,od,.func (PySem.W.fnOf x qual (uJ st) (vL st) (zS st) .none kV doc pm an cdv ct),osl])
  (c:PySem.W.codeIn K cdv qual=true) (k:PySem.W.keepIn K (.ref f)=true):qT K x qual st f (PySem.W.fnOf x qual (uJ st) (vL st) (zS st) .none kV doc pm an cdv ct):=#[#[oc,od,kV,doc,pm,an,cdv,ct,osl,rfl,l,c],k]
end
theorem AS {A:j5}{k:Nat}(hr:Ao k A):A.units+1<cLine:=xR (Nat.add_le_add_left (by decide:1<=64) _) hr.units
theorem Fc {n:Nat}(h:n<=1000):n<sizeLine:=xR h (by decide)
section
variable {X:Cx}
theorem pv (i:Nat){x:Str}{pos:Pos}(hN:autoParam (X.N[i]? =some x) L2.aE._auto_1)(hv:Vis X.env.scope x:=by first|exact Or.inl rfl|exact Or.inr (Or.inl rfl)|exact Or.inr (Or.inr rfl))(hd:autoParam ((x==("__debug__":Str))=false) L2.aB._auto_1)
  (hcd:autoParam ((x==("__classdict__":Str))=false) L2.aB._auto_1):PE X (.Name x pos) (ZO i):=zAf hN hv hd hcd
end
theorem jE {A B:Prop}(h:B):if false=true then A else B:=by
 rw[zN yO];exact h
theorem jI {A B:Prop}(h:A):if true=true then A else B:=by
 rw[zQ rfl];exact h
theorem jK {c A B:Prop}[Decidable c](h1:c->A)(h2: ¬c->B):if c then A else B:=by
 by_cases h:c
 ·rw[zQ h];exact h1 h
 ·rw[zN h];exact h2 h
theorem zDh {c A B:Prop}[Decidable c](hc:c)(h:B):if(!decide c)=true then A else B:=by
 rw[zP hc];exact jE h
def xJ (H H':Hp):Prop:= ∀b o,H b=some o->H' b=some o
theorem xJ.refl (H:Hp):xJ H H:=λ_ _ h=>h
theorem xJ.trans {H H1 H2:Hp}(a:xJ H H1)(b:xJ H1 H2):xJ H H2:=λc o h=>b c o (a c o h)
theorem xJ.free {H H':Hp}(e:xJ H H'){l:i4}(h:H' l=Option.none):H l=Option.none:=by
 cases q:H l with
 |none=>rfl
 |some o=>
  rw[e l o q]at h;cases h
theorem xJ.seq {K:a7}{H H':Hp}{a:i4}{xs:a6 V}(e:xJ H H')(h:kN K H a xs):kN K H' a xs:=by
 rcases h with(h|⟨o,h⟩)|h
 ·exact .inl (.inl (e _ _ h))
 ·exact .inl (.inr #[o,e _ _ h])
 ·exact .inr h
theorem RY (J:Nat->i6->Prop)
  (turn: ∀n s,J n s->wpAny (model prog w) A (pyNext it) (λr s1=>match r with
   |none=>R (.ok .next) s1
   |some v=>wpAny (model prog w) A (letOwnedTupleGo n9 it v) (λ_ s1=>wpAny (model prog w) A (assign n9 env v) (λ_ s2=>
     wpAny (model prog w) A (forIn ifs true λc r=>if r=true then do let ok<-isTrue c env (eval c env);pure (ForInStep.yield ok)else pure (ForInStep.yield r)) (λok s3=>
      if ok=true then wpAny (model prog w) A (eval elt env) (λx s4=>
       wpAny (model prog w) A (call (.builtin "list.append") [acc,x]) (λ_ s5=> ∃m,m<n/\J m s5) (λ_ _=>False) s4) (λ_ _=>False) s3
      else ∃m,m<n/\J m s3) (λ_ _=>False) s2) (λ_ _=>False) s1) (λ_ _=>False) s1) (λ_ _=>False) s)
  (n:Nat) (h:J n s):
  codeAny (model prog w) A (.compLoop (.ListComp elt [#[n9,iter,ifs,0]] scope pos) 0 it acc env) R s:=by
 refine codeAny_loop rfl J (λn s hI=>?_) n h;show wpAny _ A ((compTurn (.ListComp elt [#[n9,iter,ifs,0]] scope pos) 0 it acc env).onRaise (λx=>do noteFrame x env;theTreesLotGoes x)) _ _ s;refine wpAny_noted (AG (E:=λ_ _=>False) ?_ (λ_ _ q=>q) λ_ _ q=>q.elim);rw[compTurn_list];refine zD (ET (zD (wK (turn n s hI) λr s1 h1=>?_)));cases r with
 |none=>exact zZ h1
 |some v=>
  refine zD (wK h1 λ_ s1 h1=>?_);refine zD (wK h1 λ_ s2 h2=>zD (wK h2 λok s3 h3=>?_));cases ok with
  |false=>exact zZ #[rfl,h3]
  |true=>exact zD (zD (wK h3 λx s4 h4=>zD (wK h4 λ_ s5 h5=>zZ (zZ #[rfl,h5]))))
theorem Ix: ∀(names:a6 (Str×NameKind)) (acc:a6 (Str×i4)),(∀y∈names,y.2=.free-> ∃c,env.cells.lookup y.1=some c)->
  ∃cl:a6 (Str×i4),(forIn names acc (fun(y:Str×NameKind) (r:a6 (Str×i4))=>if(y.2==NameKind.free)=true then do let a<-cellOf env y.1;pure (ForInStep.yield ((y.1,a)::r))else pure (ForInStep.yield r)):Sem _)=pure cl/\
   ∀x,(∀c,cl.lookup x=some c->acc.lookup x=some c\/env.cells.lookup x=some c)/\((acc.lookup x).isSome =true\/(x,NameKind.free)∈names->(cl.lookup x).isSome =true)
 |[],acc,_=>#[acc,rfl,λx=>#[λc h=>.inl h,λh=>h.elim id λz=>nomatch z]]
 |(n,k)::r,acc,hf=>by
  by_cases hk:k=.free
  ·subst hk;obtain⟨c,hc⟩:=hf (n,.free) yA rfl;obtain⟨cl,e,q⟩:=Ix r ((n,c)::acc) λy hy=>hf y (yC _ hy);refine#[cl,?_,λx=>#[λd hd=>?_,λhx=>?_]]
   ·rw[DJ];have e1:cellOf env n=pure c:=by unfold cellOf;simp only[hc]
    simp only[Ft,DU,e1];exact e
   ·rcases(q x).1 d hd with z|z
    ·by_cases hx:x=n
     ·subst hx;rw[Ar]at z;cases z;exact .inr hc
     ·rw[CB,beq_eq_false_iff_ne.mpr hx]at z;exact .inl z
    ·exact .inr z
   ·refine(q x).2 ?_
    by_cases hxn:x=n
    ·subst hxn;exact .inl (by rw[Ar];rfl)
    ·rcases hx with z|z
     ·exact .inl (by rw[CB,beq_eq_false_iff_ne.mpr hxn];exact z)
     ·rcases List.mem_cons.mp z with z|z
      ·cases z;exact absurd rfl hxn
      ·exact .inr z
  ·obtain⟨cl,e,q⟩:=Ix r acc λy hy=>hf y (yC _ hy);refine#[cl,?_,λx=>#[(q x).1,λhx=>(q x).2 ?_]]
   ·rw[DJ];have hb:(k==NameKind.free)=false:=by simpa using hk
    simp only[hb,Bq,Fs];exact e
   ·rcases hx with z|z
    ·exact .inl z
    ·rcases List.mem_cons.mp z with z|z
     ·cases z;exact absurd rfl hk
     ·exact .inr z
theorem Mg (hf: ∀y∈scope.names,y.2=.free-> ∃c,env.cells.lookup y.1=some c):
  ∃cl,closureFor scope env=pure cl/\(∀x c,cl.lookup x=some c->env.cells.lookup x=some c)/\ ∀x,(x,NameKind.free)∈scope.names-> ∃c,cl.lookup x=some c:=by
 obtain⟨cl,e,q⟩:=Ix scope.names [] hf;refine#[cl,?_,λx c h=>?_,λx hx=>Option.isSome_iff_exists.mp ((q x).2 (.inr hx))]
 ·unfold closureFor;exact(qZ (·>>=λr=>pure r) e).trans rfl
 ·rcases(q x).1 c h with z|z
  ·simp at z
  ·exact z
noncomputable abbrev Cx.comp (X:Cx)(N:a6 Str)(scope:Scope)(cl:a6 (Str×i4))(C:i4)(fp:a6 i4)(s:i6)(H:Hp):Cx:=
 {X with N:=N,s₀:=s,H₀:=H,env:=compEnvC scope cl C X.env,outer:=X.stack,stack:=X.stack,ex:=fp,fn:=λ_=>false,pn:=[],xe:=λ_ _=>False}
structure PTs (X:Cx)(ifs:List j6)(t:TT):Prop where
 go: ∀(j9:List (i4×j8)) (s:i6) (U:St) (H:Hp) (Q:i8->Hp->Prop),xZ X j9 U H s->t U H Q->
  wpAny (model X.prog X.w) X.A (forIn ifs true λc r=>if r=true then do let ok<-isTrue c X.env (eval c X.env);pure (ForInStep.yield ok)else pure (ForInStep.yield r)) (TP X j9 U Q) X.xe s
instance {X:Cx}{ifs:a6 j6}{t:TT}:CoeFun (PTs X ifs t) (λ_=> ∀(j9:a6 (i4×j8)) (s:i6) (U:St) (H:Hp) (Q:i8->Hp->Prop),xZ X j9 U H s->t U H Q->
  wpAny (model X.prog X.w) X.A (forIn ifs true λc r=>if r=true then do let ok<-isTrue c X.env (eval c X.env);pure (ForInStep.yield ok)else pure (ForInStep.yield r)) (TP X j9 U Q) X.xe s):=#[PTs.go]
def QL:TT:=λ_ H Q=>Q true H
theorem wN:PTs X [] QL:=#[λ_ _ _ H _ I h=>wpAny_tests_nil #[H,I,h]]
theorem SM (h:PT X c t):PTs X [c] t:=#[λj9 s U H Q I q=>wpAny_tests_one (h j9 s U H Q I q)]
noncomputable def Kf (own:Nat)(js:a6 Nat)(U:St):St:=List.replicate own none++js.map λj=>(U[j]?).join
def IC (J:It)(p:i4)(U0:St)(H0:Hp)(g:TG)(tt:TT)(te:TE)(R:Hp->Prop):Prop:=
 ∃W:Nat->Nat->St->Hp->Prop,(∃m,W 0 m U0 H0)/\ ∀i m U' H',W i m U' H'->
  (J.stop i H'/\R H')\/(J.go i H'/\ ∀x H2,J.yld i H' x H2->g x U' H2 λU3 H3=>tt U3 H3 λb H4=>
   if b=true then te U3 H4 λv H5=> ∃ys,H5 p=some (.lst ys)/\ys.length<sizeLine/\ ∃m',m'<m/\W (i+1) m' U3 (upd H5 p (.lst (ys++[v])))
   else ∃m',m'<m/\W (i+1) m' U3 H4)
def Zg (wi:TI)(own:Nat)(js:a6 Nat)(g:TG)(tt:TT)(te:TE):TE:=λU H Q=>wi U H λJ H1=> ∀p,H1 p=none->IC J p (Kf own js U) (upd H1 p (.lst [])) g tt te (Q (.ref p))
inductive HQ (N:List Str):List Str->List Nat->Prop where
 |nil:HQ N [] []
 |cons {y:Str} {j:Nat} {ys:List Str} {js:List Nat} (h:N[j]? =some y) (r:HQ N ys js):HQ N (y::ys) (j::js)
theorem HQ.at {ys:a6 Str}{js:a6 Nat}(h:HQ N ys js): ∀(i:Nat) (y:Str),ys[i]? =some y-> ∃j,js[i]? =some j/\N[j]? =some y:=by
 induction h with
 |nil=>intro i y e;simp at e
 |cons h r ih=>
 intro i y e;cases i with
 |zero=>simp at e;subst e;exact#[-1,h]
 |succ i=>obtain⟨j,h1,h2⟩:=ih i y (by simpa using e);exact#[j,by simpa using h1,h2]
theorem HQ.length {ys:a6 Str}{js:a6 Nat}(h:HQ N ys js):ys.length=js.length:=by
 induction h with
 |nil=>rfl
 |cons _ r ih=>simp[ih]
theorem Fg {f:Str->NameKind->NameKind}: ∀{names:a6 (Str×NameKind)} {x:Str},(names.map λy=>(y.1,f y.1 y.2)).lookup x=(names.lookup x).map (f x)
 |[],_=>rfl
 |(n,k)::r,x=>by
  by_cases h:x=n
  ·subst h;rw[yM,Ar,Ar];rfl
  ·have hb:(x==n)=false:=beq_eq_false_iff_ne.mpr h;rw[yM,CB,CB,hb];exact Fg
noncomputable def Pd (env:Env)(n:Str)(k:NameKind):NameKind:=if(k== .free&&env.scope.kind== .function&&env.kindOf n==some .cell)=true then .cell else k
theorem IY (scope:Scope)(env:Env)(x:Str):(relabel scope env).names.lookup x=(scope.names.lookup x).map (Pd env x):=by
 have e:(relabel scope env).names =scope.names.map λy=>(y.1,Pd env y.1 y.2):=by
  unfold relabel;refine wB λy _=>?_;obtain⟨n,k⟩:=y;show(if(k== .free&&env.scope.kind== .function&&env.kindOf n==some .cell)=true then(n,NameKind.cell)else(n,k))=(n,Pd env n k);unfold Pd;split<;>rfl
 rw[e,Fg]
section
variable {X:Cx}{elt n9 iter:j6}{ifs:a6 j6}{scope:Scope}{own ys:a6 Str}{js:a6 Nat}{wi:TI}{g:TG}{tt:TT}{te:TE}{pos:Pos}
theorem Mf {j9:a6 (i4×j8)}{U:St}{H:Hp}{s2:i6}{it:i4}{fp:a6 i4}{tn:Nat->j4->Prop}{J:It}{Q:VK}{E:a9->i6->Prop}{cl:a6 (Str×i4)}{RR:a9->i4->Result->i6->Prop}
  (hc:X.calm=true) (I:xZ X j9 U H s2) (T:Mm X.prog X.w X.K n9 J fp it tn) (st:tn 0 s2.heap) (fpk: ∀b∈fp,HI X j9 H b)
  (hkind:scope.kind=.function) (hcell: ∀y∈scope.names,y.2≠ .cell) (fr:HQ X.N ys js) (hys: ∀y∈ys,X.env.kindOf y=some .cell)
  (hcl1: ∀x c,cl.lookup x=some c->X.env.cells.lookup x=some c) (hcl2: ∀x,(x,NameKind.free)∈scope.names-> ∃c,cl.lookup x=some c)
  (hvis: ∀y∈ys,(relabel scope X.env).names.lookup y=some .cell)
  (hg: ∀cl C fp s H,PG (X.comp (own++ys) scope cl C fp s H) n9 g) (ht: ∀cl C fp s H,PTs (X.comp (own++ys) scope cl C fp s H) ifs tt) (he: ∀cl C fp s H,PE (X.comp (own++ys) scope cl C fp s H) elt te)
  (h: ∀p,H p=none-> ∃W:Nat->Nat->St->Hp->Prop,(∃m,W 0 m (Kf own.length js U) (upd H p (.lst [])))/\ ∀i m U' H',W i m U' H'->
   (J.stop i H'/\Q (.ref p) H')\/(J.go i H'/\ ∀x H2,J.yld i H' x H2->g x U' H2 λU3 H3=>tt U3 H3 λb H4=>
    if b=true then te U3 H4 λv H5=> ∃ys,H5 p=some (.lst ys)/\ys.length<sizeLine/\ ∃m',m'<m/\W (i+1) m' U3 (upd H5 p (.lst (ys++[v])))
    else ∃m',m'<m/\W (i+1) m' U3 H4))
  (hRR: ∀D C (H':Hp) (s':i6),xZ X j9 U H' s'->Q (.ref D) H'->(∃m,s'.heap.Ns C m)->H' C=none->C≠X.env.locals->X.s₀.heap.objs.size<=C->(∀x c,X.env.cells.lookup x=some c->c≠C)->(∀p∈X.pn++j9,p.1≠C)->RR (.ref D) C (.ok .next) s'):
  wpAny (model X.prog X.w) X.A (newList []) (λacc s3=>wpAny (model X.prog X.w) X.A (newFunctionEnv scope X.env.globals cl [] X.env.qual none .none (some X.env)) (λcenv s4=>
   codeAny (model X.prog X.w) X.A (.compStart (.ListComp elt [#[n9,iter,ifs,0]] scope pos) 0 (.ref it) acc {cenv with scope:=relabel scope X.env}) (RR acc cenv.locals) s4) E s3) E s2:=by
 refine jT (wpAny_newFunctionEnv hcell (by intro y hy;simp at hy) (λh1 hns1 hsb1=>?_) hkind);have hnp:H s2.heap.objs.size=none:=I.hok.fresh (zO _);have I3:xZ X j9 U (upd H s2.heap.objs.size (.lst [])) {s2 with heap:=s2.heap.push {cls:=.type "list",data:=.seq ([]:a6 a9).toArray},toks:=s2.toks}:=
  I.lnew (its:=[]) (ys:=[]) .nil (xE _)
 obtain⟨W,⟨m0,w0⟩,turn⟩:=h _ hnp;clear h;generalize hH0:upd H s2.heap.objs.size (.lst [])=H0 at I3 w0;generalize hp:s2.heap.objs.size=p at *
 have eS:({s2 with heap:=s2.heap.push {cls:=.type "list",data:=.seq ([]:a6 a9).toArray},toks:=s2.toks}:i6)={s2 with heap:=s2.heap.push {cls:=.type "list",data:=.seq ([]:a6 a9).toArray}}:=rfl;rw[eS]at I3;clear eS;generalize hs3:({s2 with heap:=s2.heap.push {cls:=.type "list",data:=.seq ([]:a6 a9).toArray}}:i6)=s3 at *
 have heap3:s3.heap=s2.heap.push {cls:=.type "list",data:=.seq ([]:a6 a9).toArray}:=by rw[<-hs3]
 have old3: ∀b o,s2.heap.get? b=some o->s3.heap.get? b=some o:=λb o e=>by rw[heap3];exact zJ _ e
 generalize hC:s3.heap.objs.size=C at *
 have st3:tn 0 s3.heap:=T.keep _ _ _ st λb _ o e=>old3 b o e;have fp3: ∀b∈fp,b<C:=λb hb=>by
  obtain⟨o,e,_⟩:=T.obj _ _ st3 b hb;have:=yI e;rw[hC]at this;exact this
 have nH0: ∀b∈fp,H0 b=none:=λb hb=>by
  obtain⟨o,e,_⟩:=T.obj _ _ st b hb;rw[<-hH0,yJ (λz=>by have:=yI e;rw[hp,z]at this;exact qL _ this)];exact(fpk b hb).1
 have old1: ∀b o,s3.heap.get? b=some o->h1.get? b=some o:=λb o e=>
  hsb1.extBut b o (λz=>by have:=yI e;rw[hC,z]at this;exact qL _ this) (zJ _ e)
 have nstk: ∀b∈fp,b∉frs X.stack:=λb hb z=>by
  rcases List.mem_cons.mp (I.stkSub b z)with e|e
  ·exact(fpk b hb).2.1 e
  ·exact(fpk b hb).2.2.1 e
 have ncC: ∀x c,X.env.cells.lookup x=some c->c≠C:=λx c e z=>by
  obtain⟨v,o,ho,_⟩:=I3.cell x c e;have:=yI ho;rw[hC,z]at this;exact qL _ this
 have LC:C≠X.env.locals:=λz=>by have:=I3.lt;rw[hC,z]at this;exact qL _ this
 have sC:X.s₀.heap.objs.size<=C:=by rw[<-hC];exact I3.sz
 have rl: ∀x k,(compEnvC scope cl C X.env).kindOf x=some k->(k=.cell\/k=.free)->(x,NameKind.free)∈scope.names:=λx k e hk=>by
  have e':(relabel scope X.env).names.lookup x=some k:=e;rw[IY]at e';cases q:scope.names.lookup x with
  |none=>rw[q]at e';cases e'
  |some k0=>
   rw[q]at e';have m0:=wX q;have n0:=hcell _ m0;have:Pd X.env x k0=k:=kB e';unfold Pd at this;split at this
   ·rename_i z;have:k0=.free:=by
     simp only[qC,Bp]at z;exact z.1.1
    rw[<-this];exact m0
   ·rcases hk with hk|hk
    ·exact absurd (this.trans hk) n0
    ·rw[<-hk,<-this];exact m0
 let Y:=X.comp (own++ys) scope cl C fp s3 H0
 have okY:Y.Ok:=by
  refine#[I.ok.mod,?_,I.ok.glob,I.ok.blt,?_,λx y c e1 e2=>I.ok.inj x y c (hcl1 x c e1) (hcl1 y c e2),λx hx=>?_,λx c z=>(nomatch z),I.ok.hd,I.ok.frames,.inl rfl,λb hb=>#[?_,λx c e=>(fpk b hb).2.2.2.2.1 x c (hcl1 x c e)],λb o e=>I3.bs b o e,?_,λb o e hb=>?_,nstk,I3.stack,I3.stkFree]
  ·exact hkind
  ·exact DV hC
  ·rcases hx with hx|hx
   ·exact hcl2 x (rl x _ hx (.inl rfl))
   ·exact hcl2 x (rl x _ hx (.inr rfl))
  ·exact xQ (fp3 b hb)
  ·exact xH I.ok.bsz I3.sz
  ·rcases(fpk b hb).2.2.2.1 with z|z
   ·exact I.ok.noex b o e z
   ·exact absurd (xP (yI e) (xH I.ok.bsz z)) (qL _)
 have I4:xZ Y [] (Kf own.length js U) H0 {s3 with heap:=h1,toks:=s3.toks+([]:a6 (Str×a9)).length}:=by
  refine#[okY,rfl,I3.bare,Un.kept old1,#[_,hns1,λi x v e1 e2 e3=>?_],λx c e=>?_,?_,λx c e=>I3.freeC x c (hcl1 x c e),λp hp=>absurd (show p∈([]:a6 (i4×j8))from hp) (by simp),I3.hok.kept old1,?_]
  ·have e1:(own++ys)[i]? =some x:=e1;have hi:own.length<=i:=Nat.le_of_not_lt λlt=>by
    unfold Kf at e2;rw[AT (by simpa using lt),Fy]at e2;split at e2<;>cases e2
   rw[vI hi]at e1;obtain⟨j,hj,hN⟩:=fr.at _ _ e1;unfold Kf at e2;rw[vI (by simpa using hi),qG,zW,hj]at e2;have e2:(U[j]?).join =some v:=kB e2;have e2':U[j]? =some (some v):=by
    cases q:U[j]? with
    |none=>rw[q]at e2;cases e2
    |some z=>rw[q]at e2;rw[show z=some v from e2]
   have my:=xB e1;have hk:=hys x my;obtain⟨m,hn,hl⟩:=I3.loc;obtain⟨u,r,q⟩:=hl j x v hN e2' (.inr (.inl hk));refine#[u,r,?_]
   rcases q with⟨k,_⟩|⟨_,c,e,z⟩
   ·rw[hk]at k;cases k
   ·obtain⟨c',e'⟩:=hcl2 x (rl x _ (hvis x my) (.inl rfl));have:c'=c:=by have:=hcl1 x c' e';rw[e]at this;exact(kB this).symm
    subst this;refine .inr #[?_,c',e',?_]
    ·exact .inl (hvis x my)
    ·obtain⟨o,ho,hd⟩:=z;exact#[o,old1 _ _ ho,hd]
  ·obtain⟨v,o,ho,hd⟩:=I3.cell x c (hcl1 x c e);exact#[v,o,old1 _ _ ho,hd]
  ·exact I3.hok.fresh (DV hC)
  ·unfold Kf;show _=(own++ys).length;rw[zE,qG,zG,zE,fr.length]
 have stat: ∀{H':Hp},(∀b∈fp,H' b=none)-> ∀b∈fp,HI Y [] H' b:=λhn b hb=>
  #[hn b hb,xQ (fp3 b hb),nstk b hb,.inl hb,λx c e=>(fpk b hb).2.2.2.2.1 x c (hcl1 x c e),λp hp=>absurd (show p∈([]:a6 (i4×j8))from hp) (by simp)]
 have fin: ∀{U':St} {H':Hp} {s':i6},xZ Y [] U' H' s'->Q (.ref p) H'->RR (.ref p) C (.ok .next) s':=fun{U' H' s'} I' q=>by
  have back:xZ X j9 U H' s':=I3.call' (ch:=fp) I'.os I'.base I'.hok I'.bare λb hb=>#[(fpk b hb).2.2.2.1,(fpk b hb).2.1,(fpk b hb).2.2.2.2.1,(fpk b hb).2.2.2.2.2];obtain⟨m,hn,_⟩:=I'.loc;exact hRR p C H' s' back q #[m,hn] I'.free LC sC ncC λq hq z=>by
   have:=yI (I3.pin q hq).1;rw[hC,z]at this;exact qL _ this
 have loop: ∀s4:i6,s4={s3 with heap:=h1,toks:=s3.toks+([]:a6 (Str×a9)).length}->
   codeAny (model X.prog X.w) X.A (.compLoop (.ListComp elt [#[n9,iter,ifs,0]] scope pos) 0 (.ref it) (.ref p) (compEnvC scope cl C X.env)) (RR (.ref p) C) s4:=by
  rintro s4 rfl;refine RY (λn s'=> ∃i U' H',xZ Y [] U' H' s'/\tn i s'.heap/\(∀b∈fp,H' b=none)/\W i n U' H') ?_ m0 #[0,_,_,I4,T.keep _ _ _ st3 λb _ o e=>old1 b o e,nH0,w0];rintro n s5 ⟨i,U5,H5,I5,st5,fr5,w5⟩
  rcases turn i n U5 H5 w5 with⟨stop,qn⟩|⟨go,step⟩
  ·refine wK (T.done Y rfl rfl rfl hc i [] s5 U5 H5 (λ_ _=>False) I5 (stat fr5) st5 stop) λr s6 m9=>?_;obtain⟨hr,I6⟩:=m9;subst hr;exact fin I6 qn
  ·refine wK (T.item Y rfl rfl rfl hc i [] s5 U5 H5 (λ_ _=>False) I5 (stat fr5) st5 go) λr s6 m9=>?_;obtain⟨u,hr,h6⟩:=m9;subst hr;refine wK h6 λ_ s7 m9=>?_;obtain⟨x,H7,I7,r7,y7,st7,fr7⟩:=m9;have I7':=I7.pinned (stat fr7) (T.obj _ _ st7);have again: ∀{U9:St} {H9:Hp} {s9:i6} {m':Nat},xZ Y ([]++LH fp s7.heap) U9 H9 s9->m'<n->W (i+1) m' U9 H9-> ∃m,m<n/\ ∃i U' H',xZ Y [] U' H' s9/\tn i s9.heap/\(∀b∈fp,H' b=none)/\W i m U' H':=fun{U9 H9 s9 m'} I9 hm w9=>by
    refine#[m',hm,i+1,U9,H9,I9.unpinned,T.keep _ _ _ st7 λb hb o e=>(I9.pin (b,o) (jA _ (jA _ (FW hb e)))).1,λb hb=>?_,w9];obtain⟨o,e,d⟩:=T.obj _ _ st7 b hb;exact(I9.pin (b,o) (jA _ (jA _ (FW hb e)))).2.1
   refine wK (hg cl C fp s3 H0 _ s7 U5 H7 x u _ I7' r7 (step x H7 y7)) λ_ s8 m9=>?_;obtain⟨U8,H8,I8,q8⟩:=m9;refine wK (ht cl C fp s3 H0 _ s8 U8 H8 _ I8 q8) λb s9 m9=>?_;obtain⟨H9,I9,q9⟩:=m9;cases b with
   |false=>
    obtain⟨m',hm,w9⟩:=q9;exact again I9 hm w9
   |true=>
    refine wK (he cl C fp s3 H0 _ s9 U8 H9 _ I9 q9) λy s10 m9=>?_;obtain⟨v,H10,I10,r10,zs,e10,z10,m',hm,w10⟩:=m9;refine wK (kT (X:=Y) _ s10 U8 H10 (.ref p) [v] (.ref p) [y] (λ_ H'=>H'=upd H10 p (.lst (zs++[v]))) I10 rfl (.cons r10 .nil) #[p,zs,v,rfl,rfl,e10,z10,rfl]) λ_ s11 m9=>?_;obtain⟨_,H11,I11,_,q11⟩:=m9;subst q11;exact again I11 hm w10
 have st4:tn 0 h1:=T.keep _ _ _ st3 λb _ o e=>old1 b o e;exact codeAny_compStart_list (loop _ rfl) (T.self _ 0 _ _ _ st4 (loop _ rfl))
structure Sn (X:Cx)(scope:Scope)(ys:List Str):Prop where
 kind:scope.kind=.function
 cell: ∀y∈scope.names,y.2≠ .cell
 loc: ∀y∈scope.names,y.2=.local->scope.names.lookup y.1=some .local
 free: ∀y∈scope.names,y.2=.free->X.env.kindOf y.1=some .cell
 cap: ∀y∈ys,X.env.kindOf y=some .cell
 vis: ∀y∈ys,(relabel scope X.env).names.lookup y=some .cell
noncomputable def Tn (sc scope:Scope)(ys:a6 Str):i8:=
 scope.kind== .function&&sc.kind== .function&&(scope.names.all λy=>y.2 != .cell&&(y.2 != .local || scope.names.lookup y.1==some .local)&&(y.2 != .free || sc.names.lookup y.1==some .cell))&&
  ys.all λy=>sc.names.lookup y==some .cell&&scope.names.lookup y==some .free
theorem kJ (hsc:X.env.scope=sc)(h:Tn sc scope ys=true):Sn X scope ys:=by
 unfold Tn at h;simp only[qC,vE,Bp,bne_iff_ne,Bool.or_eq_true,ne_eq]at h;obtain⟨⟨⟨h1,h0⟩,h2⟩,h3⟩:=h;subst hsc;refine#[h1,λy hy=>(h2 y hy).1.1,λy hy e=>?_,λy hy e=>?_,λy hy=>(h3 y hy).1,λy hy=>?_]
 ·rcases(h2 y hy).1.2 with z|z
  ·exact absurd e z
  ·exact z
 ·rcases(h2 y hy).2 with z|z
  ·exact absurd e z
  ·exact z
 ·rw[IY,(h3 y hy).2];show some (Pd X.env y .free)=_;have z:X.env.kindOf y=some .cell:=(h3 y hy).1;unfold Pd;rw[z,h0];rfl
theorem vB (hc:X.calm=true)(hi:PI X n9 iter wi)(S:Sn X scope ys)(fr:HQ X.N ys js)
  (hg: ∀cl C fp s H,PG (X.comp (own++ys) scope cl C fp s H) n9 g) (ht: ∀cl C fp s H,PTs (X.comp (own++ys) scope cl C fp s H) ifs tt) (he: ∀cl C fp s H,PE (X.comp (own++ys) scope cl C fp s H) elt te)
  (hs:autoParam ( ∀x,foldedSetIterable iter X.env x=pure x) L2.aD._auto_1):PE X (.ListComp elt [#[n9,iter,ifs,0]] scope pos) (Zg wi own.length js g tt te):=by
 refine#[?_];intro j9 s U H Q I h;rw[eval_ListComp];obtain⟨cl,e,c1,c2⟩:=Mg (env:=X.env) (scope:=scope) λy hy hf=>I.ok.has y.1 (.inl (S.free y hy hf));refine wpAny_comprehension_free (use:=none) rfl hs e S.kind S.loc (wK (hi j9 s U H _ I h) λv s1 h1=>wK h1 λitv s2 h2=>?_);obtain⟨it,fp,tn,J,H2,e,I2,T,st2,f2,q2⟩:=h2;subst e;refine Mf (Q:=Q) (RR:=λacc C=>compPost (model X.prog X.w) X.A X.xe none (EP X j9 U Q) acc C) hc I2 T st2 f2 S.kind S.cell fr S.cap c1 c2 S.vis hg ht he q2 ?_;intro D C H' s' I' q hm n1 n2 n3 n4 n5;obtain⟨m,hn⟩:=hm;exact#[m,hn,λh' hs'=>#[.ref D,H',I'.turned (λb o hb e=>(hs'.2 b hb).trans e) n1 n2 (.inr n3) n4 n5,rfl,q]]
theorem Ip {i:Nat}{x:Str}{pos' spos:Pos}(hN:X.N.Nodup)(hix:X.N[i]? =some x)(hx:X.env.scope.names.lookup x=some .local)(hc:X.calm=true)(hi:PI X n9 iter wi)(S:Sn X scope ys)(fr:HQ X.N ys js)
  (hg: ∀cl C fp s H,PG (X.comp (own++ys) scope cl C fp s H) n9 g) (ht: ∀cl C fp s H,PTs (X.comp (own++ys) scope cl C fp s H) ifs tt) (he: ∀cl C fp s H,PE (X.comp (own++ys) scope cl C fp s H) elt te)
  (hsw:autoParam (swapsWith (.ListComp elt [#[n9,iter,ifs,0]] scope pos) (some (.Name x pos')) spos.line X.env=pure true) L2.aE._auto_1)
  (hs:autoParam ( ∀x,foldedSetIterable iter X.env x=pure x) L2.aD._auto_1):PS X (.Assign [.Name x pos'] (.ListComp elt [#[n9,iter,ifs,0]] scope pos) spos) (λD U H=>Zg wi own.length js g tt te U H λv H1=>D.nx (U.set i (some v)) H1):=by
 refine#[?_];intro j9 s U H D I h;rw[exec_Assign_Name_used _ _ _ _ hsw];refine zD (ET (zD ?_));show wpAny _ X.A (do let _<-comprehension (.ListComp elt [#[n9,iter,ifs,0]] scope pos) scope X.env _ (newList []) false (eval iter X.env) (some (assign (.Name x pos') X.env))) _ _ s;obtain⟨cl,e,c1,c2⟩:=Mg (env:=X.env) (scope:=scope) λy hy hf=>I.ok.has y.1 (.inl (S.free y hy hf));refine zD (wK (wpAny_comprehension_free (use:=some (assign (.Name x pos') X.env)) (Q:=λ_ s'=>SP X j9 D .next s') rfl hs e S.kind S.loc
  (wK (hi j9 s U H _ I h) λv s1 h1=>wK h1 λitv s2 h2=>?_)) λ_ s' hq=>zZ (zZ hq))
 obtain⟨it,fp,tn,J,H2,e,I2,T,st2,f2,q2⟩:=h2;subst e;refine Mf (Q:=λv H1=>D.nx (U.set i (some v)) H1) (RR:=λacc C=>compPost (model X.prog X.w) X.A X.xe (some (assign (.Name x pos') X.env)) (λ_ s'=>SP X j9 D .next s') acc C) hc I2 T st2 f2 S.kind S.cell fr S.cap c1 c2 S.vis hg ht he q2 ?_;intro B C H' s' I' q hm n1 n2 n3 n4 n5;obtain⟨m,hn⟩:=hm;show wpAny _ X.A (assign (.Name x pos') X.env (.ref B)) _ _ _;refine wpAny_assign_Name (MR I' hN hix (.inl hx) (v:=.ref B) rfl (λs2 I2 hsb=>?_) (.inr hx));obtain⟨a,hsb,ha⟩:=hsb;have ne:C≠a:=by
  rcases ha with z|z
  ·rw[z];exact n2
  ·exact Ne.symm (n4 x a z)
 exact#[m,hn.sameBut hsb ne,λh' hs'=>#[_,H',I2.turned (λb o hb e=>(hs'.2 b hb).trans e) n1 n2 (.inr n3) n4 n5,q]]
end
section
variable {X:Cx}{x:Str}{p pos:Pos}{e:j6}{es:a6 j6}{t:TA}
def kP (mg:Str->i5 a9)(x:Str)(i:Int):Prop:= ∃t,mg x=some (.int i t)
theorem yH (hg:Gl X x)(hm:kP X.mg x i)(hd:autoParam ((x==("__debug__":Str))=false) L2.aB._auto_1):PE X (.Name x pos) (tC (.int i)):=by
 obtain⟨t,hm⟩:=hm;exact SQ (v:=.int i) hg hm #[t,rfl] hd
theorem Yk (hg:Gl X x)(hm:X.mg x=some (.ref a))(hd:autoParam ((x==("__debug__":Str))=false) L2.aB._auto_1):PE X (.Name x pos) (tC (.ref a)):=SQ (v:=.ref a) hg hm rfl hd
structure QH (P:i7)(w:j3)(K:a7)(mg:Str->Option a9)(base:j4)(CX:MI)(k:Nat)(x:Str)(ps:List Str)(sp:Sp):Prop where
 ex: ∃f fd,Dl P w K mg base CX k f fd ps sp/\mg x=some (.ref f)/\PySem.W.keepIn K (.ref f)=true/\uG K fd ps []
theorem zH (C:QH X.prog X.w X.K X.mg X.base CX k x ps sp)(hr:Ao n X.A)(hg:Gl X x)(ha:PA X (e::es) t)(hx:BY CX X E)(hk:autoParam (k<=n) L2.aH._auto_1)(hdb:autoParam ((x==("__debug__":Str))=false) L2.aB._auto_1)
  (he:autoParam (starEach (e::es) X.env=(false,eval e X.env)::starEach es X.env) L2.aE._auto_1) (hpl:autoParam ((backTo pos (starEach es X.env)).any (·.1)=false) L2.aE._auto_1):PE X (.Call (.Name x p) (e::es) [] pos) (Vq sp [] E t):=by
 obtain⟨f,fd,F,hm,kp,hb⟩:=C.ex;exact Ym F (hr.mono hk) hg hm kp hb .nil hx ha hdb he hpl
inductive Kj:List j6->List V->Prop where
 |nil:Kj [] []
 |int {i j pos es vs} (r:Kj es vs):Kj (.Constant (.int i) j pos::es) (.int i::vs)
 |str {x j pos es vs} (r:Kj es vs):Kj (.Constant (.str x) j pos::es) (.str x::vs)
theorem xU: ∀{es:a6 j6} {vs:a6 V},Kj es vs->PA X es (λ_ H Q=>Q vs H)
 |_,_,.nil=>#[λpos j9 s U H Q I h=>zB pos j9 s U H Q I h]
 |_,_,.int r=>#[λpos j9 s U H Q I h=>zA zI (xU r) (by rfl) pos j9 s U H Q I h]
 |_,_,.str r=>#[λpos j9 s U H Q I h=>zA zAg (xU r) (by rfl) pos j9 s U H Q I h]
def zCw (K:a7):a6 V->Hp->VK->Prop:=λxs H Q=>
 (∃x n t b,xs=[x,.ty n]/\Jv K H x t/\PySem.W.kitOne K t (.type n)=some b/\Q (.bl b) H)\/ ∃x C t b,xs=[x,.ref C]/\Jv K H x t/\PySem.W.kitOne K t (.ref C)=some b/\Q (.bl b) H
theorem UM (K:a7)(hK:X.K=K):Fq X (.builtin "isinstance") (zCw K):=by
 subst hK;intro j9 s U H xs us Q I r h
 rcases h with⟨x,n,t,b,rfl,ty,e,q⟩|⟨x,C,t,b,rfl,ty,e,q⟩
 ·obtain⟨u,w',rfl,ru,rw'⟩:=ML r;cases rw';exact Nj I ru ty e λtk=>#[.bl b,H,I.tok tk,rfl,q]
 ·obtain⟨u,w',rfl,ru,rw'⟩:=ML r;cases rw';exact Nj I ru ty e λtk=>#[.bl b,H,I.tok tk,rfl,q]
theorem En:Fq X (.builtin "isinstance") (zCw X.K):=UM X.K rfl
theorem Jo (K:a7)(hK:X.K=K):IxR X (ZZ K):=hK▸jB
theorem Jn (K:a7)(hK:X.K=K):IxR X (ZY K):=hK▸xL
theorem MF (K:a7)(hK:X.K=K):Fq X (.builtin "len") (λxs H Q=> ∃p ys,xs=[.ref p]/\(kN K H p ys\/Ax K H p ys)/\Q (.int ys.length) H):=hK▸xA
end
theorem kO:bootBuiltins "len"=some (.builtin "len"):=PySem.boot_len
theorem wL:bootBuiltins "isinstance"=some (.builtin "isinstance"):=by decide+kernel
theorem Sa:bootBuiltins "int"=some (.type "int"):=by decide+kernel
theorem Tq:bootBuiltins "bool"=some (.type "bool"):=by decide+kernel
theorem KU:bootBuiltins "list"=some (.type "list"):=by decide+kernel
theorem Hc:bootBuiltins "tuple"=some (.type "tuple"):=by decide+kernel
theorem Kv:bootBuiltins "reversed"=some (.type "reversed"):=by decide+kernel
theorem UO:bootBuiltins "sorted"=some (.builtin "sorted"):=by decide+kernel
theorem small (h:n<=1000):n<=sizeLine:=BO (Fc h)
theorem zz0:0<=sizeLine:=small (by decide)
theorem sm1:1<=sizeLine:=small (by decide)
theorem sm2:2<=sizeLine:=small (by decide)
theorem sm3:3<=sizeLine:=small (by decide)
theorem sm4:4<=sizeLine:=small (by decide)
theorem u5:5<=sizeLine:=small (by decide)
theorem u7:7<=sizeLine:=small (by decide)
theorem zM (h:H p=none)(o:HO):xJ H (upd H p o):=λb u q=>by rw[yJ (yQ q h)];exact q
def UZ (K:a7)(H:Hp)(a:i4)(ns:a6 Int):Prop:=
 (∃o,H a=some (.frz o (.lst (ns.map V.int))))\/
  ∃(o:j8) (its:j7 a9) (n:Nat),K.lookup a=some o/\o.cls=.type "list"/\o.dict=none/\o.data=.seq its n/\its.size<=sizeLine/\kE (ns.map V.int) its.toList
theorem UZ.sq {K:a7}{H:Hp}{a:i4}{ns:a6 Int}(h:UZ K H a ns):kN K H a (ns.map V.int):=by
 rcases h with h|h
 ·exact .inl (.inr h)
 ·exact .inr h
theorem UZ.of {K:a7}{H:Hp}{a:i4}{ns:a6 Int}(hO:Za H)(h:kN K H a (ns.map V.int)):UZ K H a ns:=by
 rcases h with(h|h)|h
 ·rcases hO a with z|⟨o,xs,z⟩
  ·rw[h]at z;cases z
  ·rw[h]at z;cases z
 ·exact .inl h
 ·exact .inr h
def qE (st:i4)(H H':Hp):Prop:= ∀b o,b≠st->H b=some o->H' b=some o
theorem qE.refl (st:i4)(H:Hp):qE st H H:=λ_ _ _ e=>e
theorem qE.trans {st:i4}{H H1 H2:Hp}(a:qE st H H1)(b:qE st H1 H2):qE st H H2:=λc o n e=>b c o n (a c o n e)
theorem qE.same {st:i4}{H H1:Hp}(a:xJ H H1):qE st H H1:=λc o _ e=>a c o e
theorem qE.upd {st:i4}{H:Hp}{o:HO}:qE st H (upd H st o):=λc u n e=>by rw[yJ n];exact e
theorem qE.new {st p:i4}{H:Hp}(o:HO)(h:H p=none):qE st H (L2.upd H p o):=qE.same (zM h o)
theorem UZ.keep {K:a7}{H H':Hp}{a st:i4}{ns:a6 Int}{xs:a6 V}(h:UZ K H a ns)(hst:H st=some (.lst xs))(k:qE st H H'):UZ K H' a ns:=by
 rcases h with⟨o,h⟩|h
 ·exact .inl #[o,k a _ (λz=>by rw[z,hst]at h;cases h) h]
 ·exact .inr h
def AF (K:a7)(H:Hp)(st:i4):Prop:= ∃a ns k c,H st=some (.lst [.ref a,.int k,.int c])/\UZ K H a ns/\ns.length<=63/\0<=k/\0<=c
structure Drawn (K:a7)(st:i4)(H H':Hp):Prop where
 draw:AF K H' st
 keep:qE st H H'
theorem Drawn.trans {K:a7}{st:i4}{H H1 H2:Hp}(a:Drawn K st H H1)(b:Drawn K st H1 H2):Drawn K st H H2:=#[b.draw,a.keep.trans b.keep]
theorem AF.refl {K:a7}{st:i4}{H:Hp}(d:AF K H st):Drawn K st H H:=#[d,qE.refl st H]
theorem AF.ne {K:a7}{st b:i4}{H:Hp}(d:AF K H st)(h:H b=none):st≠b:=by
 obtain⟨a,ns,k,c,e,_⟩:=d;exact yQ e h
theorem AF.same {K:a7}{st:i4}{H H':Hp}(d:AF K H st)(h:xJ H H'):AF K H' st:=by
 obtain⟨a,ns,k,c,e,s,r⟩:=d;exact#[a,ns,k,c,h _ _ e,s.keep e (qE.same h),r]
theorem AF.new {K:a7}{st p:i4}{H:Hp}(d:AF K H st)(h:H p=none)(o:HO):Drawn K st H (upd H p o):=#[d.same (zM h o),qE.new o h]
theorem AF.put {K:a7}{st p:i4}{H:Hp}{xs ys:a6 V}(d:AF K H st)(hp:H p=some (.lst xs))(n:p≠st):AF K (upd H p (.lst ys)) st:=by
 obtain⟨a,ns,k,c,e,s,r⟩:=d;refine#[a,ns,k,c,(by rw[yJ (Ne.symm n)];exact e),?_,r]
 rcases s with⟨o,s⟩|s
 ·exact .inl #[o,by rw[yJ (λz=>by rw[z,hp]at s;cases s)];exact s]
 ·exact .inr s
inductive Fz (K:a7) (vs:List V) (H:Hp) (Q:VK) (E:XK):Prop
 |mk (st:i4) (many:Int) (h0:vs=[.ref st,.int many]) (h1:0<many) (h2:many<1073741824) (h3:AF K H st) (h4: ∀(r:Int) (H':Hp),0<=r->r<many->Drawn K st H H'->Q (.int r) H'):Fz K vs H Q E
inductive OS (K:a7) (vs:List V) (H:Hp) (Q:VK) (E:XK):Prop
 |mk (a:i4) (ns:List Int) (h0:vs=[.ref a]) (h1:UZ K H a ns) (h2:ns.length<=63) (h3: ∀H',Q (.bl true) H'):OS K vs H Q E
theorem YW {ns:a6 Int}{k:Int}(h0:0<=k)(h:k<(ns.length:Int)): ∃v:Int,IF (ns.map V.int) k=some (.int v):=by
 have hk:k.toNat<ns.length:=()
 have q:IF (ns.map V.int) ((k.toNat:Nat):Int)=some (.int ns[k.toNat]):=kK (by rw[zW,zF hk]<;>rfl);rw[show((k.toNat:Nat):Int)=k by lia]at q;exact#[_,q]
theorem HS {U:St}{H:Hp}{A B:Hp->Prop}(h:A H):QL U H λb H4=>if b=true then A H4 else B H4:=by
 show if true=true then A H else B H;exact jI h
def XC (n:Nat)(fs:St)(Pv:Nat->a6 V->Hp->Prop)(i m:Nat)(U:St)(H:Hp):Prop:=i<=n/\m=n-i/\(∃v,U=v::fs)/\ ∃ys,Pv i ys H
theorem Xo {lo:Int}{n:Nat}{fs:St}{tt:TT}{te:TE}{R:Hp->Prop}{p:i4}{H0:Hp}(Pv:Nat->a6 V->Hp->Prop)(h0:Pv 0 [] H0)
  (hs: ∀i ys H,i<n->Pv i ys H->tt (some (.int (lo+(i:Nat)))::fs) H λb H4=>
   if b=true then te (some (.int (lo+(i:Nat)))::fs) H4 λv H5=> ∃ys,H5 p=some (.lst ys)/\ys.length<sizeLine/\ ∃m',m'<n-i/\XC n fs Pv (i+1) m' (some (.int (lo+(i:Nat)))::fs) (upd H5 p (.lst (ys++[v])))
   else ∃m',m'<n-i/\XC n fs Pv (i+1) m' (some (.int (lo+(i:Nat)))::fs) H4)
  (hd: ∀ys H,Pv n ys H->R H):IC (ZE lo n) p (none::fs) H0 (wI 0) tt te R:=by
 refine#[XC n fs Pv,#[n,xE _,rfl,#[-1],[],h0],λi m U' H' w=>?_];obtain⟨hi,rfl,⟨v,rfl⟩,ys,hp⟩:=w
 by_cases o5:i<n
 ·refine .inr #[o5,λx H2 y=>?_];obtain⟨rfl,rfl⟩:=y;exact hs i ys _ o5 hp
 ·have:i=n:=()
  subst this;exact .inl #[zO _,hd ys H' hp]
theorem RN {K:a7}{t:a9}{n:String}{b:i8}(h:PySem.W.subIn K t (.type n)=some b)(h1:autoParam ((t==Value.type n)=false) L2.aB._auto_1)(h2:autoParam (PySem.W.kitMeta n=true) L2.aK._auto_1):PySem.W.kitOne K t (.type n)=some b:=by
 unfold PySem.W.kitOne PySem.W.kitCls;rw[h1];simp only[Bq,Fs,h2,DU];exact h
theorem Fi {K:a7}{t:a9}(h:autoParam ((t==t)=true) L2.aB._auto_1):PySem.W.kitOne K t t=some true:=by
 unfold PySem.W.kitOne;rw[zQ h]
theorem ZR {K:a7}{a:i4}{its:j7 a9}{n:Nat}{sl:j7 (i5 a9)}{dd:i5 i4}{xs:a6 V}(h:K.lookup a=some #[.type "tuple",dd,.seq its n,sl])(hz:its.size<=sizeLine)(r:kE xs its.toList)(H:Hp):Ax K H a xs:=
 .inr #[_,its,n,h,rfl,rfl,hz,r]
noncomputable def ExO (x C:i4)(od:i5 i4):HO:=.ext λh=> ∃o vs,h.get? x=some o/\o.cls=.ref C/\o.dict=od/\o.data=.fields vs/\6<=vs.size
noncomputable def ExN (x C:i4)(od:i5 i4):HO:=.ext λh=> ∃o vs,h.get? x=some o/\o.cls=.ref C/\o.dict=od/\o.data=.fields vs/\6<=vs.size/\vs[1]? =some .none
noncomputable def XdO (dx:i4)(fs:a6 (Str×V)):HO:=.ext λh=> ∃mA,h.Ns1 dx mA/\(∀f,He (fs.lookup f) (mA f))/\PySem.Within mA (fs.map (·.1))
def zId (X:Cx)(j9:a6 (i4×j8))(H:Hp)(T:i4):Prop:=H T=none/\X.s₀.heap.objs.size<=T/\T≠X.env.locals/\ ∀p∈X.pn++j9,p.1≠T
def Tb (X:Cx)(j9:a6 (i4×j8))(H:Hp)(x:i4)(h:j4):Prop:=
 ∃oe vs,h.get? x=some oe/\oe.data=.fields vs/\(vs[1]? =some .none\/ ∃T oT ts fl,vs[1]? =some (.ref T)/\T≠x/\zId X j9 H T/\h.get? T=some oT/\oT.data=.fields ts/\ts[3]? =some fl/\(fl=.none\/fl=rawInt X.env.locals))
def Hh (P:i7)(w:j3):MI:=λouter H s E e s'=> ∃x C d H',e=.ref x/\s'.os=s.os/\AllBare s'.gens/\Un (frs outer) [] H H' s.heap s'.heap/\IB P w H' s'.heap/\H' x=some (ExO x C d)/\
 (∃oe vs T oT ts,s'.heap.get? x=some oe/\oe.data=.fields vs/\vs[1]? =some (.ref T)/\T≠x/\H' T=none/\s.heap.objs.size<=T/\s'.heap.get? T=some oT/\oT.data=.fields ts/\ts[3]? =some .none)/\E (.ref C) d H'
theorem Qt (h:Hh P w outer H s (λ_ _ _=>False) e s'):False:=by
 obtain⟨_,_,_,_,_,_,_,_,_,_,_,z⟩:=h;exact z
def zIh (X:Cx)(E:XK):a9->i6->Prop:=λe s1=> ∃x C d j9 U H,e=.ref x/\xZ X j9 U H s1/\H x=some (ExO x C d)/\Tb X j9 H x s1.heap/\E (.ref C) d H
noncomputable abbrev Cx.exc (X:Cx)(E:XK):Cx:=X.wish (zIh X E)
section
variable {X:Cx}{E:XK}
theorem zV:BY (Hh P w) X E0:=λ_ _ _ _ _ _ _ h=>(Qt h).elim
end
section
variable {P:i7}{w:j3}{K:a7}{mg:Str->i5 a9}{base:j4}
theorem qT.okN {CX:MI}{x qual:Str}{st:i9}{f:i4}{fd:FuncData}{N ps:a6 Str}{k:Nat}{sp:Sp}(F:qT K x qual st f fd)(S:yT N ps (zS st))(len: ∀vs H Q E,sp vs H Q E->vs.length=ps.length)
  (hbody: ∀(cdv:a9) (A:j5) (outer:a6 Env) (s:i6) (H:Hp) (vs:a6 V) (Q:VK) (E:XK),Ao k (A.deeper (envOfC qual (zS st) s.heap.objs.size f cdv))->sp vs H Q E->
   ∃t,QG (Qu CX P w K mg base N qual (zS st) f cdv A outer s H E).nox (vL st) t/\t {nx:=λ_ H'=>Q .non H',rt:=Q} (IL N vs) H):Dl P w K mg base CX (k+1) f fd ps sp:=by
 obtain⟨oc,od,kV,doc,pm,an,cdv,ct,osl,rfl,lk,hcd⟩:=F.ex;refine zDp lk hcd S len λA outer s H vs Q E hr hsp=>?_;obtain⟨t,h,q⟩:=hbody cdv A outer s H vs Q E hr hsp;exact#[t,h.nox,q]
end
noncomputable def behind (D:Fp)(i:Nat):Fp:={nx:=λU H=>D.nx (U.set i none) H,rt:=D.rt,bk:=λU H=>D.bk (U.set i none) H,ct:=λU H=>D.ct (U.set i none) H}
theorem Paired.get {xs:a6 α}{ys:a6 β}(h:Paired F xs ys): ∀(j:Nat) (x:α) (y:β),xs[j]? =some x->ys[j]? =some y->F x y:=by
 induction h with
 |nil=>intro j x y h;simp at h
 |cons r t ih=>
 intro j x y h q;cases j with
 |zero=>simp at h q;subst h;subst q;exact r
 |succ j=>exact ih j x y (by simpa using h) (by simpa using q)
theorem Paired.len {xs:a6 α}{ys:a6 β}(h:Paired F xs ys):xs.length=ys.length:=by
 induction h with
 |nil=>rfl
 |cons r t ih=>simp[ih]
theorem Paired.imp {α β:Type}{F G:α->β->Prop}(h: ∀x y,F x y->G x y): ∀{xs:a6 α} {ys:a6 β},Paired F xs ys->Paired G xs ys
 |_,_,.nil=>.nil
 |_,_,.cons r t=>.cons (h _ _ r) (Paired.imp h t)
section
variable {X:Cx}{j9:a6 (i4×j8)}{U:St}{H:Hp}{s:i6}
def ZH (i j:Int):Prop:=0<j/\j.natAbs.log2<8000
theorem GS:HC X (binaryOp .FloorDiv) (rI ZH λi j=>.int (i / j)):=opI λi j _ _ _ _ _ hc q=>by
 rw[<-Int.fdiv_eq_ediv_of_nonneg i (by have:=hc.1;lia)]at q;exact floordiv_int (by have:=hc.1;lia) q (.inl (EX (by have:=hc.2;lia)))
def zFj (t:TS):TS:=λD U H=> ∃P:St->Hp->Prop,t {D with nx:=P} U H/\ ∀U' H',P U' H'->D.nx U' H'
theorem DB {st:i9}{t:TS}(h:PS X st t):PS X st (zFj t):=by
 refine#[?_];intro j9 s U H D I hw;obtain⟨P,h1,h2⟩:=hw;refine AG (h j9 s U H _ I h1) (λf s' q=>?_) λ_ _ z=>z;cases f with
 |next=>obtain⟨U1,H1,I1,q⟩:=q;exact#[U1,H1,I1,h2 _ _ q]
 |brk=>exact q
 |cont=>exact q
 |ret u=>exact q
structure MH (P:i7)(w:j3)(K:a7)(mg:Str->Option a9)(base:j4)(CX:MI)(k:Nat)(C:i4)(m:Str)(ps:List Str)(sp:Sp):Prop where
 ex: ∃f fd,Dl P w K mg base CX k f fd ps sp/\So K C/\Zb K C m f/\uG K fd ps []
end
section
variable {X:Cx}{o e:j6}{es:a6 j6}{m:Str}{o8 pos:Pos}{ta:TE}{t:TA}{E:XK}{C:i4}
theorem CY (he:PE X o ta)(G:MH X.prog X.w X.K X.mg X.base CX k C m ps sp)(hr:Ao n X.A)(ha:PA X (e::es) t)(hx:BY CX X E)(hk:autoParam (k<=n) L2.aH._auto_1)
  (hst:autoParam (starEach (e::es) X.env=(false,eval e X.env)::starEach es X.env) L2.aE._auto_1) (hpl:autoParam ((backTo pos (starEach es X.env)).any (·.1)=false) L2.aE._auto_1)
  (ht:autoParam (eval (.Call (.Attribute o m o8) (e::es) [] pos) X.env=(do
   let ov<-eval o X.env
   standAt o8.atName
   let(f,first)<-holding [ov] (getMethod ov m pl)
   callWith pos f first (backTo pos (starEach (e::es) X.env)) (backToKw pos (keywordEach [] X.env)))) L2.aE._auto_1):
  PE X (.Call (.Attribute o m o8) (e::es) [] pos) (Sv C m sp [] E ta t):=by
 obtain⟨f,fd,F,c,hm,hb⟩:=G.ex;exact Yi he c hm F (hr.mono hk) hb .nil hx ha hst hpl ht
theorem MW (he:PE X o ta)(G:MH X.prog X.w X.K X.mg X.base CX k C m ps sp)(hr:Ao n X.A)(hx:BY CX X E)(hk:autoParam (k<=n) L2.aH._auto_1)
  (ht:autoParam (eval (.Call (.Attribute o m o8) [] [] pos) X.env=(do
   let ov<-eval o X.env
   standAt o8.atName
   let(f,first)<-holding [ov] (getMethod ov m pl)
   callWith pos f first (backTo pos (starEach [] X.env)) (backToKw pos (keywordEach [] X.env)))) L2.aE._auto_1):
  PE X (.Call (.Attribute o m o8) [] [] pos) (Sv C m sp [] E ta Mp):=by
 obtain⟨f,fd,F,c,hm,hb⟩:=G.ex;exact VR he c hm F (hr.mono hk) hb .nil hx ht
structure QD (P:i7)(w:j3)(K:a7)(mg:Str->Option a9)(base:j4)(CX:MI)(k:Nat)(x:Str)(C:i4)(ps:List Str)(sp:Sp):Prop where
 ex: ∃f fd,Mk K C f/\Dl P w K mg base CX k f fd ps sp/\mg x=some (.ref C)/\uG K fd ps []
theorem Pn (G:QD X.prog X.w X.K X.mg X.base CX k x C ps sp)(hr:Ao n X.A)(hg:Gl X x)(ha:PA X (e::es) t)(hx:BY CX X E)(hk:autoParam (k+1<=n) L2.aH._auto_1)
  (hdb:autoParam ((x==("__debug__":Str))=false) L2.aB._auto_1) (he:autoParam (starEach (e::es) X.env=(false,eval e X.env)::starEach es X.env) L2.aE._auto_1) (hpl:autoParam ((backTo pos (starEach es X.env)).any (·.1)=false) L2.aE._auto_1):
  PE X (.Call (.Name x p) (e::es) [] pos) (Sw C sp [] E t):=by
 obtain⟨f,fd,M,F,hm,hb⟩:=G.ex;exact Yj M F (hr.mono hk) hg hm hb .nil hx ha hdb he hpl
end
end L2
namespace L2
open PySem
abbrev Ev:=a6 (Int×Int)
inductive Nd where
 |mk (kind:Int) (place:Nat) (own:List Int) (parts:List Nd)
noncomputable def partsN:a6 Int:=[1,2,2,2,2,2,2,2,2,2,3,1,0]
noncomputable def Fk (heads:Ev)(k:Int)(own:a6 Int):Int:=
 if k=0\/k=1 then 0 else if k=2 then 1 else if k=3 then own.headD 0 else if k=4 then 1+own.headD 0 else if k=5 then 2 else if k=6 then(heads.getD (own.headD 0).toNat (0,0)).1 else partsN.getD (k-7).toNat 0
def jW (H:Hp):Nat->V->Nd->Prop
 |0,_,_=>False
 |d+1,v,.mk k p own ps=> ∃t o q vs,v=.ref t/\H t=some (.tup [.int k,.int p,.ref o,.ref q])/\H o=some (.tup (own.map V.int))/\H q=some (.tup vs)/\Paired (jW H d) vs ps
def US (H:Hp)(v:V)(f:(Int×Int)×Nd):Prop:= ∃t b,v=.ref t/\H t=some (.tup [.int f.1.1,.int f.1.2,b])/\jW H 10 b f.2
def Jx (H:Hp)(l:i4)(r:Ev×a6 Nd):Prop:= ∃rs,H l=some (.lst rs)/\r.1.length=r.2.length/\Paired (US H) rs (r.1.zip r.2)
def Ki (H:Hp)(v:V)(h:Int×Int):Prop:= ∃t,v=.ref t/\H t=some (.tup [.int h.1,.int h.2])
def Ga (H:Hp)(hd:i4)(hs:Ev):Prop:= ∃rs,H hd=some (.lst rs)/\Paired (Ki H) rs hs
noncomputable def Bd (CL dx a:i4)(p:Nat):HO:=.ins CL dx [("numbers",.ref a),("place",.int p)]
def vN (H H':Hp):Prop:= ∀b xs,H b=some (.tup xs)->H' b=some (.tup xs)
theorem vN.same (h:xJ H H'):vN H H':=λ_ _ e=>h _ _ e
theorem vN.keep (e:H lk=some (Bd CL dx a p))(k:qE lk H H'):vN H H':=λb xs q=>k b _ (λz=>by rw[z,e]at q;cases q) q
theorem jW.tups (h:vN H H'): ∀{d:Nat} {v:V} {n:Nd},jW H d v n->jW H' d v n
 |0,_,_,z=>z.elim
 |d+1,v,.mk k p own ps,z=>by obtain⟨t,o,q,vs,e,h1,h2,h3,r⟩:=z;exact#[t,o,q,vs,e,h _ _ h1,h _ _ h2,h _ _ h3,Paired.imp (λ_ _ z=>jW.tups h z) r]
theorem Ki.tups (h:vN H H'):Ki H v n->Ki H' v n:=fun⟨t,e,q⟩=>#[t,e,h _ _ q]
theorem US.tups (h:vN H H'):US H v n->US H' v n:=fun⟨t,b,e,q,z⟩=>#[t,b,e,h _ _ q,z.tups h]
theorem Ga.keep (e:H lk=some (Bd CL dx a p))(k:qE lk H H')(h:Ga H hd hs):Ga H' hd hs:=by
 obtain⟨rs,q,r⟩:=h;exact#[rs,k hd _ (λz=>by rw[z,e]at q;cases q) q,Paired.imp (λ_ _ z=>z.tups (.keep e k)) r]
theorem Jx.same (h:xJ H H'):Jx H l r->Jx H' l r:=fun⟨rs,q,e,z⟩=>#[rs,h _ _ q,e,Paired.imp (λ_ _ y=>y.tups (.same h)) z]
def zEp (CN lk:i4)(H:Hp)(E:XK)(p:Nat)(w:Str):Prop:= ∀d H',qE lk H H'->H' d=some (XdO d [("place",.int p),("word",.str w)])->E (.ref CN) (some d) H'
def Looks (CL:i4)(H:Hp)(lk dx a:i4)(p:Nat)(ns:a6 Int):Prop:=H lk=some (Bd CL dx a p)/\H a=some (.lst (ns.map V.int))
theorem Looks.go (l:Looks CL H lk dx a p ns)(k:qE lk H H')(e:H' lk=some (Bd CL dx a p')):Looks CL H' lk dx a p' ns:=
 #[e,k a _ (λz=>by have:=l.1;rw[<-z,l.2]at this;cases this) l.2]
inductive SD (C:i4) (vs:List V) (H:Hp) (Q:VK) (E:XK):Prop
 |mk (x y z:_) (h0:vs=[.ref x,y,z]) (h1:H x=some (ExN x C none)) (h2: ∀d H',d≠x->H d=none->(∀b o,b≠x->H b=some o->H' b=some o)->H' x=some (ExN x C (some d))->H' d=some (XdO d [("place",y),("word",z)])->Q .non H'):SD C vs H Q E
inductive NI (CL:i4) (vs:List V) (H:Hp) (Q:VK) (E:XK):Prop
 |mk (x dx a:_) (h0:vs=[.ref x,.ref a]) (h1:H x=some (.ins CL dx [])) (h2: ∀H',qE x H H'->H' x=some (Bd CL dx a 0)->Q .non H'):NI CL vs H Q E
inductive Hj (vs:List V) (H:Hp) (Q:VK) (E:XK):Prop
 |mk (i:Int) (h0:vs=[.int i]) (h1:Q (.bl true) H):Hj vs H Q E
def Xx (heads:Ev)(k:Int)(own:a6 Int):Prop:=0<=k/\k<=19/\(k=3\/k=4\/k=6-> ∃n,own=[n]/\0<=n/\(k=6->n<heads.length)/\(k≠6->n<=12))
def XB (hs:Ev):Prop:= ∀h∈hs,0<=h.1/\h.1<=4
inductive SE (vs:List V) (H:Hp) (Q:VK) (E:XK):Prop
 |mk (k t own hd hs:_) (h0:vs=[.int k,.ref t,.ref hd]) (h1:H t=some (.tup (own.map V.int))) (h2:Ga H hd hs) (h3:Xx hs k own) (h4:Q (.int (Fk hs k own)) H):SE vs H Q E
theorem Ub: ∀k:Nat,0<=partsN.getD k 0/\partsN.getD k 0<=3:=by
 intro k
 by_cases h:k<13
 ·have: ∀k:Fin 13,0<=partsN.getD k.1 0/\partsN.getD k.1 0<=3:=by decide
  exact this #[k,h]
 ·have:partsN[k]? =none:=wE (by show 13<=k;lia);rw[yU,this];decide
theorem zBd (o:Xx hs k own)(hh:XB hs):0<=Fk hs k own/\Fk hs k own<=13:=by
 obtain⟨h0,h1,h2⟩:=o;unfold Fk
 by_cases c1:k=0\/k=1
 ·rw[zQ c1];decide
 rw[zN c1]
 by_cases c2:k=2
 ·rw[zQ c2];decide
 rw[zN c2]
 by_cases c3:k=3
 ·rw[zQ c3];obtain⟨n,rfl,a,_,b⟩:=h2 (.inl c3);have:=b ();show 0<=n/\n<=13;lia
 rw[zN c3]
 by_cases c4:k=4
 ·rw[zQ c4];obtain⟨n,rfl,a,_,b⟩:=h2 (.inr (.inl c4));have:=b ();show 0<=1+n/\1+n<=13;lia
 rw[zN c4]
 by_cases c5:k=5
 ·rw[zQ c5];decide
 rw[zN c5]
 by_cases c6:k=6
 ·rw[zQ c6];obtain⟨n,rfl,a,b,_⟩:=h2 (.inr (.inr c6));have hn:=b c6;show 0<=(hs.getD n.toNat (0,0)).1/\(hs.getD n.toNat (0,0)).1<=13;have hl:n.toNat<hs.length:=()
  rw[yU,zF hl];have:=hh _ (wH hl);simp only[Option.getD_some];lia
 rw[zN c6];have:=Ub (k-7).toNat;lia
theorem qE.fresh (k:qE lk H H')(h:H hd=none):qE lk H (L2.upd H' hd o):=λb u nb e=>by rw[yJ (yQ e h)];exact k b u nb e
theorem vN.upd (h:H b=some (.lst ys)):vN H (L2.upd H b o):=λc xs e=>by rw[yJ (λz=>by rw[z,h]at e;cases e)];exact e
theorem vN.trans (a:vN H H1)(b:vN H1 H2):vN H H2:=λc xs e=>b c xs (a c xs e)
theorem vN.new (h:H b=none):vN H (L2.upd H b o):=.same (zM h o)
theorem zHb (f:zEp C lk H E p w)(k:qE lk H H1): ∀x,H1 x=none->
  SD C [.ref x,.int (p:Int),.str w] (upd H1 x (ExN x C none)) (λv H2=>v=.non/\ ∃d,H2 x=some (ExN x C (some d))/\E (.ref C) (some d) (upd H2 x (ExO x C (some d)))) E':=by
 intro x hx;refine#[x,_,-1,upd_same,λd H' dx hd kp ex ed=>#[rfl,d,ex,f d _ (λb o nb e=>?_) ?_]]
 ·have e1:=k b o nb e;have nx:b≠x:=yQ e1 hx;rw[yJ nx];exact kp b o nx (by rw[yJ nx];exact e1)
 ·rw[yJ dx];exact ed
def Sub (ns:a6 Int):Nat->a6 Int->Prop
 |_,[]=>True
 |p,z::zs=>ns[p]? =some z/\Sub ns (p+1) zs
theorem Sub.append: ∀{xs ys:a6 Int} {p:Nat},Sub ns p (xs++ys)->Sub ns p xs/\Sub ns (p+xs.length) ys
 |[],_,_,h=>#[trivial,h]
 |x::xs,ys,p,h=>by
  have q:=Sub.append h.2;refine#[#[h.1,q.1],?_];rw[show p+(x::xs).length =p+1+xs.length by simp;lia];exact q.2
theorem Sub.behind: ∀(zs pre:a6 Int),Sub (pre++zs) pre.length zs
 |[],_=>trivial
 |z::zs,pre=>by
  refine#[by simp,?_];have:=Sub.behind zs (pre++[z])
  simpa using this
def Bn (hs:Ev)(boxes k:Int)(own:a6 Int):Prop:=
 (k=0/\ ∃n,own=[n])\/((k=1\/k=2)/\ ∃n,own=[n]/\0<=n/\n<=boxes-1)\/(k=3/\ ∃n,own=[n]/\1<=n/\n<=12)\/(k=4/\ ∃n,own=[n]/\2<=n/\n<=12)\/(k=6/\ ∃n,own=[n]/\0<=n/\n<=(hs.length:Int)-1)\/((k=5\/7<=k)/\own=[])
structure HD (hs:Ev):Prop where
 lo:1<=hs.length
 hi:hs.length<=16
 all: ∀(i:Nat) (h:Int×Int),hs[i]? =some h->0<=h.1/\h.1<=4/\h.1<=h.2/\h.2<=12/\(i=0->h.1=0)
theorem HD.ok (g:HD hs):XB hs:=λh m=>by
 obtain⟨i,e⟩:=List.getElem?_of_mem m;have:=g.all i h e;lia
noncomputable def zHp:Ev->a6 Int
 |[]=>[]
 |h::r=>h.1::h.2::zHp r
theorem zHq (h0:0<j)(h1:j<2^256):ZH i j:=by
 refine#[h0,?_];have:j.natAbs.log2<256:=(Nat.log2_lt ()).mpr ();lia
theorem Drawn.free (d:Drawn K st H H')(h:H' p=none):H p=none:=by
 cases e:H p with
 |none=>rfl
 |some o=>
  by_cases z:p=st
  ·obtain⟨a,ns,k,c,e',_⟩:=d.draw;rw[z,e']at h;cases h
  ·rw[d.keep p o z e]at h;cases h
def CW (n:Nat)(Pv:Nat->St->Hp->Prop)(i m:Nat)(U:St)(H:Hp):Prop:=i<=n/\m=n-i/\Pv i U H
theorem CW.next (hi:i<n)(h:Pv (i+1) U H): ∃m',m'<n-i/\CW n Pv (i+1) m' U H:=#[n-(i+1),(),(),rfl,h]
theorem Me (Pv:Nat->St->Hp->Prop)(h0:Pv 0 U0 H0)(hl: ∀i U H,i<=xs.length->Pv i U H->Ax K H a xs)
  (hs: ∀i x U H,i<xs.length->xs[i]? =some x->Pv i U H->g x U H λU3 H3=>tt U3 H3 λb H4=>
   if b=true then te U3 H4 λv H5=> ∃ys,H5 p=some (.lst ys)/\ys.length<sizeLine/\ ∃m',m'<xs.length-i/\CW xs.length Pv (i+1) m' U3 (upd H5 p (.lst (ys++[v])))
   else ∃m',m'<xs.length-i/\CW xs.length Pv (i+1) m' U3 H4)
  (hd: ∀U H,Pv xs.length U H->R H):IC (ZD K a) p U0 H0 g tt te R:=by
 refine#[CW xs.length Pv,#[_,xE _,rfl,h0],λi m U' H' w=>?_];obtain⟨hi,rfl,hp⟩:=w;have q:=hl i U' H' hi hp
 by_cases o5:i<xs.length
 ·refine .inr #[#[xs,xs[i],q,by simp[o5]],λx H2 y=>?_];obtain⟨e,y⟩:=y;subst e;exact hs i x U' _ o5 (y xs q) hp
 ·have e:i=xs.length:=()
  subst e;exact .inl #[#[xs,q,zO _],hd U' H' hp]
theorem AD (Pv:Nat->St->Hp->Prop)(h0:Pv 0 U0 H0)(hl: ∀i U H,i<=xs.length->Pv i U H->kN K H a xs)
  (hs: ∀i x U H,i<xs.length->xs[i]? =some x->Pv i U H->g x U H λU3 H3=>tt U3 H3 λb H4=>
   if b=true then te U3 H4 λv H5=> ∃ys,H5 p=some (.lst ys)/\ys.length<sizeLine/\ ∃m',m'<xs.length-i/\CW xs.length Pv (i+1) m' U3 (upd H5 p (.lst (ys++[v])))
   else ∃m',m'<xs.length-i/\CW xs.length Pv (i+1) m' U3 H4)
  (hd: ∀U H,Pv xs.length U H->R H):IC (ZF K a) p U0 H0 g tt te R:=by
 refine#[CW xs.length Pv,#[_,xE _,rfl,h0],λi m U' H' w=>?_];obtain⟨hi,rfl,hp⟩:=w;have q:=hl i U' H' hi hp
 by_cases o5:i<xs.length
 ·refine .inr #[#[xs,xs[i],q,by simp[o5]],λx H2 y=>?_];obtain⟨e,y⟩:=y;subst e;exact hs i x U' _ o5 (y xs q) hp
 ·have e:i=xs.length:=()
  subst e;exact .inl #[#[xs,q,zO _],hd U' H' hp]
end L2
namespace L2
open PySem PySem.Spec PyProof.Rows PySem.W
theorem Xe {P:i7}{w:j3}{K:Frag}{mg:Str->i5 a9}{base:j4}{CX:MI}{k:Nat}{f:i4}{fd:FuncData}{ps:a6 Str}:Dl P w K mg base CX k f fd ps (λ_ _ _ _=>False):=
 #[λ_ _ _ _ z=>z.elim,λ_ _ _ _ _ _ _ _ _ _ _ _ _ z=>z.elim]
theorem xG {CX:MI}{P:i7}{w:j3}{K:a7}{mg:Str->i5 a9}{base:j4}{N:a6 Str}{qual:Str}{scope:Scope}{f:i4}{cd:a9}{A:j5}{outer:a6 Env}{s:i6}{H:Hp}{E:XK}:
  (Qu CX P w K mg base N qual scope f cd A outer s H E).K =K:=rfl
def Dg (K:Frag)(g x q:Str)(st:i9)(f:i4):Prop:=nsIn K mainGlobals g=some (some (.ref f))/\ ∃fd,qT K x q st f fd
def Dm (K:Frag)(c:i4)(x q:Str)(st:i9)(f:i4):Prop:=findIn K (.ref c) x=some (some (.ref f))/\ ∃fd,qT K x q st f fd
theorem dg_mk {K:Frag}{g x q:Str}{st:i9}{f:i4}{oc:a9}{od an:i5 i4}{osl:j7 (i5 a9)}{kV doc pm cdv ct:a9}(a:nsIn K mainGlobals g=some (some (.ref f)))(l:K.lookup f=some #[oc,od,.func (fnOf x q (uJ st) (vL st) (zS st) .none kV doc pm an cdv ct),osl])(c:codeIn K cdv q=true)(k:keepIn K (.ref f)=true):Dg K g x q st f:=
 #[a,_,Xa l c k]
theorem dm_mk {K:Frag}{C:i4}{x q:Str}{st:i9}{f:i4}{oc:a9}{od an:i5 i4}{osl:j7 (i5 a9)}{kV doc pm cdv ct:a9}(a:findIn K (.ref C) x=some (some (.ref f)))(l:K.lookup f=some #[oc,od,.func (fnOf x q (uJ st) (vL st) (zS st) .none kV doc pm an cdv ct),osl])(c:codeIn K cdv q=true)(k:keepIn K (.ref f)=true):Dm K C x q st f:=
 #[a,_,Xa l c k]
theorem vF (h:us.length=n+1): ∃u r,us=u::r/\r.length=n:=by
 cases us with
 |nil=>cases h
 |cons u r=>exact#[u,r,rfl,Nat.succ.inj h]
theorem Jl (h:us.length=0):us=[]:=List.length_eq_zero_iff.mp h
theorem qT.b1 {K:Frag}{x q:Str}{st:i9}{f:i4}{fd:FuncData}(F:qT K x q st f fd)(p0:Str)(h: ∀(kV doc pm:a9) (an:i5 i4) (cdv ct:a9) (u0:a9),bindArgs (fnOf x q (uJ st) (vL st) (zS st) .none kV doc pm an cdv ct) #[[u0],[]]=pure [(p0,u0)]):uG K fd [p0] []:=
 F.binds λa b c d e g us hl=>by
  obtain⟨u0,r0,rfl,h0⟩:=vF hl;cases Jl h0;exact h a b c d e g u0
theorem qT.b2 {K:Frag}{x q:Str}{st:i9}{f:i4}{fd:FuncData}(F:qT K x q st f fd)(p0 p1:Str)(h: ∀(kV doc pm:a9) (an:i5 i4) (cdv ct:a9) (u0 u1:a9),bindArgs (fnOf x q (uJ st) (vL st) (zS st) .none kV doc pm an cdv ct) #[[u0,u1],[]]=pure [(p0,u0),(p1,u1)]):uG K fd [p0,p1] []:=
 F.binds λa b c d e g us hl=>by
  obtain⟨u0,r0,rfl,h0⟩:=vF hl;obtain⟨u1,r1,rfl,h1⟩:=vF h0;cases Jl h1;exact h a b c d e g u0 u1
theorem qT.b3 {K:Frag}{x q:Str}{st:i9}{f:i4}{fd:FuncData}(F:qT K x q st f fd)(p0 p1 p2:Str)(h: ∀(kV doc pm:a9) (an:i5 i4) (cdv ct:a9) (u0 u1 u2:a9),bindArgs (fnOf x q (uJ st) (vL st) (zS st) .none kV doc pm an cdv ct) #[[u0,u1,u2],[]]=pure [(p0,u0),(p1,u1),(p2,u2)]):uG K fd [p0,p1,p2] []:=
 F.binds λa b c d e g us hl=>by
  obtain⟨u0,r0,rfl,h0⟩:=vF hl;obtain⟨u1,r1,rfl,h1⟩:=vF h0;obtain⟨u2,r2,rfl,h2⟩:=vF h1;cases Jl h2;exact h a b c d e g u0 u1 u2
theorem qT.b4 {K:Frag}{x q:Str}{st:i9}{f:i4}{fd:FuncData}(F:qT K x q st f fd)(p0 p1 p2 p3:Str)(h: ∀(kV doc pm:a9) (an:i5 i4) (cdv ct:a9) (u0 u1 u2 u3:a9),bindArgs (fnOf x q (uJ st) (vL st) (zS st) .none kV doc pm an cdv ct) #[[u0,u1,u2,u3],[]]=pure [(p0,u0),(p1,u1),(p2,u2),(p3,u3)]):uG K fd [p0,p1,p2,p3] []:=
 F.binds λa b c d e g us hl=>by
  obtain⟨u0,r0,rfl,h0⟩:=vF hl;obtain⟨u1,r1,rfl,h1⟩:=vF h0;obtain⟨u2,r2,rfl,h2⟩:=vF h1;obtain⟨u3,r3,rfl,h3⟩:=vF h2;cases Jl h3;exact h a b c d e g u0 u1 u2 u3
theorem qT.b5 {K:Frag}{x q:Str}{st:i9}{f:i4}{fd:FuncData}(F:qT K x q st f fd)(p0 p1 p2 p3 p4:Str)(h: ∀(kV doc pm:a9) (an:i5 i4) (cdv ct:a9) (u0 u1 u2 u3 u4:a9),bindArgs (fnOf x q (uJ st) (vL st) (zS st) .none kV doc pm an cdv ct) #[[u0,u1,u2,u3,u4],[]]=pure [(p0,u0),(p1,u1),(p2,u2),(p3,u3),(p4,u4)]):uG K fd [p0,p1,p2,p3,p4] []:=
 F.binds λa b c d e g us hl=>by
  obtain⟨u0,r0,rfl,h0⟩:=vF hl;obtain⟨u1,r1,rfl,h1⟩:=vF h0;obtain⟨u2,r2,rfl,h2⟩:=vF h1;obtain⟨u3,r3,rfl,h3⟩:=vF h2;obtain⟨u4,r4,rfl,h4⟩:=vF h3;cases Jl h4;exact h a b c d e g u0 u1 u2 u3 u4
theorem qT.law {K:Frag}{x q:Str}{st:i9}{f:i4}{fd:FuncData}(F:qT K x q st f fd)(p:Str)(h: ∀(kV doc pm:a9) (an:i5 i4) (cdv ct v:a9),bindArgs (fnOf x q (uJ st) (vL st) (zS st) .none kV doc pm an cdv ct) #[[v],[]]=pure [(p,v)])(s:i6)(v:a9):BindsTo s fd #[[v],[]] [(p,v)]:=by
 obtain⟨oc,od,kV,doc,pm,an,cdv,ct,osl,rfl,lk,hcd⟩:=F.ex;exact .of_eq (h kV doc pm an cdv ct v)
theorem Cl {P:i7}{w:j3}{K:Frag}{h:j4}{mg:Str->i5 a9}{base:j4}{CX:MI}(X:K.In h)(G:h.Ns mainGlobals mg){x q g:Str}{st:i9}{f:i4}{fd:FuncData}{k:Nat}{ps:a6 Str}{sp:Sp}(a:nsIn K mainGlobals g=some (some (.ref f)))(F:qT K x q st f fd)(b:uG K fd ps [])(o:Dl P w K mg base CX k f fd ps sp):QH P w K mg base CX k g ps sp:=
 #[#[_,_,o,mg_of X G a,F.kp,b]]
end L2
namespace L2
open PySem PySem.Spec PyProof.Rows
namespace Rv
theorem owner:Manifest.owners.lookup (String.ofList ['d','e','s','r','e','v','e','r'].reverse)=some Manifest.sig_reversed:=by kernel_rfl
theorem slot_next:Slot "reversed" "__next__" "reversed.__next__":=
 .of (owner:="reversed") (n:="__next__") (by rw[DF,Ap];kernel_rfl) (by decide+kernel) (by decide+kernel) (by decide+kernel)
  (by first|exact .inl (by decide+kernel)|exact .inr (by decide+kernel)) (by rw[BM];kernel_rfl)
theorem entry_next:entryFor table "reversed.__next__"=some Builtin.«reversed.__next__»:=entryFor_of_tree (by kernel_rfl)
theorem args_next (a:a9):argsOk "reversed.__next__" #[[a],[]]:=by
 unfold argsOk;rw[signature?_of (id:="reversed.__next__") (n:=['_','_','t','x','e','n','_','_']) (o:=['d','e','s','r','e','v','e','r']) (by kernel_rfl) owner];kernel_rfl
theorem slot_iter:Slot "reversed" "__iter__" "reversed.__iter__":=
 .of (owner:="reversed") (n:="__iter__") (by rw[DF,Ap];kernel_rfl) (by decide+kernel) (by decide+kernel) (by decide+kernel)
  (by first|exact .inl (by decide+kernel)|exact .inr (by decide+kernel)) (by rw[BM];kernel_rfl)
theorem args_iter (a:a9):argsOk "reversed.__iter__" #[[a],[]]:=by
 unfold argsOk;rw[signature?_of (id:="reversed.__iter__") (n:=['_','_','r','e','t','i','_','_']) (o:=['d','e','s','r','e','v','e','r']) (by kernel_rfl) owner];kernel_rfl
theorem entry_iter:entryFor table "reversed.__iter__"=some Builtin.«dict_keyiterator.__iter__»:=
 entryFor_alias (id':="dict_keyiterator.__iter__") (by kernel_rfl) (by first|rfl|decide+kernel|(unfold String.splitOn;simp+decide [String.splitOnAux])) (by decide+kernel) (by kernel_rfl)
theorem TM:Slot "reversed" "__init__" "object.__init__":=
 .of (owner:="object") (n:="__init__") (by rw[DF,Ap];kernel_rfl) (by decide+kernel) (by decide+kernel) (by decide+kernel)
  (by first|exact .inl (by decide+kernel)|exact .inr (by decide+kernel)) (by rw[BM];kernel_rfl)
theorem called:TypeCalled "reversed" "reversed.__new__" "object.__init__":=
 #[by decide+kernel,by decide+kernel,#[_,_,F.mro_reversed],F.made_reversed,by decide+kernel,by rw[BM];kernel_rfl,TM]
theorem tuple_no_rev:typeLookup (.type "tuple") "__reversed__"=pure none:=by rw[DF,Ap];kernel_rfl
theorem tuple_no_dict:isSubtype (.type "tuple") (.type "dict")=pure false:=by rw[BM];kernel_rfl
end Rv
end L2
namespace L2
open PySem PySem.Spec PyProof.Rows
section
variable {prog:i7}{w:j3}{A:j5}{E:a9->i6->Prop}{s:i6}
noncomputable def Pc (l:i4)(i:Int):j8:={cls:=.type "reversed",data:=.fields (List.toArray [.ref l,rawInt i])}
def Eo (h:j4)(a l:i4)(i:Int):Prop:= ∃o,h.get? a=some o/\o.cls=.type "reversed"/\o.data=.fields (List.toArray [.ref l,rawInt i])
theorem Eo.typeIs (x:Eo s.heap a l i):s.TypeIs (.ref a) "reversed":=let⟨o,ho,hc,_⟩:=x;#[o,ho,hc]
theorem Eo.at (x:Eo h a l i)(e: ∀o,h.get? a=some o->h'.get? a=some o):Eo h' a l i:=let⟨o,ho,r⟩:=x;#[o,e _ ho,r]
theorem UJ (hl:s.heap.IsTuple l m6)(hfit:(m6.size:Int)<2^63)
  (h: ∀tk,Q₁ (.ref s.heap.objs.size) {s with heap:=s.heap.push (Pc l ((m6.size:Int)-1)),toks:=tk}):
  codeAny (model prog w) A (.call (.builtin "reversed.__new__") #[[.type "reversed",.ref l],[]]) (wants Q₁ E) s:=by
 have hT:s.TypeIs (.ref l) "tuple":=by obtain⟨o,ho,hc,_⟩:=hl;exact#[o,ho,hc]
 refine codeAny_of_tree ?_;show wpAny _ A.in1 (do checkBuiltinCall "reversed.__new__" #[[.type "reversed",.ref l],[]];again (.builtin "reversed.__new__" #[[.type "reversed",.ref l],[]])) _ _ s;refine zD (uA (F.newCall_reversed_1 _) (zZ #[plainId_quiet F.plain_reversed_new _,codeAny_builtin F.entry_reversed_new ?_]));rw[Du F.plain_reversed_new _];unfold Builtin.«reversed.__new__»;refine zD (uA (newClass_reversed _) ?_)
 try dsimp only
 refine zD (uA (a:=Unit.unit) (by first|rfl|kernel_rfl) ?_);refine zD (uA (a:=Unit.unit) (by first|rfl|kernel_rfl) ?_)
 try dsimp only
 refine zD (Bi hT Rv.tuple_no_rev ?_)
 try dsimp only
 refine zD ?_;show wpAny _ _ (isInstance (.ref l) (.type "dict")>>=_) _ _ s;refine zD (BZ hT Rv.tuple_no_dict ?_)
 try dsimp only
 show wpAny _ _ (specialOf (.ref l) "__getitem__">>=_) _ _ s;refine zD (Bi hT F.slot_tuple_getitem.lookup ?_)
 try dsimp only
 show wpAny _ _ (if(["tuple.__getitem__","str.__getitem__","bytes.__getitem__","bytearray.__getitem__","memoryview.__getitem__","numpy.ndarray.__getitem__","sqlite3.Row.__getitem__"].contains "tuple.__getitem__")=true then _ else _) _ _ s;rw[zQ (by decide)];refine zZ ?_
 try dsimp only
 rw[zN (show ¬((!true)=true)from yO)];refine zD (len_tuple hl hfit ?_);refine zD (uA (a:=some (m6.size:Int)) rfl ?_)
 try dsimp only
 refine zD ?_;show wpAny _ _ (newObj (.type "reversed") (.fields (List.toArray [.ref l,rawInt ((m6.size:Int)-1)]))) _ _ _;refine jT ?_ (by size_fits);exact zZ (h _)
theorem UL (hl:s.heap.IsTuple l m6)(hfit:(m6.size:Int)<2^63)
  (h: ∀tk,Q (.ref s.heap.objs.size) {s with heap:=s.heap.push (Pc l ((m6.size:Int)-1)),toks:=tk}):wpAny (model prog w) A (call (.type "reversed") [.ref l]) Q E s:=by
 refine callType_codes (Q₁:=λobj s₁=>obj=.ref s.heap.objs.size/\ ∃tk,s₁={s with heap:=s.heap.push (Pc l ((m6.size:Int)-1)),toks:=tk}) Rv.called (F.typeCall_reversed_1 _) F.entry_object_init (UJ hl hfit λtk=>#[rfl,tk,rfl]) ?_;rintro obj s₁ ⟨rfl,tk,rfl⟩;have hT:Shared.TypeIs {s with heap:=s.heap.push (Pc l ((m6.size:Int)-1)),toks:=tk} (.ref s.heap.objs.size) "reversed":=#[_,yE _ rfl,rfl];exact#[hT,F.args_object_init_2 _ _,object_init_meets Rv.called.init.lookup Rv.called.made (by decide) prog w A.in1 _ _ #[hT,rfl,h tk]]
theorem LL {it l:i4}{i:Nat}{m6:j7 a9}{x:a9}{Q:i5 a9->i6->Prop}(hit:Eo s.heap it l (i:Int))(hl:s.heap.IsTuple l m6)(hx:m6[i]? =some x)(hfit:(m6.size:Int)<2^63)
  (hQ: ∀h' tk,Eo h' it l ((i:Int)-1)->Heap.SameBut it s.heap h'->Q (some x) {s with heap:=h',toks:=tk}):wpAny (model prog w) A (pyNext (.ref it)) Q E s:=by
 obtain⟨o,ho,hc,hd⟩:=id hit;have hT:s.TypeIs (.ref l) "tuple":=by obtain⟨o,ho,hc,_⟩:=hl;exact#[o,ho,hc]
 have hi:i<m6.size:=(Array.getElem?_eq_some_iff.mp hx).1;unfold pyNext;refine zD (Be (jG (name:=Str.ofString "__next__") hit.typeIs Rv.slot_next
  (kF Rv.slot_next hit.typeIs Rv.entry_next ?_ (Rv.args_next _))))
 unfold Builtin.«reversed.__next__»;refine zD (uA (a:=(Value.ref it,[])) rfl ?_)
 try dsimp only
 refine zD (jC ho hd (x:=.ref l) rfl ?_);refine zD (jC ho hd (x:=rawInt (i:Int)) rfl ?_);show wpAny _ _ (if(i:Int)<0 then _ else _) _ _ s;rw[zN ()];show wpAny _ _ (specialOf (.ref l) "__getitem__">>=_) _ _ s;refine zD (Bi hT F.slot_tuple_getitem.lookup ?_)
 try dsimp only
 rw[zN (show ¬((some (Value.builtin "tuple.__getitem__")).isNone =true)from yO)];refine zD (wpAny_mkInt ?_);refine zD (Be (getItem_tuple (j:=i) hl () () ?_ hx ?_))
 ·unfold seqIndex?;have e: ¬((i:Int)<0):=()
  simp only[zN e]
  simp[hi]
 try dsimp only
 refine zD (jC ho hd (x:=rawInt (i:Int)) rfl ?_);show wpAny _ _ (setField (.ref it) 1 (rawInt ((i:Int)-1))>>=_) _ _ _;refine zD (uP ho hd (by simp) (zZ #[x,rfl,zZ (hQ _ _ ?_ (uK ..))]));exact#[_,vM _ ho (Aq (wG hd _)),(EN ..).trans hc,by
  rw[wG hd];simp]
theorem MD (hh:A.handled=none)(hit:Eo s.heap it l (-1))
  (hQ: ∀h',Heap.ExtBut it s.heap h'->Q none {s with heap:=h'}):wpAny (model prog w) A (pyNext (.ref it)) Q E s:=by
 obtain⟨o,ho,hc,hd⟩:=id hit;unfold pyNext;refine zD (Be (jG (name:=Str.ofString "__next__") hit.typeIs Rv.slot_next
  (kF Rv.slot_next hit.typeIs Rv.entry_next ?_ (Rv.args_next _))))
 unfold Builtin.«reversed.__next__»;refine zD (uA (a:=(Value.ref it,[])) rfl ?_)
 try dsimp only
 refine zD (jC ho hd (x:=.ref l) rfl ?_);refine zD (jC ho hd (x:=rawInt (-1)) rfl ?_);show wpAny _ _ (if(-1:Int)<0 then _ else _) _ _ s;rw[zQ (by decide)];refine zD (Es ?_);refine zD ?_;show wpAny _ _ (setField (.ref it) 1 (rawInt (-1))>>=_) _ _ s;refine zD (uP ho hd (by simp) ?_);have hd3:=wG hd (·.setIfInBounds 1 (rawInt (-1)));have gx3:=vM (Obj.mapFields (·.setIfInBounds 1 (rawInt (-1)))) ho (Aq hd3);refine uP gx3 hd3 (by simp) ?_;refine zD ?_;show wpAny _ _ (newExc (.type "StopIteration") []>>=_) _ _ _;refine zD ?_;simp only[newExc,newTuple];refine zD (jT ?_ (by size_fits));refine zD (m:=firstArgMember _ _) (uA (a:=Value.none) (by first|rfl|(simp only[firstArgMember];rfl)) ?_);refine jT ?_ (by size_fits);simp only[raiseNew];refine zD (wpAny_handled ?_)
 first|rw[show A.in1.handled=none from hh]|rw[hh]
 refine zD (zZ (wpAny_throw ?_));refine zD (BZ (T:="StopIteration") (b:=true) #[_,yE _ rfl,rfl] isSubtype_stop ?_);refine zZ (hQ _ (λb ob hb e=>zJ _ (zJ _ ?_)));rw[Ac _ _ (Ne.symm hb),Ac _ _ (Ne.symm hb)];exact e
theorem Nh (hit:Eo s.heap it l i)(h:Q (.ref it) s):wpAny (model prog w) A (pyIter (.ref it)) Q E s:=by
 refine wpAny_pyIter_slot hit.typeIs Rv.slot_iter (kF Rv.slot_iter hit.typeIs Rv.entry_iter ?_ (Rv.args_iter _));show wpAny _ _ (ret (.ref it)) _ _ s;exact zZ #[-1,"reversed",_,hit.typeIs,Rv.slot_next.lookup,h]
end
noncomputable def Itv (K:a7)(a:i4)(n:Nat):It:=
 #[λi H=> ∃xs x,Ax K H a xs/\xs.length=n/\xs.reverse[i]? =some x,λi H x H'=>H'=H/\ ∀xs,Ax K H a xs->xs.reverse[i]? =some x,λi H=>(∃xs,Ax K H a xs/\xs.length=n)/\n<=i]
theorem Vh {P:i7}{w:j3}{K:a7}{tg:j6}(a it:i4)(n:Nat):Mm P w K tg (Itv K a n) [it] it (λi h=>i<=n/\Eo h it a ((n:Int)-1-(i:Int))) where
 mem:=by simp
 obj:=λi h st b hb=>by
  have e:b=it:=by simpa using hb
  subst e;obtain⟨_,o,e,c,d⟩:=st;exact#[o,e,λv z=>by rw[d]at z;cases z]
 keep:=λi h h' st k=>#[st.1,st.2.at λo e=>k it (by simp) o e]
 item:=by
  intro X hP hw hK hc i j9 s U H E I hf st hg;subst hP hw hK;obtain⟨xs,x,hq,hn,hx⟩:=hg;obtain⟨its,rv,p,hz⟩:=I.tuple hq;have hi:i<xs.length:=by
   have:=(List.getElem?_eq_some_iff.mp hx).1
   simpa using this
  have hx':xs[n-1-i]? =some x:=by
   rw[List.getElem?_reverse hi,hn]at hx;exact hx
  obtain⟨u,hu,ru⟩:=rv.get hx';obtain⟨f0,f1,f2,f3,f4,f5⟩:=hf it (by simp);have e1:(n:Int)-1-(i:Int)=((n-1-i:Nat):Int):=()
  have hl:=rv.length;have h63:=FY;refine LL (i:=n-1-i) (by rw[<-e1];exact st.2) (show s.heap.IsTuple a its.toArray from p) (x:=u) (by simpa using hu) (by simp only[yL];lia) λh' tk st' sb=>?_;have I1:xZ X j9 U H {s with heap:=h',toks:=tk}:=I.turned (t':=tk) (λb o hb e=>(sb.2 b hb).trans e) f0 f1 f3 f4 f5;obtain⟨o,e,c,d⟩:=id st';have e2:((n-1-i:Nat):Int)-1=(n:Int)-1-((i+1:Nat):Int):=()
  rw[e2]at st';exact#[u,rfl,Nl (s:={s with heap:=h',toks:=tk}) e c d (by decide) #[x,H,I1,ru,#[rfl,λys hy=>by rw[I.tuple_inj hy hq];exact hx],#[(),st'],λb hb=>(hf b hb).1]]
 done:=by
  intro X hP hw hK hc i j9 s U H E I hf st hg;subst hP hw hK;obtain⟨f0,f1,f2,f3,f4,f5⟩:=hf it (by simp);have hi:i=n:=by have:=st.1;have:=hg.2;lia
  have e1:(n:Int)-1-(i:Int)= -1:=()
  have st2:=st.2;rw[e1]at st2;exact MD (I.ok.hd hc) st2 λh' eb=>#[rfl,I.turned (t':=s.toks) (λb o hb e=>eb b o hb e) f0 f1 f3 f4 f5]
 self:=λ_ _ _ _ _ st h=>Nh st.2 h
inductive Zv (K:a7) (vs:List V) (H1:Hp) (R:It->Hp->Prop):Prop
 |mk (a xs:_) (h0:vs=[.ref a]) (h1:Ax K H1 a xs) (h2:R (Itv K a xs.length) H1):Zv K vs H1 R
def zHm (K:a7)(ta:TA):TI:=λU H R=>ta U H λvs H1=>Zv K vs H1 R
theorem zAd {X:Cx}{tg a:j6}{ta:TA}{p pos:Pos}(hg:Gl X "reversed")(hm:X.mg "reversed"=none)(ha:PA X [a] ta)(hs:autoParam (starEach [a] X.env=[(false,eval a X.env)]) L2.aE._auto_1):PI X tg (.Call (.Name "reversed" p) [a] [] pos) (zHm X.K ta):=by
 refine#[?_];intro j9 s U H R I h;refine Call_ (EO I hg hm Kv (jH (wK (ha pos j9 s U H _ I h) λus s1 ⟨vs,H1,I1,r1,q1⟩=>?_) hs rfl));obtain⟨b,xs,e,hq,q⟩:=q1;subst e;cases r1 with
 |cons r rr=>
  cases rr;cases r;obtain⟨its,rv,pl,hz⟩:=I1.tuple hq;have hl:=rv.length;have h63:=FY;refine UL (show s1.heap.IsTuple b its.toArray from pl) (by simp only[yL];lia) λtk=>?_;have I2:xZ X j9 U H1 {s1 with heap:=s1.heap.push (Pc b (((its.toArray).size:Int)-1)),toks:=tk}:=I1.kept λb o e=>zJ _ e;have st:Eo (s1.heap.push (Pc b (((its.toArray).size:Int)-1))) s1.heap.objs.size b ((xs.length:Int)-1-((0:Nat):Int)):=#[_,yE _ rfl,rfl,by rw[yL,hl];simp[Pc]];refine Nh (s:={s1 with heap:=s1.heap.push (Pc b (((its.toArray).size:Int)-1)),toks:=tk}) st ?_;refine#[s1.heap.objs.size,[s1.heap.objs.size],_,_,H1,rfl,I2,Vh b _ xs.length,#[xE _,st],λc hc=>?_,q];have e:c=s1.heap.objs.size:=by simpa using hc
  subst e;exact I1.fpOk (zO _) (I1.hok.fresh (zO _))
theorem YN {K:a7}{a:i4}{xs:a6 V}{g:TG}{tb:TS}{D:Fp}{U:St}{H:Hp}(Pv:Nat->St->Hp->Prop)(h0:Pv 0 U H)(hl: ∀i U H,i<=xs.length->Pv i U H->Ax K H a xs)
  (hs: ∀i x U H,xs.reverse[i]? =some x->Pv i U H->g x U H λU2 H2=>tb {D with nx:=Pv (i+1),ct:=Pv (i+1),bk:=D.nx} U2 H2) (hd: ∀U H,Pv xs.length U H->D.nx U H):
  ∃W:Nat->Nat->St->Hp->Prop,(∃m,W 0 m U H)/\ ∀i m U H,W i m U H->
   ((Itv K a xs.length).stop i H/\D.nx U H)\/((Itv K a xs.length).go i H/\ ∃N:St->Hp->Prop,(∀U' H',N U' H'-> ∃m',m'<m/\W (i+1) m' U' H')/\ ∀x H',(Itv K a xs.length).yld i H x H'->g x U H' λU2 H2=>tb {D with nx:=N,ct:=N,bk:=D.nx} U2 H2):=by
 refine#[λi m U H=>m=xs.length-i/\i<=xs.length/\Pv i U H,#[xs.length,by simp,xE _,h0],?_];rintro i m U H ⟨rfl,hi,p⟩;have q:=hl i U H hi p
 by_cases o5:i<xs.length
 ·refine .inr #[#[xs,xs.reverse[i]'(by simpa using o5),q,rfl,by simp[o5]],Pv (i+1),λU' H' p'=>#[xs.length-(i+1),(),rfl,o5,p'],λx H' y=>?_];obtain⟨e,y⟩:=y;subst e;exact hs i x U _ (y xs q) p
 ·have e:i=xs.length:=()
  subst e;exact .inl #[#[#[xs,q,rfl],zO _],hd U H p]
end L2
namespace L2
open PySem
mutual
noncomputable def pre:Nd->a6 Nd
 | .mk k p own ps=>.mk k p own ps::jO ps
noncomputable def jO:a6 Nd->a6 Nd
 |[]=>[]
 |a::r=>pre a++jO r
end
theorem uS: ∀(xs ys:a6 Nd),jO (xs++ys)=jO xs++jO ys
 |[],ys=>by simp[jO]
 |a::r,ys=>by simp[jO,uS r ys]
theorem Ye: ∀n:Nd,1<=(pre n).length
 | .mk k p own ps=>by simp[pre]
theorem LG: ∀xs:a6 Nd,xs.length<=(jO xs).length
 |[]=>by simp[jO]
 |a::r=>by
  have:=Ye a;have:=LG r
  simp[jO];lia
theorem FU: ∀xs:a6 Nd,(jO xs.reverse).length =(jO xs).length
 |[]=>rfl
 |a::r=>by simp[jO,uS,FU r];lia
theorem jW.more: ∀{d:Nat} {v:V} {n:Nd},jW H d v n->jW H (d+1) v n
 |0,_,_,z=>z.elim
 |d+1,v,.mk k p own ps,⟨t,o,q,vs,e,h1,h2,h3,r⟩=>#[t,o,q,vs,e,h1,h2,h3,Paired.imp (λ_ _ z=>jW.more z) r]
inductive JD (vs:List V) (H:Hp) (Q:VK) (E:XK):Prop
 |mk (v nd:_) (h0:vs=[v]) (h1:jW H 10 v nd) (h2:(pre nd).length<=1000000) (h3: ∀l us H',xJ H H'->H l=none->H' l=some (.lst us)->Paired (jW H' 10) us (pre nd)->Q (.ref l) H'):JD vs H Q E
theorem Paired.append {xs zs:a6 α}{ys ws:a6 β}(h:Paired F xs ys)(q:Paired F zs ws):Paired F (xs++zs) (ys++ws):=by
 induction h with
 |nil=>exact q
 |cons r t ih=>exact .cons r ih
theorem Paired.rev: ∀{xs:a6 α} {ys:a6 β},Paired F xs ys->Paired F xs.reverse ys.reverse
 |_,_,.nil=>.nil
 |_,_,.cons r t=>by
  rw[List.reverse_cons,List.reverse_cons];exact Paired.append (Paired.rev t) (.cons r .nil)
theorem Paired.unsnoc: ∀{xs:a6 α} {x:α} {ys:a6 β},Paired F (xs++[x]) ys-> ∃ys' y,ys=ys'++[y]/\Paired F xs ys'/\F x y
 |[],x,_,.cons r .nil=>#[[],-1,.nil,r]
 |a::xs,x,_,.cons r t=>by
  obtain⟨ys',y,rfl,p,f⟩:=Paired.unsnoc t;exact#[_::ys',y,rfl,.cons r p,f]
theorem xJ.fresh (s:xJ H H')(h:H p=none):xJ H (upd H' p o):=λb u e=>by rw[yJ (yQ e h)];exact s b u e
section
open PySem.Spec PyProof.Rows
variable {X:Cx}{e:j6}{st:i5 j6}{te:TE}{ts:TO}{p2 pos:Pos}
inductive VC (K:a7) (x:V) (y:V) (H:Hp) (Q:VK):Prop
 |mk (a b xs:_) (h0:x=.ref a) (h1:y=.ref b) (h2:kN K H a xs) (h3:kN K H b []) (h4:Q (.bl (!xs.isEmpty)) H):VC K x y H Q
theorem VY (hr:Ao k X.A):HC X (compareOp .NotEq) (VC X.K):=by
 intro j9 s U H x y v u Q I rx ry h;obtain⟨a,b,xs,rfl,rfl,ha,hb,q⟩:=h;cases rx;cases ry;have hu:=hr.un;obtain⟨us,r,pa,_⟩:=I.list ha;obtain⟨vs,q',pb,_⟩:=I.list hb;cases q';cases xs with
 |nil=>
  cases r;have:=SeqAt.RcNeAt.lists (A:=X.A) (s:=s) (e:=λ_=>true) pa.isList pb.isList rfl () (λj h1 h2=>absurd h1 (by simp));exact this _ _ _ _ #[.bl false,H,I,rfl,q]
 |cons z zs=>
  cases r with
  |cons r1 r2=>
   have:=SeqAt.RcNeAt.lists_lengths (A:=X.A) (s:=s) pa.isList pb.isList (by simp) ();exact this _ _ _ _ #[.bl true,H,I,rfl,q]
end
theorem Jb (K:a7)(hK:X.K=K)(hc:X.calm=true)(h:ZB X es t)(hn:autoParam ((assignEach es X.env).length =n) L2.aE._auto_1)(hst:autoParam ((assignEach es X.env).findIdx? (·.1)=none) L2.aE._auto_1):PG X (.Tuple es k pos) (zBb K n t):=by
 subst hK;exact qO hc h hn hst
end L2
namespace L2
open PySem PySem.Spec PyProof.Rows
theorem QW (hc:c=2\/c=3)(ha: -(2^62)<=a)(ha':a<2^62)(hb: -(2^62)<=b)(hb':b<2^62):Builtin.Range.small a b c=true:=by
 have f: ∀{x:Int},-(2^63)<=x->x<2^63->Builtin.Range.rangeFitsLong x=true:=λh g=>by unfold Builtin.Range.rangeFitsLong;rw[zP h,zP g];rfl
 have c0:0<c:=by rcases hc with rfl|rfl<;>decide
 have c3:c<=3:=by rcases hc with rfl|rfl<;>decide
 clear hc;have r:0<=Builtin.Range.rangeSize a b c/\Builtin.Range.rangeSize a b c<2^63:=by
  unfold Builtin.Range.rangeSize;rw[zQ c0];split
  ·have g:0<=b-a-1:=by lia
   have h1:=Int.ediv_nonneg g (Int.le_of_lt c0);have h2:=Int.ediv_le_self c g;generalize(b-a-1)/c=y at *;lia
  ·decide
 unfold Builtin.Range.small;rw[f (x:=a) (by lia) (by lia),f (x:=b) (by lia) (by lia),f (x:=c) (by lia) (by lia),f (by lia) r.2,zQ c0,f (x:=b+(c-1)) (by lia) (by lia)];simp
noncomputable def Itp (lo c:Int)(n:Nat):It:=#[λi _=>i<n,λi H x H'=>H'=H/\x=.int (lo+i*c),λi _=>n<=i]
theorem Tz {P:i7}{w:j3}{K:a7}{tg:j6}(it:i4)(lo c:Int)(n:Nat):Mm P w K tg (Itp lo c n) [it] it (λi h=>IsRangeIter h it (lo+(i:Nat)*c) ((n:Int)-(i:Nat)) c) where
 mem:=by simp
 obj:=λi h st b hb=>by
  have e:b=it:=by simpa using hb
  subst e;exact#[_,st,λv z=>by
   have z':Data.fields _=Data.cell v:=z;cases z']
 keep:=λi h h' st k=>k it (by simp) _ st
 item:=by
  intro X hP hw hK hc i j9 s U H E I hf st hg;subst hP hw hK;obtain⟨f0,f1,f2,f3,f4,f5⟩:=hf it (by simp);have W:=Walks.range (prog:=X.prog) (w:=X.w) (I.ok.hd hc) it lo c n;refine W.item i s _ _ hg st λv h' tk hv st' kk=>?_;obtain⟨t,rfl⟩:=hv;have I1:xZ X j9 U H {s with heap:=h',toks:=tk}:=I.turned (λb o hb e=>kk b o (by simpa using hb) e) f0 f1 f3 f4 f5;refine#[-1,Nl (s:={s with heap:=h',toks:=tk}) (n:="range_iterator") st' rfl rfl (by decide) #[.int (lo+i*c),H,I1,#[t,rfl],#[rfl,rfl],st',λb hb=>(hf b hb).1]]
 done:=by
  intro X hP hw hK hc i j9 s U H E I hf st hg;subst hP hw hK;obtain⟨f0,f1,f2,f3,f4,f5⟩:=hf it (by simp);exact wpAny_pyNext_range_end (I.ok.hd hc) st (by have:n<=i:=hg;lia) λh' eb=>#[rfl,I.turned (t':=s.toks) (λb o hb e=>eb b o hb e) f0 f1 f3 f4 f5]
 self:=λ_ _ _ _ _ st h=>wpAny_pyIter_rangeiter st h
inductive WN (vs:List V) (H1:Hp) (R:It->Hp->Prop):Prop
 |mk (i j c:Int) (n:Nat) (h0:vs=[.int i,.int j,.int c]) (h1:(-(2^62)<=i/\i<2^62/\ -(2^62)<=j/\j<2^62)) (h2:(c=2\/c=3)) (h3:Builtin.Range.rangeSize i j c=(n:Int)) (h4:R (Itp i c n) H1):WN vs H1 R
def zDi (ta:TA):TI:=λU H R=>ta U H λvs H1=>WN vs H1 R
theorem Hw (hg:Gl X "range")(hm:X.mg "range"=none)(ha:PA X [a,b,c] ta)(hs:autoParam (starEach [a,b,c] X.env=(false,eval a X.env)::starEach [b,c] X.env) L2.aE._auto_1)(hpl:autoParam ((backTo pos (starEach [b,c] X.env)).any (·.1)=false) L2.aE._auto_1):
  PI X tg (.Call (.Name "range" p) [a,b,c] [] pos) (zDi ta):=by
 refine#[?_];intro j9 s U H R I h;refine Call_ (EO I hg hm boot_range (jH (wK (ha pos j9 s U H _ I h) λus s1 ⟨vs,H1,I1,r1,q1⟩=>?_) hs hpl));obtain⟨i,j,c,n,e,⟨q1,q2,q3,q4⟩,hc,hn,q⟩:=q1;subst e;cases r1 with
 |cons r rr=>
  cases rr with
  |cons r' rr=>
   cases rr with
   |cons r'' rr=>
    cases rr;obtain⟨t,rfl⟩:=r;obtain⟨t',rfl⟩:=r';obtain⟨t'',rfl⟩:=r'';refine call_range_3 () ?_ (.inl (PyProof.noPylong_small ()));refine wpAny_pyIter_range (IsRange.new ..) (QW hc q1 q2 q3 q4) ?_;have I2:xZ X j9 U H1 {s1 with heap:=s1.heap.push {cls:=.type "range",data:=.fields (List.toArray [.int i t,.int j t',.int c t''])},toks:=s1.toks}:=I1.kept λb o e=>zJ _ e;refine#[_,[_],_,_,H1,rfl,I2.kept (t':=s1.toks) λb o e=>zJ _ e,Tz _ i c n,?_,λb hb=>?_,q]
    ·have e1:i+((0:Nat):Int)*c=i:=by simp
     show IsRangeIter _ _ (i+((0:Nat):Int)*c) ((n:Int)-((0:Nat):Int)) c;rw[e1,Int.natCast_zero,Int.sub_zero,<-hn];exact yE _ rfl
    ·have e:=List.mem_singleton.mp hb;subst e;exact I2.fpOk (zO _) (I2.hok.fresh (zO _))
theorem Fm {lo c:Int}{n:Nat}{g:TG}{tt:TT}{te:TE}{R:Hp->Prop}{p:i4}{U0:St}{H0:Hp}(Pv:Nat->St->Hp->Prop)(h0:Pv 0 U0 H0)
  (hs: ∀i U H,i<n->Pv i U H->g (.int (lo+(i:Nat)*c)) U H λU3 H3=>tt U3 H3 λb H4=>
   if b=true then te U3 H4 λv H5=> ∃ys,H5 p=some (.lst ys)/\ys.length<sizeLine/\ ∃m',m'<n-i/\CW n Pv (i+1) m' U3 (upd H5 p (.lst (ys++[v])))
   else ∃m',m'<n-i/\CW n Pv (i+1) m' U3 H4)
  (hd: ∀U H,Pv n U H->R H):IC (Itp lo c n) p U0 H0 g tt te R:=by
 refine#[CW n Pv,#[_,xE _,rfl,h0],λi m U' H' w=>?_];obtain⟨hi,rfl,hp⟩:=w
 by_cases o5:i<n
 ·refine .inr #[o5,λx H2 y=>?_];obtain⟨e,y⟩:=y;subst e y;exact hs i U' _ o5 hp
 ·have e:i=n:=()
  subst e;exact .inl #[zO _,hd U' H' hp]
theorem TV: ∀(bs:a6 i8),(List.range bs.length).all (λi=>bs.getD i true)=bs.all id:=by
 intro bs;rw[jN,vE,vE];constructor
 ·intro h b hb;obtain⟨i,hi⟩:=List.mem_iff_getElem?.mp hb;have hl:=(List.getElem?_eq_some_iff.mp hi).1;have:=h i (List.mem_range.mpr hl);rw[yU,hi]at this;exact this
 ·intro h i hi;have hl:=List.mem_range.mp hi;have e:=zF hl;rw[yU,e];exact h _ (wH hl)
section
variable {X:Cx}
theorem Hb (hc:X.calm=true):Fq X (.builtin "all") (λxs H Q=> ∃(p:i4) (bs:a6 i8),xs=[.ref p]/\kN X.K H p (bs.map V.bl)/\Q (.bl (bs.all id)) H):=by
 intro j9 s U H xs us Q I r h;obtain⟨p,bs,rfl,hq,q⟩:=h;obtain⟨u,rfl,ru⟩:=II r;cases ru;obtain⟨its,rv,pl,hz⟩:=I.list hq;have n8:=rv.length;rw[zG]at n8;refine call_all_walk (vZ pl.isList ?_);have hp:p<s.heap.objs.size:=by
  obtain⟨o,ho,_⟩:=pl.isList;exact yI ho
 refine#[s.heap.objs.size,[s.heap.objs.size,p],[s.heap.objs.size],its.toArray.size,_,_,λi=>bs.getD i true,rfl,Walks.list (A:=X.A.in1) (I.ok.hd hc) _ p (xQ hp) its.toArray,#[#[_,yE _ rfl,rfl,rfl],pl.isList.at λo e=>zJ _ e],?_,λh' tk hk=>?_]
 ·intro i v s1 Q1 E1 hv h1;have hv':its[i]? =some v:=by simpa using hv
  have hi:i<bs.length:=by
   have:=(List.getElem?_eq_some_iff.mp hv').1;lia
  have eb:(bs.map V.bl)[i]? =some (.bl bs[i]):=by rw[zW,zF hi]<;>rfl
  have rel:=Paired.get rv i _ _ eb hv';obtain rfl:v=Value.bool bs[i]:=rel;have:bs.getD i true=bs[i]:=by rw[yU,zF hi]<;>rfl
  have h2:Q1 (bs.getD i true) s1:=h1;rw[this]at h2;exact zZ h2
 ·have e:(List.range its.toArray.size).all (λi=>bs.getD i true)=bs.all id:=by
   rw[yL,<-n8];exact TV bs
  rw[e];refine#[.bl (bs.all id),H,I.kept (t':=tk) λb o eb=>hk b o ?_ (zJ _ eb),rfl,q];intro z;have:=yI eb;rw[List.mem_singleton.mp z]at this;exact qL _ this
def zCv (K:a7):a6 V->Hp->VK->Prop:=λxs H Q=> ∃(a tp:i4) (ns:a6 String) (b:i8) (T:String),xs=[.ref a,.ref tp]/\H tp=some (.tup (ns.map V.ty))/\((T="list"/\ ∃ys,kN K H a ys)\/(T="tuple"/\ ∃ys,Ax K H a ys))/\PySem.W.kitAny K (.type T) (ns.map Value.type)=some b/\Q (.bl b) H
theorem Ss: ∀{ns:a6 String} {us:a6 a9},kE (ns.map V.ty) us->us=ns.map Value.type
 |[],_,.nil=>rfl
 |n::ns,_,.cons h t=>by
  rw[Ss t,yM];congr 1
theorem Nq:Fq X (.builtin "isinstance") (zCv X.K):=by
 intro j9 s U H xs us Q I r h;obtain⟨a,tp,ns,b,T,rfl,ht,hx,e,q⟩:=h;obtain⟨u,w',rfl,ru,rw'⟩:=ML r;cases ru;cases rw';obtain⟨_,its2,r2,p⟩:=(show vY X.prog X.w H s.heap tp (.tup (ns.map V.ty))from I.hok tp _ ht);obtain⟨⟨oc,od,oda,osl⟩,h1,h2,n2,h3⟩:=p;dsimp only at h2 h3;subst h2 h3;have hv:=Ss r2;subst hv
 rcases hx with⟨rfl,ys,hq⟩|⟨rfl,ys,hq⟩
 ·obtain⟨its,rv,pl,hz⟩:=I.list hq;obtain⟨o,ho,hcl⟩:=pl.isList;exact PySem.W.kia_tup EL I.kIn #[o,ho,hcl.1] h1 e (λz=>nomatch z) λtk=>#[.bl b,H,I.tok tk,rfl,q]
 ·obtain⟨its,rv,pl,hz⟩:=I.tuple hq;obtain⟨o,ho,hcl,_⟩:=pl;exact PySem.W.kia_tup PySem.W.kitx_tuple I.kIn #[o,ho,hcl] h1 e (λz=>nomatch z) λtk=>#[.bl b,H,I.tok tk,rfl,q]
end
theorem Ju:bootBuiltins "enumerate"=some (.type "enumerate"):=by decide+kernel
theorem xZ.turned2 {X:Cx}{j9:a6 (i4×j8)}{U:St}{H:Hp}{s:i6}{h':j4}{t':Nat}{e it:i4}(I:xZ X j9 U H s)(k: ∀b o,b≠e->b≠it->s.heap.get? b=some o->h'.get? b=some o)(f:HI X j9 H e)(g:HI X j9 H it):
  xZ X j9 U H {s with heap:=h',toks:=t'}:=by
 obtain⟨a0,a1,a2,a3,a4,a5⟩:=f;obtain⟨b0,b1,b2,b3,b4,b5⟩:=g;have ne1: ∀b u,H b=some u->b≠e:=λb u q z=>by rw[z,a0]at q;cases q
 have ne2: ∀b u,H b=some u->b≠it:=λb u q z=>by rw[z,b0]at q;cases q
 have out: ∀{b:i4},b∉[e,it]->b≠e/\b≠it:=fun{b} hc=>#[λz=>hc (by simp[z]),λz=>hc (by simp[z])];refine I.step (g':=s.gens) (d':=s.drawn) (ch:=[e,it]) (λb hb=>?_) (λb o _ _ hc q _=>k b o (out hc).1 (out hc).2 q) (λb o _ _ hc q _=>#[o.slots,k b o (out hc).1 (out hc).2 q]) (λ_ _ _ _ n=>n)
  (λb o hc q=>#[o,k b o (out hc).1 (out hc).2 q]) (λ_ _ q=>q) (λ_ _ _ q=>q) (λb ps q=>#[#[],by rw[q];simp]) (λm hm=>?_) (λb u q=>?_) I.bare
 ·rcases List.mem_cons.mp hb with z|z
  ·rw[z];exact#[a3,a1,a4,a5]
  ·rw[List.mem_singleton.mp z];exact#[b3,b1,b4,b5]
 ·obtain⟨o,es,ep,ho,r⟩:=hm;exact#[o,es,ep,k _ o (Ne.symm a1) (Ne.symm b1) ho,r]
 ·refine(I.hok b u q).stay (λc v hc x=>k c v ?_ ?_ x) (λ_ x=>x) λ_ _ x=>x
  ·rcases hc with z|z
   ·rw[z];exact ne1 b u q
   ·exact ne1 c _ z
  ·rcases hc with z|z
   ·rw[z];exact ne2 b u q
   ·exact ne2 c _ z
noncomputable def Ite (K:a7)(a:i4):It:=
 #[λi H=> ∃xs x,kN K H a xs/\xs[i]? =some x,λi H y H'=> ∃t x,y=.ref t/\H t=none/\H'=upd H t (.tup [.int (i:Nat),x])/\ ∀xs,kN K H a xs->xs[i]? =some x,λi H=> ∃xs,kN K H a xs/\xs.length<=i]
theorem TD {P:i7}{w:j3}{K:a7}{elts:a6 j6}{x1:Nat}{pos:Pos}(a e it:i4)(hne:e≠it):
  Mm P w K (.Tuple elts x1 pos) (Ite K a) [e,it] e (λi h=>(∃old,IsEnum h e it (i:Nat) old)/\h.IsListIter it a i) where
 mem:=by simp
 obj:=λi h st b hb=>by
  obtain⟨⟨old,he⟩,o,e1,c,d⟩:=st
  rcases List.mem_cons.mp hb with z|z
  ·subst z;exact#[_,he,λv z=>by cases z]
  ·rw[List.mem_singleton.mp z];exact#[o,e1,λv z=>by rw[d]at z;cases z]
 keep:=λi h h' st k=>#[#[_,k e (by simp) _ st.1.choose_spec],st.2.at λo q=>k it (by simp) o q]
 item:=by
  intro X hP hw hK hc i j9 s U H E I hf st hg;subst hP hw hK;obtain⟨xs,x,hq,hx⟩:=hg;obtain⟨its,rv,p,hz⟩:=I.list hq;obtain⟨u,hu,ru⟩:=rv.get hx;obtain⟨⟨old,he⟩,hit⟩:=st;have fe:=hf e (by simp);have fi:=hf it (by simp);refine wpAny_pyNext_enum_item he hit p.isList (x:=u) (by simpa using hu) hne λh' out hit' htup hsz hk=>?_;have elt:e<s.heap.objs.size:=yI he;have ilt:it<s.heap.objs.size:=by
   obtain⟨o,ho,_⟩:=hit;exact yI ho
  refine#[.ref s.heap.objs.size,rfl,wpAny_letOwnedTupleGo_enum out λh'' he'' hs''=>?_];have fresh:=I.hok.fresh (zO s.heap.objs.size);have I1:=I.laid (a:=s.heap.objs.size) (o:=.tup [.int (i:Nat),x]) (h':=s.heap.push {cls:=.type "tuple",data:=.seq (List.toArray [.int (i:Nat) s.toks,u])}) (t':=s.toks) (λb o q=>zJ _ q) (zO _)
   #[sm2,[.int (i:Nat) s.toks,u],.cons #[-1] (.cons ru .nil),IsTup.new _ _]
  have fe':HI X j9 (upd H s.heap.objs.size (.tup [.int (i:Nat),x])) e:=#[by rw[yJ (xQ elt)];exact fe.1,fe.2];have fi':HI X j9 (upd H s.heap.objs.size (.tup [.int (i:Nat),x])) it:=#[by rw[yJ (xQ ilt)];exact fi.1,fi.2];have I2:=I1.turned2 (h':=h'') (t':=s.toks+1) (λb o hbe hbi q=>?_) fe' fi'
  ·refine#[.ref s.heap.objs.size,_,I2,rfl,#[s.heap.objs.size,x,rfl,fresh,rfl,λys hy=>by rw[I.list_inj hy hq];exact hx],#[#[u,he''],hit'.at λo q=>(hs''.2 it (Ne.symm hne)).trans q],λb hb=>?_]
   rcases List.mem_cons.mp hb with z|z
   ·rw[z];exact fe'.1
   ·rw[List.mem_singleton.mp z];exact fi'.1
  ·rw[hs''.2 b hbe]
   by_cases hb:b=s.heap.objs.size
   ·subst hb;rw[htup];rw[<-q];exact(yE _ rfl).symm
   ·refine hk b o hbe hbi ?_
    rcases Ds q with⟨z,_⟩|z
    ·exact absurd z hb
    ·exact z
 done:=by
  intro X hP hw hK hc i j9 s U H E I hf st hg;subst hP hw hK;obtain⟨xs,hq,hx⟩:=hg;obtain⟨its,rv,p,hz⟩:=I.list hq;obtain⟨⟨old,he⟩,hit⟩:=st;have hl:=rv.length;obtain⟨f0,f1,f2,f3,f4,f5⟩:=hf it (by simp);exact wpAny_pyNext_enum_end (I.ok.hd hc) he hit p.isList (by simp;lia) λh' eb=>#[rfl,I.turned (t':=s.toks) (λb o hb q=>eb b o hb q) f0 f1 f3 f4 f5]
 self:=λ_ _ _ _ _ st h=>by
  obtain⟨⟨old,he⟩,_⟩:=st;exact BL he h
inductive WR (K:a7) (vs:List V) (H1:Hp) (R:It->Hp->Prop):Prop
 |mk (a xs:_) (h0:vs=[.ref a]) (h1:kN K H1 a xs) (h2:R (Ite K a) H1):WR K vs H1 R
def zDm (K:a7)(ta:TA):TI:=λU H R=>ta U H λvs H1=>WR K vs H1 R
theorem SO {X:Cx}{elts:a6 j6}{x1:Nat}{tpos:Pos}{l:j6}{ta:TA}{p pos:Pos}(hg:Gl X "enumerate")(hm:X.mg "enumerate"=none)(ha:PA X [l] ta)(hs:autoParam (starEach [l] X.env=[(false,eval l X.env)]) L2.aE._auto_1):PI X (.Tuple elts x1 tpos) (.Call (.Name "enumerate" p) [l] [] pos) (zDm X.K ta):=by
 refine#[?_];intro j9 s U H R I h;refine Call_ (EO I hg hm Ju (jH (wK (ha pos j9 s U H _ I h) λus s1 ⟨vs,H1,I1,r1,q1⟩=>?_) hs rfl));obtain⟨a,xs,e,hq,q⟩:=q1;subst e;obtain⟨u,rfl,ru⟩:=II r1;cases ru;obtain⟨its,rv,pl,hz⟩:=I1.list hq;refine call_enumerate_list pl.isList λh' he hit hsz hk=>?_;refine BL (s:={s1 with heap:=h'}) he ?_;have I2:xZ X j9 U H1 {s1 with heap:=h'}:=I1.kept (t':=s1.toks) hk;refine#[_,[s1.heap.objs.size+1,s1.heap.objs.size],_,_,H1,rfl,I2,TD a (s1.heap.objs.size+1) s1.heap.objs.size (Nat.succ_ne_self _),#[#[_,he],hit],λb hb=>?_,q]
 rcases List.mem_cons.mp hb with z|z
 ·rw[z];exact I1.fpOk (AH _) (I1.hok.fresh (AH _))
 ·rw[List.mem_singleton.mp z];exact I1.fpOk (zO _) (I1.hok.fresh (zO _))
theorem Qm {K:a7}{a:i4}{xs:a6 V}{g:TG}{tb:TS}{D:Fp}{U:St}{H:Hp}(Pv:Nat->St->Hp->Prop)(h0:Pv 0 U H)(hl: ∀i U H,i<=xs.length->Pv i U H->kN K H a xs)
  (hs: ∀i x U H t,xs[i]? =some x->Pv i U H->H t=none->g (.ref t) U (upd H t (.tup [.int (i:Nat),x])) λU2 H2=>tb {D with nx:=Pv (i+1),ct:=Pv (i+1),bk:=D.nx} U2 H2) (hd: ∀U H,Pv xs.length U H->D.nx U H):
  ∃W:Nat->Nat->St->Hp->Prop,(∃m,W 0 m U H)/\ ∀i m U H,W i m U H->
   ((Ite K a).stop i H/\D.nx U H)\/((Ite K a).go i H/\ ∃N:St->Hp->Prop,(∀U' H',N U' H'-> ∃m',m'<m/\W (i+1) m' U' H')/\ ∀x H',(Ite K a).yld i H x H'->g x U H' λU2 H2=>tb {D with nx:=N,ct:=N,bk:=D.nx} U2 H2):=by
 refine#[λi m U H=>m=xs.length-i/\i<=xs.length/\Pv i U H,#[xs.length,by simp,xE _,h0],?_];rintro i m U H ⟨rfl,hi,p⟩;have q:=hl i U H hi p
 by_cases o5:i<xs.length
 ·refine .inr #[#[xs,xs[i],q,zF o5],Pv (i+1),λU' H' p'=>#[xs.length-(i+1),(),rfl,o5,p'],λy H' yd=>?_];obtain⟨t,x,rfl,ht,rfl,hx⟩:=yd;exact hs i x U H t (hx xs q) p ht
 ·have e:i=xs.length:=()
  subst e;exact .inl #[#[xs,q,zO _],hd U H p]
section
variable {κ:Type}[DecidableEq κ]
noncomputable def Ak (kvs:a6 (κ×V))(k:κ):i5 V:=(kvs.find? λkv=>decide (kv.1=k)).map (·.2)
noncomputable def Dy (kvs:a6 (κ×V))(k:κ)(v:V):a6 (κ×V):=
 if(kvs.any λkv=>decide (kv.1=k))=true then kvs.map (λkv=>if kv.1=k then(kv.1,v)else kv)else kvs++[(k,v)]
theorem Az {p:κ×V}{r:a6 (κ×V)}{k:κ}(e:p.1=k):Ak (p::r) k=some p.2:=by simp[Ak,Ag,e]
theorem AA {p:κ×V}{r:a6 (κ×V)}{k:κ}(e: ¬p.1=k):Ak (p::r) k=Ak r k:=by simp[Ak,Ag,e]
theorem IK (k:κ): ∀kvs:a6 (κ×V),(kvs.any λkv=>decide (kv.1=k))=(Ak kvs k).isSome
 |[]=>rfl
 |p::r=>by
  rw[Bg]
  by_cases e:p.1=k
  ·simp only[Az e,zP e,Bool.true_or,Option.isSome_some]
  ·rw[AA e,zR e,Bool.false_or];exact IK k r
theorem OP (k j:κ)(y:V): ∀kvs:a6 (κ×V),Ak (kvs.map λkv=>if kv.1=k then(kv.1,y)else kv) j=(Ak kvs j).map λx=>if j=k then y else x
 |[]=>rfl
 |p::r=>by
  have ih:=OP k j y r;rw[yM]
  by_cases h:p.1=k
  ·rw[zQ h]
   by_cases e:p.1=j
   ·rw[Az (p:=(p.1,y)) e,Az e,DH,zQ (e.symm.trans h)]
   ·rw[AA (p:=(p.1,y)) e,AA e,ih]
  ·rw[zN h]
   by_cases e:p.1=j
   ·rw[Az (p:=p) e,Az e,DH,zN (λz=>h (e.trans z))]
   ·rw[AA (p:=p) e,AA e,ih]
theorem MN (k j:κ)(y:V): ∀kvs:a6 (κ×V),Ak kvs k=none->Ak (kvs++[(k,y)]) j=if j=k then some y else Ak kvs j
 |[],_=>by
  by_cases e:k=j
  ·rw[zQ e.symm];exact Az (p:=(k,y)) e
  ·rw[zN (λz=>e z.symm)];exact AA (p:=(k,y)) e
 |p::r,hn=>by
  rw[xN];have hk: ¬p.1=k:=λz=>by rw[Az z]at hn;cases hn
  rw[AA hk]at hn;have ih:=MN k j y r hn
  by_cases e:p.1=j
  ·rw[Az e,Az e,zN (λz=>hk (e.trans z))]
  ·rw[AA e,AA e,ih]
theorem IJ (kvs:a6 (κ×V))(k j:κ)(y:V):Ak (Dy kvs k y) j=if j=k then some y else Ak kvs j:=by
 unfold Dy
 by_cases a:(kvs.any λkv=>decide (kv.1=k))=true
 ·rw[zQ a,OP];rw[IK]at a
  by_cases e:j=k
  ·obtain⟨x,hx⟩:=Option.isSome_iff_exists.mp a;rw[zQ e,e,hx,DH,zQ rfl]
  ·rw[zN e];cases Ak kvs j with
   |none=>rfl
   |some x=>rw[DH,zN e]
 ·rw[zN a];refine MN k j y kvs ?_;rw[IK]at a;cases q:Ak kvs k with
  |none=>rfl
  |some x=>rw[q]at a;exact(a rfl).elim
theorem Bs (kvs:a6 (κ×V))(k:κ)(v:V):(Dy kvs k v).length<=kvs.length+1:=by
 unfold Dy;split
 ·rw[zG];lia
 ·rw[zE,zK,Af];lia
theorem He.isSome_eq (r:He o u):o.isSome=u.isSome:=by
 cases o with
 |none=>cases u with
  |none=>rfl
  |some _=>exact(show False from r).elim
 |some _=>cases u with
  |none=>exact(show False from r).elim
  |some _=>rfl
theorem KV.val {kvs:a6 (κ×V)}{vs:a6 (κ×a9)}(r:KV kvs vs)(k:κ):He (Ak kvs k) (valueAt vs k):=by
 unfold KV at r
 induction r with
 |nil=>exact True.intro
 |@cons p q ps qs h t ih=>
  obtain⟨h1,h2⟩:=h
  by_cases e:p.1=k
  ·have e':q.1=k:=h1.symm.trans e;have b:valueAt (q::qs) k=some q.2:=by simp[valueAt,Ag,e']
   rw[Az e,b];exact h2
  ·have e': ¬q.1=k:=λz=>e (h1.trans z);have b:valueAt (q::qs) k=valueAt qs k:=by simp[valueAt,Ag,e']
   rw[AA e,b];exact ih
theorem KV.any (r:KV kvs vs)(k:κ):(kvs.any λkv=>decide (kv.1=k))=vs.any λkv=>decide (kv.1=k):=by
 unfold KV at r
 induction r with
 |nil=>rfl
 |cons h t ih=>rw[Bg,Bg,ih,h.1]
theorem KV.repl (r:KV kvs vs)(k:κ)(ry:kU y u):
  KV (kvs.map λkv=>if kv.1=k then(kv.1,y)else kv) (vs.map λkv=>if kv.1=k then(kv.1,u)else kv):=by
 unfold KV at r ⊢
 induction r with
 |nil=>exact .nil
 |@cons p q ps qs h t ih=>
  rw[yM,yM];refine .cons ?_ ih;obtain⟨h1,h2⟩:=h
  by_cases e:p.1=k
  ·rw[zQ e,zQ (h1.symm.trans e)];exact#[h1,ry]
  ·rw[zN e,zN (λz=>e (h1.trans z))];exact#[h1,h2]
theorem KV.put (r:KV kvs vs)(k:κ)(ry:kU y u):KV (Dy kvs k y) (stored vs k u):=by
 unfold Dy stored;rw[r.any k]
 by_cases e:(vs.any λkv=>decide (kv.1=k))=true
 ·rw[zQ e,zQ e];exact r.repl k ry
 ·rw[zN e,zN e];exact Do r #[rfl,ry]
theorem KV.length (r:KV kvs vs):kvs.length=vs.length:=EY r
end
theorem Ng (r:kU (kV k) u):(wP P w).is k u=true:=by
 cases k with
 |inl i=>obtain⟨t,e⟩:=(show ∃t,u=Value.int i t from r);subst e;exact Qb P w i t
 |inr x=>obtain⟨t,e⟩:=(show ∃t,u=Value.str x t from r);subst e;exact Qa P w x t
theorem Ni: ∀{ks:a6 AQ} {us:a6 a9},kE (ks.map kV) us->ItemsAre (wP P w) ks us
 |[],_,r=>by rw[List.map_nil]at r;cases r;exact .nil
 |k::ks,_,r=>by
  rw[yM]at r;cases r with
  |cons h t=>exact .cons (Ng h) (Ni t)
abbrev KT (H:Hp):a6 (a6 AQ×V)->a6 (a6 AQ×i4×a9)->Prop:=Paired λp q=>p.1=q.1/\H q.2.1=some (.tup (p.1.map kV))/\kU p.2 q.2.2
theorem KT.val {H:Hp}{kvs:a6 (a6 AQ×V)}{xs:a6 (a6 AQ×i4×a9)}(r:KT H kvs xs)(k:a6 AQ):He (Ak kvs k) ((atKey xs k).map (·.2)):=by
 induction r with
 |nil=>exact True.intro
 |@cons p q ps qs h t ih=>
  obtain⟨h1,_,h2⟩:=h
  by_cases e:p.1=k
  ·have e':q.1=k:=h1.symm.trans e;have b:atKey (q::qs) k=some q.2:=by simp[atKey,Ag,e']
   rw[Az e,b];exact h2
  ·have e': ¬q.1=k:=λz=>e (h1.trans z);have b:atKey (q::qs) k=atKey qs k:=by simp[atKey,Ag,e']
   rw[AA e,b];exact ih
theorem KT.repl (r:KT H kvs xs)(k:a6 AQ)(ry:kU y u):
  KT H (kvs.map λkv=>if kv.1=k then(kv.1,y)else kv) (xs.map (putAt k u)):=by
 induction r with
 |nil=>exact .nil
 |@cons p q ps qs h t ih=>
  rw[yM,yM];refine .cons ?_ ih;obtain⟨h1,h2,h3⟩:=h;unfold putAt
  by_cases e:p.1=k
  ·rw[zQ e,zQ (h1.symm.trans e)];exact#[h1,h2,ry]
  ·rw[zN e,zN (λz=>e (h1.trans z))];exact#[h1,h2,h3]
theorem KT.put (r:KT H kvs xs)(k:a6 AQ)(hb:H b=some (.tup (k.map kV)))(ry:kU y u):
  KT H (Dy kvs k y) (storedH xs k b u):=by
 have e:(kvs.any λkv=>decide (kv.1=k))=(atKey xs k).isSome:=by
  rw[IK,(r.val k).isSome_eq,EM]
 unfold Dy storedH;rw[e]
 by_cases q:(atKey xs k).isSome =true
 ·rw[zQ q,zQ q];exact r.repl k ry
 ·rw[zN q,zN q];exact Do r #[rfl,hb,ry]
theorem KT.keeps (r:KT H kvs xs)(ht: ∀b ys,H b=some (.tup ys)->H' b=some (.tup ys)):KT H' kvs xs:=
 Paired.mapP r λ_ _ z=>#[z.1,ht _ _ z.2.1,z.2.2]
section
variable {P:i7}{w:j3}{H:Hp}{h:j4}{a:i4}
theorem Zl (ok:IB P w H h)(e:Rd H a u):vY P w H h a u:=e.ok ok
theorem Qr (ok:IB P w H h)(e:Rd H a (.dK kvs)):kvs.length<=sizeLine/\(a==sysModules)=false/\ ∃vs,KV kvs vs/\h.DictOf (wP P w) a vs:=
 show vY P w H h a (.dK kvs)from Zl ok e
theorem zDu (ok:IB P w H h)(e:H a=some (.dK kvs)):kvs.length<=sizeLine/\(a==sysModules)=false/\ ∃vs,KV kvs vs/\h.DictOf (wP P w) a vs:=Qr ok (.inl e)
theorem LU (ok:IB P w H h)(e:H a=some (.tup (ks.map kV))):(tupleKind (wP P w)).is h ks a:=by
 obtain⟨_,its,r,o,h1,h2,n,h3⟩:=(show vY P w H h a (.tup (ks.map kV))from ok a _ e);exact#[o,its.toArray,n,h1,h2,h3,by simpa using Ni r]
theorem Qq (ok:IB P w H h)(e:Rd H a (.dT kvs)):kvs.length<=sizeLine/\(a==sysModules)=false/\
  ∃xs,KT H kvs xs/\h.DictOfH (tupleKind (wP P w)) a xs:=by
 obtain⟨z,y,xs,r,o,es,ep,h1,h2,h3,h4,h5⟩:=(show vY P w H h a (.dT kvs)from Zl ok e);refine#[z,y,xs,r,o,es,ep,h1,h2,h3,h4,λx hx=>?_,h5];have all: ∀{l:a6 (a6 AQ×V)} {m:a6 (a6 AQ×i4×a9)},KT H l m-> ∀x∈m,(tupleKind (wP P w)).is h x.1 x.2.1:=by
  intro l m q
  induction q with
  |nil=>intro x hx;exact nomatch hx
  |@cons p q ps qs hq t ih=>
   intro x hx
   rcases List.mem_cons.mp hx with e|hx
   ·subst e;exact LU ok (by rw[<-hq.1];exact hq.2.1)
   ·exact ih x hx
 exact all r x hx
theorem zDt (ok:IB P w H h)(e:H a=some (.dT kvs)):kvs.length<=sizeLine/\(a==sysModules)=false/\
  ∃xs,KT H kvs xs/\h.DictOfH (tupleKind (wP P w)) a xs:=Qq ok (.inl e)
end
def Ew (H:Hp)(a:i4)(y:V)(r:i5 V):Prop:=
 (∃kvs k,Rd H a (.dK kvs)/\y=kV k/\r=Ak kvs k)\/ ∃kvs k b,Rd H a (.dT kvs)/\y=.ref b/\H b=some (.tup (k.map kV))/\r=Ak kvs k
def Sm (H:Hp)(a:i4)(y v:V)(H':Hp):Prop:=
 (∃kvs k,H a=some (.dK kvs)/\y=kV k/\kvs.length<sizeLine/\H'=upd H a (.dK (Dy kvs k v)))\/
 ∃kvs k b,H a=some (.dT kvs)/\y=.ref b/\H b=some (.tup (k.map kV))/\kvs.length<sizeLine/\H'=upd H a (.dT (Dy kvs k v))
theorem Ew.k {H:Hp}{a:i4}{kvs:a6 (AQ×V)}{k:AQ}(e:H a=some (.dK kvs)):Ew H a (kV k) (Ak kvs k):=.inl #[kvs,k,.inl e,rfl,rfl]
theorem Sm.k {H:Hp}{a:i4}{kvs:a6 (AQ×V)}{k:AQ}{v:V}(e:H a=some (.dK kvs))(hl:kvs.length<sizeLine):Sm H a (kV k) v (upd H a (.dK (Dy kvs k v))):=.inl #[kvs,k,e,rfl,hl,rfl]
section
variable {X:Cx}{j9:a6 (i4×j8)}{U:St}{H:Hp}{s:i6}{a:i4}{y v:V}{u r:a9}{o:i5 V}{A:j5}{E:a9->i6->Prop}
theorem xZ.big (I:xZ X j9 U H s):sysModules<s.heap.objs.size:=by
 have h:mainGlobals<s.heap.objs.size:=(I.mod.glob.keeps I.bk).lt;exact Nat.lt_trans (by decide) h
theorem UH (hu:A.units+1<cLine)(I:xZ X j9 U H s)(g:Ew H a y (some v))(ry:kU y u)(h: ∀w' s',xZ X j9 U H s'->kU v w'->Q w' s'):
  wpAny (model X.prog X.w) A (getItem (.ref a) u) Q E s:=by
 rcases g with⟨kvs,k,e,ey,l⟩|⟨kvs,k,b,e,ey,eb,l⟩
 ·subst ey;obtain⟨z,hd,vs,rel,dd⟩:=Qr I.hok e;obtain⟨w',hw,rw'⟩:=He.some_of (v:=v) (o:=valueAt vs k) (by rw[l];exact rel.val k);exact wpAny_getItem_of (Ng ry) dd.mapOf hw (h w' _ (I.tok _) rw')
 ·subst ey;cases(show u=Value.ref b from ry);obtain⟨z,hd,xs,rel,dd⟩:=Qq I.hok e;obtain⟨w',hw,rw'⟩:=He.some_of (v:=v) (o:=(atKey xs k).map (·.2)) (by rw[l];exact rel.val k);obtain⟨p,hp,hp2⟩:=Option.map_eq_some_iff.mp hw;refine wpAny_getItem_heap (Bo hu) (LU I.hok eb) dd hp ?_;rw[hp2];exact h w' _ (I.tok _) rw'
theorem zHr (hu:A.units+1<cLine)(I:xZ X j9 U H s)(g:Ew H a y o)(ry:kU y u)(h: ∀s',xZ X j9 U H s'->Q (.bool o.isSome) s'):
  wpAny (model X.prog X.w) A (compareOp .In u (.ref a)) Q E s:=by
 rcases g with⟨kvs,k,e,ey,l⟩|⟨kvs,k,b,e,ey,eb,l⟩
 ·subst ey;obtain⟨z,hd,vs,rel,dd⟩:=Qr I.hok e;refine wpAny_in_of (Ng ry) hd dd.mapOf ?_;rw[<-(rel.val k).isSome_eq,<-l];exact h _ (I.tok _)
 ·subst ey;cases(show u=Value.ref b from ry);obtain⟨z,hd,xs,rel,dd⟩:=Qq I.hok e;refine wpAny_in_heap (Bo hu) (LU I.hok eb) hd dd ?_;have q:=(rel.val k).isSome_eq;rw[EM]at q;rw[<-q,<-l];exact h _ (I.tok _)
theorem YT (hu:A.units+1<cLine)(I:xZ X j9 U H s)(g:Ew H a y o)(ry:kU y u)(h: ∀s',xZ X j9 U H s'->Q (.bool (!o.isSome)) s'):
  wpAny (model X.prog X.w) A (compareOp .NotIn u (.ref a)) Q E s:=by
 rcases g with⟨kvs,k,e,ey,l⟩|⟨kvs,k,b,e,ey,eb,l⟩
 ·subst ey;obtain⟨z,hd,vs,rel,dd⟩:=Qr I.hok e;refine wpAny_notIn_of (Ng ry) hd dd.mapOf ?_;rw[<-(rel.val k).isSome_eq,<-l];exact h _ (I.tok _)
 ·subst ey;cases(show u=Value.ref b from ry);obtain⟨z,hd,xs,rel,dd⟩:=Qq I.hok e;refine wpAny_notIn_heap (Bo hu) (LU I.hok eb) hd dd ?_;have q:=(rel.val k).isSome_eq;rw[EM]at q;rw[<-q,<-l];exact h _ (I.tok _)
theorem Tm {h':j4}{t':Nat}{ob:HO}(I:xZ X j9 U H s)(mu:Mut (H a))(hs:Heap.SameBut a s.heap h')(he: ∃q,h'.get? a=some q)(new:vY X.prog X.w (upd H a ob) h' a ob):
  xZ X j9 U (upd H a ob) {s with heap:=h',toks:=t'}:=
 I.write (x:=a) (e:=a) mu (.inl rfl) (λb q hb z=>(hs.2 b hb).trans z) he new
theorem Xk (z:kvs.length<=sizeLine)(hd:(a==sysModules)=false)(rel:KV kvs vs)(dd:h'.DictOf (wP P w) a vs):
  vY P w H' h' a (.dK kvs):=#[z,hd,vs,rel,dd]
theorem UG (hu:A.units+1<cLine)(I:xZ X j9 U H s)(g:Sm H a y v H')(ry:kU y u)(rv:kU v r)(h: ∀s',xZ X j9 U H' s'->Q Unit.unit s'):
  wpAny (model X.prog X.w) A (setItem (.ref a) u r) Q E s:=by
 rcases g with⟨kvs,k,e,ey,l,eH⟩|⟨kvs,k,b,e,ey,eb,l,eH⟩
 ·subst ey eH;obtain⟨z,hd,vs,rel,dd⟩:=zDu I.hok e;have hz:vs.length<=sizeLine:=by rw[<-rel.length];exact z
  have hl:(Dy kvs k v).length<=sizeLine:=by have:=Bs kvs k v;lia
  refine wpAny_setItem_pairs (hsz:=hz) (Ng ry) dd λh' dd' hs=>h _ ?_;have he: ∃q,h'.get? a=some q:=let⟨q,_,_,hq,_⟩:=dd';#[q,hq];exact Tm I (by rw[e];exact True.intro) hs he (Xk hl hd (rel.put k rv) dd')
 ·subst ey eH;cases(show u=Value.ref b from ry);obtain⟨z,hd,xs,rel,dd⟩:=zDt I.hok e;have hz:xs.length<=sizeLine:=by rw[<-EY rel];exact z
  have hl:(Dy kvs k v).length<=sizeLine:=by have:=Bs kvs k v;lia
  refine wpAny_setItem_heap (hsz:=hz) (Bo hu) (LU I.hok eb) dd λh' dd' hs=>h _ ?_;obtain⟨q,es,ep,hq,h2,h3,h4,_,h5⟩:=dd';refine Tm I (by rw[e];exact True.intro) hs #[q,hq] #[hl,hd,_,(rel.put k eb rv).keeps λc ys ec=>?_,q,es,ep,hq,h2,h3,h4,h5];rw[yJ (zDe ec e (λz=>nomatch z))];exact ec
end
def zEc (i:j6):Prop:= ∀ov iv,subscripted i false ov iv=operate [ov,iv] (getItem ov iv)
theorem XT {prog:i7}{w:j3}{A:j5}{E:a9->i6->Prop}{s:i6}{env:Env}{value slice:j6}{pos:Pos}{T id:String}{Q:a9->i6->Prop}
  (hl:typeLookup (.type T) "__getitem__"=pure (some (.builtin id))) (hs:zEc slice)
  (h:wpAny (model prog w) A (eval value env) (λo s₁=>wpAny (model prog w) A (eval slice env) (λi s₂=>s₂.TypeIs o T/\wpAny (model prog w) A (getItem o i) Q E s₂) E s₁) E s):
  wpAny (model prog w) A (eval (.Subscript value slice pos) env) Q E s:=by
 refine Subscript_ (AG h (λo s₁ h₁=>AG h₁ (λi s₂ h₂=>?_) λ_ _ x=>x) λ_ _ x=>x);obtain⟨hT,h₂⟩:=h₂;unfold subscriptTail;refine zD ?_;rw[getitemInPython_of_ne hT.not_modules];refine zD (Bi hT hl ?_);have fin:wpAny (model prog w) A (subscripted slice false o i) (λr s₃=>wpAny (model prog w) A (letTemporaryGo value o r>>=λ_=>pure r) Q E s₃) E s₂:=by
  rw[hs o i];exact wpAny_operating (AG h₂ (λr s₃ h₃=>zD (wpAny_letTemporaryGo (zZ h₃))) λ_ _ x=>x)
 first
  |exact zZ (zD fin)
  |exact zD (zZ (zD fin))
  |exact zD fin
theorem Qs (I:xZ X j9 U H s)(g:Ew H a y o):s.TypeIs (.ref a) "dict":=by
 rcases g with⟨kvs,k,e,_,_⟩|⟨kvs,k,b,e,_,_,_⟩
 ·obtain⟨_,_,vs,_,dd⟩:=Qr I.hok e;exact dd.typeIs
 ·obtain⟨_,_,xs,_,dd⟩:=Qq I.hok e;exact dd.typeIs
def zCi (td ty:TE):TE:=λU H Q=>td U H λx H1=>ty U H1 λy H2=> ∃a v,x=.ref a/\Ew H2 a y (some v)/\Q v H2
def zFi (ty td:TE):TE:=λU H Q=>ty U H λy H1=>td U H1 λx H2=> ∃a o,x=.ref a/\Ew H2 a y o/\Q (.bl o.isSome) H2
def XS (ty td:TE):TE:=λU H Q=>ty U H λy H1=>td U H1 λx H2=> ∃a o,x=.ref a/\Ew H2 a y o/\Q (.bl (!o.isSome)) H2
def zCl (td ty tv:TE):TS:=λD U H=>tv U H λv H1=>td U H1 λx H2=>ty U H2 λy H3=> ∃a H4,x=.ref a/\Sm H3 a y v H4/\D.nx U H4
section
variable {X:Cx}{o i e value:j6}{pos pos' tpos:Pos}{td ty tv:TE}
theorem uV (hu:X.A.units+1<cLine)(ho:PE X o td)(hi:PE X i ty)(hs:zEc i):PE X (.Subscript o i pos) (zCi td ty):=by
 refine#[?_];intro j9 s U H Q I h;refine XT PySem.F.slot_dict_getitem.lookup hs (wK (ho j9 s U H _ I h) λu s1 ⟨x,H1,I1,rx,q1⟩=>wK (hi j9 s1 U H1 _ I1 q1) λiv s2 m9=>?_);obtain⟨y,H2,I2,ry,a,v,ex,g,q2⟩:=m9;subst ex;obtain rfl:u=Value.ref a:=rx;exact#[Qs I2 g,UH hu I2 g ry λw' s3 I3 rw'=>#[v,H2,I3,rw',q2]]
theorem VT (hu:X.A.units+1<cLine)(hi:PE X i ty)(ho:PE X o td):PC X .In i o (zFi ty td):=by
 refine#[?_];intro j9 s U H Q I h;refine wK (hi j9 s U H _ I h) λiv s1 m9=>?_;obtain⟨y,H1,I1,ry,q1⟩:=m9;refine wK (ho j9 s1 U H1 _ I1 q1) λu s2 m9=>?_;obtain⟨x,H2,I2,rx,a,ov,ex,g,q2⟩:=m9;subst ex;obtain rfl:u=Value.ref a:=rx;exact zHr hu I2 g ry λs3 I3=>#[.bl ov.isSome,H2,I3,rfl,q2]
theorem MX (hu:X.A.units+1<cLine)(hi:PE X i ty)(ho:PE X o td):PC X .NotIn i o (XS ty td):=by
 refine#[?_];intro j9 s U H Q I h;refine wK (hi j9 s U H _ I h) λiv s1 m9=>?_;obtain⟨y,H1,I1,ry,q1⟩:=m9;refine wK (ho j9 s1 U H1 _ I1 q1) λu s2 m9=>?_;obtain⟨x,H2,I2,rx,a,ov,ex,g,q2⟩:=m9;subst ex;obtain rfl:u=Value.ref a:=rx;exact YT hu I2 g ry λs3 I3=>#[.bl (!ov.isSome),H2,I3,rfl,q2]
theorem Oc (hu:X.A.units+1<cLine)(ho:PE X o td)(hi:PE X i ty)(hv:PE X value tv)(hs:swapsWith value (some (.Subscript o i pos')) pos.line X.env=pure false):
  PS X (.Assign [.Subscript o i pos'] value pos) (zCl td ty tv):=by
 refine#[?_];intro j9 s U H D I h;refine wpAny_Assign_Subscript (wK (hv j9 s U H _ I h) λr s1 z=>?_) hs;obtain⟨v,H1,I1,rv,q1⟩:=z;refine wK (ho j9 s1 U H1 _ I1 q1) λu s2 z=>?_;obtain⟨x,H2,I2,rx,q2⟩:=z;refine wK (hi j9 s2 U H2 _ I2 q2) λiv s3 z=>?_;obtain⟨y,H3,I3,ry,a,H4,ex,g,q3⟩:=z;subst ex;obtain rfl:u=Value.ref a:=rx;exact UG hu I3 g ry rv λs4 I4=>#[U,H4,I4,q3]
end
theorem Xl (h:j4)(hb:sysModules<h.objs.size):vY P w H (h.push {cls:=.type "dict",data:=.dict #[]}) h.objs.size (.dK []):=
 #[xE _,beq_eq_false_iff_ne.mpr (Ne.symm (xQ hb)),[],.nil,Heap.DictOf.new h]
def ZQ:TE:=λ_ H Q=> ∀p,H p=none->Q (.ref p) (upd H p (.dK []))
section
variable {X:Cx}{pos:Pos}
theorem LJ:PE X (.Dict [] [] pos) ZQ:=#[λj9 s U H Q I h=>
 wpAny_Dict_empty #[.ref s.heap.objs.size,_,I.laid (a:=s.heap.objs.size) (o:=.dK []) (t':=s.toks) (λ_ _ q=>zJ _ q) (zO _) (Xl s.heap I.big),rfl,h _ (I.hok.fresh (zO _))]]
end
structure M1 (X:Cx)(o:j6)(m:Str)(o8:Pos)(e:j6)(p8:Pos):Prop where
 base:attributeBase o m X.env (eval o X.env)=eval o X.env
 few:((backTo p8 (starEach [e] X.env)).all (λx=>!x.1)&&(backToKw p8 (keywordEach [] X.env)).all (λx=>x.1.isSome)
  &&decide (([e]:List j6).length +([]:List Keyword).length +(if([]:List Keyword).isEmpty then 0 else 1)<30))=true
 line:(o8.endLine==p8.line)=true
 trees:backTo p8 (starEach [e] X.env)=[(false,eval e X.env)]
structure M2 (X:Cx)(o:j6)(m:Str)(o8:Pos)(e f:j6)(p8:Pos):Prop where
 base:attributeBase o m X.env (eval o X.env)=eval o X.env
 few:((backTo p8 (starEach [e,f] X.env)).all (λx=>!x.1)&&(backToKw p8 (keywordEach [] X.env)).all (λx=>x.1.isSome)
  &&decide (([e,f]:List j6).length +([]:List Keyword).length +(if([]:List Keyword).isEmpty then 0 else 1)<30))=true
 line:(o8.endLine==p8.line)=true
 trees:backTo p8 (starEach [e,f] X.env)=[(false,eval e X.env),(false,eval f X.env)]
section
variable {X:Cx}
def zEq (i j:Int):Prop:=i.natAbs<2^2000/\j.natAbs<2^2000
theorem Yr:HC X (binaryOp .Mult) (rI zEq λi j=>.int (i*j)):=opI λi j _ _ _ _ _ hc q=>by
 refine mul_int q ?_;exact IntMulOk.of_le (Fu hc.1) (Fu hc.2) (by decide)
def ZG (i j:Int):Prop:=j≠0/\j.natAbs<2^2000
theorem LK:HC X (binaryOp .FloorDiv) (rI ZG λi j=>.int (i.fdiv j)):=opI λi j _ _ _ _ _ hc q=>by
 have h:j.natAbs.log2<2000:=(Nat.log2_lt (by have:=hc.1;lia)).mpr hc.2;exact floordiv_int hc.1 q (.inl (EX ()))
end
theorem LW (k:Int): ∀ns:a6 Int,Zs (.int k) (ns.map V.int)=decide (k∈ns)
 |[]=>rfl
 |n::r=>by
  have ih:=LW k r;unfold Zs at ih ⊢;rw[yM,Bg,ih]
  by_cases h:n=k
  ·subst h;simp[Ha]
  ·have h2: ¬k=n:=λz=>h z.symm
   simp[Ha,h,h2]
theorem vt (c:decide (V.int a=V.int b)=true):a=b:=by
 have:=yB c;injection this
theorem vf (c: ¬decide (V.int a=V.int b)=true):a≠b:=λe=>c (zP (by rw[e]))
theorem df [Decidable c](h: ¬decide c=true): ¬c:=wF (Bool.eq_false_iff.mpr h)
end L2
namespace L2
open PySem
theorem Mj:bootBuiltins "all"=some (.builtin "all"):=by decide+kernel
theorem Eb (K:a7)(hK:X.K=K):SlR X (VB K):=hK▸FC
theorem Mh (K:a7)(hK:X.K=K):Fq X (.type "tuple") (λxs H Q=> ∃p ys,xs=[.ref p]/\((kN K H p ys/\ ∀l,H l=none->Q (.ref l) (upd H l (.tup ys)))\/(Ax K H p ys/\Q (.ref p) H))):=hK▸HN
theorem Em (x y z:Int)(ha: ∀R:VK,R (.int x) H->ta U H R)(hb: ∀R:VK,R (.int y) H->tb U H R)(hc: ∀R:VK,R (.int z) H->tc U H R)(h: ∀r:i8,(r=true ↔ x<=y/\y<=z)->Q (.bl r) H):
  NA (TW λi j=>V.bl (decide (i<=j))) (TW λi j=>V.bl (decide (i<=j))) ta tb tc U H Q:=by
 refine ha _ (hb _ #[x,y,rfl,rfl,-1,jK (λc=>?_) (λc=>?_)])
 ·exact hc _ #[y,z,rfl,rfl,h _ #[λe=>#[yB c,yB e],λe=>zP e.2]]
 ·exact h _ #[λe=>(nomatch e),λe=>absurd e.1 (df c)]
theorem Fo (x y z:Int)(ha: ∀R:VK,R (.int x) H->ta U H R)(hb: ∀R:VK,R (.int y) H->tb U H R)(hc: ∀R:VK,R (.int z) H->tc U H R)(h: ∀r:i8,(r=true ↔ x<=y/\y<z)->Q (.bl r) H):
  NA (TW λi j=>V.bl (decide (i<=j))) (TW λi j=>V.bl (decide (i<j))) ta tb tc U H Q:=by
 refine ha _ (hb _ #[x,y,rfl,rfl,-1,jK (λc=>?_) (λc=>?_)])
 ·exact hc _ #[y,z,rfl,rfl,h _ #[λe=>#[yB c,yB e],λe=>zP e.2]]
 ·exact h _ #[λe=>(nomatch e),λe=>absurd e.1 (df c)]
theorem Mv {n k:Nat}(hk:k=2\/k=3):Builtin.Range.rangeSize 0 (n:Int) (k:Int)=(((n+(k-1)) / k:Nat):Int):=by
 unfold Builtin.Range.rangeSize
 rcases hk with rfl|rfl<;>split<;>lia
def AE (op n nf nr:Int):Prop:=
 op=0\/(op=1\/op=2)/\0<=n/\n<12\/(op=4\/op=5)/\0<=n/\n<nr\/op=6/\0<=n/\n<nf\/op=10/\8<=n/\n<=19\/op=11/\2<=n/\n<=12\/(op=3\/op=7\/op=8\/op=9)/\n=0
def IA (s p b fn nr:Int):Prop:=0<=s/\s<nr/\0<=p/\p<=4/\(fn=0->p=0)/\p<=b/\b<=12
noncomputable def Gj (k:Nat)(ns:a6 Int):a6 (a6 Int):=(List.range ((ns.length+(k-1)) / k)).map λi=>(ns.drop (i*k)).take k
def BS (H:Hp)(v:V)(zs:a6 Int):Prop:= ∃t,v=.ref t/\H t=some (.tup (zs.map V.int))
def qU (H:Hp)(l:i4)(gs:a6 (a6 Int)):Prop:= ∃rs,H l=some (.lst rs)/\Paired (BS H) rs gs
theorem Qv (ns:a6 Int)(a b:Nat):Bu (ns.map V.int) (some (a:Int)) (some (b:Int))=((ns.drop a).take (b-a)).map V.int:=by
 unfold Bu;rw[HT.sIx_nat,HT.sIx_nat,zG,List.map_take,List.map_drop]
 by_cases h:a<=ns.length
 ·rw[Ae h]
  by_cases h2:b<=ns.length
  ·rw[Ae h2]
  ·rw[Fv (),xW (by simp),xW (by simp;lia)]
 ·have e1:((ns.map V.int).drop (min a ns.length))=[]:=kL (by simp;lia);have e2:((ns.map V.int).drop a)=[]:=kL (by simp;lia);rw[e1,e2,List.take_nil,List.take_nil]
theorem RX (ns:a6 Int)(a:Nat):Bu (ns.map V.int) (some (a:Int)) none=(ns.drop a).map V.int:=by
 unfold Bu;rw[HT.sIx_nat,HT.sIx_none,zG,List.map_drop]
 by_cases h:a<=ns.length
 ·rw[Ae h,xW (by simp)]
 ·rw[Fv (),kL (by simp),kL (by simp;lia)]
  simp
theorem YK (k:Nat)(ns:a6 Int):(Gj k ns).length =(ns.length+(k-1)) / k:=by unfold Gj;simp
theorem WW (h:i<(ns.length+(k-1)) / k):(Gj k ns).take (i+1)=(Gj k ns).take i++[(ns.drop (i*k)).take k]:=by
 have e:(Gj k ns)[i]? =some ((ns.drop (i*k)).take k):=by
  unfold Gj;rw[zW,wY h]<;>rfl
 rw[vH,e]<;>rfl
theorem BS.upd (h:BS H v zs)(hp:H p=some (.lst xs)):BS (upd H p o) v zs:=by
 obtain⟨t,rfl,e⟩:=h;have ne:t≠p:=λz=>by rw[z,hp]at e;cases e
 exact#[t,rfl,by rw[yJ ne];exact e]
theorem BS.same (h:BS H v zs)(s:xJ H H'):BS H' v zs:=by
 obtain⟨t,rfl,e⟩:=h;exact#[t,rfl,s _ _ e]
theorem qU.same (h:qU H l gs)(s:xJ H H'):qU H' l gs:=by
 obtain⟨rs,e,p⟩:=h;exact#[rs,s _ _ e,p.mono λ_ _ x=>x.same s]
noncomputable def headNums (ns:a6 Int):a6 Int:=(ns.drop 1).take (3*(ns.headD 0).toNat)
noncomputable def rowNums (ns:a6 Int):a6 Int:=ns.drop (1+3*(ns.headD 0).toNat)
theorem WU (e:ns=n::ms)(hn:0<=n):Bu (ns.map V.int) (some 1) (some (1+3*n))=(headNums ns).map V.int:=by
 have h:=Qv ns 1 (1+3*n.toNat);rw[show((1+3*n.toNat:Nat):Int)=1+3*n by lia,show((1:Nat):Int)=1 from rfl,Bt]at h;rw[h,e]<;>rfl
theorem XZ (e:ns=n::ms)(hn:0<=n):Bu (ns.map V.int) (some (1+3*n)) none=(rowNums ns).map V.int:=by
 have h:=RX ns (1+3*n.toNat);rw[show((1+3*n.toNat:Nat):Int)=1+3*n by lia]at h;rw[h,e]<;>rfl
theorem OD (e:ns=n::ms):IF (ns.map V.int) 0=some (.int n):=by
 have:=kK (xs:=ns.map V.int) (j:=0) (v:=.int n) (by rw[e]<;>rfl);exact this
theorem zAp (h:0<=n)(h':n<=16):XD 3 n:=by
 unfold XD;have:n.natAbs<=16:=()
 lia
def RQ (g:a6 Int)(i nr:Nat):Prop:= ∃s p b,g=[s,p,b]/\IA s p b i nr
def BR (g:a6 Int)(nf nr:Nat):Prop:= ∃op n,g=[op,n]/\AE op n nf nr
structure Ep (ns:List Int):Prop where
 big: ∃n ms,ns=n::ms/\1<=n/\n<=16/\3*n+2<=ms.length/\(ms.length-3*n.toNat) % 2=0
 heads: ∀i g,(Gj 3 (headNums ns))[i]? =some g->RQ g i ((rowNums ns).length / 2)
 rows: ∀g∈Gj 2 (rowNums ns),BR g (ns.headD 0).toNat ((rowNums ns).length / 2)
theorem Paired.yonder {xs:a6 α}{ys:a6 β}(h:Paired F xs ys): ∀{j:Nat} {x:α},xs[j]? =some x-> ∃y,ys[j]? =some y/\F x y:=by
 induction h with
 |nil=>intro j x h;cases h
 |cons r t ih=>
 intro j x h;cases j with
 |zero=>cases h;exact#[-1,r]
 |succ j=>exact ih (by simpa using h)
theorem Th {k i:Nat}{ns g:a6 Int}(hk:k=2\/k=3)(hd:ns.length % k=0)(h:(Gj k ns)[i]? =some g):g.length=k:=by
 unfold Gj at h;rw[zW]at h
 by_cases hi:i<(ns.length+(k-1)) / k
 ·rw[wY hi]at h;cases h;rw[xM,qR]
  rcases hk with rfl|rfl<;>lia
 ·rw[wE (by simp;lia)]at h;cases h
theorem zHf (h:g.length=3): ∃a b c,g=[a,b,c]:=match g,h with
 |[a,b,c],_=>#[a,b,c,rfl]
theorem zHg (h:g.length=2): ∃a b,g=[a,b]:=match g,h with
 |[a,b],_=>#[a,b,rfl]
theorem Xs:(bs++[b]).all id=true ↔ bs.all id=true/\b=true:=by simp
inductive Li (vs:List V) (H:Hp) (Q:VK) (E:XK):Prop
 |mk (t s p b fn nr:_) (h0:vs=[.ref t,.int fn,.int nr]) (h1:H t=some (.tup [.int s,.int p,.int b])) (h2: ∀r,(r=true ↔ IA s p b fn nr)->Q (.bl r) H):Li vs H Q E
inductive NH (vs:List V) (H:Hp) (Q:VK) (E:XK):Prop
 |mk (t op n nf nr:_) (h0:vs=[.ref t,.int nf,.int nr]) (h1:H t=some (.tup [.int op,.int n])) (h2: ∀r H',xJ H H'->(r=true ↔ AE op n nf nr)->Q (.bl r) H'):NH vs H Q E
inductive NN (vs:List V) (H:Hp) (Q:VK) (E:XK):Prop
 |mk (op:Int) (h0:vs=[.int op]) (h1: ∀r H',xJ H H'->(r=true ↔ op=3\/op=7\/op=8\/op=9)->Q (.bl r) H'):NN vs H Q E
inductive Hm (vs:List V) (H:Hp) (Q:VK) (E:XK):Prop
 |mk (a:i4) (ns:List Int) (k:Nat) (h0:vs=[.ref a,.int k]) (h1:(k=2\/k=3)) (h2:H a=some (.lst (ns.map V.int))) (h3:ns.length<=1000000) (h4: ∀l H',xJ H H'->H l=none->qU H' l (Gj k ns)->Q (.ref l) H'):Hm vs H Q E
inductive Hl (vs:List V) (H:Hp) (Q:VK) (E:XK):Prop
 |mk (a:i4) (ns:List Int) (h0:vs=[.ref a]) (h1:H a=some (.lst (ns.map V.int))) (h2:ns.length<=1000000) (h3:(∃n ms,ns=n::ms/\0<=n/\n<=16)) (h4: ∀l H',xJ H H'->H l=none->qU H' l (Gj 3 (headNums ns))->Q (.ref l) H'):Hl vs H Q E
inductive IP (vs:List V) (H:Hp) (Q:VK) (E:XK):Prop
 |mk (a:i4) (ns:List Int) (h0:vs=[.ref a]) (h1:H a=some (.lst (ns.map V.int))) (h2:ns.length<=1000000) (h3:(∃n ms,ns=n::ms/\0<=n/\n<=16)) (h4: ∀l H',xJ H H'->H l=none->qU H' l (Gj 2 (rowNums ns))->Q (.ref l) H'):IP vs H Q E
inductive Lb (vs:List V) (H:Hp) (Q:VK) (E:XK):Prop
 |mk (a:i4) (ns:List Int) (h0:vs=[.ref a]) (h1:H a=some (.lst (ns.map V.int))) (h2:ns.length<=1000000) (h3: ∀H',xJ H H'->Q (.bl true) H'):Lb vs H Q E
inductive Fb (vs:List V) (H:Hp) (Q:VK) (E:XK):Prop
 |mk (a:i4) (ns:List Int) (h0:vs=[.ref a]) (h1:H a=some (.lst (ns.map V.int))) (h2:ns.length<=1000000) (h3: ∀r H',xJ H H'->(r=true ↔ Ep ns)->Q (.bl r) H'):Fb vs H Q E
end L2
namespace L2
open PySem PySem.Spec PyProof.Rows
inductive Tr where
 |mk (kind:Int) (own:List Int) (parts:List Tr)
mutual
noncomputable def jR:Tr->a6 Int
 | .mk k own ps=>k::(own++xX ps)
noncomputable def xX:a6 Tr->a6 Int
 |[]=>[]
 |a::r=>jR a++xX r
end
def Kg (H:Hp):Nat->V->Tr->Prop
 |0,_,_=>False
 |d+1,v,.mk k own ps=> ∃t pl o q vs,v=.ref t/\H t=some (.tup [.int k,.int pl,.ref o,.ref q])/\H o=some (.tup (own.map V.int))/\H q=some (.tup vs)/\Paired (Kg H d) vs ps
theorem Kg.tups (h:vN H H'): ∀{d:Nat} {v:V} {n:Tr},Kg H d v n->Kg H' d v n
 |0,_,_,z=>z.elim
 |d+1,v,.mk k own ps,z=>by obtain⟨t,pl,o,q,vs,e,h1,h2,h3,r⟩:=z;exact#[t,pl,o,q,vs,e,h _ _ h1,h _ _ h2,h _ _ h3,Paired.imp (λ_ _ z=>Kg.tups h z) r]
mutual
noncomputable def bare:Nd->Tr
 | .mk k _ own ps=>.mk k own (zU ps)
noncomputable def zU:a6 Nd->a6 Tr
 |[]=>[]
 |a::r=>bare a::zU r
end
abbrev Fn:=(Int×Int)×Tr
noncomputable def WT (fs:a6 Fn):a6 Int:=fs.flatMap λf=>[f.1.1,f.1.2]
noncomputable def Tt (fs:a6 Fn):a6 Int:=fs.flatMap λf=>jR f.2
noncomputable def wr (fs:a6 Fn):a6 Int:=(fs.length:Int)::(WT fs++Tt fs)
section
theorem KB (l:i4)(m6:j7 a9)(n:Nat)(b:i4)(items2:j7 a9)(n2:Nat)(dd:i5 i4)(sl:j7 (i5 a9))(hs0: ¬(!m6.isEmpty&&Builtin.List.listTooLong (m6.size+items2.size))=true)(hs1:m6.size<=sizeLine)(hs2:m6.size+items2.size<=sizeLine+1):
  Meets (Builtin.«list.extend» #[[.ref l,.ref b],[]]) (λ_ R s=>s.heap.get? l=some {cls:=.type "list",dict:=none,data:=.seq m6 n,slots:=#[]}/\s.heap.get? b=some #[.type "tuple",dd,.seq items2 n2,sl]/\R (.ok (.ret Value.none)) {s with heap:=s.heap.update l (Obj.mapSeq λx=>x++items2),toks:=s.toks}):=
 .of_wp λ_ _ _ _ σs hyp=>by
  obtain⟨σh,σg,σd,σt,σo⟩:=σs;obtain⟨atL,atB,fin⟩:=hyp;have r1:=AutoSeq1.idx_int;have r2:=AutoSeq1.sub_tuple_tuple;have r3:=AutoSeq1.sub_list_list;have r4:=AutoSeq1.sub_tuple_list;have r5:=AutoSeq1.sub_list_tuple;have fits:(m6++items2).size<=sizeLine+1:=by simpa using hs2
  wp_walk using(wpAny_updateSeq atL rfl (hz:=hs1) (_hz':=fits)),wM atL,wM atB
  exact#[-1,fin]
end
section
variable {X:Cx}
inductive LF (x:V) (vs:List V) (H:Hp) (Q:VK):Prop
 |mk (l b xs zs:_) (h0:x=.ref l) (h1:vs=[.ref b]) (h2:H l=some (.lst xs)) (h3:H b=some (.tup zs)) (h4:xs.length+zs.length<=sizeLine) (h5:Q .non (upd H l (.lst (xs++zs)))):LF x vs H Q
theorem RF:MtM X "list.extend" LF:=by
 intro j9 s U H x vs v us Q I rx rv h;obtain⟨l,b,xs,zs,rfl,rfl,hH,hB,hz,q⟩:=h;cases rx;obtain⟨u,rfl,ru⟩:=rv.one;cases ru;obtain⟨z,its,n,r,hl,e⟩:=I.lstM hH;obtain⟨_,its2,r2,p⟩:=(show vY X.prog X.w H s.heap b (.tup zs)from I.hok b _ hB);obtain⟨⟨oc,od,oda,osl⟩,h1,h2,n2,h3⟩:=p;dsimp only at h2 h3;subst h2 h3;have hl2:=r2.length;have hsz:its.toArray.size+its2.toArray.size<=sizeLine:=by rw[yL,yL];lia
 have hlong: ¬(!its.toArray.isEmpty&&Builtin.List.listTooLong (its.toArray.size+its2.toArray.size))=true:=by
  rw[PN hsz,wA];exact yO
 refine call_meets F.slot_list_extend #[_,e,rfl] F.entry_list_extend (F.args_list_extend_2 _ _)
  (KB l its.toArray n b its2.toArray n2 od osl hlong (by rw[yL];lia) ()) #[e,h1,?_]
 refine#[.non,_,I.lset (its':=its++its2) hH e (by simp) (r.append r2) ?_,rfl,q];rw[zE];lia
end
theorem qB: ∀xs:a6 Nd,(zU xs).length =xs.length
 |[]=>rfl
 |a::r=>by simp[zU,qB r]
theorem Ko {xs:a6 α}{ys:a6 β}(h:Paired F xs ys): ∀n,Paired F (xs.take n) (ys.take n):=by
 induction h with
 |nil=>intro n;simp;exact .nil
 |cons h t ih=>
 intro n;cases n with
 |zero=>exact .nil
 |succ n=>exact .cons h (ih n)
theorem Kq: ∀{xs:a6 α} {ys:a6 β},Paired F xs ys-> ∀n,Paired F (xs.drop n) (ys.drop n)
 |_,_,.nil,n=>by simp;exact .nil
 |_,_,.cons h t,0=>.cons h t
 |_,_,.cons h t,n+1=>Kq t n
section
variable {X:Cx}{tg:j6}
def Sq (K:a7)(H:Hp)(a:i4)(xs:a6 V):Prop:=kN K H a xs\/Ax K H a xs
def zHl (K:a7)(tl:TE):TI:=λU H R=>tl U H λx H1=> ∃a,x=.ref a/\((∃xs,kN K H1 a xs)/\R (ZF K a) H1\/(∃xs,Ax K H1 a xs)/\R (ZD K a) H1)
theorem zAc (hl:PE X l tl):PI X tg l (zHl X.K tl):=by
 refine#[?_];intro j9 s U H R I h;refine wK (hl j9 s U H _ I h) λv s1 m9=>?_;obtain⟨x,H1,I1,r1,q1⟩:=m9;obtain⟨a,e,q⟩:=q1;subst e;cases r1
 rcases q with⟨⟨xs,hq⟩,q⟩|⟨⟨xs,hq⟩,q⟩
 ·obtain⟨its,rv,p,hz⟩:=I1.list hq;refine vZ p.isList ?_;refine#[s1.heap.objs.size,[s1.heap.objs.size],_,_,H1,rfl,I1.kept (t':=s1.toks) λb o e=>zJ _ e,MQ a _,#[_,yE _ rfl,rfl,rfl],λb hb=>?_,q];have e:b=s1.heap.objs.size:=by simpa using hb
  subst e;exact I1.fpOk (zO _) (I1.hok.fresh (zO _))
 ·obtain⟨its,rv,p,hz⟩:=I1.tuple hq;refine uY (show s1.heap.IsTuple a its.toArray from p) ?_;refine#[s1.heap.objs.size,[s1.heap.objs.size],_,_,H1,rfl,I1.kept (t':=s1.toks) λb o e=>zJ _ e,KZ a _,#[_,yE _ rfl,rfl,rfl],λb hb=>?_,q];have e:b=s1.heap.objs.size:=by simpa using hb
  subst e;exact I1.fpOk (zO _) (I1.hok.fresh (zO _))
def VD:V->a6 V->Hp->VK->Prop:=λx vs H Q=>Ob x vs H Q\/LF x vs H Q
theorem RE:MtM X "list.extend" VD:=by
 intro j9 s U H x vs v us Q I rx rv h
 rcases h with h|h
 ·exact Nb j9 s U H x vs v us Q I rx rv h
 ·exact RF j9 s U H x vs v us Q I rx rv h
end
abbrev Wk (J:It)(g:TG)(tb:TS)(D:Fp)(U:St)(H:Hp):Prop:= ∃W:Nat->Nat->St->Hp->Prop,(∃m,W 0 m U H)/\ ∀i m U H,W i m U H->
   (J.stop i H/\D.nx U H)\/(J.go i H/\ ∃N:St->Hp->Prop,(∀U' H',N U' H'-> ∃m',m'<m/\W (i+1) m' U' H')/\ ∀x H',J.yld i H x H'->g x U H' λU2 H2=>tb {D with nx:=N,ct:=N,bk:=D.nx} U2 H2)
theorem xJ.seqT {K:a7}{H H':Hp}{a:i4}{xs:a6 V}(e:xJ H H')(h:Ax K H a xs):Ax K H' a xs:=by
 rcases h with(h|⟨o,h⟩)|h
 ·exact .inl (.inl (e _ _ h))
 ·exact .inl (.inr #[o,e _ _ h])
 ·exact .inr h
theorem YM {K:a7}{a:i4}{xs:a6 V}{g:TG}{tb:TS}{D:Fp}{U:St}{H0 H:Hp}(hq:Sq K H0 a xs)(Pv:Nat->St->Hp->Prop)(h0:Pv 0 U H)(hl: ∀i U H',i<=xs.length->Pv i U H'->xJ H0 H')
  (hs: ∀i x U H,xs[i]? =some x->Pv i U H->g x U H λU2 H2=>tb {D with nx:=Pv (i+1),ct:=Pv (i+1),bk:=D.nx} U2 H2) (hd: ∀U H,Pv xs.length U H->D.nx U H):
  (∃xs,kN K H a xs)/\Wk (ZF K a) g tb D U H\/(∃xs,Ax K H a xs)/\Wk (ZD K a) g tb D U H:=by
 rcases hq with hq|hq
 ·exact .inl #[#[xs,(hl 0 _ _ (xE _) h0).seq hq],Dh Pv h0 (λi U' H' hi p=>(hl i U' H' hi p).seq hq) hs hd]
 ·exact .inr #[#[xs,xJ.seqT (hl 0 _ _ (xE _) h0) hq],Jr Pv h0 (λi U' H' hi p=>xJ.seqT (hl i U' H' hi p) hq) hs hd]
def Sh (H:Hp)(v:V)(zs:a6 Int):Prop:= ∃t,v=.ref t/\(H t=some (.lst (zs.map V.int))\/H t=some (.tup (zs.map V.int)))
theorem Sh.same (h:Sh H v zs)(s:xJ H H'):Sh H' v zs:=by
 obtain⟨t,rfl,e|e⟩:=h
 ·exact#[t,rfl,.inl (s _ _ e)]
 ·exact#[t,rfl,.inr (s _ _ e)]
theorem Sq.same {K:a7}{H H':Hp}{a:i4}{xs:a6 V}(e:xJ H H')(h:Sq K H a xs):Sq K H' a xs:=h.imp (e.seq ·) (xJ.seqT e ·)
inductive JI (vs:List V) (H:Hp) (Q:VK) (E:XK):Prop
 |mk (a:i4) (ns:List Int) (h0:vs=[.ref a]) (h1:H a=some (.lst (ns.map V.int))) (h2:ns.length<=1000000) (h3:Ep ns) (h4: ∀l H',xJ H H'->H l=none->qU H' l (Gj 3 (headNums ns))->Q (.ref l) H'):JI vs H Q E
inductive Lc (vs:List V) (H:Hp) (Q:VK) (E:XK):Prop
 |mk (a:i4) (ns:List Int) (h0:vs=[.ref a]) (h1:H a=some (.lst (ns.map V.int))) (h2:ns.length<=1000000) (h3:Ep ns) (h4: ∀l H',xJ H H'->H l=none->qU H' l (Gj 2 (rowNums ns))->Q (.ref l) H'):Lc vs H Q E
inductive Lg (K:a7) (vs:List V) (H:Hp) (Q:VK) (E:XK):Prop
 |mk (a:i4) (gs:List (List Int)) (xs:List V) (k:Nat) (h0:vs=[.ref a,.int k]) (h1:Sq K H a xs) (h2:Paired (Sh H) xs gs) (h3:(∀g∈gs,g.length=k)) (h4:gs.length<=1000) (h5:k<=3) (h6: ∀l H',xJ H H'->H l=none->H' l=some (.lst (gs.flatten.map V.int))->Q (.ref l) H'):Lg K vs H Q E
noncomputable def Dk (hs rs:a6 (a6 Int)):a6 Int:=(hs.length:Int)::(hs.flatten++rs.flatten)
inductive Lj (K:a7) (vs:List V) (H:Hp) (Q:VK) (E:XK):Prop
 |mk (a b:i4) (hs rs:List (List Int)) (xs ys:List V) (h0:vs=[.ref a,.ref b]) (h1:Sq K H a xs) (h2:Paired (Sh H) xs hs) (h3:(∀g∈hs,g.length=3)) (h4:hs.length<=1000) (h5:Sq K H b ys) (h6:Paired (Sh H) ys rs) (h7:(∀g∈rs,g.length=2)) (h8:rs.length<=1000) (h9:Ep (Dk hs rs)) (h10: ∀l H',xJ H H'->H l=none->H' l=some (.lst ((Dk hs rs).map V.int))->Q (.ref l) H'):Lj K vs H Q E
theorem YO {gs:a6 (a6 Int)}{i:Nat}{g:a6 Int}(h:gs[i]? =some g):(gs.take (i+1)).flatten =(gs.take i).flatten++g:=by
 rw[vH,h,List.flatten_append]
 simp
theorem EQ: ∀{gs:a6 (a6 Int)},(∀g∈gs,g.length=k)->gs.flatten.length=gs.length*k
 |[],_=>by simp
 |g::gs,h=>by
  rw[List.flatten_cons,zE,h g (yA ..),EQ (λx hx=>h x (yC _ hx)),zK,Nat.add_mul,Nat.one_mul,Nat.add_comm]
theorem Xr {α:Type}{xs:a6 α}{k:Int}{v:α}(h0:0<=k)(h:xs[k.toNat]? =some v):IF xs k=some v:=by
 have:=kK h
 rwa [show((k.toNat:Nat):Int)=k by lia]at this
noncomputable abbrev Mn:Int:=10000000000000000000000000000000000000000000000000000000000000000000000000000000000000000000000000000
noncomputable def wV (v:Int):a6 V:=if v ≥ Mn\/v<= -Mn then[.str "great",.int 0]else[.non,.int v]
noncomputable def Gd (k a b:Int):a6 V:=
 if k=8 then wV (a+b)else if k=9 then wV (a-b)else if k=10 then wV (a*b)else if k=13 then[.non,.int (if a<b then 1 else 0)]else if k=14 then[.non,.int (if a=b then 1 else 0)]
 else if b=0 then[.str "zero",.int 0]else if k=11 then[.non,.int (a.fdiv b)]else[.non,.int (a.fmod b)]
inductive JJ (vs:List V) (H:Hp) (Q:VK) (E:XK):Prop
 |mk (v:Int) (h0:vs=[.int v]) (h1: ∀p H',H p=none->H'=upd H p (.tup (wV v))->Q (.ref p) H'):JJ vs H Q E
inductive QR (vs:List V) (H:Hp) (Q:VK) (E:XK):Prop
 |mk (k a b:Int) (h0:vs=[.int k,.int a,.int b]) (h1:a.natAbs<2^2000) (h2:b.natAbs<2^2000) (h3: ∀p H',H p=none->H'=upd H p (.tup (Gd k a b))->Q (.ref p) H'):QR vs H Q E
end L2
namespace L2
open PySem
theorem Paired.set: ∀{xs:a6 α} {ys:a6 β} (i:Nat) {x:α} {y:β},Paired F xs ys->F x y->Paired F (xs.set i x) (ys.set i y)
 |_,_,_,_,_,.nil,_=>.nil
 |_,_,0,_,_,.cons r t,h=>.cons h t
 |_,_,i+1,_,_,.cons r t,h=>.cons r (Paired.set i t h)
theorem qU.put (h:qU H l gs)(hp:H p=some (.lst xs))(ne:l≠p):qU (upd H p (.lst ys)) l gs:=by
 obtain⟨rs,e,pr⟩:=h;exact#[rs,by rw[yJ ne];exact e,Paired.imp (λ_ _ x=>x.upd hp) pr]
theorem qU.push (e:H l=some (.lst rs))(pr:Paired (BS H) rs gs)(tv:BS H v g):qU (upd H l (.lst (rs++[v]))) l (gs++[g]):=
 #[_,upd_same,Paired.append (Paired.imp (λ_ _ x=>x.upd e) pr) (.cons (tv.upd e) .nil)]
theorem qU.setAt (i:Nat)(e:H l=some (.lst rs))(pr:Paired (BS H) rs gs)(tv:BS H v g):qU (upd H l (.lst (rs.set i v))) l (gs.set i g):=
 #[_,upd_same,Paired.set i (Paired.imp (λ_ _ x=>x.upd e) pr) (tv.upd e)]
structure vQ (hs rs:List (List Int)):Prop where
 h1:1<=hs.length
 h16:hs.length<=16
 r1:1<=rs.length
 r24:rs.length<=900
 heads: ∀i g,hs[i]? =some g->RQ g i rs.length
 rows: ∀g∈rs,BR g hs.length rs.length
section
variable {X:Cx}
theorem Yq:HC X (compareOp .IsNot) (λx y H Q=> ∃a b,x=.bl a/\y=.bl b/\Q (.bl (!(a==b))) H):=by
 intro j9 s U H x y v u Q I rx ry h;obtain⟨a,b,rfl,rfl,q⟩:=h;cases rx;cases ry;exact zZ #[.bl (!(a==b)),H,I,by cases a<;>cases b<;>rfl,q]
end
theorem WX {k:Nat}(hk:k=2\/k=3){g rest:a6 Int}(hg:g.length=k):Gj k (g++rest)=g::Gj k rest:=by
 unfold Gj;have e:((g++rest).length +(k-1)) / k=(rest.length+(k-1)) / k+1:=by
  rw[zE,hg]
  rcases hk with rfl|rfl<;>lia
 rw[e,List.range_succ_eq_map,yM,Aa,Nat.zero_mul,BP];congr 1
 ·rw[Dp (),xW ()]
 ·refine wB λi _=>?_;show((g++rest).drop ((i+1)*k)).take k=_;rw[Nat.add_mul,Nat.one_mul,Nat.add_comm,<-List.drop_drop,<-hg,List.drop_left]
theorem GX (hk:k=2\/k=3): ∀{gs:a6 (a6 Int)},(∀g∈gs,g.length=k)->Gj k gs.flatten=gs
 |[],_=>by
  unfold Gj
  rcases hk with rfl|rfl<;>rfl
 |g::gs,h=>by
  rw[List.flatten_cons,WX hk (h g (yA ..)),GX hk λx hx=>h x (yC _ hx)]
theorem vQ.h3 (c:vQ hs rs): ∀g∈hs,g.length=3:=λg hg=>by
 obtain⟨j,hj⟩:=List.mem_iff_getElem?.mp hg;obtain⟨_,_,_,rfl,_⟩:=c.heads j g hj;rfl
theorem vQ.r2 (c:vQ hs rs): ∀g∈rs,g.length=2:=λg hg=>by
 obtain⟨_,_,rfl,_⟩:=c.rows g hg;rfl
theorem vQ.headNums (c:vQ hs rs):headNums (Dk hs rs)=hs.flatten:=by
 show List.take (3*((hs.length:Int)).toNat) (hs.flatten++rs.flatten)=_;have:=EQ c.h3;rw[xY,Dp (),xW ()]
theorem vQ.rowNums (c:vQ hs rs):rowNums (Dk hs rs)=rs.flatten:=by
 show List.drop (1+3*((hs.length:Int)).toNat) ((hs.length:Int)::(hs.flatten++rs.flatten))=_;have:=EQ c.h3;rw[xY,Nat.add_comm,List.drop_succ_cons,show 3*hs.length=hs.flatten.length by lia,List.drop_left]
theorem vQ.ok (c:vQ hs rs):Ep (Dk hs rs):=by
 have l3:=EQ c.h3;have l2:=EQ c.r2;have a1:=c.h1;have a2:=c.h16;have a3:=c.r1;have nr:(L2.rowNums (Dk hs rs)).length / 2=rs.length:=by rw[c.rowNums,l2];lia
 refine#[#[_,-1,(),(),?_,?_],λi g hg=>?_,λg hg=>?_]
 ·rw[zE,l3,l2];lia
 ·rw[zE,l3,l2,xY];lia
 ·rw[c.headNums,GX (.inr rfl) c.h3]at hg;rw[nr];exact c.heads i g hg
 ·rw[c.rowNums,GX (.inl rfl) c.r2]at hg;rw[nr];exact c.rows g hg
theorem qU.seqs (pr:Paired (BS H) rv gs):Paired (Sh H) rv gs:=Paired.imp (λ_ _ ⟨t,e,q⟩=>#[t,e,.inr q]) pr
theorem Qg (h:PySem.W.kitOne K t c=some true):PySem.W.kitAny K t (c::r)=some true:=by
 unfold PySem.W.kitAny;rw[h]
theorem WI (h:PySem.W.kitOne K t c=some false)(h2:PySem.W.kitOne K t c2=some true):PySem.W.kitAny K t (c::c2::r)=some true:=by
 unfold PySem.W.kitAny;rw[h];exact Qg h2
end L2
namespace L2
open PySem PySem.Spec PyProof.Rows PySem.W
def Dq (K:Frag)(x:Str)(st:i9)(f:i4):Prop:=Dg K x x x st f
section
variable {P:i7}{w:j3}{K:Frag}{h:j4}{mg:Str->i5 a9}{base:j4}{CX:MI}(X:K.In h)(G:h.Ns mainGlobals mg){x:Str}{st:i9}{f:i4}{k:Nat}{sp:Sp}{p0 p1 p2 p3 p4:Str}(d:Dq K x st f)
include X G d
theorem cg1 (o: ∀fd,qT K x x st f fd->Dl P w K mg base CX k f fd [p0] sp)(b:autoParam ( ∀(kV doc pm:a9) (an:i5 i4) (cdv ct:a9) (u0:a9),bindArgs (fnOf x x (uJ st) (vL st) (zS st) .none kV doc pm an cdv ct) #[[u0],[]]=pure [(p0,u0)]) L2.aI._auto_1):QH P w K mg base CX k x [p0] sp:=by
 obtain⟨a,fd,F⟩:=d;exact#[#[_,_,o fd F,mg_of X G a,F.kp,F.b1 _ b]]
theorem cg2 (o: ∀fd,qT K x x st f fd->Dl P w K mg base CX k f fd [p0,p1] sp)(b:autoParam ( ∀(kV doc pm:a9) (an:i5 i4) (cdv ct:a9) (u0 u1:a9),bindArgs (fnOf x x (uJ st) (vL st) (zS st) .none kV doc pm an cdv ct) #[[u0,u1],[]]=pure [(p0,u0),(p1,u1)]) L2.aI._auto_1):QH P w K mg base CX k x [p0,p1] sp:=by
 obtain⟨a,fd,F⟩:=d;exact#[#[_,_,o fd F,mg_of X G a,F.kp,F.b2 _ _ b]]
theorem cg3 (o: ∀fd,qT K x x st f fd->Dl P w K mg base CX k f fd [p0,p1,p2] sp)(b:autoParam ( ∀(kV doc pm:a9) (an:i5 i4) (cdv ct:a9) (u0 u1 u2:a9),bindArgs (fnOf x x (uJ st) (vL st) (zS st) .none kV doc pm an cdv ct) #[[u0,u1,u2],[]]=pure [(p0,u0),(p1,u1),(p2,u2)]) L2.aI._auto_1):QH P w K mg base CX k x [p0,p1,p2] sp:=by
 obtain⟨a,fd,F⟩:=d;exact#[#[_,_,o fd F,mg_of X G a,F.kp,F.b3 _ _ _ b]]
theorem cg4 (o: ∀fd,qT K x x st f fd->Dl P w K mg base CX k f fd [p0,p1,p2,p3] sp)(b:autoParam ( ∀(kV doc pm:a9) (an:i5 i4) (cdv ct:a9) (u0 u1 u2 u3:a9),bindArgs (fnOf x x (uJ st) (vL st) (zS st) .none kV doc pm an cdv ct) #[[u0,u1,u2,u3],[]]=pure [(p0,u0),(p1,u1),(p2,u2),(p3,u3)]) L2.aI._auto_1):QH P w K mg base CX k x [p0,p1,p2,p3] sp:=by
 obtain⟨a,fd,F⟩:=d;exact#[#[_,_,o fd F,mg_of X G a,F.kp,F.b4 _ _ _ _ b]]
end
section
variable {X:Cx}{pos:Pos}{e:j6}
theorem Yl (K:a7)(hK:X.K=K)(he:PE X e te)(hb:autoParam (attributeBase e f X.env (eval e X.env)=eval e X.env) L2.aE._auto_1):PE X (.Attribute e f pos) (zCg K te f):=by
 subst hK;exact jJ he hb
end
end L2
namespace L2
open PySem PySem.Spec PyProof.Rows
section
variable {pg:i7}{wd:j3}{B:j5}{xs:a9->i6->Prop}
theorem Zz (ne:l≠j): ∀(m k:Nat) (t:i6) (R:a6 a9->i6->Prop),t.heap.IsListIter j l k->t.heap.IsList l us->k+m<=us.size->
  (∀g,g.IsListIter j l (k+m)->Heap.SameBut j t.heap g->R ((us.toList.drop k).take m) {t with heap:=g})->wpAny (model pg wd) B (draw (.ref j) m) R xs t
 |0,k,t,R,a,_,_,q=>by
  show wpAny _ _ (pure []) R xs t;exact zZ (by simpa using q t.heap a (Heap.SameBut.refl ..))
 |m+1,k,t,R,a,b,c,q=>by
  have kl:k<us.size:=()
  show wpAny _ _ (pyNext (.ref j)>>=_) R xs t;refine zD (BK a b (x:=us[k]) (by simp[kl]) λg1 a1 b1=>?_);refine zD (kY (Zz ne m (k+1) _ _ a1 (b.extBut b1.extBut ne) () λg2 a2 b2=>zZ ?_));have e:us.toList.drop k=us[k]::us.toList.drop (k+1):=by simp[yS,kl]
  have z:=q g2 (by rw[show k+(m+1)=k+1+m by lia];exact a2) (b1.trans b2);rw[e,List.take_succ_cons]at z;exact z
theorem Ve (hh:B.handled=none)(b:t.heap.IsList l us)
  (q: ∀g,Heap.ExtBut t.heap.objs.size t.heap g->R us.toList {t with heap:=g}):wpAny (model pg wd) B (unpackItems (.ref l) us.size none) R xs t:=by
 have ne:l≠t.heap.objs.size:=by obtain⟨o,e,_⟩:=b;exact xQ (yI e)
 unfold unpackItems;refine zD ?_;unfold notIterableAtAll;refine zD (Bi b.typeIs PySem.slot_list_iter.lookup (zZ ?_));rw[zN yO];refine zD (kY (vZ b (zD (kY (Zz ne us.size 0 _ _ #[_,yE _ rfl,rfl,rfl] (b.push _) () λg1 a1 s1=>?_)))));have e:List.take us.size (List.drop 0 us.toList)=us.toList:=by rw[BP];exact xW (by simp)
 rw[e,zN (by simp)];refine zD (kY (BU hh a1 ((b.push _).extBut s1.extBut ne) (by simp) λg2 e2=>?_));rw[zN (by simp)];exact zZ (q g2 λc o hc z=>e2 c o hc (s1.extBut c o hc (zJ _ z)))
end
section
variable {X:Cx}{pos:Pos}
inductive zDo (K:a7) (n:Nat) (t:TGs) (v:V) (U:St) (H:Hp) (Q:St->Hp->Prop):Prop
 |mk (a xs:_) (h0:v=.ref a) (h1:kN K H a xs) (h2:xs.length=n) (h3:t xs U H Q):zDo K n t v U H Q
theorem zAe (hc:X.calm=true)(h:ZB X es t)(hn:autoParam ((assignEach es X.env).length =n) L2.aE._auto_1)(hst:autoParam ((assignEach es X.env).findIdx? (·.1)=none) L2.aE._auto_1):PG X (.Tuple es k pos) (zDo X.K n t):=by
 refine#[?_];intro j9 s U H v u Q I r hw;obtain⟨a,zs,rfl,hq,hl,hw⟩:=hw;cases r;obtain⟨us,rv,hp,_⟩:=I.list hq;have e:(assignEach es X.env).length =us.toArray.size:=by rw[hn,<-hl,rv.length];simp
 have go:wpAny (model X.prog X.w) X.A (unpack (.ref a) (assignEach es X.env)) (λ_ s'=> ∃U' H',xZ X j9 U' H' s'/\Q U' H') X.xe s:=by
  unfold unpack;rw[e,hst];refine zD (kY (Ve (I.ok.hd hc) hp.isList λg hx=>?_));have I1:xZ X j9 U H {s with heap:=g}:=I.kept (t':=s.toks) λb o z=>hx b o (xQ (yI z)) z;exact h j9 _ U H zs _ Q I1 (by simpa using rv) hw
 rw[PyProof.Rows.assign_Tuple];exact zD (ET go)
end
end L2
namespace L2
open PySem
theorem VN: ∀(n:Nat) (f:Nat->Nat),(∀i,i<=n->f i<n)-> ∃i j,i<j/\j<=n/\f i=f j
 |0,f,h=>absurd (h 0 (zO _)) (Bj _)
 |n+1,f,h=>by
  by_cases hx: ∃i,i<=n/\f i=f (n+1)
  ·obtain⟨i,hi,e⟩:=hx;exact#[i,n+1,(),zO _,e]
  have no: ∀i,i<=n->f i≠f (n+1):=λi hi e=>hx #[i,hi,e];have top:=h (n+1) (zO _);obtain⟨i,j,hij,hj,e⟩:=VN n (λi=>if f (n+1)<f i then f i-1 else f i) λi hi=>by
   have a:=h i ();have b:=no i hi;show(if f (n+1)<f i then f i-1 else f i)<n;split<;>lia
  have a:=no i ();have b:=no j hj;refine#[i,j,hij,(),?_];have e':(if f (n+1)<f i then f i-1 else f i)=(if f (n+1)<f j then f j-1 else f j):=e;split at e'<;>split at e'<;>lia
abbrev vX:=a6 (Int×Int)
noncomputable def JZ (rs:vX):a6 (a6 Int):=rs.map λr=>[r.1,r.2]
def OL (rs:vX)(i:Nat):Prop:= ∃n,rs[i]? =some (4,n)
instance (rs:vX)(i:Nat):Decidable (OL rs i):=
 match h:rs[i]? with
 |none=>isFalse fun⟨n,e⟩=>by rw[h]at e;cases e
 |some (op,n)=>if e:op=4 then isTrue #[n,by rw[h,e]]else isFalse fun⟨m,z⟩=>by rw[h]at z;cases z;exact e rfl
noncomputable def Sy (rs:vX)(i:Nat):Nat:=match rs[i]? with
 |some (op,n)=>if op=4 then n.toNat else i
 |none=>i
noncomputable def its (rs:vX):Nat->Nat->Nat
 |0,i=>i
 |k+1,i=>Sy rs (its rs k i)
def ON (rs:vX):Prop:= ∀(i:Nat) (n:Int),rs[i]? =some (4,n)->0<=n/\n<rs.length
noncomputable def ME (rs:vX)(i:Nat):i5 Nat:=if its rs rs.length i<rs.length/\ ¬OL rs (its rs rs.length i)then some (its rs rs.length i)else none
noncomputable def oI:i5 Nat->V
 |none=>.non
 |some n=>.int (n:Nat)
theorem OL.lt (h:OL rs i):i<rs.length:=by
 obtain⟨n,e⟩:=h;exact(List.getElem?_eq_some_iff.mp e).1
theorem Vs (h: ¬OL rs i):Sy rs i=i:=by
 unfold Sy;cases e:rs[i]? with
 |none=>rfl
 |some r=>
  obtain⟨op,n⟩:=r
  by_cases z:op=4
  ·subst z;exact absurd #[n,e] h
  ·show(if op=4 then n.toNat else i)=i;rw[zN z]
theorem QN (ok:ON rs)(h:OL rs i):Sy rs i<rs.length:=by
 obtain⟨n,e⟩:=h;have:=ok i n e;unfold Sy;rw[e];show(if(4:Int)=4 then n.toNat else i)<_;rw[zQ rfl];lia
theorem QM (ok:ON rs)(e:rs[i]? =some (4,n)):((Sy rs i:Nat):Int)=n:=by
 have:=ok i n e;unfold Sy;rw[e];show(((if(4:Int)=4 then n.toNat else i):Nat):Int)=n;rw[zQ rfl];lia
theorem Qi (h: ¬OL rs (its rs k i)): ∀d,its rs (k+d) i=its rs k i
 |0=>rfl
 |d+1=>by
  show Sy rs (its rs (k+d) i)=_;rw[Qi h d,Vs h]
theorem WL (ok:ON rs)(h:i<=rs.length): ∀k,its rs k i<=rs.length
 |0=>h
 |k+1=>by
  show Sy rs (its rs k i)<=_
  by_cases z:OL rs (its rs k i)
  ·exact BO (QN ok z)
  ·rw[Vs z];exact WL ok h k
theorem Td (e:its rs a i=its rs b i): ∀d,its rs (a+d) i=its rs (b+d) i
 |0=>e
 |d+1=>qZ (Sy rs) (Td e d)
theorem zCq (ok:ON rs)(h: ∀j,j<rs.length->OL rs (its rs j i))(hl:0<rs.length):OL rs (its rs rs.length i):=by
 obtain⟨a,b,hab,hb,e⟩:=VN rs.length (λk=>its rs k i) λk hk=>by
  by_cases z:k<rs.length
  ·exact(h k z).lt
  ·have:k=(rs.length-1)+1:=()
   rw[this];exact QN ok (h _ ())
 have z:=Td e (rs.length-b);rw[show b+(rs.length-b)=rs.length by lia]at z;rw[<-z];exact h _ ()
theorem Ka (hk:k<=rs.length)(h: ¬OL rs (its rs k i)):ME rs i=if its rs k i<rs.length then some (its rs k i)else none:=by
 have e:=Qi h (rs.length-k);rw[show k+(rs.length-k)=rs.length by lia]at e;unfold ME;rw[e]
 by_cases z:its rs k i<rs.length
 ·rw[zQ #[z,h],zQ z]
 ·rw[zN (λy=>z y.1),zN z]
theorem Ji (ok:ON rs)(h: ∀j,j<rs.length->OL rs (its rs j i))(hl:0<rs.length):ME rs i=none:=by
 unfold ME;rw[zN (λy=>y.2 (zCq ok h hl))]
inductive NF (vs:List V) (H:Hp) (Q:VK) (E:XK):Prop
 |mk (l:i4) (rs:vX) (i:Nat) (h0:vs=[.ref l,.int i]) (h1:qU H l (JZ rs)) (h2:ON rs) (h3:0<rs.length) (h4:rs.length<=1000) (h5:i<=rs.length) (h6:Q (oI (ME rs i)) H):NF vs H Q E
theorem Oe (p:Paired (BS H) vs (JZ rs))(h:i<rs.length): ∃t op n,vs[i]? =some (.ref t)/\rs[i]? =some (op,n)/\H t=some (.tup [.int op,.int n]):=by
 have hl:vs.length=rs.length:=(Paired.len p).trans (zG ..);have hx:vs[i]? =some (vs[i]'()):=zF ();obtain⟨g,hg,t,e,et⟩:=Paired.yonder p hx;unfold JZ at hg;rw[zW,zF h]at hg;cases hg;exact#[t,_,_,by rw[hx,e],zF h,et]
inductive NL (K:a7) (vs:List V) (H:Hp) (Q:VK) (E:XK):Prop
 |mk (a:i4) (ns:List Int) (k:Int) (h0:vs=[.ref a,.int k]) (h1:UZ K H a ns) (h2:0<=k) (h3: ∀r:Int,Q (.int r) H):NL K vs H Q E
inductive Out where
 |go (pc:Nat) (held:List Int) (br:Int)
 |bad (w:Str) (n:Int)
 |done (v:Int)
noncomputable def pop (held:a6 Int)(f:a6 Int->Int->Out):Out:=match held.getLast? with
 |none=>.bad "stray" 0
 |some v=>f held.dropLast v
structure Ads where
 (m dm hd sp rw r0 r1 bd d dd bx hl:i4)
noncomputable def MO (CM:i4)(A:Ads)(br va:Int):HO:=.ins CM A.dm [("heads",.ref A.hd),("steps",.ref A.sp),("rows",.ref A.rw),("breaths",.int br),("being_done",.ref A.bd),("value",.int va)]
structure zEh (CM:i4)(H H':Hp)(A:Ads)(hs rs:List (List Int))(br:Int):Prop where
 keep: ∀b o,b≠A.m->H b=some o->H' b=some o
 m:H' A.m=some (MO CM A br 0)
 heads:qU H' A.hd hs
 steps:qU H' A.sp rs
 rw:H' A.rw=some (.lst [.ref A.r0,.ref A.r1])
 r1:H' A.r1=some (.lst [])
 bd:H' A.bd=some (.lst [])
 br:A.bd≠A.rw
 ba:A.bd≠A.r1
 bs:A.bd≠A.sp
 bh:A.bd≠A.hd
 nb:H A.bd=none
inductive IQ (K:a7) (CM:i4) (vs:List V) (H:Hp) (Q:VK) (E:XK):Prop
 |mk (x dx co gv:i4) (br:Int) (hs rs:List (List Int)) (gs:List V) (h0:vs=[.ref x,.ref co,.ref gv,.int br]) (h1:H x=some (.ins CM dx [])) (h2:H co=some (.lst ((Dk hs rs).map V.int))) (h3:vQ hs rs) (h4:H gv=some (.lst gs)) (h5: ∀A H',A.m=x->A.dm=dx->zEh CM H H' A hs rs br->Q .non H'):IQ K CM vs H Q E
inductive Ro where
 |m|bd|hd|sp|rw
 |row (i:Nat)
 |d (i:Nat)
 |bx (i:Nat)
 |hl (i:Nat)
structure Fr where
 pc:Nat
 bx:List Int
 hl:List Int
structure MS where
 rows:List (List Int)
 frs:List Fr
 br:Int
 va:Int
structure Pl where
 ad:Ro->i4
 dd:Nat->i4
 dm:i4
 uh:List V
 us:List V
noncomputable def MS.f (s:MS)(i:Nat):Fr:=s.frs.getD i #[0,[],[]]
noncomputable def MG (CM:i4)(A:Pl)(br va:Int):HO:=.ins CM A.dm [("heads",.ref (A.ad .hd)),("steps",.ref (A.ad .sp)),("rows",.ref (A.ad .rw)),("breaths",.int br),("being_done",.ref (A.ad .bd)),("value",.int va)]
noncomputable def DG (CD:i4)(A:Pl)(i:Nat)(pc:Int):HO:=.ins CD (A.dd i) [("at",.int pc),("boxes",.ref (A.ad (.bx i))),("held",.ref (A.ad (.hl i)))]
noncomputable def bdL (A:Pl)(n:Nat):a6 V:=(List.range n).map λi=>V.ref (A.ad (.d i))
noncomputable def rwL (A:Pl)(n:Nat):a6 i4:=(List.range n).map λi=>A.ad (.row i)
noncomputable def cont (CM CD:i4)(A:Pl)(s:MS):Ro->HO
 | .m=>MG CM A s.br s.va
 | .bd=>.lst (bdL A s.frs.length)
 | .hd=>.lst A.uh
 | .sp=>.lst A.us
 | .rw=>.lst ((rwL A s.rows.length).map V.ref)
 | .row i=>.lst ((s.rows.getD i []).map V.int)
 | .d i=>DG CD A i (s.f i).pc
 | .bx i=>.lst ((s.f i).bx.map V.int)
 | .hl i=>.lst ((s.f i).hl.map V.int)
def Vb (v:Int):Prop:=v.natAbs<2^2000
abbrev Hn:=Int×a6 Int
abbrev Stk:=a6 (Nat×Int)
noncomputable def zHn:Nd->Hn
 | .mk k _ own _=>(k,own)
noncomputable def zHd:Nd->Nat
 | .mk _ p _ _=>p
noncomputable def zDq (xs:a6 Hn):a6 Int:=xs.flatMap λx=>x.1::x.2
noncomputable def hns (n:Nd):a6 Hn:=(pre n).map zHn
inductive XJ (hs:Ev):Stk->List Hn->Stk->Prop where
 |nil {S:Stk}:XJ hs S [] S
 |cons {d:Nat} {b k:Int} {own:List Int} {r:Stk} {xs:List Hn} {S:Stk} (k0:0<=k) (k1:k<=19) (f:Bn hs b k own) (h:XJ hs (List.replicate (Fk hs k own).toNat (d,b)++r) xs S):XJ hs ((d+1,b)::r) ((k,own)::xs) S
theorem XJ.append (h:XJ hs S xs S1)(g:XJ hs S1 ys S2):XJ hs S (xs++ys) S2:=by
 induction h with
 |nil=>exact g
 |cons k0 k1 f _ ih=>exact .cons k0 k1 f (ih g)
mutual
noncomputable def zDv:Nd->Nat
 | .mk _ _ _ ps=>1+zDw ps
noncomputable def zDw:a6 Nd->Nat
 |[]=>0
 |a::r=>max (zDv a) (zDw r)
end
mutual
def zEn (hs:Ev)(b:Int):Nd->Prop
 | .mk k _ own ps=>0<=k/\k<=19/\Bn hs b k own/\ps.length=(Fk hs k own).toNat/\zEo hs b ps
def zEo (hs:Ev)(b:Int):a6 Nd->Prop
 |[]=>True
 |a::r=>zEn hs b a/\zEo hs b r
end
structure Ctx (hs:Ev)(S0 R:Stk)(all:List Hn)(p0 i:Nat)(m:Nd)(e:Nat)(b:Int):Prop where
 ex: ∃X Y r,all=X++(hns m++Y)/\X.length=i/\XJ hs S0 X ((e,b)::r)/\XJ hs r Y R/\zHd m=p0+(zDq X).length
 fit:zEn hs b m
 dep:zDv m<=e
theorem Ctx.before (c:Ctx hs S0 R1 all p0 i m e b)(h:XJ hs R1 Z R):Ctx hs S0 R (all++Z) p0 i m e b:=by
 obtain⟨⟨X,Y,r,e1,e2,e3,e4,e5⟩,f,d⟩:=c;exact#[#[X,Y++Z,r,by rw[e1,yN,yN],e2,e3,e4.append h,e5],f,d]
structure ES where
 rows:List (List Int)
 br:Int
 bx:List Int
 ct:Nat
inductive ER where
 |val (v:Int) (s:ES)
 |bad (w:Str) (n:Int) (rows:List (List Int)) (ct:Nat×Int)
mutual
def wW (hs:Ev)(b:Int):Nat->Tr->Prop
 |0,_=>False
 |n+1,.mk k own ps=>0<=k/\k<=19/\Bn hs b k own/\ps.length=(Fk hs k own).toNat/\(∀v∈own,Vb v)/\qV hs b n ps
def qV (hs:Ev)(b:Int):Nat->a6 Tr->Prop
 |_,[]=>True
 |n,a::r=>wW hs b n a/\qV hs b n r
end
mutual
noncomputable def UT:Tr->Nat
 | .mk _ _ ps=>1+HF ps
noncomputable def HF:a6 Tr->Nat
 |[]=>0
 |a::r=>UT a+HF r
end
section
variable {g M N u6 U' c0 c1 bl:Nat}{br0 br1:Int}{r:ER}{f:Int->ES->ER}{s:ES}{hs:Ev}{b:Int}{k:Int}{own vs:a6 Int}
theorem qV.get: ∀{ps:a6 Tr} {i:Nat} {t:Tr},qV hs b n ps->ps[i]? =some t->wW hs b n t/\UT t<=HF ps
 |a::r,0,t,h,e=>by
  cases e;unfold qV at h;exact#[h.1,Nat.le_add_right ..]
 |a::r,i+1,t,h,e=>by
  unfold qV at h;obtain⟨x,y⟩:=qV.get (ps:=r) h.2 e;exact#[x,xH y (Nat.le_add_left ..)]
end
section
variable {hs:Ev}{b:Int}{call:Int->a6 Int->ES->ER}
theorem qV.mem {n:Nat}: ∀{ps:a6 Tr} {t:Tr},qV hs b n ps->t∈ps->wW hs b n t:=fun{ps t} f m=>by
 obtain⟨i,e⟩:=List.getElem?_of_mem m;exact(qV.get f e).1
end
end L2
namespace L2
open PySem PySem.Spec PyProof.Rows
section
variable {X:Cx}
theorem MJ: ∀(as:a6 i4),kE (as.map V.ref) (as.map Value.ref)
 |[]=>.nil
 |a::r=>.cons rfl (MJ r)
theorem JW: ∀{as:a6 i4} {us:a6 a9},kE (as.map V.ref) us->us=as.map Value.ref
 |[],_,.nil=>rfl
 |n::ns,_,.cons h t=>by
  rw[JW t,yM];congr 1
end
end L2
namespace L2
open PySem PySem.Spec PyProof.Rows PySem.W
def OF (h:j4)(v:a9)(k:Int):Prop:= ∃(a:i4) (o:j8) (b c:Int) (t1 t2 t3:Tok) (n:Nat),v=.ref a/\h.get? a=some o/\o.cls=.type "tuple"/\o.data=.seq (List.toArray [.int k t1,.int b t2,.int c t3]) n
theorem OF.one (x:OF h v k)(y:OF h v k'):k=k':=by
 obtain⟨a,o,b,c,t1,t2,t3,n,rfl,e,_,d⟩:=x;obtain⟨a',o',b',c',u1,u2,u3,n',ea,e',_,d'⟩:=y;cases ea;rw[e]at e';cases e';rw[d]at d';injection d' with d1 d2
 have:=qZ (λz:j7 a9=>z[0]?) d1
 simp at this
 exact this.1
noncomputable def kf (h:j4)(v:a9):Int:=open Classical in if e: ∃k,OF h v k then e.choose else 0
theorem Qh (x:OF h v k):kf h v=k:=by
 unfold kf;rw[dif_pos #[k,x]];exact OF.one (Exists.choose_spec (p:=λk=>OF h v k) #[k,x]) x
theorem OF.kept (g: ∀b o,h.get? b=some o->h'.get? b=some o)(x:OF h v k):OF h' v k:=by
 obtain⟨a,o,b,c,t1,t2,t3,n,e,g1,r⟩:=x;exact#[a,o,b,c,t1,t2,t3,n,e,g _ _ g1,r]
section
variable {prog:i7}{w:j3}{A:j5}{E:a9->i6->Prop}{s:i6}
theorem ZL (eh:s.heap=h)(tx:OF h v k)(ty:OF h v' k')(z:k≠k')(q:C (decide (k<k')) s):wpAny (model prog w) A (keyLt' (tuples' true) v v') C E s:=by
 obtain⟨a,o,b,c,t1,t2,t3,n,ea,ga,_,da⟩:=tx;obtain⟨a',o',b',c',u1,u2,u3,n',eb,gb,_,db⟩:=ty;rw[ea,eb];refine kat_lt (eh▸ga) da (eh▸gb) db (kat_cons (wpAny_eqBool_int ?_));rw[show(k==k')=false from beq_eq_false_iff_ne.mpr z];exact kat_no (oneLt_int q)
noncomputable def Mo (ks:a6 Int){α:Type}:KasT α->i5 α
 | .ret a=>some a
 | .ask i j k=>if i<ks.length/\j<ks.length/\ks.getD i 0≠ks.getD j 0 then Mo ks (k (decide (ks.getD i 0<ks.getD j 0)))else none
theorem WJ (h: ∀(i j:Nat) (C:i8->i6->Prop),i<ks.length->j<ks.length->ks.getD i 0≠ks.getD j 0->C (decide (ks.getD i 0<ks.getD j 0)) s->cmp i j C s): ∀(t:KasT α) (p:α),Mo ks t=some p->G p s->t.kasWp cmp G s
 | .ret a,p,e,g=>by
  cases e;exact g
 | .ask i j k,p,e,g=>by
  unfold Mo at e;split at e
  ·rename_i c;exact h i j _ c.1 c.2.1 c.2.2 (WJ h _ p e g)
  ·cases e
noncomputable def MT (ks:a6 Int):i8:=decide (ks.length<2) || (decide (ks.length<64)&&match Mo ks (kas_sort ks.length)with
 |none=>false
 |some p=>p.toList.isPerm (List.range ks.length)&&decide ((p.toList.map λi=>ks.getD i 0).Pairwise (·<=·)))
theorem IH: ∀l:a6 α,l.zip l=l.map λv=>(v,v)
 |[]=>rfl
 |x::r=>by rw[kX,IH r];rfl
theorem Su: ∀vs:a6 a9,(∀v∈vs,∃k,OF h v k)-> ∃fs,KatTups h vs fs/\(∀f∈fs,∃k t,f=Value.int k t)/\fs.length=vs.length
 |[],_=>#[[],.nil,λf hf=>(nomatch hf),rfl]
 |v::r,T=>by
  obtain⟨fs,a,b,c⟩:=Su r λx hx=>T x (yC _ hx);obtain⟨k,ad,o,p,q,t1,t2,t3,n,rfl,g,cl,d⟩:=T v (yA ..);refine#[.int k t1::fs,KatTups.cons g cl d rfl a,λf hf=>?_,by rw[zK,zK,c]]
  rcases List.mem_cons.mp hf with z|z
  ·exact#[k,t1,z]
  ·exact b f z
theorem Vi (ho:s.heap.get? a=some (seqObj "list" vs.toArray n))(sb:MT (vs.map (kf s.heap))=true)(h64:vs.length<64)(T: ∀v∈vs,∃k,OF s.heap v k)(na: ∀k,¬OF s.heap (.ref a) k)
  (h: ∀out:j7 a9,out.toList.Perm vs->(out.toList.Pairwise λx y=>kf s.heap x<=kf s.heap y)->P (.done (.ret .none)) {s with heap:=sortedHeap s.heap a vs out}):wpAny (model prog w) A (Builtin.«list.sort» #[[.ref a],[]]) P E s:=by
 have hz:vs.length<=1000000:=()
 have la:a<s.heap.objs.size:=yI ho;have zz:vs.length<=sizeLine:=xH hz (by decide);have z2:vs.toArray.size=vs.length:=by simp
 rw[list_sort_plain];refine zD (listItems_at ho rfl (zD (listUpdate_at ho rfl ?_ (by rw[z2];exact xH hz (by decide)) (xE _))));obtain⟨e1,g1⟩: ∃e1,(s.heap.update a (Obj.mapSeq λ_=>#[])).get? a=some (seqObj "list" #[] e1):=#[_,get?_update_seq ho (λ_=>#[])];refine zD (seqEpoch_at g1 rfl (zD (wpAny_newTuple (zD (wpAny_newList (kY ?_) (xE _))) zz)));generalize h3e:((s.heap.update a (Obj.mapSeq λ_=>#[])).push (seqObj "tuple" vs.toArray 0)).push (seqObj "list" #[] 0)=h3;have kp: ∀b o,b≠a->s.heap.get? b=some o->h3.get? b=some o:=λb o nb e=>by
  rw[<-h3e];refine zJ _ (zJ _ ?_);rw[Heap.get?_update_ne _ _ _ _ nb];exact e
 have g3:h3.get? a=some (seqObj "list" #[] e1):=by
  rw[<-h3e];exact zJ _ (zJ _ g1)
 have T3: ∀v∈vs,OF h3 v (kf s.heap v):=λv hv=>by
  obtain⟨k,x⟩:=T v hv;rw[Qh x];obtain⟨b,o,p,q,t1,t2,t3,m,e,g,r⟩:=x;refine#[b,o,p,q,t1,t2,t3,m,e,kp b o (λz=>na k ?_) g,r];rw[<-z];exact#[b,o,p,q,t1,t2,t3,m,rfl,g,r]
 have kf3: ∀v∈vs,kf h3 v=kf s.heap v:=λv hv=>Qh (T3 v hv);have fin: ∀st':SortSt,(arrOf st').toList.Perm (vs.toArray.zip vs.toArray).toList->failedOf st'=none->((arrOf st').toList.Pairwise λx y=>kf h3 x.1<=kf h3 y.1)->P (.done (.ret .none)) {s with heap:=h3.update a (Obj.mapSeq λ_=>(arrOf st').map (·.2))}:=λst' p f r=>by
  have pv:((arrOf st').map (·.2)).toList.Perm vs:=by
   rw[CF];refine(p.map _).trans ?_;rw[CC,List.map_snd_zip (zO _)]
  have same: ∀x∈(arrOf st').toList,x.1=x.2/\x.2∈vs:=λx hx=>by
   have:=p.mem_iff.mp hx;rw[CC,IH]at this;obtain⟨v,hv,rfl⟩:=List.mem_map.mp this;exact#[rfl,hv]
  have:=h ((arrOf st').map (·.2)) pv (by
   rw[CF,uB];refine uE (fun{x y} hx hy z=>?_) r;obtain⟨a1,a2⟩:=same x hx;obtain⟨b1,b2⟩:=same y hy;rw[a1,b1,kf3 _ a2,kf3 _ b2]at z;exact z)
  unfold sortedHeap at this;rw[h3e]at this;exact this
 show wpAny (model prog w) A _ P E {s with heap:=h3};dsimp only
 by_cases c:vs.toArray.size<2
 ·rw[zQ c,zQ c];refine zD (zZ ?_);rw[StateT.run_pure];refine zD (zZ ?_);dsimp only;refine zD (seqEpoch_at (s:={s with heap:=h3}) g3 rfl (zD (listUpdate_at g3 rfl ?_ (xE _) (by rw[Array.size_map];show(vs.toArray.zip vs.toArray).size<=_;rw[Array.size_zip];exact xH (Nat.min_le_left _ _) (by rw[z2];exact xH hz (by decide))))));simp only[bne_self_eq_false,Bq,Fs];refine zZ (fin (SortSt.mk' general' (vs.toArray.zip vs.toArray) #[] 7 none) (List.Perm.refl _) rfl ?_);show((vs.toArray.zip vs.toArray).toList.Pairwise λx y=>kf h3 x.1<=kf h3 y.1);rw[CC,IH];clear h T sb ho T3 kf3 fin;cases vs with
  |nil=>exact .nil
  |cons x r=>
   cases r with
   |nil=>exact List.pairwise_singleton _ _
   |cons y r=>
    rw[z2,zK,zK]at c;lia
 ·rw[zN c,zN c];obtain⟨fs,k1,k2,k3⟩:=Su (h:=h3) vs λv hv=>#[_,T3 v hv];refine zD (kat_kind (s:={s with heap:=h3}) (T:=.type "int") k1 () (λv hv=>?_) rfl ?_)
  ·obtain⟨k,t,rfl⟩:=k2 v hv;exact .now
  have lk:(vs.map (kf s.heap)).length =vs.length:=zG ..;have kg: ∀i,i<vs.length->(vs.map (kf s.heap)).getD i 0=kf s.heap (vs.getD i .none)/\vs.getD i .none∈vs:=λi hi=>by
   have e:vs[i]? =some vs[i]:=zF hi;rw[yU,yU,zW,e];exact#[rfl,wH hi]
  obtain⟨p0,ev,pm,so⟩: ∃p,Mo (vs.map (kf s.heap)) (kas_sort vs.length)=some p/\p.toList.Perm (List.range vs.length)/\(p.toList.map λi=>(vs.map (kf s.heap)).getD i 0).Pairwise (·<=·):=by
   unfold MT at sb;rw[lk,Bool.or_eq_true,jD]at sb
   rcases sb with sb|sb
   ·lia
   ·obtain⟨_,sb⟩:=Bool.and_eq_true_iff.mp sb;split at sb
    ·cases sb
    ·rename_i p e;obtain⟨b1,b2⟩:=Bool.and_eq_true_iff.mp sb;exact#[p,e,List.isPerm_iff.mp b1,yB b2]
  have it: ∀i,kas_item (vs.toArray.zip vs.toArray) i=(vs.getD i .none,vs.getD i .none):=λi=>kat_item rfl i;refine zD (AG (kat_run (E:=E) (s:={s with heap:=h3}) (κ:=tuples' true) (ks:=vs) (vs:=vs) (Q:=λst' s'=>s'={s with heap:=h3}/\(arrOf st').toList.Perm (vs.toArray.zip vs.toArray).toList/\failedOf st'=none/\((arrOf st').toList.Pairwise λx y=>kf h3 x.1<=kf h3 y.1)) (G:=λp s'=>s'={s with heap:=h3}/\p=p0) rfl () h64 (λp st' s' a1 a2 a3 a4=>?_) (WJ (ks:=vs.map (kf s.heap)) (λi j C hi hj ne q=>?_) _ p0 ev #[rfl,rfl])) ?_ λ_ _ e=>e)
  ·obtain⟨rfl,rfl⟩:=a4;refine#[rfl,?_,a3,?_]
   ·rw[a2,CF];refine(pm.map _).trans ?_;rw[CC,IH];have:(List.range vs.length).map (kas_item (vs.toArray.zip vs.toArray))=vs.map λv=>(v,v):=by
     refine List.ext_getElem? λi=>?_;rw[zW,zW]
     by_cases hi:i<vs.length
     ·rw[wY hi,zF hi];show some (kas_item _ i)=_;rw[it,yU,zF hi]<;>rfl
     ·rw[wE (by rw[wQ];lia),wE ()]<;>rfl
    rw[this]
   ·rw[a2,CF,uB];rw[uB]at so;refine uE (fun{x y} hx hy z=>?_) so;have hx':=List.mem_range.mp (pm.mem_iff.mp hx);have hy':=List.mem_range.mp (pm.mem_iff.mp hy);rw[it,it];show kf h3 (vs.getD x .none)<=kf h3 (vs.getD y .none);rw[kf3 _ (kg x hx').2,kf3 _ (kg y hy').2,<-(kg x hx').1,<-(kg y hy').1];exact z
  ·rw[lk]at hi hj;rw[(kg i hi).1,(kg j hj).1]at ne q;exact ZL rfl (T3 _ (kg i hi).2) (T3 _ (kg j hj).2) ne q
  rintro⟨⟨⟩,st'⟩ s' ⟨rfl,a1,a2,a3⟩;dsimp only;refine zD (seqEpoch_at (s:={s with heap:=h3}) g3 rfl (zD (listUpdate_at g3 rfl ?_ (xE _) ?_)))
  ·rw[a2];simp only[bne_self_eq_false,Bq,Fs];exact zZ (fin st' a1 a2 a3)
  ·rw[Array.size_map,<-wZ,a1.length_eq,wZ,Array.size_zip];exact xH (Nat.min_le_left _ _) (by rw[z2];exact xH hz (by decide))
theorem QK (hl:s.heap.IsList l vs.toArray)(sb:MT (vs.map (kf s.heap))=true)(h64:vs.length<64)(T: ∀v∈vs,∃k,OF s.heap v k)
  (h: ∀out:j7 a9,out.toList.Perm vs->(out.toList.Pairwise λx y=>kf s.heap x<=kf s.heap y)->Q (.ref (s.heap.objs.size+1)) {s with heap:=sortedAll s.heap vs out}):wpAny (model prog w) A (call (.builtin "sorted") [.ref l]) Q E s:=by
 have hz:vs.length<=1000000:=()
 have zz:vs.length<=sizeLine:=xH hz (by decide);refine Calls.call_function_entry kind_sorted plain_sorted entry_sorted (args_sorted1 _) (show wpAny (model prog w) _ (Builtin.«sorted» _) _ _ s from ?_);unfold Builtin.«sorted»;refine zD (m:=checkCount "sorted" 1 1 _) (zZ (zD (collect_list hl (zD (wpAny_newList ?_ zz)) zz)));have sz:((s.heap.push (seqObj "list" #[] 0)).update s.heap.objs.size (Obj.mapSeq (·++vs.toArray))).objs.size =s.heap.objs.size+1:=by rw[Heap.size_update,size_push']
 have g:(((s.heap.push (seqObj "list" #[] 0)).update s.heap.objs.size (Obj.mapSeq (·++vs.toArray))).push (seqObj "list" vs.toArray 0)).get? (s.heap.objs.size+1)=some (seqObj "list" vs.toArray 0):=by rw[<-sz];exact yE _ rfl
 have kp: ∀b o,s.heap.get? b=some o->(((s.heap.push (seqObj "list" #[] 0)).update s.heap.objs.size (Obj.mapSeq (·++vs.toArray))).push (seqObj "list" vs.toArray 0)).get? b=some o:=λb o e=>by
  have lt:=yI e;refine zJ _ ?_;rw[Heap.get?_update_ne _ _ _ _ (xQ lt)];exact zJ _ e
 have kfe: ∀v∈vs,kf (((s.heap.push (seqObj "list" #[] 0)).update s.heap.objs.size (Obj.mapSeq (·++vs.toArray))).push (seqObj "list" vs.toArray 0)) v=kf s.heap v:=λv hv=>by
  obtain⟨k,x⟩:=T v hv;rw[Qh x,Qh (x.kept kp)]
 show wpAny _ _ _ _ _ {s with heap:=((s.heap.push (seqObj "list" #[] 0)).update s.heap.objs.size (Obj.mapSeq (·++vs.toArray))).push (seqObj "list" vs.toArray 0)};rw[sz];refine zD (kY (kF slot_list_sort #[_,g,rfl] entry_list_sort (Vi g (by rw[wB kfe];exact sb) h64 (λv hv=>?_) (λk x=>?_) λout a1 a2=>#[-1,zZ #[-1,h out a1 ?_]]) (args_list_sort _)))
 ·obtain⟨k,x⟩:=T v hv;exact#[k,x.kept kp]
 ·obtain⟨b,o,p,q,t1,t2,t3,m,e,e2,c,d⟩:=x;cases e;have e2':=g.symm.trans e2;injection e2' with e2'
  rw[<-e2']at c;injection c with c
  exact absurd c (by decide)
 ·refine uE (fun{x y} hx hy z=>?_) a2;rw[<-kfe x (a1.mem_iff.mp hx),<-kfe y (a1.mem_iff.mp hy)];exact z
end
section
variable {X:Cx}
def KD (H:Hp)(a:i4)(x:Int×Int×Int):Prop:=H a=some (.tup [.int x.1,.int x.2.1,.int x.2.2])
inductive Pf (xs:List V) (H:Hp) (Q:VK):Prop
 |mk (l:i4) (as:List i4) (ls:List (Int×Int×Int)) (h0:xs=[.ref l]) (h1:H l=some (.lst (as.map V.ref))) (h2:Paired (KD H) as ls) (h3:MT (ls.map (·.1))=true) (h4:as.length<64) (h5: ∀(p:i4) (as':List i4) (ls':List (Int×Int×Int)),H p=none->Paired (KD H) as' ls'->ls'.Perm ls->(ls'.Pairwise λx y=>x.1<=y.1)->Q (.ref p) (upd H p (.lst (as'.map V.ref)))):Pf xs H Q
theorem ZJ (r:kE [x,y,z] us): ∃u v w',us=[u,v,w']/\kU x u/\kU y v/\kU z w':=by
 cases r with
 |cons h1 t1=>
  obtain⟨v,w',rfl,h2,h3⟩:=ML t1;exact#[_,v,w',rfl,h1,h2,h3]
noncomputable def Ou (H:Hp)(a:i4):Int×Int×Int:=match H a with
 |some (.tup [.int x,.int y,.int z])=>(x,y,z)
 |_=>(0,0,0)
theorem YH (h:KD H a x):Ou H a=x:=by
 unfold Ou;rw[h]
theorem WA {as:a6 i4}{ls:a6 (Int×Int×Int)}(h:Paired (KD H) as ls):ls=as.map (Ou H)/\ ∀a∈as,KD H a (Ou H a):=by
 induction h with
 |nil=>exact#[rfl,λa h=>(nomatch h)]
 |cons h t ih=>
 obtain⟨e,g⟩:=ih;have ea:=YH h;refine#[by rw[yM,ea,<-e],λb hb=>?_]
 rcases List.mem_cons.mp hb with z|z
 ·rw[z,ea];exact h
 ·exact g b z
theorem WB: ∀{as:a6 i4},(∀a∈as,KD H a (Ou H a))->Paired (KD H) as (as.map (Ou H))
 |[],_=>.nil
 |a::as,h=>.cons (h a (yA ..)) (WB λb hb=>h b (yC _ hb))
noncomputable def MP:a9->i4
 | .ref a=>a
 |_=>0
theorem ZM (I:xZ X j9 U H s)(h:KD H a x):OF s.heap (.ref a) x.1:=by
 obtain⟨its,r,⟨o,e,c,n,d⟩,_⟩:=I.tuple (.of h);obtain⟨u1,u2,u3,rfl,r1,r2,r3⟩:=ZJ r;obtain⟨t1,rfl⟩:=r1;obtain⟨t2,rfl⟩:=r2;obtain⟨t3,rfl⟩:=r3;exact#[a,o,_,_,t1,t2,t3,n,rfl,e,c,d]
theorem Oz:Fq X (.builtin "sorted") Pf:=by
 intro j9 s U H xs us Q I r h;obtain⟨l,as,ls,rfl,hl,hp,nd,hz,q⟩:=h;obtain⟨u,rfl,ru⟩:=II r;cases ru;obtain⟨zl,its,n,rv,hli,he⟩:=I.lstM hl;have e0:=JW rv;subst e0;obtain⟨el,gl⟩:=WA hp;have T: ∀a∈as,OF s.heap (.ref a) (Ou H a).1:=λa ha=>ZM I (gl a ha);have kfa: ∀a∈as,kf s.heap (.ref a)=(Ou H a).1:=λa ha=>Qh (T a ha);have km:(as.map Value.ref).map (kf s.heap)=ls.map (·.1):=by
  rw[el,Aa,Aa];exact wB λa ha=>kfa a ha
 refine QK #[_,he,rfl,-1] (by rw[km];exact nd) (by rw[zG];exact hz) (λv hv=>?_) λout p1 p2=>?_
 ·obtain⟨a,ha,rfl⟩:=List.mem_map.mp hv;exact#[_,T a ha]
 have eo:out.toList=(out.toList.map MP).map Value.ref:=by
  rw[Aa];have:out.toList.map (Value.ref∘MP)=out.toList.map id:=wB λv hv=>by
   obtain⟨a,ha,rfl⟩:=List.mem_map.mp (p1.mem_iff.mp hv);rfl
  rw[this,List.map_id]
 have pa:(out.toList.map MP).Perm as:=by
  have:=p1.map MP;rw[Aa]at this;have e:as.map (MP∘Value.ref)=as:=List.map_id _;rw[e]at this;exact this
 generalize out.toList.map MP=as' at *
 have ga: ∀a∈as',KD H a (Ou H a):=λa ha=>gl a (pa.mem_iff.mp ha);obtain⟨e,ge⟩:=sortedAll_at s.heap (as.map Value.ref) out;have kk: ∀b o,s.heap.get? b=some o->(sortedAll s.heap (as.map Value.ref) out).get? b=some o:=λb o z=>sortedAll_old z;have eout:out=(as'.map Value.ref).toArray:=by rw[<-eo]
 have len:as'.length=as.length:=pa.length_eq;have rv':kE (as'.map V.ref) (as'.map Value.ref):=MJ as';refine#[.ref (s.heap.objs.size+1),_,I.laid (o:=.lst (as'.map V.ref)) kk (AH _) #[?_,_,e,rv',?_],rfl,q _ as' _ (I.hok.fresh (AH _)) (WB ga) ?_ ?_]
 ·rw[zG,len];exact xH (BO hz) (by decide)
 ·rw[ge,eout]
 ·rw[el];exact pa.map _
 ·rw[uB];rw[eo,uB]at p2;refine uE (fun{x y} hx hy z=>?_) p2;rw[kfa x (pa.mem_iff.mp hx),kfa y (pa.mem_iff.mp hy)]at z;exact z
end
section
variable {ks:a6 Int}{p:j7 Nat}
theorem Fj {α β:Type}{f:α->KasT β}: ∀t:KasT α,Mo ks (t.bind f)=(Mo ks t).bind λa=>Mo ks (f a)
 | .ret a=>rfl
 | .ask i j k=>by
  show(if _ then Mo ks ((k _).bind f)else none)=Option.bind (if _ then Mo ks (k _)else none) _;split
  ·exact Fj _
  ·rfl
noncomputable def Fh (ks:a6 Int)(p:j7 Nat)(i:Nat):Int:=ks.getD (p.getD i 0) 0
def OM (ks:a6 Int)(p:j7 Nat):Prop:=ks.Nodup/\p.toList.Perm (List.range ks.length)
theorem OM.size (P:OM ks p):p.size=ks.length:=by
 have:=P.2.length_eq
 rwa [wQ,wZ]at this
theorem Jq {i:Nat}(h:i<p.size):p.getD i 0=p.toList[i]:=by
 rw[Ay,Array.getElem?_eq_getElem h];rfl
theorem OM.lt (P:OM ks p){i:Nat}(h:i<ks.length):p.getD i 0<ks.length:=by
 have h':i<p.size:=by rw[P.size];exact h
 rw[Jq h'];exact List.mem_range.mp (P.2.mem_iff.mp (wH _))
theorem OM.ne (P:OM ks p){i j:Nat}(h:i<ks.length)(h':j<ks.length)(n:i≠j):Fh ks p i≠Fh ks p j:=λe=>by
 have a1:=P.lt h;have a2:=P.lt h';unfold Fh at e;rw[yU,yU,zF a1,zF a2]at e;have e:ks[p.getD i 0]=ks[p.getD j 0]:=e;have e:=(Fx P.1).mp e;have s1:i<p.size:=by rw[P.size];exact h
 have s2:j<p.size:=by rw[P.size];exact h'
 rw[Jq s1,Jq s2]at e;exact n ((Fx (P.2.nodup_iff.mpr List.nodup_range)).mp e)
theorem Md (P:OM ks p){α:Type}{k:i8->KasT α}{i j:Nat}(h:i<ks.length)(h':j<ks.length)(n:i≠j):Mo ks (.ask (p.getD i 0) (p.getD j 0) k)=Mo ks (k (decide (Fh ks p i<Fh ks p j))):=by
 conv=>lhs;unfold Mo
 exact zQ #[P.lt h,P.lt h',P.ne h h' n]
def Xu (ks:a6 Int)(p:j7 Nat)(m:Nat):Prop:= ∀i j,i<j->j<m->Fh ks p i<Fh ks p j
def DnA (ks:a6 Int)(p:j7 Nat)(m:Nat):Prop:= ∀i j,i<j->j<m->Fh ks p j<Fh ks p i
theorem Xu.snoc {m:Nat}(h:Xu ks p m)(l:m=0\/Fh ks p (m-1)<Fh ks p m):Xu ks p (m+1):=λi j hi hj=>by
 rcases(by lia:j<m\/j=m)with z|rfl
 ·exact h i j hi z
 ·rcases l with l|l
  ·lia
  ·rcases(by lia:i<j-1\/i=j-1)with z|rfl
   ·have:=h i (j-1) z ();lia
   ·exact l
theorem DnA.snoc {m:Nat}(h:DnA ks p m)(l:Fh ks p m<Fh ks p (m-1)):DnA ks p (m+1):=λi j hi hj=>by
 rcases(by lia:j<m\/j=m)with z|rfl
 ·exact h i j hi z
 ·rcases(by lia:i<j-1\/i=j-1)with z|rfl
  ·have:=h i (j-1) z ();lia
  ·exact l
theorem RV (P:OM ks p): ∀(f a:Nat),1<=a->a+f<=ks.length->Xu ks p a-> ∃m,Mo ks (kas_asc p f a)=some m/\a<=m/\m<=a+f/\Xu ks p m/\(m<a+f->Fh ks p m<Fh ks p (m-1))
 |0,a,h1,h,u=>#[a,rfl,zO _,zO _,u,λz=>()]
 |f+1,a,h1,h,u=>by
  unfold kas_asc;rw[Md P () () ()]
  by_cases c:Fh ks p a<Fh ks p (a-1)
  ·rw[zP c];exact#[a,rfl,(),(),u,λ_=>c]
  ·rw[zR c,zN (by decide)];have ne:=P.ne (i:=a) (j:=a-1) () () ();obtain⟨m,e,l1,l2,u',z⟩:=RV P f (a+1) () () (u.snoc (.inr ()));exact#[m,e,(),(),u',λw=>z ()]
theorem Tj (P:OM ks p): ∀(f a:Nat),1<=a->a+f<=ks.length->DnA ks p a-> ∃m,Mo ks (kas_desc f p a 0)=some (p,m,0)/\a<=m/\m<=a+f/\DnA ks p m
 |0,a,h1,h,u=>#[a,rfl,zO _,zO _,u]
 |f+1,a,h1,h,u=>by
  unfold kas_desc;rw[Md P () () ()]
  by_cases c:Fh ks p a<Fh ks p (a-1)
  ·rw[zP c,zQ rfl,zN ()];obtain⟨m,e,l1,l2,u'⟩:=Tj P f (a+1) () () (u.snoc c);exact#[m,e,(),(),u']
  ·have ne:=P.ne (i:=a) (j:=a-1) () () ();rw[zR c,zN (by decide),Md P () () (),zP ()];exact#[a,rfl,(),(),u]
theorem SY {q:j7 Nat}{i j:Nat}(e:q[i]? =p[j]?):Fh ks q i=Fh ks p j:=by
 unfold Fh;rw[Ay,Ay,e]
theorem ZX {m:Nat}(P:OM ks p)(h:m<=ks.length)(d:DnA ks p m):OM ks (kas_rev p 0 m)/\Xu ks (kas_rev p 0 m) m:=by
 refine#[#[P.1,(mirror_perm p 0 m _).toList.trans P.2],λi j hi hj=>?_];have k: ∀i,i<m->Fh ks (kas_rev p 0 m) i=Fh ks p (m-1-i):=λi hi=>SY (by
  have:=getElem?_mirror_all (xs:=p) (i:=0) (j:=m) (by rw[P.size];exact h) i;rw[zQ #[xE _,hi],Gb]at this;exact this)
 rw[k i (),k j hj];exact d _ _ () ()
theorem Xh (P:OM ks p)(h1:1<=ks.length): ∃m q,Mo ks (kas_count ks.length p)=some (m,q)/\OM ks q/\Xu ks q m/\1<=m/\m<=ks.length:=by
 unfold kas_count;rw[Fj];obtain⟨m,e,l1,l2,u,z⟩:=RV P (ks.length-1) 1 (zO _) () (λi j hi hj=>());rw[e];show ∃m' q,Mo ks (if(m==ks.length)=true then _ else _)=_/\_
 by_cases c:m=ks.length
 ·rw[zQ (beq_iff_eq.mpr c)];exact#[m,p,rfl,P,u,l1,()]
 rw[zN (λw=>c (beq_iff_eq.mp w))]
 by_cases c1:m > 1
 ·rw[zQ c1,Md P () () (),zP (u 0 (m-1) () ()),zQ rfl];exact#[m,p,rfl,P,u,l1,()]
 rw[zN c1];have em:m=1:=()
 subst em;unfold kas_descPart;rw[Fj];obtain⟨m,e,l1,l2,d⟩:=Tj P (ks.length-(1+1)) 2 () () (λi j hi hj=>by
  have:i=0/\j=1:=()
  rw[this.1,this.2];exact z ())
 rw[e];show ∃m' q,Mo ks (if(0:Nat) > 0 then _ else kas_tail3 m ks.length p)=_/\_;rw[zN ()];unfold kas_tail3;rw[Fj];obtain⟨P',u'⟩:=ZX P (m:=m) () d;obtain⟨m',e',a1,a2,u2,_⟩:=RV P' (ks.length-m) m () () u';rw[e'];exact#[m',-1,P',u2,(),()]
theorem Mc (P:OM ks p){k:Nat}(hk:k<ks.length)(u:Xu ks p k): ∀(f l r:Nat),r<=l+f->l<=r->r<=k->(∀i,i<l->Fh ks p i<Fh ks p k)->(∀i,r<=i->i<k->Fh ks p k<Fh ks p i)-> ∃m,Mo ks (kas_place p k f l r)=some m/\m<=k/\(∀i,i<m->Fh ks p i<Fh ks p k)/\(∀i,m<=i->i<k->Fh ks p k<Fh ks p i)
 |0,l,r,hf,lr,rk,a,b=>#[l,rfl,(),a,λi h=>b i ()]
 |f+1,l,r,hf,lr,rk,a,b=>by
  unfold kas_place
  by_cases c:l ≥ r
  ·rw[zQ c];exact#[l,rfl,(),a,λi h=>b i ()]
  rw[zN c];generalize hm:(l+r) / 2=m;have m1:l<=m:=()
  have m2:m<r:=()
  rw[Md P hk () ()]
  by_cases d:Fh ks p k<Fh ks p m
  ·rw[zP d,zQ rfl];refine Mc P hk u f l m () m1 () a λi h h'=>?_
   rcases(by lia:i=m\/m<i)with rfl|z
   ·exact d
   ·have:=u m i z h';lia
  ·have ne:=P.ne (i:=k) (j:=m) hk () ();rw[zR d,zN (by decide)];refine Mc P hk u f (m+1) r () m2 rk (λi h=>?_) b
   rcases(by lia:i=m\/i<m)with rfl|z
   ·lia
   ·have:=u i m z ();lia
theorem Xi: ∀(f:Nat) {p:j7 Nat} {k:Nat},OM ks p->Xu ks p k->k+f=ks.length-> ∃q,Mo ks (kas_bin f p k)=some q/\OM ks q/\Xu ks q ks.length
 |0,p,k,P,u,h=>#[p,rfl,P,by rw[<-h];exact u]
 |f+1,p,k,P,u,h=>by
  unfold kas_bin;rw[Fj];obtain⟨m,e,hm,a,b⟩:=Mc P (k:=k) () u k 0 k () () (zO _) (λi h=>()) (λi h h'=>());rw[e];have g:=λi=>getElem?_bubble (xs:=p) (src:=k) (by rw[P.size];lia) (k-m) () i;refine Xi f #[P.1,(bubble_perm p k _).toList.trans P.2] (λi j hi hj=>?_) ();have v: ∀i,i<=k->(i<m/\Fh ks (bubble p k (k-m)) i=Fh ks p i)\/(i=m/\Fh ks (bubble p k (k-m)) i=Fh ks p k)\/(m<i/\Fh ks (bubble p k (k-m)) i=Fh ks p (i-1)):=λi hi=>by
   have g:=g i
   rcases(by lia:i<m\/i=m\/m<i)with z|z|z
   ·rw[zN (),zN ()]at g;exact .inl #[z,SY g]
   ·rw[zQ ()]at g;exact .inr (.inl #[z,SY g])
   ·rw[zN (),zQ ()]at g;exact .inr (.inr #[z,SY g])
  rcases v i ()with⟨z,e1⟩|⟨z,e1⟩|⟨z,e1⟩<;>rcases v j ()with⟨y,e2⟩|⟨y,e2⟩|⟨y,e2⟩<;>rw[e1,e2]
  ·exact u i j hi ()
  ·exact a i z
  ·have:=a i z;have:=b (j-1) () ();lia
  ·lia
  ·lia
  ·exact b (j-1) () ()
  ·lia
  ·lia
  ·exact u _ _ () ()
theorem Vu (nd:ks.Nodup)(h:ks.length<64):MT ks=true:=by
 unfold MT
 by_cases c:ks.length<2
 ·rw[zP c];rfl
 rw[zR c,zP h];have P:OM ks (List.toArray (List.range ks.length)):=#[nd,List.Perm.refl _];obtain⟨m,q,e,P',u,m1,m2⟩:=Xh P ();have: ∃q,Mo ks (kas_sort ks.length)=some q/\OM ks q/\Xu ks q ks.length:=by
  unfold kas_sort;rw[Fj,e];show ∃q',Mo ks (if m<ks.length then _ else _)=_/\_
  by_cases z:m<ks.length
  ·rw[zQ z];exact Xi _ P' (by rw[Nat.max_eq_left m1];exact u) (by show max m 1+(ks.length-max m 1)=_;rw[Nat.max_eq_left m1];lia)
  ·rw[zN z];exact#[q,rfl,P',by rw[show ks.length=m by lia];exact u]
 obtain⟨q,e,P',u⟩:=this;rw[e];show(false || (true&&(q.toList.isPerm (List.range ks.length)&&decide _)))=true;rw[List.isPerm_iff.mpr P'.2,zP]
 ·rfl
 ·rw[uB,List.pairwise_iff_getElem];intro i j hi hj ij;have s:q.toList.length=ks.length:=P'.2.length_eq.trans wQ;have:=u i j ij ();unfold Fh at this;rw[Jq (by rw[P'.size];lia),Jq (by rw[P'.size];lia)]at this;exact Int.le_of_lt this
end
end L2
namespace L2
open PySem
mutual
noncomputable def rl:Tr->Nat
 | .mk k _ ps=>if k=3 then kA ps+(ps.length-1)else if k=4 then kA ps+2*(ps.length-1)+1 else if k=5 then kA ps+5 else kA ps+1
noncomputable def kA:a6 Tr->Nat
 |[]=>0
 |p::r=>rl p+kA r
end
noncomputable def Iq (b:Nat)(first:i8):a6 Tr->a6 Nat
 |[]=>[]
 |p::r=>if first=true then b::Iq (b+rl p) false r else(b+1)::Iq (b+1+rl p) false r
noncomputable def Ek (k:Int)(own:a6 Int):a6 Int:=
 if k=0\/k=1\/k=2 then[k,own.headD 0]else if k=6 then[6,own.headD 0]else if k=7 then[8,0]else[10,k]
mutual
noncomputable def CO (b:Nat):Tr->a6 (a6 Int)
 | .mk k own ps=>if k=3 then IE b true ps else if k=4 then YF b ps else if k=5 then XG b ps else KM b ps++[Ek k own]
noncomputable def KM (b:Nat):a6 Tr->a6 (a6 Int)
 |[]=>[]
 |p::r=>CO b p++KM (b+rl p) r
noncomputable def IE (b:Nat)(first:i8):a6 Tr->a6 (a6 Int)
 |[]=>[]
 |p::r=>if first=true then CO b p++IE (b+rl p) false r else[3,0]::(CO (b+1) p++IE (b+1+rl p) false r)
noncomputable def Iv (b last:Nat)(first:i8):a6 Tr->a6 (a6 Int)
 |[]=>[]
 |p::r=>if first=true then CO b p++Iv (b+rl p) last false r else[4,(last:Int)]::(CO (b+1) p++Iv (b+1+rl p) last false r)
noncomputable def YF (b:Nat):a6 Tr->a6 (a6 Int)
 |[]=>[]
 |p::r=>CO b p++([11,(r.length:Int)]::((Iq (b+rl p+r.length+2) true r).map (λs:Nat=>[4,(s:Int)])++([4,((b+rl p+r.length+2+kA r+(r.length-1):Nat):Int)]::Iv (b+rl p+r.length+2) (b+rl p+r.length+1) true r)))
noncomputable def XG (b:Nat):a6 Tr->a6 (a6 Int)
 |[]=>[]
 |x::r=>[9,0]::(CO (b+1) x++([5,((b+rl x+kA r+4:Nat):Int)]::(KM (b+rl x+2) r++[[3,0],[4,(b:Int)],[0,0]])))
end
theorem Hv: ∀(ps:a6 Tr) (b:Nat) (f:i8),(Iq b f ps).length =ps.length
 |[],_,_=>by unfold Iq;rfl
 |p::r,b,f=>by
  unfold Iq;split
  ·rw[zK,Hv r,zK]
  ·rw[zK,Hv r,zK]
mutual
def KY:Tr->Prop
 | .mk k _ ps=>(k=3->ps≠[])/\(k=4->2<=ps.length)/\(k=5->ps.length=2)/\Bv ps
def Bv:a6 Tr->Prop
 |[]=>True
 |p::r=>KY p/\Bv r
end
mutual
theorem wO: ∀(t:Tr) (b:Nat),KY t->(CO b t).length =rl t
 | .mk k own ps,b,h=>by
  unfold KY at h;obtain⟨h3,h4,h5,hp⟩:=h;unfold CO rl
  by_cases c3:k=3
  ·rw[zQ c3,zQ c3,KN ps b true hp,zQ rfl]
  rw[zN c3,zN c3]
  by_cases c4:k=4
  ·rw[zQ c4,zQ c4,YE ps b hp (h4 c4)]
  rw[zN c4,zN c4]
  by_cases c5:k=5
  ·rw[zQ c5,zQ c5,YD ps b hp (h5 c5)]
  rw[zN c5,zN c5,zE,Hy ps b hp];rfl
theorem Hy: ∀(ps:a6 Tr) (b:Nat),Bv ps->(KM b ps).length =kA ps
 |[],b,_=>by unfold KM kA;rfl
 |p::r,b,h=>by
  unfold Bv at h;unfold KM kA;rw[zE,wO p b h.1,Hy r _ h.2]
theorem KN: ∀(ps:a6 Tr) (b:Nat) (f:i8),Bv ps->(IE b f ps).length =kA ps+(if f=true then ps.length-1 else ps.length)
 |[],b,f,_=>by unfold IE kA;cases f<;>rfl
 |p::r,b,f,h=>by
  unfold Bv at h;unfold IE kA;cases f with
  |true=>
   rw[zQ rfl,zQ rfl,zE,wO p b h.1,KN r _ false h.2,zN (by decide),zK];lia
  |false=>
   rw[zN (by decide),zN (by decide),zK,zE,wO p _ h.1,KN r _ false h.2,zN (by decide),zK];lia
theorem Jj: ∀(ps:a6 Tr) (b l:Nat) (f:i8),Bv ps->(Iv b l f ps).length =kA ps+(if f=true then ps.length-1 else ps.length)
 |[],b,l,f,_=>by unfold Iv kA;cases f<;>rfl
 |p::r,b,l,f,h=>by
  unfold Bv at h;unfold Iv kA;cases f with
  |true=>
   rw[zQ rfl,zQ rfl,zE,wO p b h.1,Jj r _ l false h.2,zN (by decide),zK];lia
  |false=>
   rw[zN (by decide),zN (by decide),zK,zE,wO p _ h.1,Jj r _ l false h.2,zN (by decide),zK];lia
theorem YE: ∀(ps:a6 Tr) (b:Nat),Bv ps->2<=ps.length->(YF b ps).length =kA ps+2*(ps.length-1)+1
 |[],b,_,z=>by cases z
 |p::r,b,h,z=>by
  unfold Bv at h;unfold YF kA;rw[zK]at z ⊢;rw[zE,wO p b h.1,zK,zE,zG,Hv,zK,Jj r _ _ true h.2,zQ rfl];lia
theorem YD: ∀(ps:a6 Tr) (b:Nat),Bv ps->ps.length=2->(XG b ps).length =kA ps+5
 |[],b,_,z=>by cases z
 |x::r,b,h,z=>by
  unfold Bv at h;unfold XG kA;rw[zK,zE,wO x _ h.1,zK,zE,Hy r _ h.2];show rl x+(kA r+3+1)+1=_;lia
end
theorem Ya {n:Int}{nf nr:Nat}(h0:0<=n)(h1:n<(nr:Int)):BR [4,n] nf nr:=#[4,n,rfl,.inr (.inr (.inl #[.inl rfl,h0,h1]))]
theorem zGz {n:Int}{nf nr:Nat}(h0:0<=n)(h1:n<(nr:Int)):BR [5,n] nf nr:=#[5,n,rfl,.inr (.inr (.inl #[.inr rfl,h0,h1]))]
theorem zCp:BR [0,n] nf nr:=#[0,n,rfl,.inl rfl]
theorem zCn:BR [3,0] nf nr:=#[3,0,rfl,by unfold AE;lia]
theorem zGy:BR [7,0] nf nr:=#[7,0,rfl,by unfold AE;lia]
theorem zGx:BR [9,0] nf nr:=#[9,0,rfl,by unfold AE;lia]
theorem zCo (h0:2<=n)(h1:n<=12):BR [11,n] nf nr:=#[11,n,rfl,by unfold AE;lia]
theorem XY (of:Bn hs bx k own)(k0:0<=k)(k19:k<=19)(h3:k≠3)(h4:k≠4)(h5:k≠5)(hb:bx<=12):BR (Ek k own) hs.length nr:=by
 rcases of with⟨rfl,n,rfl⟩|⟨hk,n,rfl,a,b⟩|⟨rfl,_⟩|⟨rfl,_⟩|⟨rfl,n,rfl,a,b⟩|⟨hk,rfl⟩
 ·exact zCp
 ·refine#[k,n,?_,?_]
  ·unfold Ek;rw[zQ ()];rfl
  ·rcases hk with rfl|rfl<;>simp[AE]<;>lia
 ·exact absurd rfl h3
 ·exact absurd rfl h4
 ·exact#[6,n,rfl,by simp[AE];lia]
 ·by_cases c:k=7
  ·subst c;exact#[8,0,rfl,by simp[AE]]
  ·refine#[10,k,?_,by simp[AE];lia];unfold Ek;rw[zN (),zN (),zN c]
theorem Rk: ∀(ps:a6 Tr) (b:Nat) (f:i8),∀s∈Iq b f ps,s<=b+kA ps+(if f=true then ps.length-1 else ps.length)
 |[],b,f,s,h=>by unfold Iq at h;cases h
 |p::r,b,f,s,h=>by
  unfold Iq at h;unfold kA;rw[zK];cases f with
  |true=>
   rw[zQ rfl]at h ⊢
   rcases List.mem_cons.mp h with z|z
   ·lia
   ·have:=Rk r _ _ s z;rw[zN (by decide)]at this;lia
  |false=>
   rw[zN (by decide)]at h ⊢
   rcases List.mem_cons.mp h with z|z
   ·lia
   ·have:=Rk r _ _ s z;rw[zN (by decide)]at this;lia
mutual
theorem DC: ∀(d:Nat) (t:Tr),wW hs bx d t->KY t
 |0,t,h=>by unfold wW at h;exact h.elim
 |d+1,.mk k own ps,h=>by
  unfold wW at h;obtain⟨k0,k1,of,lp,_,fp⟩:=h;unfold KY;refine#[λz=>?_,λz=>?_,λz=>?_,KS d ps fp]
  ·subst z
   rcases of with⟨z,_⟩|⟨z,_⟩|⟨_,n,rfl,a,b⟩|⟨z,_⟩|⟨z,_⟩|⟨z,_⟩<;>try lia
   intro e;rw[e]at lp;have:(Fk hs 3 [n]).toNat =n.toNat:=rfl;rw[this]at lp;show False
   simp at lp
   lia
  ·subst z
   rcases of with⟨z,_⟩|⟨z,_⟩|⟨z,_⟩|⟨_,n,rfl,a,b⟩|⟨z,_⟩|⟨z,_⟩<;>try lia
   have:(Fk hs 4 [n]).toNat =(1+n).toNat:=rfl;rw[this]at lp;lia
  ·subst z;exact lp
theorem KS: ∀(d:Nat) (ts:a6 Tr),qV hs bx d ts->Bv ts
 |_,[],_=>by unfold Bv;trivial
 |d,a::r,h=>by
  unfold qV at h;unfold Bv;exact#[DC d a h.1,KS d r h.2]
end
section
variable {hs:Ev}{bx:Int}{nr:Nat}
mutual
theorem GV (hb:bx<=12): ∀(d:Nat) (t:Tr) (b:Nat),wW hs bx d t->b+rl t<nr-> ∀g∈CO b t,BR g hs.length nr
 |0,t,b,h,_=>by unfold wW at h;exact h.elim
 |d+1,.mk k own ps,b,h,hn=>by
  have gd:=DC (d+1) _ h;unfold KY at gd;unfold wW at h;obtain⟨k0,k1,of,lp,_,fp⟩:=h;unfold CO;unfold rl at hn
  by_cases c3:k=3
  ·rw[zQ c3]at hn ⊢;exact RI hb d ps b true fp (by rw[zQ rfl];lia)
  rw[zN c3]at hn ⊢
  by_cases c4:k=4
  ·rw[zQ c4]at hn ⊢;subst c4
   rcases of with⟨z,_⟩|⟨z,_⟩|⟨z,_⟩|⟨_,n,rfl,a,b'⟩|⟨z,_⟩|⟨z,_⟩<;>try lia
   have:(Fk hs 4 [n]).toNat =(1+n).toNat:=rfl;rw[this]at lp;exact zAt hb d ps b fp () () ()
  rw[zN c4]at hn ⊢
  by_cases c5:k=5
  ·rw[zQ c5]at hn ⊢;exact zAs hb d ps b fp ()
  rw[zN c5]at hn ⊢;intro g hg
  rcases List.mem_append.mp hg with z|z
  ·exact RG hb d ps b fp () g z
  ·rw[List.mem_singleton.mp z];exact XY of k0 k1 c3 c4 c5 hb
theorem RG (hb:bx<=12): ∀(d:Nat) (ps:a6 Tr) (b:Nat),qV hs bx d ps->b+kA ps<nr-> ∀g∈KM b ps,BR g hs.length nr
 |_,[],b,_,_,g,hg=>by unfold KM at hg;cases hg
 |d,p::r,b,h,hn,g,hg=>by
  unfold qV at h;unfold kA at hn;unfold KM at hg
  rcases List.mem_append.mp hg with z|z
  ·exact GV hb d p b h.1 () g z
  ·exact RG hb d r _ h.2 () g z
theorem RI (hb:bx<=12): ∀(d:Nat) (ps:a6 Tr) (b:Nat) (f:i8),qV hs bx d ps->b+kA ps+(if f=true then ps.length-1 else ps.length)<nr-> ∀g∈IE b f ps,BR g hs.length nr
 |_,[],b,f,_,_,g,hg=>by unfold IE at hg;cases hg
 |d,p::r,b,f,h,hn,g,hg=>by
  unfold qV at h;unfold kA at hn;rw[zK]at hn;unfold IE at hg;cases f with
  |true=>
   rw[zQ rfl]at hg hn
   rcases List.mem_append.mp hg with z|z
   ·exact GV hb d p b h.1 () g z
   ·exact RI hb d r _ false h.2 (by rw[zN (by decide)];lia) g z
  |false=>
   rw[zN (by decide)]at hg hn
   rcases List.mem_cons.mp hg with z|z
   ·rw[z];exact zCn
   rcases List.mem_append.mp z with z|z
   ·exact GV hb d p _ h.1 () g z
   ·exact RI hb d r _ false h.2 (by rw[zN (by decide)];lia) g z
theorem RH (hb:bx<=12): ∀(d:Nat) (ps:a6 Tr) (b l:Nat) (f:i8),qV hs bx d ps->b+kA ps+(if f=true then ps.length-1 else ps.length)<nr->l<nr-> ∀g∈Iv b l f ps,BR g hs.length nr
 |_,[],b,l,f,_,_,_,g,hg=>by unfold Iv at hg;cases hg
 |d,p::r,b,l,f,h,hn,hl,g,hg=>by
  unfold qV at h;unfold kA at hn;rw[zK]at hn;unfold Iv at hg;cases f with
  |true=>
   rw[zQ rfl]at hg hn
   rcases List.mem_append.mp hg with z|z
   ·exact GV hb d p b h.1 () g z
   ·exact RH hb d r _ l false h.2 (by rw[zN (by decide)];lia) hl g z
  |false=>
   rw[zN (by decide)]at hg hn
   rcases List.mem_cons.mp hg with z|z
   ·rw[z];exact Ya () ()
   rcases List.mem_append.mp z with z|z
   ·exact GV hb d p _ h.1 () g z
   ·exact RH hb d r _ l false h.2 (by rw[zN (by decide)];lia) hl g z
theorem zAt (hb:bx<=12): ∀(d:Nat) (ps:a6 Tr) (b:Nat),qV hs bx d ps->3<=ps.length->ps.length<=13->b+kA ps+2*(ps.length-1)+1<nr-> ∀g∈YF b ps,BR g hs.length nr
 |_,[],b,_,z,_,_,_,_=>by cases z
 |d,p::r,b,h,z2,z13,hn,g,hg=>by
  unfold qV at h;unfold kA at hn;rw[zK]at hn z2 z13;unfold YF at hg
  rcases List.mem_append.mp hg with z|z
  ·exact GV hb d p b h.1 () g z
  rcases List.mem_cons.mp z with z|z
  ·rw[z];exact zCo () ()
  rcases List.mem_append.mp z with z|z
  ·obtain⟨s,hs',rfl⟩:=List.mem_map.mp z;have:=Rk r _ _ s hs';rw[zQ rfl]at this;exact Ya () ()
  rcases List.mem_cons.mp z with z|z
  ·rw[z];exact Ya () ()
  ·exact RH hb d r _ _ true h.2 (by rw[zQ rfl];lia) () g z
theorem zAs (hb:bx<=12): ∀(d:Nat) (ps:a6 Tr) (b:Nat),qV hs bx d ps->b+kA ps+5<nr-> ∀g∈XG b ps,BR g hs.length nr
 |_,[],b,_,_,g,hg=>by unfold XG at hg;cases hg
 |d,x::r,b,h,hn,g,hg=>by
  unfold qV at h;unfold kA at hn;unfold XG at hg
  rcases List.mem_cons.mp hg with z|z
  ·rw[z];exact zGx
  rcases List.mem_append.mp z with z|z
  ·exact GV hb d x _ h.1 () g z
  rcases List.mem_cons.mp z with z|z
  ·rw[z];exact zGz () ()
  rcases List.mem_append.mp z with z|z
  ·exact RG hb d r _ h.2 () g z
  rcases List.mem_cons.mp z with z|z
  ·rw[z];exact zCn
  rcases List.mem_cons.mp z with z|z
  ·rw[z];exact Ya () ()
  rw[List.mem_singleton.mp z];exact zCp
end
end
noncomputable def KL (k:Int)(m i b:Nat)(t:Tr):Nat:=b+rl t+(if k=3\/k=5 then 1 else if k=4 then(if i=0 then m+2 else 1)else 0)
mutual
noncomputable def Kz (b:Nat):Nd->a6 (a6 Int)
 | .mk k p own ps=>GR k (ps.length-1) 0 (b+if k=5 then 1 else 0) ps++[[(p:Int),(b:Int),((b+rl (.mk k own (zU ps)):Nat):Int)]]
noncomputable def GR (k:Int)(m i b:Nat):a6 Nd->a6 (a6 Int)
 |[]=>[]
 |t::r=>Kz b t++GR k m (i+1) (KL k m i b (bare t)) r
end
mutual
noncomputable def HM:Nd->Nat
 | .mk _ _ _ ps=>1+Gg ps
noncomputable def Gg:a6 Nd->Nat
 |[]=>0
 |t::r=>HM t+Gg r
end
noncomputable def Tw (k:Int)(m i b:Nat):a6 Tr->Nat
 |[]=>b
 |t::r=>Tw k m (i+1) (KL k m i b t) r
theorem AO: ∀(a b:a6 Nd),zU (a++b)=zU a++zU b
 |[],b=>by unfold zU;rfl
 |x::r,b=>by
  rw[xN];unfold zU;rw[AO r b,xN];cases b<;>rfl
theorem IZ (k:Int)(m:Nat): ∀(l:a6 Nd) (x:Nd) (i b:Nat),GR k m i b (l++[x])=GR k m i b l++Kz (Tw k m i b (zU l)) x
 |[],x,i,b=>by
  rw[kC];unfold GR zU Tw;unfold GR;rw[xI,kC]
 |t::r,x,i,b=>by
  rw[xN];unfold GR zU Tw;rw[IZ k m r x,yN]
theorem kS (p:Tr)(r:a6 Tr):kA (p::r)=rl p+kA r:=by rw[kA]
theorem Ad (p:Nd)(r:a6 Nd):Gg (p::r)=HM p+Gg r:=by rw[Gg]
theorem uN (p:Tr)(r:a6 Tr):Bv (p::r)=(KY p/\Bv r):=by rw[Bv]
theorem IW: ∀a b:a6 Tr,kA (a++b)=kA a+kA b
 |[],b=>by
  rw[kC];show kA b=kA []+kA b;have:kA []=0:=by unfold kA;rfl
  lia
 |x::r,b=>by
  rw[xN,kS,kS,IW r b];lia
theorem Jh: ∀a b:a6 Nd,Gg (a++b)=Gg a+Gg b
 |[],b=>by
  rw[kC];have:Gg []=0:=by unfold Gg;rfl
  lia
 |x::r,b=>by
  rw[xN,Ad,Ad,Jh r b];lia
theorem Tv (m:Nat): ∀(l:a6 Tr) (i b:Nat),Tw 3 m i b l=b+kA l+l.length
 |[],i,b=>by unfold Tw kA;rfl
 |t::r,i,b=>by
  unfold Tw kA;rw[Tv m r];unfold KL;rw[zQ (.inl rfl),zK];lia
theorem Tu (h3:k≠3)(h4:k≠4)(h5:k≠5)(m:Nat): ∀(l:a6 Tr) (i b:Nat),Tw k m i b l=b+kA l
 |[],i,b=>by unfold Tw kA;rfl
 |t::r,i,b=>by
  unfold Tw kA;rw[Tu h3 h4 h5 m r];unfold KL;rw[zN (),zN h4];lia
theorem Qy (m:Nat): ∀(l:a6 Tr) (i b:Nat),0<i->Tw 4 m i b l=b+kA l+l.length
 |[],i,b,_=>by unfold Tw kA;rfl
 |t::r,i,b,h=>by
  unfold Tw kA;rw[Qy m r _ _ (Nat.succ_pos _)];unfold KL;rw[zN (by decide),zQ rfl,zN (),zK];lia
theorem Ti: ∀a b:a6 Tr,Bv (a++b)->Bv a/\Bv b
 |[],b,h=>#[by unfold Bv;trivial,h]
 |x::r,b,h=>by
  rw[xN,uN]at h;obtain⟨h1,h2⟩:=h;obtain⟨a1,a2⟩:=Ti r b h2;rw[uN];exact#[#[h1,a1],a2]
theorem PV: ∀(l:a6 Tr) (x:Tr) (b:Nat),KM b (l++[x])=KM b l++CO (b+kA l) x
 |[],x,b=>by
  rw[kC];unfold KM kA;unfold KM;rw[xI];rfl
 |p::r,x,b=>by
  rw[xN];unfold KM kA;rw[PV r x,yN,show b+rl p+kA r=b+(rl p+kA r)by lia]
theorem PZ: ∀(l:a6 Tr) (x:Tr) (b:Nat),IE b false (l++[x])=IE b false l++([3,0]::CO (b+kA l+l.length+1) x)
 |[],x,b=>by
  rw[kC];unfold IE kA;rw[zN (by decide)];unfold IE;rw[xI];rfl
 |p::r,x,b=>by
  rw[xN];unfold IE kA;rw[zN (by decide),zN (by decide),PZ r x,zK,xN,yN,show b+1+rl p+kA r+r.length+1=b+(rl p+kA r)+(r.length+1)+1 by lia]
theorem Wx (p:Tr)(l:a6 Tr)(x:Tr)(b:Nat):IE b true (p::l++[x])=IE b true (p::l)++([3,0]::CO (b+kA (p::l)+(p::l).length) x):=by
 rw[xN];unfold IE;rw[zQ rfl,zQ rfl,PZ l x,yN];congr 4;rw[zK];show b+rl p+kA l+l.length+1=b+(rl p+kA l)+(l.length+1);lia
theorem PX (la:Nat): ∀(l:a6 Tr) (x:Tr) (b:Nat),Iv b la false (l++[x])=Iv b la false l++([4,(la:Int)]::CO (b+kA l+l.length+1) x)
 |[],x,b=>by
  rw[kC];unfold Iv kA;rw[zN (by decide)];unfold Iv;rw[xI];rfl
 |p::r,x,b=>by
  rw[xN];unfold Iv kA;rw[zN (by decide),zN (by decide),PX la r x,zK,xN,yN,show b+1+rl p+kA r+r.length+1=b+(rl p+kA r)+(r.length+1)+1 by lia]
theorem Wv (la:Nat)(l:a6 Tr)(x:Tr)(b:Nat):Iv b la true (l++[x])=Iv b la true l++((if l.length=0 then[]else[[4,(la:Int)]])++CO (b+kA l+l.length) x):=by
 cases l with
 |nil=>
  rw[kC];unfold Iv;rw[zQ rfl];unfold Iv;rw[xI,kC];have:kA []=0:=by unfold kA;rfl
  show CO b x=[]++CO (b+kA []+0) x;rw[this];rfl
 |cons p r=>
  rw[xN];unfold Iv;rw[zQ rfl,zQ rfl,PX la r x,yN,zK,zN (),kS,show b+rl p+kA r+r.length+1=b+(rl p+kA r)+(r.length+1)by lia];rfl
theorem Pk: ∀(l:a6 Tr) (x:Tr) (b:Nat),Iq b false (l++[x])=Iq b false l++[b+kA l+l.length+1]
 |[],x,b=>by
  rw[kC];unfold Iq;rw[zN (by decide)];unfold Iq kA;rfl
 |p::r,x,b=>by
  rw[xN];unfold Iq kA;rw[zN (by decide),zN (by decide),Pk r x,zK,xN,show b+1+rl p+kA r+r.length+1=b+(rl p+kA r)+(r.length+1)+1 by lia]
theorem VL (l:a6 Tr)(x:Tr)(b:Nat):Iq b true (l++[x])=Iq b true l++[b+kA l+l.length]:=by
 cases l with
 |nil=>
  rw[kC];unfold Iq;rw[zQ rfl];unfold Iq;have:kA []=0:=by unfold kA;rfl
  rw[this];rfl
 |cons p r=>
  rw[xN];unfold Iq;rw[zQ rfl,zQ rfl,Pk r x,xN,zK,kS,show b+rl p+kA r+r.length+1=b+(rl p+kA r)+(r.length+1)by lia]
abbrev IG:=(Int×Int)×Nd
noncomputable def Fa:a6 IG->Nat
 |[]=>0
 |f::r=>rl (bare f.2)+1+Fa r
noncomputable def Nc (b:Nat):a6 IG->a6 (a6 Int)
 |[]=>[]
 |f::r=>CO b (bare f.2)++([7,0]::Nc (b+rl (bare f.2)+1) r)
noncomputable def Nk (b:Nat):a6 IG->a6 (a6 Int)
 |[]=>[]
 |f::r=>[(b:Int),f.1.1,f.1.2]::Nk (b+rl (bare f.2)+1) r
noncomputable def UU (b:Nat):a6 IG->a6 (a6 Int)
 |[]=>[]
 |f::r=>Kz b f.2++UU (b+rl (bare f.2)+1) r
noncomputable def Na:a6 IG->Nat
 |[]=>0
 |f::r=>HM f.2+Na r
theorem NY: ∀a b:a6 IG,Fa (a++b)=Fa a+Fa b
 |[],b=>by rw[kC];show Fa b=0+Fa b;lia
 |x::r,b=>by
  show rl (bare x.2)+1+Fa (r++b)=rl (bare x.2)+1+Fa r+Fa b;rw[NY r b];lia
theorem Oq: ∀a b:a6 IG,Na (a++b)=Na a+Na b
 |[],b=>by rw[kC];show Na b=0+Na b;lia
 |x::r,b=>by
  show HM x.2+Na (r++b)=HM x.2+Na r+Na b;rw[Oq r b];lia
theorem PY: ∀(l:a6 IG) (x:IG) (b:Nat),Nc b (l++[x])=Nc b l++(CO (b+Fa l) (bare x.2)++[[7,0]])
 |[],x,b=>rfl
 |f::r,x,b=>by
  show CO b (bare f.2)++([7,0]::Nc (b+rl (bare f.2)+1) (r++[x]))=CO b (bare f.2)++([7,0]::Nc (b+rl (bare f.2)+1) r)++(CO (b+(rl (bare f.2)+1+Fa r)) (bare x.2)++[[7,0]]);rw[PY r x,show b+rl (bare f.2)+1+Fa r=b+(rl (bare f.2)+1+Fa r)by lia,yN];rfl
theorem Qk: ∀(l:a6 IG) (x:IG) (b:Nat),Nk b (l++[x])=Nk b l++[[((b+Fa l:Nat):Int),x.1.1,x.1.2]]
 |[],x,b=>rfl
 |f::r,x,b=>by
  show _::Nk (b+rl (bare f.2)+1) (r++[x])=_::Nk (b+rl (bare f.2)+1) r++[[((b+(rl (bare f.2)+1+Fa r):Nat):Int),x.1.1,x.1.2]];rw[Qk r x,show b+rl (bare f.2)+1+Fa r=b+(rl (bare f.2)+1+Fa r)by lia];rfl
theorem Pj: ∀(l:a6 IG) (x:IG) (b:Nat),UU b (l++[x])=UU b l++Kz (b+Fa l) x.2
 |[],x,b=>by show Kz b x.2++[]=[]++Kz (b+0) x.2;rw[xI];rfl
 |f::r,x,b=>by
  show Kz b f.2++UU (b+rl (bare f.2)+1) (r++[x])=Kz b f.2++UU (b+rl (bare f.2)+1) r++Kz (b+(rl (bare f.2)+1+Fa r)) x.2;rw[Pj r x,show b+rl (bare f.2)+1+Fa r=b+(rl (bare f.2)+1+Fa r)by lia,yN]
end L2
namespace L2
open PySem PySem.Spec PyProof.Rows
theorem Fl (n:Nat):Bu xs (some (n:Int)) none=xs.drop n:=by
 unfold Bu;rw[HT.sIx_none,HT.sIx_nat]
 by_cases h:n<=xs.length
 ·rw[Ae h,xW (by rw[qR];lia)]
 ·rw[Fv (),Jy,AI,List.drop_eq_nil_of_le ()]
section
variable {prog:i7}{w:j3}{A:j5}{E:a9->i6->Prop}{s:i6}
theorem RD (hit:s.heap.IsTupleIter it t i)(ht:s.heap.IsTuple t m6)(hx:m6[i]? =some x)
  (q: ∀h',h'.IsTupleIter it t (i+1)->Heap.SameBut it s.heap h'->Q x {s with heap:=h'}):wpAny (model prog w) A (Builtin.SmallTypes.nextOf (.ref it)) Q E s:=by
 obtain⟨o,g,cl,da⟩:=id hit;obtain⟨ot,gt,_,nt,dt⟩:=ht;unfold Builtin.SmallTypes.nextOf;refine zD (jG (name:=Str.ofString "__next__") hit.typeIs jP (kF jP hit.typeIs vC (show wpAny _ _ (field (.ref it) 0>>=_) _ _ s from ?_) (wU _)));refine zD (jC g da (x:=.ref t) rfl (show wpAny _ _ (if(Value.ref t==Value.none)=true then _ else _) _ _ s from ?_));rw[zN (by exact yO)];refine zD (m:=field (.ref it) 1) (jC g da (x:=.int i 0) rfl (zD (m:=seqItems? (.ref t)) (qK gt dt ?_)));simp only[xY,hx];refine zD (uP g da (by simp) (zZ #[x,rfl,zZ (q _ #[_,vM _ g (Aq (wG da _)),(EN ..).trans cl,?_] (uK ..))]));rw[wG da]
 simp[rawInt]
theorem GU (hh:A.handled=none)(hit:s.heap.IsTupleIter it t i)(ht:s.heap.IsTuple t m6)(hx:m6[i]? =none)
  (q: ∀h' e,Heap.ExtBut it s.heap h'->(∃o,h'.get? e=some o/\o.cls=.type "StopIteration")->E (.ref e) {s with heap:=h'}):wpAny (model prog w) A (Builtin.SmallTypes.nextOf (.ref it)) Q E s:=by
 obtain⟨o,g,cl,da⟩:=id hit;obtain⟨ot,gt,_,nt,dt⟩:=ht;unfold Builtin.SmallTypes.nextOf;refine zD (jG (name:=Str.ofString "__next__") hit.typeIs jP (kF jP hit.typeIs vC (show wpAny _ _ (field (.ref it) 0>>=_) _ _ s from ?_) (wU _)));refine zD (jC g da (x:=.ref t) rfl (show wpAny _ _ (if(Value.ref t==Value.none)=true then _ else _) _ _ s from ?_));rw[zN (by exact yO)];refine zD (m:=field (.ref it) 1) (jC g da (x:=.int i 0) rfl (zD (m:=seqItems? (.ref t)) (qK gt dt ?_)));simp only[xY,hx];refine zD (Es (zD (uP g da (by simp) (show wpAny _ _ (newExc (.type "StopIteration") []>>=_) _ _ _ from zD ?_))));simp only[newExc,newTuple];refine zD (jT (zD (m:=firstArgMember _ _) (uA (a:=Value.none) (by first|rfl|(simp only[firstArgMember];rfl)) (jT ?_ (by size_fits)))) (by size_fits));simp only[raiseNew];refine zD (wpAny_handled ?_)
 first|rw[show A.in1.handled=none from hh]|rw[hh]
 exact zD (zZ (wpAny_throw (q _ _ (((uK ..).extBut.push _).push _) #[_,yE _ rfl,rfl])))
theorem UD (hh:A.handled=none)(it t:i4)(hne:t≠it)(m6:j7 a9):Draws prog w A it [it,t] m6.size (λi v=>m6[i]? =some v) (λi h=>h.IsTupleIter it t i/\h.IsTuple t m6) where
 live:=λ_ _ st=>by obtain⟨⟨o,ho,_⟩,_⟩:=st;exact#[o,ho]
 frame:=λ_ _ _ st hk=>by
  obtain⟨⟨o,ho,r⟩,o2,ho2,r2⟩:=st;exact#[#[o,hk it (by simp) _ ho,r],o2,hk t (by simp) _ ho2,r2]
 item:=λi s Q E hi st hQ=>RD st.1 st.2 (x:=m6[i]) (by simp[hi]) λh' a b=>hQ _ h' s.toks (by simp[hi]) #[a,st.2.extBut b.extBut hne] b
 done:=λs Q E st hE=>GU hh st.1 st.2 (by simp) hE
theorem Qc (l:i4)(m6:j7 a9)(n:Nat)(dct:i5 i4)(sl:j7 (i5 a9)):Meets (Builtin.«enumerate.__new__» #[[.type "enumerate",.ref l],[]]) (λ_ R s=>s.heap.get? l=some {cls:=.type "tuple",dict:=dct,data:=.seq m6 n,slots:=sl}/\
  R (.ok (.ret (.ref (s.heap.push {cls:=.type "tuple_iterator",data:=.fields (List.toArray [.ref l,.int 0 0])}).objs.size))) {s with heap:=(s.heap.push {cls:=.type "tuple_iterator",data:=.fields (List.toArray [.ref l,.int 0 0])}).push {cls:=.type "enumerate",data:=.fields (List.toArray [.none,.bool false,.ref s.heap.objs.size,rawInt 0,.none,.none])}}):=
 .of_wp λprog w A R s h=>by
  obtain⟨hp,g,d,tk,os⟩:=s;obtain⟨hl,h⟩:=h;have hsub:=sub_enumerate;have tt:Heap.IsTuple (Shared.heap #[hp,g,d,tk,os]) l m6:=#[_,hl,rfl,n,rfl]
  wp_walk using wM hl
  refine wpAny_stack_any λst=>zZ ?_;split
  ·rename_i c _ _ _ _ _;cases(c==Value.type "enumerate")
   all_goals
    wp_walk using wM hl,uY tt
    exact#[-1,h]
  ·wp_walk using wM hl,uY tt
   exact#[-1,h]
theorem RZ (hT:s.heap.IsTuple l m6)
  (q: ∀h',IsEnum h' (s.heap.objs.size+1) s.heap.objs.size 0 .none->h'.IsTupleIter s.heap.objs.size l 0->h'.objs.size=s.heap.objs.size+2->(∀b o,s.heap.get? b=some o->h'.get? b=some o)->Q (.ref (s.heap.objs.size+1)) {s with heap:=h'}):wpAny (model prog w) A (call (.type "enumerate") [.ref l]) Q E s:=by
 obtain⟨⟨c,dct,dt,sl⟩,hl,hc,n,hd⟩:=hT;dsimp only at hc hd;subst hc hd;refine callType_new F.called_enumerate (by decide) (F.typeCall_enumerate_1 _) (F.newCall_enumerate_1 _) (λobj=>F.args_object_init_2 obj _) F.entry_enumerate_new (Qc l m6 n dct sl) #[hl,?_];have z1:(s.heap.push {cls:=.type "tuple_iterator",data:=.fields (List.toArray [.ref l,.int 0 0])}).objs.size =s.heap.objs.size+1:=vJ ..;show _/\_;rw[z1];have he:IsEnum ((s.heap.push {cls:=.type "tuple_iterator",data:=.fields (List.toArray [.ref l,.int 0 0])}).push {cls:=.type "enumerate",data:=.fields (List.toArray [.none,.bool false,.ref s.heap.objs.size,rawInt 0,.none,.none])}) (s.heap.objs.size+1) s.heap.objs.size 0 .none:=by
  have:=yE (s.heap.push {cls:=.type "tuple_iterator",data:=.fields (List.toArray [.ref l,.int 0 0])}) (o:={cls:=.type "enumerate",data:=.fields (List.toArray [.none,.bool false,.ref s.heap.objs.size,rawInt 0,.none,.none])}) rfl;rw[z1]at this;exact this
 exact#[#[_,he,rfl],q _ he #[_,zJ _ (yE _ rfl),rfl,rfl] (by rw[vJ,z1]) λb o x=>zJ _ (zJ _ x)]
end
theorem QQ (hh:A.in1.handled=none)(he:IsEnum s.heap e it k old)(hit:s.heap.IsTupleIter it t i)(ht:s.heap.IsTuple t m6)(hx:m6[i]? =none)
  (q: ∀h',Heap.ExtBut it s.heap h'->Q none {s with heap:=h'}):wpAny (model prog w) A (pyNext (.ref e)) Q E s:=by
 have ty:s.TypeIs (.ref e) "enumerate":=#[_,he,rfl];unfold pyNext;refine zD (Be (jG (name:=Str.ofString "__next__") ty F.slot_enumerate_next (kF F.slot_enumerate_next ty F.entry_enumerate_next (show wpAny _ _ (field (.ref e) 2>>=_) _ _ _ from zD (jC he rfl (x:=.ref it) rfl (zD (GU hh hit ht hx λh' x a b=>?_)))) (F.args_enumerate_next_1 _))));obtain⟨o,ho,hc⟩:=b;exact zD (BZ (T:="StopIteration") (b:=true) #[o,ho,hc] isSubtype_stop (zZ (q _ a)))
noncomputable def XA (K:a7)(a:i4):It:=
 #[λi H=> ∃xs x,Ax K H a xs/\xs[i]? =some x,λi H y H'=> ∃t x,y=.ref t/\H t=none/\H'=upd H t (.tup [.int (i:Nat),x])/\ ∀xs,Ax K H a xs->xs[i]? =some x,λi H=> ∃xs,Ax K H a xs/\xs.length<=i]
theorem QJ {P:i7}{w:j3}{K:a7}{elts:a6 j6}{x1:Nat}{pos:Pos}(a e it:i4)(hne:e≠it):
  Mm P w K (.Tuple elts x1 pos) (XA K a) [e,it] e (λi h=>(∃old,IsEnum h e it (i:Nat) old)/\h.IsTupleIter it a i) where
 mem:=by simp
 obj:=λi h st b hb=>by
  obtain⟨⟨old,he⟩,o,e1,c,d⟩:=st
  rcases List.mem_cons.mp hb with z|z
  ·subst z;exact#[_,he,λv z=>by cases z]
  ·rw[List.mem_singleton.mp z];exact#[o,e1,λv z=>by rw[d]at z;cases z]
 keep:=λi h h' st k=>#[#[_,k e (by simp) _ st.1.choose_spec],(by obtain⟨o9,g9,r9⟩:=st.2;exact#[o9,k it (by simp) o9 g9,r9])]
 item:=by
  intro X hP hw hK hc i j9 s U H E I hf st hg;subst hP hw hK;obtain⟨xs,x,hq,hx⟩:=hg;obtain⟨its,rv,p,hz⟩:=I.tuple hq;obtain⟨u,hu,ru⟩:=rv.get hx;obtain⟨⟨old,he⟩,hit⟩:=st;have fe:=hf e (by simp);have fi:=hf it (by simp);have lt:i<its.toArray.size:=by
   have:=(List.getElem?_eq_some_iff.mp hu).1
   simpa using this
  have na:a≠it:=λz=>by
   obtain⟨o1,g1,c1,_⟩:=hit;obtain⟨o2,g2,c2,_⟩:=p;rw[z,g1]at g2;cases g2;rw[c1]at c2;injection c2 with c2
   exact absurd c2 (by decide)
  have ne':e≠a:=λz=>by
   obtain⟨o2,g2,c2,_⟩:=p;rw[<-z]at g2;have g3:=he.symm.trans g2;injection g3 with g3
   rw[<-g3]at c2;injection c2 with c2
   exact absurd c2 (by decide)
  refine wpAny_pyNext_enum_itemD (UD (show X.A.in1.handled=none from I.ok.hd hc) it a na its.toArray) he #[hit,p] lt hne (by simp[hne,ne']) λx' h' tk px out st' htup hsz hk=>?_;have hit':=st'.1;have ex:x'=u:=by
   rw[show its.toArray[i]? =some u by simpa using hu]at px;injection px with px
   exact px.symm
  subst ex;have elt:e<s.heap.objs.size:=yI he;have ilt:it<s.heap.objs.size:=by
   obtain⟨o,ho,_⟩:=hit;exact yI ho
  refine#[.ref s.heap.objs.size,rfl,wpAny_letOwnedTupleGo_enum out λh'' he'' hs''=>?_];have fresh:=I.hok.fresh (zO s.heap.objs.size);have I1:=I.laid (a:=s.heap.objs.size) (o:=.tup [.int (i:Nat),x]) (h':=s.heap.push {cls:=.type "tuple",data:=.seq (List.toArray [.int (i:Nat) tk,x'])}) (t':=s.toks) (λb o q=>zJ _ q) (zO _)
   #[sm2,[.int (i:Nat) tk,x'],.cons #[-1] (.cons ru .nil),IsTup.new _ _]
  have fe':HI X j9 (upd H s.heap.objs.size (.tup [.int (i:Nat),x])) e:=#[by rw[yJ (xQ elt)];exact fe.1,fe.2];have fi':HI X j9 (upd H s.heap.objs.size (.tup [.int (i:Nat),x])) it:=#[by rw[yJ (xQ ilt)];exact fi.1,fi.2];have I2:=I1.turned2 (h':=h'') (t':=tk+1) (λb o hbe hbi q=>?_) fe' fi'
  ·refine#[.ref s.heap.objs.size,_,I2,rfl,#[s.heap.objs.size,x,rfl,fresh,rfl,λys hy=>by rw[I.tuple_inj hy hq];exact hx],#[#[_,he''],(by obtain⟨o9,g9,r9⟩:=hit';exact#[o9,(hs''.2 it (Ne.symm hne)).trans g9,r9])],λb hb=>?_]
   rcases List.mem_cons.mp hb with z|z
   ·rw[z];exact fe'.1
   ·rw[List.mem_singleton.mp z];exact fi'.1
  ·rw[hs''.2 b hbe]
   by_cases hb:b=s.heap.objs.size
   ·subst hb;rw[htup];rw[<-q];exact(yE _ rfl).symm
   ·refine hk b o hbe hbi ?_
    rcases Ds q with⟨z,_⟩|z
    ·exact absurd z hb
    ·exact z
 done:=by
  intro X hP hw hK hc i j9 s U H E I hf st hg;subst hP hw hK;obtain⟨xs,hq,hx⟩:=hg;obtain⟨its,rv,p,hz⟩:=I.tuple hq;obtain⟨⟨old,he⟩,hit⟩:=st;have hl:=rv.length;obtain⟨f0,f1,f2,f3,f4,f5⟩:=hf it (by simp);exact QQ (show X.A.in1.handled=none from I.ok.hd hc) he hit p (by simp;lia) λh' eb=>#[rfl,I.turned (t':=s.toks) (λb o hb q=>eb b o hb q) f0 f1 f3 f4 f5]
 self:=λ_ _ _ _ _ st h=>by
  obtain⟨⟨old,he⟩,_⟩:=st;exact BL he h
inductive Tf (K:a7) (vs:List V) (H1:Hp) (R:It->Hp->Prop):Prop
 |mk (a xs:_) (h0:vs=[.ref a]) (h1:Ax K H1 a xs) (h2:R (XA K a) H1):Tf K vs H1 R
def zBa (K:a7)(ta:TA):TI:=λU H R=>ta U H λvs H1=>Tf K vs H1 R
theorem Ja {X:Cx}{elts:a6 j6}{x1:Nat}{tpos:Pos}{l:j6}{ta:TA}{p pos:Pos}(hg:Gl X "enumerate")(hm:X.mg "enumerate"=none)(ha:PA X [l] ta)(hs:autoParam (starEach [l] X.env=[(false,eval l X.env)]) L2.aE._auto_1):PI X (.Tuple elts x1 tpos) (.Call (.Name "enumerate" p) [l] [] pos) (zBa X.K ta):=by
 refine#[?_];intro j9 s U H R I h;refine Call_ (EO I hg hm Ju (jH (wK (ha pos j9 s U H _ I h) λus s1 ⟨vs,H1,I1,r1,q1⟩=>?_) hs rfl));obtain⟨a,xs,e,hq,q⟩:=q1;subst e;obtain⟨u,rfl,ru⟩:=II r1;cases ru;obtain⟨its,rv,pl,hz⟩:=I1.tuple hq;refine RZ pl λh' he hit hsz hk=>?_;refine BL (s:={s1 with heap:=h'}) he ?_;have I2:xZ X j9 U H1 {s1 with heap:=h'}:=I1.kept (t':=s1.toks) hk;refine#[_,[s1.heap.objs.size+1,s1.heap.objs.size],_,_,H1,rfl,I2,QJ a (s1.heap.objs.size+1) s1.heap.objs.size (Nat.succ_ne_self _),#[#[_,he],hit],λb hb=>?_,q]
 rcases List.mem_cons.mp hb with z|z
 ·rw[z];exact I1.fpOk (AH _) (I1.hok.fresh (AH _))
 ·rw[List.mem_singleton.mp z];exact I1.fpOk (zO _) (I1.hok.fresh (zO _))
theorem HA {K:a7}{a:i4}{xs:a6 V}{g:TG}{tb:TS}{D:Fp}{U:St}{H:Hp}(Pv:Nat->St->Hp->Prop)(h0:Pv 0 U H)(hl: ∀i U H,i<=xs.length->Pv i U H->Ax K H a xs)
  (hs: ∀i x U H t,xs[i]? =some x->Pv i U H->H t=none->g (.ref t) U (upd H t (.tup [.int (i:Nat),x])) λU2 H2=>tb {D with nx:=Pv (i+1),ct:=Pv (i+1),bk:=D.nx} U2 H2) (hd: ∀U H,Pv xs.length U H->D.nx U H):
  ∃W:Nat->Nat->St->Hp->Prop,(∃m,W 0 m U H)/\ ∀i m U H,W i m U H->
   ((XA K a).stop i H/\D.nx U H)\/((XA K a).go i H/\ ∃N:St->Hp->Prop,(∀U' H',N U' H'-> ∃m',m'<m/\W (i+1) m' U' H')/\ ∀x H',(XA K a).yld i H x H'->g x U H' λU2 H2=>tb {D with nx:=N,ct:=N,bk:=D.nx} U2 H2):=by
 refine#[λi m U H=>m=xs.length-i/\i<=xs.length/\Pv i U H,#[xs.length,by simp,xE _,h0],?_];rintro i m U H ⟨rfl,hi,p⟩;have q:=hl i U H hi p
 by_cases o5:i<xs.length
 ·refine .inr #[#[xs,xs[i],q,zF o5],Pv (i+1),λU' H' p'=>#[xs.length-(i+1),(),rfl,o5,p'],λy H' yd=>?_];obtain⟨t,x,rfl,ht,rfl,hx⟩:=yd;exact hs i x U H t (hx xs q) p ht
 ·have e:i=xs.length:=()
  subst e;exact .inl #[#[xs,q,zO _],hd U H p]
end L2
namespace L2
open PySem
def HE (v:Int):Prop:= -Mn<v/\v<Mn
theorem HE.big (h:HE v):v.natAbs<2^2000:=by
 have:v.natAbs<(10000000000000000000000000000000000000000000000000000000000000000000000000000000000000000000000000000:Nat):=by
  unfold HE Mn at h;lia
 exact Nat.lt_trans this (by decide)
noncomputable instance (v:Int):Decidable (HE v):=inferInstanceAs (Decidable (_/\_))
noncomputable def rk (k a b:Int):i5 Int:=
 if k=8 then(if HE (a+b)then some (a+b)else none)else if k=9 then(if HE (a-b)then some (a-b)else none)else if k=10 then(if HE (a*b)then some (a*b)else none)
 else if k=13 then some (if a<b then 1 else 0)else if k=14 then some (if a=b then 1 else 0)else if b=0 then none else if k=11 then some (a.fdiv b)else some (a.fmod b)
theorem zCc (v:Int):(HE v/\wV v=[.non,.int v])\/(¬HE v/\wV v=[.str "great",.int 0]):=by
 unfold wV
 by_cases h:v ≥ Mn\/v<= -Mn
 ·rw[zQ h];exact .inr #[λz=>by unfold HE at z;lia,rfl]
 ·rw[zN h];exact .inl #[by unfold HE;lia,rfl]
theorem Yd (k a b:Int):(∃v,rk k a b=some v/\Gd k a b=[.non,.int v])\/(rk k a b=none/\ ∃z,Gd k a b=[.str z,.int 0]):=by
 have two: ∀v:Int,(∃u,(if HE v then some v else none)=some u/\wV v=[.non,.int u])\/((if HE v then some v else none)=none/\ ∃z,wV v=[.str z,.int 0]):=λv=>by
  rcases zCc v with⟨h,e⟩|⟨h,e⟩
  ·exact .inl #[v,zQ h,e]
  ·exact .inr #[zN h,_,e]
 unfold rk Gd
 by_cases h8:k=8
 ·simp only[zQ h8];exact two _
 by_cases h9:k=9
 ·simp only[zN h8,zQ h9];exact two _
 by_cases h10:k=10
 ·simp only[zN h8,zN h9,zQ h10];exact two _
 simp only[zN h8,zN h9,zN h10]
 by_cases h13:k=13
 ·simp only[zQ h13];exact .inl #[-1,rfl]
 by_cases h14:k=14
 ·simp only[zN h13,zQ h14];exact .inl #[-1,rfl]
 simp only[zN h13,zN h14]
 by_cases hb:b=0
 ·rw[zQ hb,zQ hb];exact .inr #[rfl,-1]
 by_cases h11:k=11
 ·simp only[zN hb,zQ h11];exact .inl #[-1,rfl]
 ·simp only[zN hb,zN h11];exact .inl #[-1,rfl]
theorem Xg (ha:HE a):HE (a.fdiv b):=by
 have e:=Ey a b;unfold HE at *
 lia
theorem Xf {a b:Int}(hb:HE b)(h0:b≠0):HE (a.fmod b):=by
 unfold HE at *
 rcases Int.lt_or_gt_of_ne h0 with h|h
 ·have h1:=wT a h0;have h2:=Int.emod_lt_of_neg a h;rw[Int.fmod_eq_emod];split
  ·lia
  ·lia
 ·have h1:=Int.fmod_nonneg_of_pos a h;have h2:=Int.fmod_lt_of_pos a h;lia
theorem ZW (ha:HE a)(hb:HE b)(h:rk k a b=some v):HE v:=by
 have one: ∀p:Prop,[Decidable p]->HE (if p then 1 else 0):=λp _=>by
  unfold HE;split<;>decide
 have two: ∀u:Int,(if HE u then some u else none)=some v->HE v:=λu z=>by
  split at z
  ·cases z;assumption
  ·cases z
 unfold rk at h;split at h
 ·exact two _ h
 split at h
 ·exact two _ h
 split at h
 ·exact two _ h
 split at h
 ·cases h;exact one _
 split at h
 ·cases h;exact one _
 split at h
 ·cases h
 rename_i h0;split at h
 ·cases h;exact Xg ha
 ·cases h;exact Xf hb h0
mutual
noncomputable def kM:Tr->i5 Int
 | .mk k own ps=>if k=0 then own.head? else if k<8\/14<k then none else
  match Gm ps with
  |[some a,some b]=>rk k a b
  |_=>none
noncomputable def Gm:a6 Tr->a6 (i5 Int)
 |[]=>[]
 |a::r=>kM a::Gm r
end
def OK:Nat->Tr->Prop
 |0,_=>False
 |d+1,.mk k own ps=>(k=0-> ∃n,own=[n]/\HE n)/\(8<=k->k<=14->ps.length=2)/\ ∀p,p∈ps->OK d p
theorem KF: ∀(d:Nat) (t:Tr) (v:Int),OK d t->kM t=some v->HE v
 |0,_,_,h,_=>h.elim
 |d+1,.mk k own ps,v,⟨h0,h2,hp⟩,e=>by
  unfold kM at e;split at e
  ·rename_i hk;obtain⟨n,rfl,fn⟩:=h0 hk;cases e;exact fn
  split at e
  ·cases e
  rename_i hk;have l2:=h2 () ()
  match ps,l2,hp,e with
  |[p,q],_,hp,e=>
   simp only[Gm]at e;split at e
   ·rename_i a b z;injection z with z1 z2
    injection z2 with z2 _
    exact ZW (KF d p a (hp p (by simp)) z1) (KF d q b (hp q (by simp)) z2) e
   ·cases e
theorem XO (k0:k≠0)(k8:8<=k)(k14:k<=14)(p1 p2:Tr):kM (.mk k own [p1,p2])=match[kM p1,kM p2]with
  |[some a,some b]=>rk k a b
  |_=>none:=by
 show(if k=0 then own.head? else if k<8\/14<k then none else match Gm [p1,p2]with
  |[some a,some b]=>rk k a b
  |_=>none)=_
 rw[zN k0,zN ()];rfl
noncomputable def oZ:i5 Int->V
 |none=>.non
 |some n=>.int n
inductive FB (d:Nat) (vs:List V) (H:Hp) (Q:VK) (E:XK):Prop
 |mk (v:V) (t:Tr) (h0:vs=[v]) (h1:Kg H d v t) (h2:OK d t) (h3: ∀H',xJ H H'->Q (oZ (kM t)) H'):FB d vs H Q E
theorem KQ (h: ∀vs H Q E,¬sp vs H Q E):Dl P w K mg base CX k f fd ps sp:=
 #[λ_ _ _ _ z=>(h _ _ _ _ z).elim,λ_ _ _ _ _ _ _ _ _ _ _ _ _ z=>(h _ _ _ _ z).elim]
end L2
namespace L2
open PySem PySem.Spec
section
variable {X:Cx}
inductive Zn (K:a7) (x:V) (y:V) (H:Hp) (Q:VK):Prop
 |mk (a b:i4) (i j k:Int) (z:V) (h0:x=.ref a) (h1:y=.ref b) (h2:Ax K H a [.int i,.int j]) (h3:Ax K H b [.int k,z]) (h4:GZ z=true) (h5:Q (.bl (!(i==k&&Ha (.int j) z))) H):Zn K x y H Q
theorem Hx (hr:Ao k X.A):HC X (compareOp .NotEq) (Zn X.K):=by
 intro j9 s U H x y v u Q I rx ry h;obtain⟨a,b,i,j,k',z,rfl,rfl,ha,hb,fz,q⟩:=h;cases rx;cases ry;have hu:=hr.un;obtain⟨us,r,pa,_⟩:=I.tuple ha;obtain⟨vs,q',pb,_⟩:=I.tuple hb;obtain⟨u1,u2,rfl,r1,r2⟩:=r.two;obtain⟨w1,w2,rfl,t1,t2⟩:=q'.two;have:=SeqAt.RcNeAt.tuples (A:=X.A) (s:=s) (e:=λn=>if n=0 then Ha (.int i) (.int k')else Ha (.int j) z) pa pb () (λn h1 h2=>by
  have h1:n<2:=h1
  rcases(by lia:n=0\/n=1)with rfl|rfl
  ·exact Iw r1 t1 rfl rfl
  ·exact Iw r2 t2 rfl fz)
 have e:(!((List.range (min 2 2)).all (λn=>if n=0 then Ha (.int i) (.int k')else Ha (.int j) z)&&(2==2)))=!(i==k'&&Ha (.int j) z):=by
  show(!((Ha (.int i) (.int k')&&(Ha (.int j) z&&true))&&true))=_;rw[uF,uF];rfl
 have this:SeqAt.RcNeAt X.A s (Value.ref a) (Value.ref b) (!(i==k'&&Ha (.int j) z)):=e▸this;exact this _ _ _ _ #[.bl _,H,I,rfl,q]
end
noncomputable def DM (rs:vX)(a:i5 Nat):i5 Nat:=a.bind λi=>if i<rs.length then ME rs i else none
noncomputable def xS (rs:vX)(a b:i5 Nat):i8:=(DM rs a).isSome&&decide (DM rs a=DM rs b)
noncomputable def qP (rs:vX)(a:i5 Nat)(op n:Int):i5 Nat:=(DM rs a).bind λl=>if rs[l]? =some (op,n)then some (l+1)else none
theorem zAr (h:ME rs i=some l):l<rs.length:=by
 unfold ME at h;split at h
 ·rename_i c;cases h;exact c.1
 ·cases h
theorem LA (h:DM rs a=some l):l<rs.length:=by
 cases a with
 |none=>cases h
 |some i=>
  have h:(if i<rs.length then ME rs i else none)=some l:=h;split at h
  ·exact zAr h
  ·cases h
noncomputable def CkO (C dx r l d q:i4):HO:=.ins C dx [("rows",.ref r),("leads",.ref l),("lines",.ref d),("right",.ref q)]
def XM (H:Hp):i5 V->i5 (Nat×Nat)->Prop
 |none,none=>True
 |some v,some be=> ∃t,v=.ref t/\H t=some (.tup [.int (be.1:Nat),.int (be.2:Nat)])
 |_,_=>False
structure ID (C:i4)(H:Hp)(c dx r l d q:i4)(rs:vX)(L:Int->Option (Nat×Nat))(R:Int->Option i8):Prop where
 ob:H c=some (CkO C dx r l d q)
 rows:qU H r (JZ rs)
 leads:H l=some (.lst ((List.range rs.length).map λi=>oI (ME rs i)))
 lines: ∃kvs:List (AQ×V),H d=some (.dK kvs)/\ ∀p:Int,XM H (Ak kvs (.inl p)) (L p)
 right: ∃kvs:List (AQ×V),H q=some (.dK kvs)/\ ∀p:Int,Ak kvs (.inl p)=(R p).map V.bl
theorem XM.same (s:xJ H H'): ∀{o:i5 V} {b:i5 (Nat×Nat)},XM H o b->XM H' o b
 |none,none,_=>trivial
 |some _,some _,⟨t,e,h⟩=>#[t,e,s _ _ h]
 |none,some _,h=>h.elim
 |some _,none,h=>h.elim
theorem ID.same (s:xJ H H')(h:ID C H c dx r l d q rs L R):ID C H' c dx r l d q rs L R:=by
 obtain⟨kv,e1,e2⟩:=h.lines;obtain⟨kr,e3,e4⟩:=h.right;obtain⟨vs,e5,e6⟩:=h.rows;exact#[s _ _ h.ob,#[vs,s _ _ e5,Paired.imp (λ_ _ ⟨t,a,b⟩=>#[t,a,s _ _ b]) e6],s _ _ h.leads,#[kv,s _ _ e1,λp=>(e2 p).same s],#[kr,s _ _ e3,e4]]
theorem ID.line (h:ID C H c dx r l d q rs L R)(hp:L p=some (b,e)): ∃t,Ew H d (.int p) (some (.ref t))/\H t=some (.tup [.int (b:Nat),.int (e:Nat)]):=by
 obtain⟨kv,e1,e2⟩:=h.lines;have z:=e2 p;rw[hp]at z;cases w:Ak kv (.inl p)with
 |none=>rw[w]at z;exact z.elim
 |some v=>
  rw[w]at z;obtain⟨t,rfl,et⟩:=z;exact#[t,w▸Ew.k (k:=.inl p) e1,et]
theorem ID.has (h:ID C H c dx r l d q rs L R)(p:Int): ∃o,Ew H d (.int p) o/\o.isSome=(L p).isSome:=by
 obtain⟨kv,e1,e2⟩:=h.lines;refine#[Ak kv (.inl p),Ew.k (k:=.inl p) e1,?_];have z:=e2 p;cases w:Ak kv (.inl p)<;>cases y:L p<;>rw[w,y]at z<;>first|rfl|exact z.elim
theorem ID.rt (h:ID C H c dx r l d q rs L R)(hp:R p=some b):Ew H q (.int p) (some (.bl b)):=by
 obtain⟨kv,e1,e2⟩:=h.right;have z:=e2 p;rw[hp]at z;have z:Ak kv (.inl p)=some (.bl b):=z;exact z▸Ew.k (k:=.inl p) e1
theorem ID.lead (h:ID C H c dx r l d q rs L R)(hi:i<rs.length):((List.range rs.length).map λi=>oI (ME rs i))[i]? =some (oI (ME rs i)):=by
 rw[zW,wY hi];rfl
inductive DX (C:i4) (vs:List V) (H:Hp) (Q:VK) (E:XK):Prop
 |mk (c dx r l d q:i4) (rs:vX) (L:Int->Option (Nat×Nat)) (R:Int->Option i8) (a:Option Nat) (h0:vs=[.ref c,oI a]) (h1:ID C H c dx r l d q rs L R) (h2:Q (oI (DM rs a)) H):DX C vs H Q E
inductive DZ (C:i4) (vs:List V) (H:Hp) (Q:VK) (E:XK):Prop
 |mk (c dx r l d q:i4) (rs:vX) (L:Int->Option (Nat×Nat)) (R:Int->Option i8) (a b:Option Nat) (h0:vs=[.ref c,oI a,oI b]) (h1:ID C H c dx r l d q rs L R) (h2:Q (.bl (xS rs a b)) H):DZ C vs H Q E
noncomputable def OB (rs:vX)(a:i5 Nat)(op:Int)(n:i5 Int):i5 Nat:=n.bind λm=>qP rs a op m
inductive CQ (C:i4) (vs:List V) (H:Hp) (Q:VK) (E:XK):Prop
 |mk (c dx r l d q:i4) (rs:vX) (L:Int->Option (Nat×Nat)) (R:Int->Option i8) (a:Option Nat) (t:i4) (op:Int) (n:Option Int) (h0:vs=[.ref c,oI a,.ref t]) (h1:ID C H c dx r l d q rs L R) (h2:H t=some (.tup [.int op,oZ n])) (h3:Q (oI (OB rs a op n)) H):CQ C vs H Q E
inductive Al (C:i4) (f:Nat×Nat->Nat) (vs:List V) (H:Hp) (Q:VK) (E:XK):Prop
 |mk (c dx r l d q:i4) (rs:vX) (L:Int->Option (Nat×Nat)) (R:Int->Option i8) (tn:i4) (k p:Int) (x y:V) (be:Nat×Nat) (h0:vs=[.ref c,.ref tn]) (h1:ID C H c dx r l d q rs L R) (h2:H tn=some (.tup [.int k,.int p,x,y])) (h3:L p=some be) (h4:Q (.int (f be:Nat)) H):Al C f vs H Q E
inductive Bx (C:i4) (f:Nat×Nat->Nat) (vs:List V) (H:Hp) (Q:VK) (E:XK):Prop
 |mk (c dx r l d q:i4) (rs:vX) (L:Int->Option (Nat×Nat)) (R:Int->Option i8) (tn tp:i4) (k p k' p':Int) (x y x' y':V) (be be':Nat×Nat) (h0:vs=[.ref c,.ref tn,.ref tp]) (h1:ID C H c dx r l d q rs L R) (h2:H tn=some (.tup [.int k,.int p,x,y])) (h3:L p=some be) (h4:H tp=some (.tup [.int k',.int p',x',y'])) (h5:L p'=some be') (h6:Q (.bl (xS rs (some (f be')) (some (f be)))) H):Bx C f vs H Q E
def RtV (H:Hp)(R:Int->i5 i8)(v:V)(b:i8):Prop:= ∃(t:i4) (k p:Int) (x y:V),v=.ref t/\H t=some (.tup [.int k,.int p,x,y])/\R p=some b
inductive HX (C:i4) (vs:List V) (H:Hp) (Q:VK) (E:XK):Prop
 |mk (c dx r l d q:i4) (rs:vX) (L:Int->Option (Nat×Nat)) (R:Int->Option i8) (pt:i4) (m7:List V) (bs:List i8) (h0:vs=[.ref c,.ref pt]) (h1:ID C H c dx r l d q rs L R) (h2:H pt=some (.tup m7)) (h3:Paired (RtV H R) m7 bs) (h4:m7.length<=1000) (h5: ∀H',xJ H H'->Q (.bl (bs.all id)) H'):HX C vs H Q E
noncomputable def Bc (rs:vX)(a:i5 Nat):i5 Nat:=(DM rs a).bind λl=>match rs[l]? with
 |some (5,n)=>some n.toNat
 |_=>none
def UOk (rs:vX):Prop:= ∀(i:Nat) (n:Int),rs[i]? =some (5,n)->0<=n
inductive QU (C:i4) (vs:List V) (H:Hp) (Q:VK) (E:XK):Prop
 |mk (c dx r l d q:i4) (rs:vX) (L:Int->Option (Nat×Nat)) (R:Int->Option i8) (a:Option Nat) (h0:vs=[.ref c,oI a]) (h1:ID C H c dx r l d q rs L R) (h2:UOk rs) (h3:Q (oI (Bc rs a)) H):QU C vs H Q E
def LnP (H:Hp)(L:Int->i5 (Nat×Nat))(v:V)(be:Nat×Nat):Prop:= ∃(t:i4) (k p:Int) (x y:V),v=.ref t/\H t=some (.tup [.int k,.int p,x,y])/\L p=some be
noncomputable def Ht (rs:vX)(be:Nat×Nat)(v:Int):i8:=xS rs (qP rs (some be.1) 0 v) (some be.2)
noncomputable def AB (rs:vX)(at_:Nat):a6 (Nat×Nat)->i5 Nat
 |[]=>some at_
 |b::r=>if xS rs (some at_) (some b.1)=true then AB rs b.2 r else none
inductive NE (C:i4) (vs:List V) (H:Hp) (Q:VK) (E:XK):Prop
 |mk (c dx r l d q:i4) (rs:vX) (L:Int->Option (Nat×Nat)) (R:Int->Option i8) (tn:i4) (k p:Int) (x:V) (pt:i4) (m7:List V) (be:Nat×Nat) (o6:List (Nat×Nat)) (h0:vs=[.ref c,.ref tn]) (h1:ID C H c dx r l d q rs L R) (h2:H tn=some (.tup [.int k,.int p,x,.ref pt])) (h3:H pt=some (.tup m7)) (h4:L p=some be) (h5:Paired (LnP H L) m7 o6) (h6:Q (oI (AB rs be.1 o6)) H):NE C vs H Q E
noncomputable def SL (rs:vX)(be:Nat×Nat):i5 Int->i8
 |none=>false
 |some n=>Ht rs be n
inductive Ld (C:i4) (e:Nat) (vs:List V) (H:Hp) (Q:VK) (E:XK):Prop
 |mk (c dx r l d q:i4) (rs:vX) (L:Int->Option (Nat×Nat)) (R:Int->Option i8) (tn:i4) (k p:Int) (x y:V) (t:Tr) (be:Nat×Nat) (h0:vs=[.ref c,.ref tn]) (h1:ID C H c dx r l d q rs L R) (h2:H tn=some (.tup [.int k,.int p,x,y])) (h3:Kg H e (.ref tn) t) (h4:OK e t) (h5:L p=some be) (h6: ∀H',xJ H H'->Q (.bl (SL rs be (kM t))) H'):Ld C e vs H Q E
noncomputable def Pm (v:Int)(n:Nat):Nat:=if v<0\/v ≥ (n:Int)-1 then n-1 else 1+v.toNat
theorem VM (h:0<n):Pm v n<n:=by
 unfold Pm;split
 ·lia
 ·lia
inductive Le (vs:List V) (H:Hp) (Q:VK) (E:XK):Prop
 |mk (v:Int) (pt:i4) (m7:List V) (x:V) (h0:vs=[.int v,.ref pt]) (h1:H pt=some (.tup m7)) (h2:0<m7.length) (h3:m7[Pm v m7.length]? =some x) (h4:Q x H):Le vs H Q E
def PtV (H:Hp)(L:Int->i5 (Nat×Nat))(R:Int->i5 i8)(v:V)(i:i8×Nat×Nat):Prop:= ∃(t:i4) (k p:Int) (x y:V),v=.ref t/\H t=some (.tup [.int k,.int p,x,y])/\R p=some i.1/\(i.1=true->L p=some i.2)
noncomputable def Sc (rs:vX)(be:Nat×Nat)(is:a6 (i8×Nat×Nat)):i5 Int->i8
 |none=>false
 |some v=>match is[Pm v is.length]? with
  |some i=>i.1&&(xS rs (some i.2.1) (some be.1)&&xS rs (some i.2.2) (some be.2))
  |none=>false
inductive Ll (C:i4) (e:Nat) (vs:List V) (H:Hp) (Q:VK) (E:XK):Prop
 |mk (c dx r l d q:i4) (rs:vX) (L:Int->Option (Nat×Nat)) (R:Int->Option i8) (tn:i4) (k p:Int) (x:V) (pt:i4) (m7:List V) (is:List (i8×Nat×Nat)) (v0:V) (t0:Tr) (be:Nat×Nat) (h0:vs=[.ref c,.ref tn]) (h1:ID C H c dx r l d q rs L R) (h2:H tn=some (.tup [.int k,.int p,x,.ref pt])) (h3:H pt=some (.tup m7)) (h4:L p=some be) (h5:Paired (PtV H L R) m7 is) (h6:m7[0]? =some v0) (h7:Kg H e v0 t0) (h8:OK e t0) (h9: ∀H',xJ H H'->Q (.bl (Sc rs be is (kM t0))) H'):Ll C e vs H Q E
noncomputable def Je (rs:vX)(be:Nat×Nat)(o6:a6 (Nat×Nat))(k:Int)(g:a6 Int):i8:=
 let after:=qP rs (AB rs be.1 o6) (g.headD 0) (g.getD 1 0)
 if k=7 then after.isSome else xS rs after (some be.2)
end L2
namespace L2
open PySem PySem.Spec PyProof.Rows
structure Nx (prog:i7)(w:j3)(it a:i4)(xs:Array a9)(St:Nat->j4->Prop):Prop where
 item: ∀{A:j5} {E:a9->i6->Prop} {k:Nat} {s:i6} {x:a9} {Q:a9->i6->Prop},St k s.heap->xs[k]? =some x->(∀h',St (k+1) h'->Heap.SameBut it s.heap h'->Q x {s with heap:=h'})->wpAny (model prog w) A (Builtin.SmallTypes.nextOf (.ref it)) Q E s
 stop: ∀{A:j5} {E:a9->i6->Prop} {k:Nat} {s:i6} {Q:a9->i6->Prop},A.handled=none->St k s.heap->xs[k]? =none->(∀h' e,Heap.ExtBut it s.heap h'->(∃o,h'.get? e=some o/\o.cls=.type "StopIteration")->E (.ref e) {s with heap:=h'})->wpAny (model prog w) A (Builtin.SmallTypes.nextOf (.ref it)) Q E s
 keep: ∀{k:Nat} {h h':j4},St k h->(∀o,h.get? it=some o->h'.get? it=some o)->(∀o,h.get? a=some o->h'.get? a=some o)->St k h'
 here: ∀{k:Nat} {h:j4},St k h->(∃o,h.get? it=some o/\ ∀v,o.data≠ .cell v)/\ ∃o,h.get? a=some o
section
variable {prog:i7}{w:j3}{it a:i4}{xs:j7 a9}
theorem Nx.list (ne:a≠it):Nx prog w it a xs (λk h=>h.IsListIter it a k/\h.IsList a xs) where
 item:=λst hx q=>wpAny_nextOf_list_item st.1 st.2 hx λh' i sb=>q h' #[i,st.2.extBut sb.extBut ne] sb
 stop:=λhh st hx q=>wpAny_nextOf_list_end hh st.1 st.2 hx q
 keep:=λst k1 k2=>by
  obtain⟨⟨o,e,r⟩,o2,e2,r2⟩:=st;exact#[#[o,k1 o e,r],o2,k2 o2 e2,r2]
 here:=λst=>by
  obtain⟨⟨o,e,r1,r2⟩,o2,e2,_⟩:=st;exact#[#[o,e,λv z=>by rw[r2]at z;cases z],o2,e2]
theorem RC (hit:s.heap.IsTupleIter it a k)(ht:s.heap.IsTuple a xs)(hx:xs[k]? =some x)(q: ∀h',h'.IsTupleIter it a (k+1)->Heap.SameBut it s.heap h'->Q x {s with heap:=h'}):
  wpAny (model prog w) A (Builtin.SmallTypes.nextOf (.ref it)) Q E s:=by
 obtain⟨o,ho,hc,hd⟩:=id hit;obtain⟨ol,hol,_,nl,hdl⟩:=ht;unfold Builtin.SmallTypes.nextOf;refine zD (jG (name:=Str.ofString "__next__") hit.typeIs jP (kF jP hit.typeIs vC ?_ (wU _)));show wpAny _ _ (field (.ref it) 0>>=_) _ _ s;refine zD (jC ho hd (x:=.ref a) rfl ?_);show wpAny _ _ (if(Value.ref a==Value.none)=true then _ else _) _ _ s;rw[zN (show ¬((Value.ref a==Value.none)=true)from yO)];show wpAny _ _ (field (.ref it) 1>>=_) _ _ s;refine zD (jC ho hd (x:=.int k 0) rfl ?_);show wpAny _ _ (seqItems? (.ref a)>>=_) _ _ s;refine zD (qK hol hdl ?_);simp only[xY,hx];refine zD (uP ho hd (by simp) (zZ #[x,rfl,zZ (q _ ?_ (uK ..))]));exact#[_,vM _ ho (Aq (wG hd _)),(EN ..).trans hc,by rw[wG hd];simp[rawInt]]
theorem QP (hh:A.handled=none)(hit:s.heap.IsTupleIter it a k)(ht:s.heap.IsTuple a xs)(hx:xs[k]? =none)
  (q: ∀h' e,Heap.ExtBut it s.heap h'->(∃o,h'.get? e=some o/\o.cls=.type "StopIteration")->E (.ref e) {s with heap:=h'}):wpAny (model prog w) A (Builtin.SmallTypes.nextOf (.ref it)) Q E s:=by
 obtain⟨o,ho,hc,hd⟩:=id hit;obtain⟨ol,hol,_,nl,hdl⟩:=ht;unfold Builtin.SmallTypes.nextOf;refine zD (jG (name:=Str.ofString "__next__") hit.typeIs jP (kF jP hit.typeIs vC ?_ (wU _)));show wpAny _ _ (field (.ref it) 0>>=_) _ _ s;refine zD (jC ho hd (x:=.ref a) rfl ?_);show wpAny _ _ (if(Value.ref a==Value.none)=true then _ else _) _ _ s;rw[zN (show ¬((Value.ref a==Value.none)=true)from yO)];show wpAny _ _ (field (.ref it) 1>>=_) _ _ s;refine zD (jC ho hd (x:=.int k 0) rfl ?_);show wpAny _ _ (seqItems? (.ref a)>>=_) _ _ s;refine zD (qK hol hdl ?_);simp only[xY,hx];refine zD (Es (zD (uP ho hd (by simp) ?_)));show wpAny _ _ (newExc (.type "StopIteration") []>>=_) _ _ _;refine zD ?_;simp only[newExc,newTuple];refine zD (jT ?_ (by size_fits));refine zD (m:=firstArgMember _ _) (uA (a:=Value.none) (by first|rfl|(simp only[firstArgMember];rfl)) ?_);refine jT ?_ (by size_fits);simp only[raiseNew];refine zD (wpAny_handled ?_);rw[show A.in1.handled=none from hh];refine zD (zZ (wpAny_throw ?_));exact q _ _ (((uK ..).extBut.push _).push _) #[_,yE _ rfl,rfl]
theorem Nx.tuple (ne:a≠it):Nx prog w it a xs (λk h=>h.IsTupleIter it a k/\h.IsTuple a xs) where
 item:=λst hx q=>RC st.1 st.2 hx λh' i sb=>q h' #[i,st.2.extBut sb.extBut ne] sb
 stop:=λhh st hx q=>QP hh st.1 st.2 hx q
 keep:=λst k1 k2=>by
  obtain⟨⟨o,e,r⟩,o2,e2,r2⟩:=st;exact#[#[o,k1 o e,r],o2,k2 o2 e2,r2]
 here:=λst=>by
  obtain⟨⟨o,e,r1,r2⟩,o2,e2,_⟩:=st;exact#[#[o,e,λv z=>by rw[r2]at z;cases z],o2,e2]
end
structure ZA (z TI TO i1 i2 a1 a2:i4):Prop where
 TIz:TI≠z
 TOz:TO≠z
 i1z:i1≠z
 i2z:i2≠z
 TITO:TI≠TO
 TIi1:TI≠i1
 TIi2:TI≠i2
 TOi1:TO≠i1
 TOi2:TO≠i2
 i12:i1≠i2
 a1z:a1≠z
 a1TO:a1≠TO
 a1i1:a1≠i1
 a1i2:a1≠i2
 a2z:a2≠z
 a2TO:a2≠TO
 a2i1:a2≠i1
 a2i2:a2≠i2
section
variable {prog:i7}{w:j3}{A:j5}{E:a9->i6->Prop}{s:i6}{z TI TO i1 i2 a1 a2:i4}{xs ys:j7 a9}{S1 S2:Nat->j4->Prop}{k:Nat}{u v:a9}
def K4 (z TO i1 i2:i4)(h h':j4):Prop:= ∀c o,c≠z->c≠TO->c≠i1->c≠i2->h.get? c=some o->h'.get? c=some o
theorem Vc (D:ZA z TI TO i1 i2 a1 a2)(N1:Nx prog w i1 a1 xs S1)(N2:Nx prog w i2 a2 ys S2){x y:a9}{Q:a9->i6->Prop}(hz:IsZip s.heap z TI TO .none)(hTI:IsPair s.heap TI (.ref i1) (.ref i2))(hTO:IsPair s.heap TO u v)
  (s1:S1 k s.heap) (s2:S2 k s.heap) (hx:xs[k]? =some x) (hy:ys[k]? =some y)
  (q: ∀h',IsZip h' z TI TO (rawInt s.heap.objs.size)->IsPair h' TO x y->S1 (k+1) h'->S2 (k+1) h'->IsPair h' s.heap.objs.size x y->K4 z TO i1 i2 s.heap h'->Q (.ref s.heap.objs.size) {s with heap:=h'}):
  wpAny (model prog w) A (Builtin.«zip.__next__» #[[.ref z],[]]) (λfin s'=> ∃v,fin=.done (.ret v)/\Q v s') E s:=by
 show wpAny _ _ (field (.ref z) 2>>=_) _ _ _;refine zD (jC hz rfl (x:=.bool false) rfl ?_);show wpAny _ _ (field (.ref z) 3>>=_) _ _ _;refine zD (jC hz rfl (x:=.ref TI) rfl (zD (qK hTI rfl ?_)));show wpAny _ _ (Builtin.SmallTypes.ownedTupleIsFree (.ref z)>>=_) _ _ _;unfold Builtin.SmallTypes.ownedTupleIsFree;refine zD (zD (jC hz rfl (x:=.none) rfl (zZ ?_)));simp only[DU];refine zD (Es (zD (jC hz rfl (x:=.ref TO) rfl (zD (vG hz (by simp) λh1 z1 b1=>zD ?_)))));have z1:IsZip h1 z TI TO .ellipsis:=z1;simp only[List.zipIdx_cons,List.zipIdx_nil,DJ,List.forIn_nil];refine zD (zD (EU ?_));show wpAny _ _ (Builtin.SmallTypes.nextOf (.ref i1)>>=_) _ _ _;have p1:S1 k h1:=N1.keep s1 (λo e=>b1.extBut _ _ D.i1z e) (λo e=>b1.extBut _ _ D.a1z e);refine zD (N1.item p1 hx λh2 p2 b2=>zZ ?_);have t2:IsPair h2 TO u v:=b2.extBut _ _ D.TOi1 (b1.extBut _ _ D.TOz hTO);refine zD (qK t2 rfl (zD (Dn t2 λh3 t3 b3=>zD (wpAny_letGo (zZ ?_)))));have t3:IsPair h3 TO x v:=t3;refine zD (zD (EU ?_));show wpAny _ _ (Builtin.SmallTypes.nextOf (.ref i2)>>=_) _ _ _;have r3:S2 k h3:=N2.keep s2 (λo e=>b3.extBut _ _ (Ne.symm D.TOi2) (b2.extBut _ _ (Ne.symm D.i12) (b1.extBut _ _ D.i2z e))) (λo e=>b3.extBut _ _ D.a2TO (b2.extBut _ _ D.a2i1 (b1.extBut _ _ D.a2z e)));refine zD (N2.item r3 hy λh4 r4 b4=>zZ ?_);have t4:IsPair h4 TO x v:=b4.extBut _ _ D.TOi2 t3;refine zD (qK t4 rfl (zD (Dn t4 λh5 t5 b5=>zD (wpAny_letGo (zZ (zZ ?_))))));have t5:IsPair h5 TO x y:=t5;refine zD (qK t5 rfl (zD (wpAny_newTuple ?_)));have sz:h5.objs.size=s.heap.objs.size:=by rw[b5.1,b4.1,b3.1,b2.1,b1.1]
 have z5:IsZip h5 z TI TO .ellipsis:=b5.extBut _ _ (Ne.symm D.TOz) (b4.extBut _ _ (Ne.symm D.i2z) (b3.extBut _ _ (Ne.symm D.TOz) (b2.extBut _ _ (Ne.symm D.i1z) z1)));have k5:K4 z TO i1 i2 s.heap h5:=λc o c1 c2 c3 c4 e=>b5.extBut _ _ c2 (b4.extBut _ _ c4 (b3.extBut _ _ c2 (b2.extBut _ _ c3 (b1.extBut _ _ c1 e))));have p5:S1 (k+1) h5:=N1.keep p2 (λo e=>b5.extBut _ _ (Ne.symm D.TOi1) (b4.extBut _ _ D.i12 (b3.extBut _ _ (Ne.symm D.TOi1) e))) (λo e=>b5.extBut _ _ D.a1TO (b4.extBut _ _ D.a1i2 (b3.extBut _ _ D.a1TO e)));have r5:S2 (k+1) h5:=N2.keep r4 (λo e=>b5.extBut _ _ (Ne.symm D.TOi2) e) (λo e=>b5.extBut _ _ D.a2TO e);have zl:z<h5.objs.size:=yI z5;show wpAny _ _ (Builtin.SmallTypes.ownedTupleHandOut (.ref z) (.ref h5.objs.size)>>=_) _ _ _;unfold Builtin.SmallTypes.ownedTupleHandOut;have z6:IsZip (h5.push {cls:=.type "tuple",data:=.seq (List.toArray [x,y])}) z TI TO .ellipsis:=zJ _ z5;refine zD (zD (vG z6 (by simp) λh7 z7 b7=>?_));have z7:IsZip h7 z TI TO (rawInt h5.objs.size):=z7;refine vG z7 (by simp) λh8 z8 b8=>?_;have z8:IsZip h8 z TI TO (rawInt h5.objs.size):=z8;have up: ∀c o,c≠z->h5.get? c=some o->h8.get? c=some o:=λc o c1 e=>b8.extBut _ _ c1 (b7.extBut _ _ c1 (zJ _ e));have t8:IsPair h8 h5.objs.size x y:=b8.extBut _ _ (Nat.ne_of_gt zl) (b7.extBut _ _ (Nat.ne_of_gt zl) (yE _ rfl));rw[sz]at z8 t8;refine zZ #[-1,?_];show Q (.ref h5.objs.size) _;rw[sz];exact q h8 z8 (up _ _ D.TOz t5) (N1.keep p5 (λo e=>up _ o D.i1z e) (λo e=>up _ o D.a1z e)) (N2.keep r5 (λo e=>up _ o D.i2z e) (λo e=>up _ o D.a2z e)) t8 λc o c1 c2 c3 c4 e=>up c o c1 (k5 c o c1 c2 c3 c4 e)
theorem Va (hh:A.handled=none)(D:ZA z TI TO i1 i2 a1 a2)(N1:Nx prog w i1 a1 xs S1)(N2:Nx prog w i2 a2 ys S2)(hz:IsZip s.heap z TI TO .none)(hTI:IsPair s.heap TI (.ref i1) (.ref i2))(hTO:IsPair s.heap TO u v)
  (s1:S1 k s.heap) (s2:S2 k s.heap) (he:xs[k]? =none\/ys[k]? =none)
  (q: ∀h' e,K4 z TO i1 i2 s.heap h'->(∃o,h'.get? e=some o/\o.cls=.type "StopIteration")->E (.ref e) {s with heap:=h'}):wpAny (model prog w) A (Builtin.«zip.__next__» #[[.ref z],[]]) Q E s:=by
 show wpAny _ _ (field (.ref z) 2>>=_) _ _ _;refine zD (jC hz rfl (x:=.bool false) rfl ?_);show wpAny _ _ (field (.ref z) 3>>=_) _ _ _;refine zD (jC hz rfl (x:=.ref TI) rfl (zD (qK hTI rfl ?_)));show wpAny _ _ (Builtin.SmallTypes.ownedTupleIsFree (.ref z)>>=_) _ _ _;unfold Builtin.SmallTypes.ownedTupleIsFree;refine zD (zD (jC hz rfl (x:=.none) rfl (zZ ?_)));simp only[DU];refine zD (Es (zD (jC hz rfl (x:=.ref TO) rfl (zD (vG hz (by simp) λh1 z1 b1=>zD ?_)))));have z1:IsZip h1 z TI TO .ellipsis:=z1;simp only[List.zipIdx_cons,List.zipIdx_nil,DJ,List.forIn_nil];refine zD (zD (EU ?_));show wpAny _ _ (Builtin.SmallTypes.nextOf (.ref i1)>>=_) _ _ _;have p1:S1 k h1:=N1.keep s1 (λo e=>b1.extBut _ _ D.i1z e) (λo e=>b1.extBut _ _ D.a1z e);cases hx:xs[k]? with
 |none=>
  refine zD (N1.stop hh p1 hx λh2 e b2 m9=>?_);obtain⟨oe,hoe,hce⟩:=m9;have z2:IsZip h2 z TI TO .ellipsis:=b2 _ _ (Ne.symm D.i1z) z1;have ez:e≠z:=λx=>by subst x;rw[z2]at hoe;cases hoe;simp at hce
  exact vG z2 (by simp) λh3 _ b3=>q h3 e (λc o c1 _ c3 _ x=>b3.extBut _ _ c1 (b2 _ _ c3 (b1.extBut _ _ c1 x))) #[oe,b3.extBut _ _ ez hoe,hce]
 |some x=>
  have hy:ys[k]? =none:=he.resolve_left (by rw[hx];exact λz=>nomatch z);refine zD (N1.item p1 hx λh2 p2 b2=>zZ ?_);have t2:IsPair h2 TO u v:=b2.extBut _ _ D.TOi1 (b1.extBut _ _ D.TOz hTO);refine zD (qK t2 rfl (zD (Dn t2 λh3 t3 b3=>zD (wpAny_letGo (zZ ?_)))));refine zD (zD (EU ?_));show wpAny _ _ (Builtin.SmallTypes.nextOf (.ref i2)>>=_) _ _ _;have r3:S2 k h3:=N2.keep s2 (λo e=>b3.extBut _ _ (Ne.symm D.TOi2) (b2.extBut _ _ (Ne.symm D.i12) (b1.extBut _ _ D.i2z e))) (λo e=>b3.extBut _ _ D.a2TO (b2.extBut _ _ D.a2i1 (b1.extBut _ _ D.a2z e)));refine zD (N2.stop hh r3 hy λh4 e b4 m9=>?_);obtain⟨oe,hoe,hce⟩:=m9;have z4:IsZip h4 z TI TO .ellipsis:=b4 _ _ (Ne.symm D.i2z) (b3.extBut _ _ (Ne.symm D.TOz) (b2.extBut _ _ (Ne.symm D.i1z) z1));have ez:e≠z:=λx=>by subst x;rw[z4]at hoe;cases hoe;simp at hce
  exact vG z4 (by simp) λh5 _ b5=>q h5 e (λc o c1 c2 c3 c4 x=>b5.extBut _ _ c1 (b4 _ _ c4 (b3.extBut _ _ c2 (b2.extBut _ _ c3 (b1.extBut _ _ c1 x))))) #[oe,b5.extBut _ _ ez hoe,hce]
theorem Wq (D:ZA z TI TO i1 i2 a1 a2)(N1:Nx prog w i1 a1 xs S1)(N2:Nx prog w i2 a2 ys S2)(hz:IsZip s.heap z TI TO .none)(hTI:IsPair s.heap TI (.ref i1) (.ref i2))(hTO:IsPair s.heap TO u v)
  (s1:S1 k s.heap) (s2:S2 k s.heap) (hx:xs[k]? =some x) (hy:ys[k]? =some y)
  (q: ∀h',IsZip h' z TI TO (rawInt s.heap.objs.size)->IsPair h' TO x y->S1 (k+1) h'->S2 (k+1) h'->IsPair h' s.heap.objs.size x y->K4 z TO i1 i2 s.heap h'->Q (some (.ref s.heap.objs.size)) {s with heap:=h'}):
  wpAny (model prog w) A (pyNext (.ref z)) Q E s:=by
 have hT:s.TypeIs (.ref z) "zip":=#[_,hz,rfl];unfold pyNext;exact zD (Be (jG (name:=Str.ofString "__next__") hT DL (kF DL hT F.entry_zip_next
  (Vc D N1 N2 hz hTI hTO s1 s2 hx hy λh' e1 e2 e3 e4 e5 e6=>zZ (q h' e1 e2 e3 e4 e5 e6)) (F.args_zip_next_1 _))))
theorem YR (hh:A.handled=none)(D:ZA z TI TO i1 i2 a1 a2)(N1:Nx prog w i1 a1 xs S1)(N2:Nx prog w i2 a2 ys S2)(hz:IsZip s.heap z TI TO .none)(hTI:IsPair s.heap TI (.ref i1) (.ref i2))(hTO:IsPair s.heap TO u v)
  (s1:S1 k s.heap) (s2:S2 k s.heap) (he:xs[k]? =none\/ys[k]? =none) (q: ∀h',K4 z TO i1 i2 s.heap h'->Q none {s with heap:=h'}):wpAny (model prog w) A (pyNext (.ref z)) Q E s:=by
 have hT:s.TypeIs (.ref z) "zip":=#[_,hz,rfl];unfold pyNext;refine zD (Be (jG (name:=Str.ofString "__next__") hT DL (kF DL hT F.entry_zip_next
  (Va (A:=A.in1) hh D N1 N2 hz hTI hTO s1 s2 he λh' e hk ⟨o,ho,hc⟩=>?_) (F.args_zip_next_1 _))))
 refine zD (BZ (T:="StopIteration") (b:=true) #[o,ho,hc] isSubtype_stop ?_);exact zZ (q _ hk)
end
def Sf (b:i8)(K:a7)(H:Hp)(a:i4)(xs:a6 V):Prop:=if b=true then Ax K H a xs else kN K H a xs
def Iz (b:i8)(h:j4)(a:i4)(xs:j7 a9):Prop:=if b=true then h.IsTuple a xs else h.IsList a xs
def SI (b:i8)(h:j4)(it a:i4)(k:Nat):Prop:=if b=true then h.IsTupleIter it a k else h.IsListIter it a k
noncomputable def Qj (b:i8)(a:i4):j8:={cls:=.type (if b=true then "tuple_iterator" else "list_iterator"),data:=.fields (List.toArray [.ref a,.int 0 0])}
section
variable {prog:i7}{w:j3}{A:j5}{E:a9->i6->Prop}{s:i6}{b:i8}{it a:i4}{xs:j7 a9}{k:Nat}{h h':j4}
theorem Te (hl:Iz b s.heap a xs)(hQ:Q (.ref s.heap.objs.size) {s with heap:=s.heap.push (Qj b a)}):wpAny (model prog w) A (pyIter (.ref a)) Q E s:=by
 cases b with
 |true=>exact uY (show s.heap.IsTuple a xs from hl) hQ
 |false=>exact vZ (show s.heap.IsList a xs from hl) hQ
theorem Nx.sq (ne:a≠it):Nx prog w it a xs (λk h=>SI b h it a k/\Iz b h a xs):=by
 cases b with
 |true=>exact Nx.tuple ne
 |false=>exact Nx.list ne
theorem SI.keep (st:SI b h it a k)(k1: ∀o,h.get? it=some o->h'.get? it=some o):SI b h' it a k:=by
 cases b with
 |true=>obtain⟨o,e,r⟩:=(show h.IsTupleIter it a k from st);exact#[o,k1 o e,r]
 |false=>obtain⟨o,e,r⟩:=(show h.IsListIter it a k from st);exact#[o,k1 o e,r]
theorem SI.obj (st:SI b h it a k): ∃o,h.get? it=some o/\ ∀v,o.data≠ .cell v:=by
 cases b with
 |true=>obtain⟨o,e,_,r⟩:=(show h.IsTupleIter it a k from st);exact#[o,e,λv z=>by rw[r]at z;cases z]
 |false=>obtain⟨o,e,_,r⟩:=(show h.IsListIter it a k from st);exact#[o,e,λv z=>by rw[r]at z;cases z]
theorem SI.new (g:h.get? it=some (Qj b a)):SI b h it a 0:=by
 cases b with
 |true=>exact#[_,g,rfl,rfl]
 |false=>exact#[_,g,rfl,rfl]
theorem Iz.push (x:Iz b h a xs):Iz b (h.push o) a xs:=by
 cases b with
 |true=>obtain⟨q,e,r⟩:=(show h.IsTuple a xs from x);exact#[q,zJ _ e,r]
 |false=>obtain⟨q,e,r⟩:=(show h.IsList a xs from x);exact#[q,zJ _ e,r]
theorem Iz.lt (x:Iz b h a xs):a<h.objs.size:=by
 cases b with
 |true=>obtain⟨q,e,r⟩:=(show h.IsTuple a xs from x);exact yI e
 |false=>obtain⟨q,e,r⟩:=(show h.IsList a xs from x);exact yI e
end
section
variable {X:Cx}{j9:a6 (i4×j8)}{U:St}{H:Hp}{s:i6}{b:i8}{a:i4}{xs ys:a6 V}
theorem xZ.sq (I:xZ X j9 U H s)(h:Sf b X.K H a xs): ∃its:a6 a9,kE xs its/\Iz b s.heap a its.toArray/\xs.length<=sizeLine:=by
 cases b with
 |true=>
  obtain⟨its,r,p,z⟩:=I.tuple (show Ax X.K H a xs from h);exact#[its,r,p,z]
 |false=>
  obtain⟨its,r,p,z⟩:=I.list (show kN X.K H a xs from h);exact#[its,r,p.isList,z]
theorem xZ.sq_inj (I:xZ X j9 U H s)(h:Sf b X.K H a xs)(h':Sf b X.K H a ys):xs=ys:=by
 cases b with
 |true=>exact I.tuple_inj h h'
 |false=>exact I.list_inj h h'
theorem xZ.turnedL {h':j4}{t':Nat}{L:a6 i4}(I:xZ X j9 U H s)(k: ∀b o,b∉L->s.heap.get? b=some o->h'.get? b=some o)(f: ∀b∈L,HI X j9 H b):xZ X j9 U H {s with heap:=h',toks:=t'}:=by
 have ne: ∀b u,H b=some u->b∉L:=λb u q z=>by
  have:=(f b z).1;rw[this]at q;cases q
 have nl:X.env.locals∉L:=λz=>(f _ z).2.1 rfl;refine I.step (g':=s.gens) (d':=s.drawn) (ch:=L) (λb hb=>#[(f b hb).2.2.2.1,(f b hb).2.1,(f b hb).2.2.2.2.1,(f b hb).2.2.2.2.2]) (λb o _ _ hc q _=>k b o hc q) (λb o _ _ hc q _=>#[o.slots,k b o hc q]) (λ_ _ _ _ n=>n)
  (λb o hc q=>#[o,k b o hc q]) (λ_ _ q=>q) (λ_ _ _ q=>q) (λb ps q=>#[#[],by rw[q];simp]) (λm hm=>?_) (λb u q=>?_) I.bare
 ·obtain⟨o,es,ep,ho,r⟩:=hm;exact#[o,es,ep,k _ o nl ho,r]
 ·refine(I.hok b u q).stay (λc v hc x=>k c v ?_ x) (λ_ x=>x) λ_ _ x=>x
  rcases hc with z|z
  ·rw[z];exact ne b u q
  ·exact ne c _ z
end
noncomputable def Itz (K : a7) (b1 b2 : i8) (a1 a2 : i4) : It :=
  #[λi H => ∃ xs ys x y, Sf b1 K H a1 xs /\ Sf b2 K H a2 ys /\ xs[i]? = some x /\ ys[i]? = some y, λi H v H' => ∃ t x y, v = .ref t /\ H t = none /\ H' = upd H t (.tup [x, y]) /\ ∀ xs ys, Sf b1 K H a1 xs -> Sf b2 K H a2 ys -> xs[i]? = some x /\ ys[i]? = some y,
   λi H => ∃ xs ys, Sf b1 K H a1 xs /\ Sf b2 K H a2 ys /\ (xs.length <= i \/ ys.length <= i)]
def ZSt (b1 b2:i8)(z TI TO i1 i2 a1 a2:i4)(i:Nat)(h:j4):Prop:=IsZip h z TI TO .none/\IsPair h TI (.ref i1) (.ref i2)/\(∃u v,IsPair h TO u v)/\SI b1 h i1 a1 i/\SI b2 h i2 a2 i
theorem Vg {P:i7}{w:j3}{K:a7}{elts:a6 j6}{x1:Nat}{pos:Pos}{b1 b2:i8}{z TI TO i1 i2 a1 a2:i4}(D:ZA z TI TO i1 i2 a1 a2):
  Mm P w K (.Tuple elts x1 pos) (Itz K b1 b2 a1 a2) [z,TI,TO,i1,i2] z (ZSt b1 b2 z TI TO i1 i2 a1 a2) where
 mem:=by simp
 obj:=λi h st b hb=>by
  obtain⟨hz,hTI,⟨u,v,hTO⟩,s1,s2⟩:=st
  rcases List.mem_cons.mp hb with e|hb
  ·rw[e];exact#[_,hz,λv z=>by cases z]
  rcases List.mem_cons.mp hb with e|hb
  ·rw[e];exact#[_,hTI,λv z=>by cases z]
  rcases List.mem_cons.mp hb with e|hb
  ·rw[e];exact#[_,hTO,λv z=>by cases z]
  rcases List.mem_cons.mp hb with e|hb
  ·rw[e];exact s1.obj
  ·rw[List.mem_singleton.mp hb];exact s2.obj
 keep:=λi h h' st k=>by
  obtain⟨hz,hTI,⟨u,v,hTO⟩,s1,s2⟩:=st;exact#[k z (by simp) _ hz,k TI (by simp) _ hTI,#[u,v,k TO (by simp) _ hTO],s1.keep λo e=>k i1 (by simp) o e,s2.keep λo e=>k i2 (by simp) o e]
 item:=by
  intro X hP hw hK hc i j9 s U H E I hf st hg;subst hP hw hK;obtain⟨xs,ys,x,y,q1,q2,hx,hy⟩:=hg;obtain⟨hz,hTI,⟨u,v,hTO⟩,s1,s2⟩:=st;obtain⟨its1,r1,p1,z1⟩:=I.sq q1;obtain⟨its2,r2,p2,z2⟩:=I.sq q2;obtain⟨u1,hu1,ru1⟩:=r1.get hx;obtain⟨u2,hu2,ru2⟩:=r2.get hy;refine Wq D (Nx.sq (b:=b1) (xs:=its1.toArray) D.a1i1) (Nx.sq (b:=b2) (xs:=its2.toArray) D.a2i2) hz hTI hTO #[s1,p1] #[s2,p2] (x:=u1) (y:=u2) (by simpa using hu1) (by simpa using hu2) λh' z' t' n1 n2 tp k4=>?_;refine#[.ref s.heap.objs.size,rfl,wpAny_letOwnedTupleGo_zip z' λh'' z'' sb=>?_];have fresh:=I.hok.fresh (zO s.heap.objs.size);have I1:=I.laid (a:=s.heap.objs.size) (o:=.tup [x,y]) (h':=s.heap.push {cls:=.type "tuple",data:=.seq (List.toArray [u1,u2])}) (t':=s.toks) (λb o q=>zJ _ q) (zO _)
   #[sm2,[u1,u2],.cons ru1 (.cons ru2 .nil),IsTup.new _ _]
  have lt: ∀b∈[z,TI,TO,i1,i2],b<s.heap.objs.size:=λb hb=>by
   rcases List.mem_cons.mp hb with e|hb
   ·rw[e];exact yI hz
   rcases List.mem_cons.mp hb with e|hb
   ·rw[e];exact yI hTI
   rcases List.mem_cons.mp hb with e|hb
   ·rw[e];exact yI hTO
   rcases List.mem_cons.mp hb with e|hb
   ·rw[e];obtain⟨o,e,_⟩:=s1.obj;exact yI e
   ·rw[List.mem_singleton.mp hb];obtain⟨o,e,_⟩:=s2.obj;exact yI e
  have f': ∀b∈[z,TI,TO,i1,i2],HI X j9 (upd H s.heap.objs.size (.tup [x,y])) b:=λb hb=>#[by rw[yJ (xQ (lt b hb))];exact(hf b hb).1,(hf b hb).2];have I2:=I1.turnedL (h':=h'') (t':=s.toks) (L:=[z,TI,TO,i1,i2]) (λb o hb q=>?_) f'
  ·refine#[.ref s.heap.objs.size,_,I2,rfl,#[s.heap.objs.size,x,y,rfl,fresh,rfl,λxs' ys' e1 e2=>?_],#[z'',sb.extBut _ _ D.TIz (k4 _ _ D.TIz D.TITO D.TIi1 D.TIi2 hTI),#[_,_,sb.extBut _ _ D.TOz t'],n1.1.keep λo e=>sb.extBut _ _ D.i1z e,n2.1.keep λo e=>sb.extBut _ _ D.i2z e],λb hb=>(f' b hb).1];rw[I.sq_inj e1 q1,I.sq_inj e2 q2];exact#[hx,hy]
  ·have nz:b≠z:=λe=>hb (by simp[e]);refine sb.extBut _ _ nz ?_
   by_cases e:b=s.heap.objs.size
   ·subst e;rw[tp,<-q];exact(yE _ rfl).symm
   ·rcases Ds q with⟨c,_⟩|c
    ·exact absurd c e
    ·exact k4 b o nz (λe=>hb (by simp[e])) (λe=>hb (by simp[e])) (λe=>hb (by simp[e])) c
 done:=by
  intro X hP hw hK hc i j9 s U H E I hf st hg;subst hP hw hK;obtain⟨xs,ys,q1,q2,he⟩:=hg;obtain⟨hz,hTI,⟨u,v,hTO⟩,s1,s2⟩:=st;obtain⟨its1,r1,p1,z1⟩:=I.sq q1;obtain⟨its2,r2,p2,z2⟩:=I.sq q2;have l1:=r1.length;have l2:=r2.length;refine YR (I.ok.hd hc) D (Nx.sq (b:=b1) (xs:=its1.toArray) D.a1i1) (Nx.sq (b:=b2) (xs:=its2.toArray) D.a2i2) hz hTI hTO #[s1,p1] #[s2,p2] (he.imp (λh=>by simp;lia) (λh=>by simp;lia)) λh' k4=>#[rfl,I.turnedL (t':=s.toks) (L:=[z,TI,TO,i1,i2]) (λb o hb q=>?_) hf];exact k4 b o (λe=>hb (by simp[e])) (λe=>hb (by simp[e])) (λe=>hb (by simp[e])) (λe=>hb (by simp[e])) q
 self:=λ_ _ _ _ _ st h=>wpAny_pyIter_zip st.1 h
theorem zCb {n a1 a2:Nat}(m1:a1<n)(m2:a2<n):ZA (n+4) (n+2) (n+3) n (n+1) a1 a2:=by
 constructor<;>(show _≠(_:Nat);lia)
noncomputable abbrev zq1 (h:j4)(b1:i8)(a1:i4):j4:=h.push (Qj b1 a1)
noncomputable abbrev zq2 (h:j4)(b1 b2:i8)(a1 a2:i4):j4:=(zq1 h b1 a1).push (Qj b2 a2)
noncomputable abbrev zq3 (h:j4)(b1 b2:i8)(a1 a2:i4):j4:=(zq2 h b1 b2 a1 a2).push {cls:=.type "tuple",data:=.seq (List.toArray [.ref h.objs.size,.ref (zq1 h b1 a1).objs.size])}
noncomputable abbrev zq4 (h:j4)(b1 b2:i8)(a1 a2:i4):j4:=(zq3 h b1 b2 a1 a2).push {cls:=.type "tuple",data:=.seq (List.toArray [.none,.none])}
noncomputable abbrev ZI (h:j4)(b1 b2:i8)(a1 a2:i4):j4:=(zq4 h b1 b2 a1 a2).push {cls:=.type "zip",data:=.fields (List.toArray [.none,.bool false,.bool false,.ref (zq2 h b1 b2 a1 a2).objs.size,.ref (zq3 h b1 b2 a1 a2).objs.size])}
theorem RJ (b1 b2:i8)(a1 a2:i4)(xs ys:j7 a9):Meets (Builtin.«zip.__new__» #[[.type "zip",.ref a1,.ref a2],[]]) (λ_ R s=>Iz b1 s.heap a1 xs/\Iz b2 s.heap a2 ys/\
  R (.ok (.ret (.ref (zq4 s.heap b1 b2 a1 a2).objs.size))) {s with heap:=ZI s.heap b1 b2 a1 a2}):=
 .of_wp λprog w A R s h=>by
  obtain⟨hp,g,d,tk,os⟩:=s;obtain⟨l1,l2,h⟩:=h;have hsub:=sub_zip;have L1:Iz b1 (Shared.heap #[hp,g,d,tk,os]) a1 xs:=l1;have L2:Iz b2 (Shared.heap #[hp.push (Qj b1 a1),g,d,tk,os]) a2 ys:=Iz.push l2
  wp_walk using Te L1,Te L2
  exact#[-1,h]
section
variable {prog:i7}{w:j3}{A:j5}{E:a9->i6->Prop}{s:i6}{b1 b2:i8}{a1 a2:i4}{xs ys:j7 a9}
theorem UK (l1:Iz b1 s.heap a1 xs)(l2:Iz b2 s.heap a2 ys)
  (q: ∀h' z TI TO i1 i2,ZA z TI TO i1 i2 a1 a2->ZSt b1 b2 z TI TO i1 i2 a1 a2 0 h'->(∀c∈[z,TI,TO,i1,i2],s.heap.objs.size<=c)->(∀c o,s.heap.get? c=some o->h'.get? c=some o)->Q (.ref z) {s with heap:=h'}):
  wpAny (model prog w) A (call (.type "zip") [.ref a1,.ref a2]) Q E s:=by
 refine callType_new F.called_zip (by decide) (F.typeCall_zip_2 _ _) (F.newCall_zip_2 _ _) (λobj=>F.args_object_init_3 obj _ _) F.entry_zip_new (RJ b1 b2 a1 a2 xs ys) #[l1,l2,?_];have z1:(zq1 s.heap b1 a1).objs.size =s.heap.objs.size+1:=vJ ..;have z2:(zq2 s.heap b1 b2 a1 a2).objs.size =s.heap.objs.size+2:=by rw[vJ,z1]
 have z3:(zq3 s.heap b1 b2 a1 a2).objs.size =s.heap.objs.size+3:=by rw[vJ,z2]
 have z4:(zq4 s.heap b1 b2 a1 a2).objs.size =s.heap.objs.size+4:=by rw[vJ,z3]
 have g5:(ZI s.heap b1 b2 a1 a2).get? (zq4 s.heap b1 b2 a1 a2).objs.size =some _:=yE _ rfl;have g4:(ZI s.heap b1 b2 a1 a2).get? (zq3 s.heap b1 b2 a1 a2).objs.size =some _:=zJ _ (yE _ rfl);have g3:(ZI s.heap b1 b2 a1 a2).get? (zq2 s.heap b1 b2 a1 a2).objs.size =some _:=zJ _ (zJ _ (yE _ rfl));have g2:(ZI s.heap b1 b2 a1 a2).get? (zq1 s.heap b1 a1).objs.size =some _:=zJ _ (zJ _ (zJ _ (yE _ (by cases b2<;>rfl))));have g1:(ZI s.heap b1 b2 a1 a2).get? s.heap.objs.size=some _:=zJ _ (zJ _ (zJ _ (zJ _ (yE _ (by cases b1<;>rfl)))));have m1:=l1.lt;have m2:=l2.lt;have up: ∀c o,s.heap.get? c=some o->(ZI s.heap b1 b2 a1 a2).get? c=some o:=λc o x=>zJ _ (zJ _ (zJ _ (zJ _ (zJ _ x))));rw[z2,z3,z4]at g5;rw[z1,z2]at g3;rw[z3]at g4;rw[z1]at g2;show _/\_;rw[z4];refine#[#[_,g5,rfl],q _ (s.heap.objs.size+4) (s.heap.objs.size+2) (s.heap.objs.size+3) s.heap.objs.size (s.heap.objs.size+1) ?_ #[g5,g3,#[_,_,g4],SI.new g1,SI.new g2] (λc hc=>?_) up]
 ·exact zCb m1 m2
 ·simp at hc
  rcases hc with e|e|e|e|e<;>(rw[e];lia)
end
theorem zBh:bootBuiltins "zip"=some (.type "zip"):=by decide+kernel
inductive Zt (K:a7) (b1 b2:i8) (vs:List V) (H1:Hp) (R:It->Hp->Prop):Prop
 |mk (a1 a2 xs ys:_) (h0:vs=[.ref a1,.ref a2]) (h1:Sf b1 K H1 a1 xs) (h2:Sf b2 K H1 a2 ys) (h3:R (Itz K b1 b2 a1 a2) H1):Zt K b1 b2 vs H1 R
def zHj (K:a7)(b1 b2:i8)(ta:TA):TI:=λU H R=>ta U H λvs H1=>Zt K b1 b2 vs H1 R
section
variable {X:Cx}
theorem VP (b1 b2:i8)(hg:Gl X "zip")(hm:X.mg "zip"=none)(ha:PA X [l,m] ta)(hs:autoParam (starEach [l,m] X.env=(false,eval l X.env)::starEach [m] X.env) L2.aE._auto_1)(hpl:autoParam ((backTo pos (starEach [m] X.env)).any (·.1)=false) L2.aE._auto_1):
  PI X (.Tuple elts x1 tpos) (.Call (.Name "zip" p) [l,m] [] pos) (zHj X.K b1 b2 ta):=by
 refine#[?_];intro j9 s U H R I h;refine Call_ (EO I hg hm zBh (jH (wK (ha pos j9 s U H _ I h) λus s1 ⟨vs,H1,I1,r1,q1⟩=>?_) hs hpl));obtain⟨a1,a2,xs,ys,e,k1,k2,q⟩:=q1;subst e;obtain⟨u1,u2,rfl,ru1,ru2⟩:=ML r1;cases ru1;cases ru2;obtain⟨i1,r1,p1,z1⟩:=I1.sq k1;obtain⟨i2,r2,p2,z2⟩:=I1.sq k2;refine UK p1 p2 λh' z TI TO j1 j2 D st lt hk=>?_;refine wpAny_pyIter_zip (s:={s1 with heap:=h'}) st.1 ?_;exact#[z,[z,TI,TO,j1,j2],_,_,H1,rfl,I1.kept (t':=s1.toks) hk,Vg D,st,λb hb=>I1.fpOk (lt b hb) (I1.hok.fresh (lt b hb)),q]
theorem Xn {K:a7}{b1 b2:i8}{a1 a2 p:i4}{xs ys:a6 V}{g:TG}{tt:TT}{te:TE}{R:Hp->Prop}{U0:St}{H0:Hp}(Pv:Nat->St->Hp->Prop)(h0:Pv 0 U0 H0)(hle:xs.length=ys.length)(hl: ∀i U H,i<=xs.length->Pv i U H->Sf b1 K H a1 xs/\Sf b2 K H a2 ys)
  (hs: ∀i x y U H t,i<xs.length->xs[i]? =some x->ys[i]? =some y->Pv i U H->H t=none->g (.ref t) U (upd H t (.tup [x,y])) λU3 H3=>tt U3 H3 λb H4=>
   if b=true then te U3 H4 λv H5=> ∃us,H5 p=some (.lst us)/\us.length<sizeLine/\ ∃m',m'<xs.length-i/\CW xs.length Pv (i+1) m' U3 (upd H5 p (.lst (us++[v])))
   else ∃m',m'<xs.length-i/\CW xs.length Pv (i+1) m' U3 H4)
  (hd: ∀U H,Pv xs.length U H->R H):IC (Itz K b1 b2 a1 a2) p U0 H0 g tt te R:=by
 refine#[CW xs.length Pv,#[_,xE _,rfl,h0],λi m U' H' w=>?_];obtain⟨hi,rfl,hp⟩:=w;obtain⟨q1,q2⟩:=hl i U' H' hi hp
 by_cases o5:i<xs.length
 ·refine .inr #[#[xs,ys,xs[i],ys[i],q1,q2,zF o5,zF ()],λv H2 yd=>?_];obtain⟨t,x,y,rfl,ht,rfl,hx⟩:=yd;obtain⟨e1,e2⟩:=hx xs ys q1 q2;exact hs i x y U' H' t o5 e1 e2 hp ht
 ·have e:i=xs.length:=()
  subst e;exact .inl #[#[xs,ys,q1,q2,.inl (zO _)],hd U' H' hp]
end
end L2
namespace L2
open PySem
theorem Xb {K:a7}{b1 b2:i8}{a1 a2:i4}{xs ys:a6 V}{g:TG}{tb:TS}{D:Fp}{U:St}{H:Hp}(Pv:Nat->St->Hp->Prop)(h0:Pv 0 U H)(hle:ys.length<=xs.length)(hl: ∀i U H,i<=ys.length->Pv i U H->Sf b1 K H a1 xs/\Sf b2 K H a2 ys)
  (hs: ∀i x y U H t,xs[i]? =some x->ys[i]? =some y->Pv i U H->H t=none->g (.ref t) U (upd H t (.tup [x,y])) λU2 H2=>tb {D with nx:=Pv (i+1),ct:=Pv (i+1),bk:=D.nx} U2 H2) (hd: ∀U H,Pv ys.length U H->D.nx U H):
  ∃W:Nat->Nat->St->Hp->Prop,(∃m,W 0 m U H)/\ ∀i m U H,W i m U H->
   ((Itz K b1 b2 a1 a2).stop i H/\D.nx U H)\/((Itz K b1 b2 a1 a2).go i H/\ ∃N:St->Hp->Prop,(∀U' H',N U' H'-> ∃m',m'<m/\W (i+1) m' U' H')/\ ∀x H',(Itz K b1 b2 a1 a2).yld i H x H'->g x U H' λU2 H2=>tb {D with nx:=N,ct:=N,bk:=D.nx} U2 H2):=by
 refine#[λi m U H=>m=ys.length-i/\i<=ys.length/\Pv i U H,#[ys.length,by simp,xE _,h0],?_];rintro i m U H ⟨rfl,hi,p⟩;obtain⟨q1,q2⟩:=hl i U H hi p
 by_cases o5:i<ys.length
 ·refine .inr #[#[xs,ys,xs[i],ys[i],q1,q2,zF (),zF o5],Pv (i+1),λU' H' p'=>#[ys.length-(i+1),(),rfl,o5,p'],λv H' yd=>?_];obtain⟨t,x,y,rfl,ht,rfl,hx⟩:=yd;obtain⟨e1,e2⟩:=hx xs ys q1 q2;exact hs i x y U H t e1 e2 p ht
 ·have e:i=ys.length:=()
  subst e;exact .inl #[#[xs,ys,q1,q2,.inr (zO _)],hd U H p]
end L2
namespace L2
open PySem PySem.Spec PyProof.Rows
noncomputable def Itw (K:a7)(a:i4)(n:Nat):It:=
 #[λi H=> ∃xs x,kN K H a xs/\xs.length=n/\xs.reverse[i]? =some x,λi H x H'=>H'=H/\ ∀xs,kN K H a xs->xs.reverse[i]? =some x,λi H=>(∃xs,kN K H a xs/\xs.length=n)/\n<=i]
theorem TC {P:i7}{w:j3}{K:a7}{tg:j6}(a it:i4)(n:Nat):Mm P w K tg (Itw K a n) [it] it (λi h=>i<=n/\Heap.IsRevIter h it a ((n:Int)-1-(i:Int))) where
 mem:=by simp
 obj:=λi h st b hb=>by
  have e:b=it:=by simpa using hb
  subst e;obtain⟨_,o,e,c,d⟩:=st;exact#[o,e,λv z=>by rw[d]at z;cases z]
 keep:=λi h h' st k=>#[st.1,st.2.at λo e=>k it (by simp) o e]
 item:=by
  intro X hP hw hK hc i j9 s U H E I hf st hg;subst hP hw hK;obtain⟨xs,x,hq,hn,hx⟩:=hg;obtain⟨its,rv,p,hz⟩:=I.list hq;have hi:i<xs.length:=by
   have:=(List.getElem?_eq_some_iff.mp hx).1
   simpa using this
  have hx':xs[n-1-i]? =some x:=by
   rw[List.getElem?_reverse hi,hn]at hx;exact hx
  obtain⟨u,hu,ru⟩:=rv.get hx';obtain⟨f0,f1,f2,f3,f4,f5⟩:=hf it (by simp);have e1:(n:Int)-1-(i:Int)=((n-1-i:Nat):Int):=()
  have hl:=rv.length;have h63:=FY;refine wpAny_pyNext_rev_item (i:=n-1-i) (by rw[<-e1];exact st.2) (show s.heap.IsList a its.toArray from p.isList) (x:=u) (by simpa using hu) λh' st' sb=>?_;have I1:xZ X j9 U H {s with heap:=h'}:=I.turned (t':=s.toks) (λb o hb e=>(sb.2 b hb).trans e) f0 f1 f3 f4 f5;obtain⟨o,e,c,d⟩:=id st';have e2:((n-1-i:Nat):Int)-1=(n:Int)-1-((i+1:Nat):Int):=()
  rw[e2]at st';exact#[u,rfl,Nl (s:={s with heap:=h'}) e c d (by decide) #[x,H,I1,ru,#[rfl,λys hy=>by rw[I.list_inj hy hq];exact hx],#[(),st'],λb hb=>(hf b hb).1]]
 done:=by
  intro X hP hw hK hc i j9 s U H E I hf st hg;subst hP hw hK;obtain⟨f0,f1,f2,f3,f4,f5⟩:=hf it (by simp);have hi:i=n:=by have:=st.1;have:=hg.2;lia
  have e1:(n:Int)-1-(i:Int)= -1:=()
  have st2:=st.2;rw[e1]at st2;exact wpAny_pyNext_rev_end (I.ok.hd hc) st2 λh' eb=>#[rfl,I.turned (t':=s.toks) (λb o hb e=>eb b o hb e) f0 f1 f3 f4 f5]
 self:=λ_ _ _ _ _ st h=>wpAny_pyIter_revIter st.2 h
inductive WP (K:a7) (vs:List V) (H1:Hp) (R:It->Hp->Prop):Prop
 |mk (a xs:_) (h0:vs=[.ref a]) (h1:kN K H1 a xs) (h2:R (Itw K a xs.length) H1):WP K vs H1 R
def zDk (K:a7)(ta:TA):TI:=λU H R=>ta U H λvs H1=>WP K vs H1 R
theorem Yg {X:Cx}{tg a:j6}{ta:TA}{p pos:Pos}(hg:Gl X "reversed")(hm:X.mg "reversed"=none)(ha:PA X [a] ta)(hs:autoParam (starEach [a] X.env=[(false,eval a X.env)]) L2.aE._auto_1):PI X tg (.Call (.Name "reversed" p) [a] [] pos) (zDk X.K ta):=by
 refine#[?_];intro j9 s U H R I h;refine Call_ (EO I hg hm Kv (jH (wK (ha pos j9 s U H _ I h) λus s1 ⟨vs,H1,I1,r1,q1⟩=>?_) hs rfl));obtain⟨b,xs,e,hq,q⟩:=q1;subst e;cases r1 with
 |cons r rr=>
  cases rr;cases r;obtain⟨its,rv,pl,hz⟩:=I1.list hq;have hl:=rv.length;have h63:=FY;refine call_reversed_list (show s1.heap.IsList b its.toArray from pl.isList) ?_;have I2:xZ X j9 U H1 {s1 with heap:=s1.heap.push (revObj b (((its.toArray).size:Int)-1))}:=I1.kept λb o e=>zJ _ e;have st:Heap.IsRevIter (s1.heap.push (revObj b (((its.toArray).size:Int)-1))) s1.heap.objs.size b ((xs.length:Int)-1-((0:Nat):Int)):=#[_,yE _ rfl,rfl,by rw[yL,hl];simp[revObj]];refine wpAny_pyIter_revIter (s:={s1 with heap:=s1.heap.push (revObj b (((its.toArray).size:Int)-1))}) st ?_;refine#[s1.heap.objs.size,[s1.heap.objs.size],_,_,H1,rfl,I2,TC b _ xs.length,#[xE _,st],λc hc=>?_,q];have e:c=s1.heap.objs.size:=by simpa using hc
  subst e;exact I1.fpOk (zO _) (I1.hok.fresh (zO _))
theorem Xd {K:a7}{a:i4}{xs:a6 V}{g:TG}{tb:TS}{D:Fp}{U:St}{H:Hp}(Pv:Nat->St->Hp->Prop)(h0:Pv 0 U H)(hl: ∀i U H,i<=xs.length->Pv i U H->kN K H a xs)
  (hs: ∀i x U H,xs.reverse[i]? =some x->Pv i U H->g x U H λU2 H2=>tb {D with nx:=Pv (i+1),ct:=Pv (i+1),bk:=D.nx} U2 H2) (hd: ∀U H,Pv xs.length U H->D.nx U H):
  ∃W:Nat->Nat->St->Hp->Prop,(∃m,W 0 m U H)/\ ∀i m U H,W i m U H->
   ((Itw K a xs.length).stop i H/\D.nx U H)\/((Itw K a xs.length).go i H/\ ∃N:St->Hp->Prop,(∀U' H',N U' H'-> ∃m',m'<m/\W (i+1) m' U' H')/\ ∀x H',(Itw K a xs.length).yld i H x H'->g x U H' λU2 H2=>tb {D with nx:=N,ct:=N,bk:=D.nx} U2 H2):=by
 refine#[λi m U H=>m=xs.length-i/\i<=xs.length/\Pv i U H,#[xs.length,by simp,xE _,h0],?_];rintro i m U H ⟨rfl,hi,p⟩;have q:=hl i U H hi p
 by_cases o5:i<xs.length
 ·refine .inr #[#[xs,xs.reverse[i]'(by simpa using o5),q,rfl,by simp[o5]],Pv (i+1),λU' H' p'=>#[xs.length-(i+1),(),rfl,o5,p'],λx H' y=>?_];obtain⟨e,y⟩:=y;subst e;exact hs i x U _ (y xs q) p
 ·have e:i=xs.length:=()
  subst e;exact .inl #[#[#[xs,q,rfl],zO _],hd U H p]
theorem LO:typeLookup (.type "list") "keys"=pure none:=am_miss_of_fast (by decide+kernel)
section
variable {prog:i7}{w:j3}{A:j5}{E:a9->i6->Prop}{s:i6}{a:i4}
theorem Ux (hA:A.handled=none)(hx:s.heap.get? a=some {cls:=.type "list",dict:=none,data:=.seq xs k,slots:=sl})
  (h: ∀h' tk e,Heap.NewExcOf s.heap h' e "AttributeError"->Q none {s with heap:=h',toks:=tk}):wpAny (model prog w) A (getAttr? (.ref a) "keys") Q E s:=by
 obtain⟨hp,g,d,tk,os⟩:=s;have hT: ∀tk',(#[hp,g,d,tk',os]:i6).TypeIs (.ref a) "list":=λ_=>#[_,hx,rfl];have f1:=sub_AttributeError;have f3:=F.slot_list_getattribute.lookup;have f4:=F.slot_list_getattribute.bind (.ref a);have f5:=am_list_getattr_none;unfold getAttr? getAttrBy? getAttrBy
 repeat (any_goals (first|assumption|exact hT _|((with_reducible show wpAny _ _ (call (Value.builtin "list.__getattribute__") _ _) _ _ _);refine call_meets F.slot_list_getattribute (hT _) am_entry_list_getattribute (F.args_list_getattribute_2 _ _) (meets_getattribute_miss_list a xs k sl "keys" _ LO (by decide+kernel) (by decide+kernel)) #[hx,hA,λh' tk' e hx'=>?_])|wp_step))
 obtain⟨t',u',he⟩:=hx'.there;show wpAny _ _ (getattributeRaised _ _ _ _ _ _ _) _ _ _;unfold getattributeRaised
 repeat (any_goals (first|assumption|wp_step))
 exact h _ _ _ hx'.of
end
theorem QO {K:Type}[DecidableEq K](vs:a6 (K×a9))(k:K)(v:a9):(stored vs k v).length<=vs.length+1:=by
 unfold stored;split
 ·rw[zG];exact AH _
 ·rw[zE];exact zO _
structure PNx (prog:i7)(w:j3)(d it:i4)(fp:List i4)(ps:List (a9×a9))(St:Nat->j4->Prop):Prop where
 item: ∀{A:j5} {E:a9->i6->Prop} {i:Nat} {s:i6} {k v:a9} {Q:Option a9->i6->Prop},St i s.heap->ps[i]? =some (k,v)->(∀h' t,St (i+1) h'->h'.IsTuple t (List.toArray [k,v])->(∀c o,c∉fp->s.heap.get? c=some o->h'.get? c=some o)->Q (some (.ref t)) {s with heap:=h'})->
  wpAny (model prog w) A (pyNext (.ref it)) Q E s
 stop: ∀{A:j5} {E:a9->i6->Prop} {s:i6} {Q:Option a9->i6->Prop},A.handled=none->St ps.length s.heap->(∀h',(∀c o,c∉fp->s.heap.get? c=some o->h'.get? c=some o)->Q none {s with heap:=h'})->wpAny (model prog w) A (pyNext (.ref it)) Q E s
 keep: ∀{i:Nat} {h h':j4},St i h->(∀c o,c≠d->h.get? c=some o->h'.get? c=some o)->(∃o,h'.get? d=some o)->St i h'
 out:d∉fp
theorem BI:entryFor table "dict.update.loop"=some Builtin.«dict.update.loop»:=entryFor_of_tree (by kernel_rfl)
theorem vA:plainId "dict.update.loop"=true:=by decide+kernel
section
variable {prog:i7}{w:j3}{K:Type}[DecidableEq K]{knd:KeyKind prog w K}{A:j5}{d it:i4}{fp:a6 i4}{St:Nat->j4->Prop}
theorem UE {ps:a6 (a9×a9)}(N:PNx prog w d it fp ps St)(hh:A.in1.handled=none){ks:a6 K}(hl:ks.length=ps.length)(hk: ∀(i:Nat) (k:K) (p:a9×a9),ks[i]? =some k->ps[i]? =some p->knd.is k p.1=true){R:Result->i6->Prop}:
  ∀(m i:Nat) (s:i6) (vs:a6 (K×a9)),ps.length-i=m->i<=ps.length->St i s.heap->s.heap.DictOf knd d vs->vs.length+m<=sizeLine->
  (∀(h':j4) (t':Nat),h'.DictOf knd d (((ks.zip (ps.map (·.2))).drop i).foldl (λacc x=>stored acc x.1 x.2) vs)->(∀c o,c≠d->c∉fp->s.heap.get? c=some o->h'.get? c=some o)->R (.ok (.ret .none)) {s with heap:=h',toks:=t'})->
  codeAny (model prog w) A (.builtin "dict.update.loop" #[[.ref d,.ref it,rawInt i,.none],[]]) R s:=by
 intro m
 induction m with
 |zero=>
  intro i s vs hm hi st hd hz hR;have e:i=ps.length:=()
  subst e;refine codeAny_builtin BI ?_;rw[Du vA _];show wpAny _ A.in1 (pyNext (.ref it)>>=_) _ _ s;refine zD (N.stop hh st λh' hk'=>?_);show wpAny _ A.in1 (Builtin.Dict.addKeywords d []>>=_) _ _ _;refine zD (zZ (zZ ?_));refine hR h' s.toks ?_ λc o _ c2 e=>hk' c o c2 e;rw[kL (by rw[kD,zG];lia)];obtain⟨o,es,ep,ho,r⟩:=hd;exact#[o,es,ep,hk' d o N.out ho,r]
 |succ m ih=>
  intro i s vs hm hi st hd hz hR;have hi2:i<ps.length:=()
  rcases hp:ps[i]with⟨k,v⟩
  have ep:ps[i]? =some (k,v):=by rw[zF hi2,hp]
  have ek:ks[i]? =some ks[i]:=zF ();have hkk:=hk i _ _ ek ep;have ed:(ks.zip (ps.map (·.2))).drop i=(ks[i],v)::(ks.zip (ps.map (·.2))).drop (i+1):=by
   have lz:i<(ks.zip (ps.map (·.2))).length:=by rw[kD,zG];lia
   rw[yS lz];congr 1;rw[List.getElem_zip,List.getElem_map,hp]
  rw[ed,DK]at hR;refine codeAny_builtin BI ?_;rw[Du vA _];show wpAny _ A.in1 (pyNext (.ref it)>>=_) _ _ s;refine zD (N.item st ep λh1 t st1 ht hk1=>?_);have hd1:h1.DictOf knd d vs:=by
   obtain⟨o,es,ep,ho,r⟩:=hd;exact#[o,es,ep,hk1 d o N.out ho,r]
  obtain⟨ot,hot,hct,nt,hdt⟩:=ht;have hT:({s with heap:=h1}:i6).TypeIs (.ref t) "tuple":=#[_,hot,hct];show wpAny _ A.in1 (holding [.ref t] _>>=_) _ _ _;refine zD (kY (zD (wpAny_tryCatch ?_)));unfold Builtin.Dict.pairItems;refine zD (wpAny_typeOf hT ?_);rw[zQ (by decide)];refine zD (qK hot hdt (zZ ?_));show wpAny _ _ (holding [k,v] (dictSet d k v)) _ _ _;refine kY (wpAny_dictSet_pairs (hsz:=()) hkk hd1 λh2 hd2 sb=>?_);refine zZ #[plainId_quiet vA _,?_];have ln:(stored vs ks[i] v).length<=vs.length+1:=QO _ _ _;refine ih (i+1) _ _ () hi2 (N.keep st1 (λc o c1 e=>(sb.2 c c1).trans e) (by obtain⟨o,es,ep,ho,r⟩:=hd2;exact#[o,ho])) hd2 () λh' t' hd' hk'=>?_;exact hR h' t' hd' λc o c1 c2 e=>hk' c o c1 c2 ((sb.2 c c1).trans (hk1 c o c2 e))
end
theorem KV.fold: ∀{ks:a6 AQ} {vs:a6 V} {us:a6 a9} {kvs:a6 (AQ×V)} {ws:a6 (AQ×a9)},kE vs us->KV kvs ws->KV ((ks.zip vs).foldl (λacc x=>Dy acc x.1 x.2) kvs) ((ks.zip us).foldl (λacc x=>stored acc x.1 x.2) ws)
 |[],_,_,_,_,_,h=>h
 |k::ks,_,_,_,_,.nil,h=>h
 |k::ks,_,_,_,_,.cons r t,h=>by
  rw[kX,kX,DK,DK];exact KV.fold t (KV.put h k r)
theorem Qn: ∀(xs:a6 (AQ×V)) (acc:a6 (AQ×V)),(xs.foldl (λacc x=>Dy acc x.1 x.2) acc).length<=acc.length+xs.length
 |[],acc=>zO _
 |x::r,acc=>by
  rw[DK,zK];have h1:=Qn r (Dy acc x.1 x.2);have h2:=Bs acc x.1 x.2;lia
section
variable {prog:i7}{w:j3}
theorem PNx.list {d it src:i4}{as:a6 i4}{ps:a6 (a9×a9)}(hl:as.length=ps.length)(nd:d≠it)(ns:src≠it)(nsd:src≠d)(na: ∀a∈as,a≠it/\a≠d):
  PNx prog w d it [it] ps (λi h=>h.IsListIter it src i/\h.IsList src (as.map Value.ref).toArray/\ ∀(j:Nat) (a:i4) (p:a9×a9),as[j]? =some a->ps[j]? =some p->h.IsTuple a (List.toArray [p.1,p.2])) where
 item:=fun{A E i s k v Q} st hp q=>by
  obtain⟨h1,h2,h3⟩:=st;have hi:=(List.getElem?_eq_some_iff.mp hp).1;have ea:as[i]? =some as[i]:=zF ();refine BK h1 h2 (x:=.ref as[i]) (by simp[show i<as.length by lia]) λh' i' sb=>?_;have up: ∀{c:i4} {o:j8},c≠it->s.heap.get? c=some o->h'.get? c=some o:=λn e=>sb.extBut _ _ n e;have tu: ∀(j:Nat) (a:i4) (p:a9×a9),as[j]? =some a->ps[j]? =some p->h'.IsTuple a (List.toArray [p.1,p.2]):=λj a p e1 e2=>by
   obtain⟨o,e,r⟩:=h3 j a p e1 e2;exact#[o,up (na a (xB e1)).1 e,r]
  exact q h' as[i] #[i',h2.extBut sb.extBut ns,tu] (tu i _ _ ea hp) λc o n e=>up (λz=>n (by simp[z])) e
 stop:=fun{A E s Q} hh st q=>by
  obtain⟨h1,h2,h3⟩:=st;exact BU hh h1 h2 (by simp[hl]) λh' eb=>q h' λc o n e=>eb c o (λz=>n (by simp[z])) e
 keep:=fun{i h h'} st k _=>by
  obtain⟨⟨o,e,r⟩,⟨o2,e2,r2⟩,h3⟩:=st;refine#[#[o,k _ _ (Ne.symm nd) e,r],#[o2,k _ _ nsd e2,r2],λj a p e1 e2=>?_];obtain⟨o,e,r⟩:=h3 j a p e1 e2;exact#[o,k _ _ (na a (xB e1)).2 e,r]
 out:=by simp[nd]
end
section
variable {prog:i7}{w:j3}{A:j5}{E:a9->i6->Prop}{s:i6}{src:i4}{ps:a6 (a9×a9)}
structure Src (prog:i7)(w:j3)(s:i6)(src:i4)(fp0:List i4)(ps:List (a9×a9)):Prop where
 ty: ∃T,s.TypeIs (.ref src) T/\(Value.type T != .type "dict")=true
 keys: ∀{B:j5} {E:a9->i6->Prop} {s':i6} {Q:Option a9->i6->Prop},B.handled=none->(∀c o,s.heap.get? c=some o->s'.heap.get? c=some o)->(∀h' tk,(∀c o,s'.heap.get? c=some o->h'.get? c=some o)->Q none {s' with heap:=h',toks:=tk})->
  wpAny (model prog w) B (getAttr? (.ref src) "keys") Q E s'
 iter: ∀{B:j5} {E:a9->i6->Prop} {s':i6} {Q:a9->i6->Prop},(∀c o,s.heap.get? c=some o->s'.heap.get? c=some o)->(∃o,s'.heap.get? s.heap.objs.size=some o)->(∀h' it fp St,PNx prog w s.heap.objs.size it fp ps St->St 0 h'->(∀c∈fp,c∈fp0\/s.heap.objs.size<c)->(∀c o,s'.heap.get? c=some o->h'.get? c=some o)->Q (.ref it) {s' with heap:=h'})->
  wpAny (model prog w) B (pyIter (.ref src)) Q E s'
theorem OA {fp0:a6 i4}(S:Src prog w s src fp0 ps){ks:a6 AQ}(hA:A.handled=none)(hl:ks.length=ps.length)(hk: ∀(i:Nat) (k:AQ) (p:a9×a9),ks[i]? =some k->ps[i]? =some p->(wP prog w).is k p.1=true)(hz:ps.length<=sizeLine)
  {Q:a9->i6->Prop} (q: ∀h' t',h'.DictOf (wP prog w) s.heap.objs.size ((ks.zip (ps.map (·.2))).foldl (λacc x=>stored acc x.1 x.2) [])->(∀c o,c∉fp0->s.heap.get? c=some o->h'.get? c=some o)->Q (.ref s.heap.objs.size) {s with heap:=h',toks:=t'}):
  wpAny (model prog w) A (call (.type "dict") [.ref src]) Q E s:=by
 refine callType_codes (Q₁:=λobj s₁=>obj=.ref s.heap.objs.size/\s₁={s with heap:=s.heap.push {cls:=.type "dict",data:=.dict #[]}}) F.kt_called_dict (F.kt_typeCall_dict_1 _) F.entry_dict_init (kt_code_dict_new _ #[rfl,rfl]) ?_;rintro obj s₁ ⟨rfl,rfl⟩;have hnew:(s.heap.push {cls:=.type "dict",data:=.dict #[]}).DictOf (wP prog w) s.heap.objs.size []:=Heap.DictOf.new s.heap;refine#[hnew.typeIs,F.args_dict_init_2 _ _,?_];unfold Builtin.«dict.__init__»;refine zD ?_;unfold Builtin.Dict.selfAndRest;refine zD (wpAny_notOrdered_dict hnew.typeIs ?_);show wpAny _ _ (pure (s.heap.objs.size,[Value.ref src])) _ _ _;refine zZ ?_;show wpAny _ _ (Builtin.Dict.updateFrom "dict.__init__" s.heap.objs.size (.ref src) [] .none) _ _ _;unfold Builtin.Dict.updateFrom;obtain⟨T,hT,hnT⟩:=S.ty;obtain⟨oT,hoT,hcT⟩:=hT;have k1: ∀c o,s.heap.get? c=some o->(s.heap.push {cls:=.type "dict",data:=.dict #[]}).get? c=some o:=λc o e=>zJ _ e;refine zD (wpAny_typeOf (s:={s with heap:=s.heap.push {cls:=.type "dict",data:=.dict #[]}}) #[oT,k1 _ _ hoT,hcT] ?_);rw[zQ hnT];refine zD (S.keys (B:=A.in1.in1) (s':={s with heap:=s.heap.push {cls:=.type "dict",data:=.dict #[]}}) hA k1 λh1 tk1 k2=>?_);rw[zQ (show(none:i5 a9).isNone =true from rfl)];refine zD (Es ?_);have g1:h1.get? s.heap.objs.size=some {cls:=.type "dict",data:=.dict #[]}:=k2 _ _ (yE _ rfl);refine zD (S.iter (s':={s with heap:=h1,toks:=tk1}) (λc o e=>k2 c o (k1 c o e)) #[_,g1] λh2 it fp St N st fp1 k3=>?_);refine zZ #[plainId_quiet vA _,?_];have hd:h2.DictOf (wP prog w) s.heap.objs.size []:=by
  obtain⟨o,es,ep,ho,r⟩:=hnew;exact#[o,es,ep,k3 _ _ (k2 _ _ ho),r]
 refine UE (A:=A.in1) N hA hl hk ps.length 0 _ [] (Nat.sub_zero _) (xE _) st hd (by show 0+_<=_;lia) λh' t' hd' hk'=>#[rfl,?_];rw[BP]at hd';refine q h' t' hd' λc o n e=>hk' c o (xQ (yI e)) (λz=>?_) (k3 _ _ (k2 _ _ (k1 _ _ e)))
 rcases fp1 c z with y|y
 ·exact n y
 ·exact absurd (yI e) (Nat.not_lt_of_gt y)
end
section
variable {prog:i7}{w:j3}{s:i6}
theorem Vt {src:i4}{as:a6 i4}{n:Nat}{sl:j7 (i5 a9)}{ps:a6 (a9×a9)}(hs:s.heap.get? src=some {cls:=.type "list",dict:=none,data:=.seq (as.map Value.ref).toArray n,slots:=sl})(hl:as.length=ps.length)(ht: ∀(j:Nat) (a:i4) (p:a9×a9),as[j]? =some a->ps[j]? =some p->s.heap.IsTuple a (List.toArray [p.1,p.2])):Src prog w s src [] ps where
 ty:=#["list",#[_,hs,rfl],by decide]
 keys:=λhA k q=>Ux hA (k _ _ hs) λh' tk e x=>q h' tk x.keeps
 iter:=fun{B E s' Q} k ⟨ob,gb⟩ q=>by
  have lt:=yI gb;have hl':s'.heap.IsList src (as.map Value.ref).toArray:=#[_,k _ _ hs,rfl,-1];refine vZ hl' ?_;have ls:=yI hs;have la: ∀a∈as,a<s.heap.objs.size:=λa ha=>by
   obtain⟨j,hj⟩:=List.getElem?_of_mem ha;have hjl:=(List.getElem?_eq_some_iff.mp hj).1;obtain⟨o,e,_⟩:=ht j a _ hj (zF ());exact yI e
  refine q _ s'.heap.objs.size [s'.heap.objs.size] _ (PNx.list (src:=src) (as:=as) hl (xQ lt) (xQ (Nat.lt_trans ls lt)) (xQ ls) λa ha=>#[xQ (Nat.lt_trans (la a ha) lt),xQ (la a ha)]) #[#[_,yE _ rfl,rfl,rfl],hl'.push _,λj a p e1 e2=>?_] (λc hc=>.inr (by rw[List.mem_singleton.mp hc];exact lt)) λc o e=>zJ _ e;obtain⟨o,e,r⟩:=ht j a p e1 e2;exact#[o,zJ _ (k _ _ e),r]
end
noncomputable def DA (kvs:a6 (AQ×V)):a6 (AQ×V):=kvs.foldl (λacc x=>Dy acc x.1 x.2) []
theorem Ty (kvs:a6 (AQ×V)):(kvs.map (·.1)).zip (kvs.map (·.2))=kvs:=by
 induction kvs with
 |nil=>rfl
 |cons x r ih=>rw[yM,yM,kX,ih]
section
variable {X:Cx}
theorem UF {j9:a6 (i4×j8)}{U:St}{H:Hp}{s0:i6}{kvs:a6 (AQ×V)}{us:a6 a9}{Q:VK}{h':j4}{t':Nat}{d:i4}(I:xZ X j9 U H s0)(ru:kE (kvs.map (·.2)) us)(hz:kvs.length<=sizeLine)(hd:s0.heap.objs.size<=d)
  (dd:h'.DictOf (wP X.prog X.w) d (((kvs.map (·.1)).zip us).foldl (λacc x=>stored acc x.1 x.2) [])) (k: ∀c o,s0.heap.get? c=some o->h'.get? c=some o) (q: ∀p,H p=none->Q (.ref p) (upd H p (.dK (DA kvs)))):EP X j9 U Q (.ref d) {s0 with heap:=h',toks:=t'}:=by
 have rel:KV (DA kvs) (((kvs.map (·.1)).zip us).foldl (λacc x=>stored acc x.1 x.2) []):=by
  have:=KV.fold (ks:=kvs.map (·.1)) (kvs:=[]) (ws:=[]) ru .nil;rw[Ty]at this;exact this
 have hl:(DA kvs).length<=sizeLine:=by
  have:=Qn kvs [];show(kvs.foldl _ []).length<=_;have e:([]:a6 (AQ×V)).length =0:=rfl;lia
 have ns:(d==sysModules)=false:=by
  have h1:sysModules<d:=xP I.big hd;have h2:d≠sysModules:=Nat.ne_of_gt h1
  simpa using h2
 exact#[.ref d,_,I.laid (o:=.dK (DA kvs)) k hd (Xk hl ns rel dd),rfl,q d (I.hok.fresh hd)]
theorem Mi (hc:X.calm=true):Fq X (.type "dict") (λxs H Q=> ∃(l:i4) (as:a6 i4) (kvs:a6 (AQ×V)),xs=[.ref l]/\H l=some (.lst (as.map V.ref))/\Paired (λa kv=>H a=some (.tup [kV kv.1,kv.2])) as kvs/\ ∀p,H p=none->Q (.ref p) (upd H p (.dK (DA kvs)))):=by
 intro j9 s U H xs us Q I r h;obtain⟨l,as,kvs,rfl,hl,ha,q⟩:=h;obtain⟨u,rfl,ru⟩:=II r;cases ru;obtain⟨zl,its,n,rv,hli,he⟩:=I.lstM hl;have e0:=JW rv;subst e0;have key: ∀{as:a6 i4} {kvs:a6 (AQ×V)},Paired (λa kv=>H a=some (.tup [kV kv.1,kv.2])) as kvs-> ∃ps:a6 (a9×a9),as.length=ps.length/\kvs.length=ps.length/\kE (kvs.map (·.2)) (ps.map (·.2))/\(∀(j:Nat) (a:i4) (p:a9×a9),as[j]? =some a->ps[j]? =some p->s.heap.IsTuple a (List.toArray [p.1,p.2]))/\
   ∀(i:Nat) (k:AQ) (p:a9×a9),(kvs.map (·.1))[i]? =some k->ps[i]? =some p->(wP X.prog X.w).is k p.1=true:=fun{as kvs} h=>by
  induction h with
  |nil=>exact#[[],rfl,rfl,.nil,λj a p h=>by simp at h,λi k p h=>by simp at h]
  |@cons a kv as kvs h t ih=>
   obtain⟨ps,e1,e2,rs,g1,g2⟩:=ih;obtain⟨zz,its,rt,pt⟩:=(show vY X.prog X.w H s.heap a (.tup [kV kv.1,kv.2])from I.hok a _ h);obtain⟨u1,u2,rfl,r1,r2⟩:=ML rt;refine#[(u1,u2)::ps,by rw[zK,zK,e1],by rw[zK,zK,e2],.cons r2 rs,λj b p h1 h2=>?_,λi k p h1 h2=>?_]
   ·cases j with
    |zero=>
     have e1:a=b:=by simpa using h1
     have e2:(u1,u2)=p:=by simpa using h2
     subst e1 e2;exact pt
    |succ j=>exact g1 j b p (by simpa using h1) (by simpa using h2)
   ·cases i with
    |zero=>
     have e1:kv.1=k:=by simpa using h1
     have e2:(u1,u2)=p:=by simpa using h2
     subst e1 e2;exact Ng r1
    |succ i=>exact g2 i k p (by simpa using h1) (by simpa using h2)
 obtain⟨ps,e1,e2,rs,g1,g2⟩:=key ha;have hlk:=Paired.len ha;rw[zG]at zl;refine OA (ks:=kvs.map (·.1)) (Vt he e1 g1) (I.ok.hd hc) (by rw[zG,e2]) g2 () λh' t' dd k=>?_;exact UF I rs () (zO _) dd (λc o e=>k c o (λz=>nomatch z) e) q
theorem Tp:bootBuiltins "dict"=some (.type "dict"):=by decide+kernel
end
end L2
namespace L2
open PySem PySem.Spec
section
variable {X:Cx}{j9:a6 (i4×j8)}{U:St}{H:Hp}{s:i6}
def QB (H:Hp)(v:V)(p:Int×Int):Prop:= ∃t,v=.ref t/\H t=some (.tup [.int p.1,.int p.2])
theorem zBc (I:xZ X j9 U H s)(A:j5)(hx:QB H x p)(hy:QB H y q)(rx:kU x u)(ry:kU y v)(hu:A.units<cLine):SeqAt.EqAt A s u v (decide (p=q)):=by
 obtain⟨a,rfl,ha⟩:=hx;obtain⟨b,rfl,hb⟩:=hy;cases rx;cases ry
 by_cases hab:a=b
 ·subst hab;rw[ha]at hb;injection hb with hb
  injection hb with hb
  injection hb with e1 hb
  injection hb with e2 _
  injection e1 with e1
  injection e2 with e2
  rw[zP (Prod.ext e1 e2)];exact SeqAt.EqAt.same _
 refine SeqAt.EqAt.of_refs hab ?_;obtain⟨us,r,pa,_⟩:=I.tuple (Ax.of ha);obtain⟨vs,q',pb,_⟩:=I.tuple (Ax.of hb);obtain⟨u1,u2,rfl,r1,r2⟩:=r.two;obtain⟨w1,w2,rfl,t1,t2⟩:=q'.two;have:=SeqAt.RcAt.tuples (A:=A) (s:=s) (e:=λn=>if n=0 then Ha (.int p.1) (.int q.1)else Ha (.int p.2) (.int q.2)) pa pb hu (λn h1 h2=>by
  have h1:n<2:=h1
  rcases(by lia:n=0\/n=1)with rfl|rfl
  ·exact Iw r1 t1 rfl rfl
  ·exact Iw r2 t2 rfl rfl)
 have e:((List.range (min 2 2)).all (λn=>if n=0 then Ha (.int p.1) (.int q.1)else Ha (.int p.2) (.int q.2))&&(2==2))=decide (p=q):=by
  show((p.1==q.1)&&((p.2==q.2)&&true)&&true)=_;rw[uF,uF,jN,qC,Bp,Bp,jD,Prod.ext_iff]
 exact e▸this
inductive zCx (K:a7) (x:V) (y:V) (H:Hp) (Q:VK):Prop
 |mk (a b:i4) (xs ys:List V) (gs hs:List (Int×Int)) (h0:x=.ref a) (h1:y=.ref b) (h2:kN K H a xs) (h3:kN K H b ys) (h4:Paired (QB H) xs gs) (h5:Paired (QB H) ys hs) (h6:Q (.bl (decide (gs=hs))) H):zCx K x y H Q
theorem zAk (hr:Ao k X.A):HC X (compareOp .Eq) (zCx X.K):=by
 intro j9 s U H x y v u Q I rx ry h;obtain⟨a,b,xs,ys,gs,hs,rfl,rfl,ha,hb,pg,ph,q⟩:=h;cases rx;cases ry;have hu:=hr.un;obtain⟨us,r,pa,_⟩:=I.list ha;obtain⟨vs,q',pb,_⟩:=I.list hb;have l1:=r.length;have l2:=q'.length;have l3:=Paired.len pg;have l4:=Paired.len ph
 by_cases hl:us.length=vs.length
 ·have:=SeqAt.RcAt.lists (A:=X.A) (s:=s) (e:=λj=>decide (gs[j]? =hs[j]?)) pa.isList pb.isList (by simpa using hl) () (λj h1 h2=>by
   have k1:j<us.length:=by simpa using h1
   have k2:j<vs.length:=by simpa using h2
   have g1:xs[j]? =some xs[j]:=zF ();have g2:ys[j]? =some ys[j]:=zF ();obtain⟨p1,e1,f1⟩:=Paired.yonder pg g1;obtain⟨p2,e2,f2⟩:=Paired.yonder ph g2;have z:=zBc I X.A.in1 f1 f2 (Paired.get r j _ _ g1 (zF k1)) (Paired.get q' j _ _ g2 (zF k2)) (by show X.A.units+1<_;lia);have e3:decide (gs[j]? =hs[j]?)=decide (p1=p2):=by
    rw[e1,e2,jN,jD,jD,Option.some.injEq]
   simp only[List.getElem_toArray];rw[e3];exact z)
  have e:(List.range us.toArray.size).all (λj=>decide (gs[j]? =hs[j]?))=decide (gs=hs):=by
   rw[jN,vE,jD];refine#[λz=>List.ext_getElem? λj=>?_,λz j _=>by rw[z];exact zP rfl]
   by_cases hj:j<us.length
   ·exact yB (z j (by rw[List.mem_range];simpa using hj))
   ·rw[wE (),wE ()]
  rw[e]at this;exact this _ _ _ _ #[.bl _,H,I,rfl,q]
 ·have:=SeqAt.RcAt.lists_lengths (A:=X.A) (s:=s) pa.isList pb.isList (by simpa using hl) ();have e:decide (gs=hs)=false:=zR λz=>hl (by rw[z]at l3;lia);rw[e]at q;exact this _ _ _ _ #[.bl _,H,I,rfl,q]
end
end L2
namespace L2
open PySem PySem.Spec PyProof.Rows
section
variable {X:Cx}{pos p:Pos}{x:Str}{e a b:j6}{es:a6 j6}{te ta tb:TE}{t:TA}
theorem cN (C:QH X.prog X.w X.K X.mg X.base (Hh P w) k x ps sp)(hr:Ao n X.A)(ha:PA X (e::es) t)(hg:autoParam (Gl X x) L2.aE._auto_1)(hk:autoParam (k<=n) L2.aH._auto_1)(hdb:autoParam ((x==("__debug__":Str))=false) L2.aB._auto_1)
  (he:autoParam (starEach (e::es) X.env=(false,eval e X.env)::starEach es X.env) L2.aE._auto_1) (hpl:autoParam ((backTo pos (starEach es X.env)).any (·.1)=false) L2.aE._auto_1):PE X (.Call (.Name x p) (e::es) [] pos) (Vq sp [] E0 t):=zH C hr hg ha zV hk hdb he hpl
theorem pa1 (h:PE X e te)(s:autoParam (starEach [e] X.env=(false,eval e X.env)::starEach [] X.env) L2.aE._auto_1):PA X [e] (HK te Mp):=zA h zB s
end
abbrev jY (P:i7)(w:j3)(K:a7)(mg:Str->i5 a9)(base:j4):=QH P w K mg base (Hh P w)
abbrev vO (P:i7)(w:j3)(K:a7)(mg:Str->i5 a9)(base:j4):=Dl P w K mg base (Hh P w)
section
variable {P:i7}{w:j3}{K:a7}{mg:Str->i5 a9}{base:j4}
theorem qT.oN {CX:MI}{x qual:Str}{st:i9}{f:i4}{fd:FuncData}{N ps:a6 Str}{k:Nat}{sp:Sp}(F:qT K x qual st f fd)(S:yT N ps (zS st))
  (hbody: ∀(cdv:a9) (A:j5) (outer:a6 Env) (s:i6) (H:Hp) (vs:a6 V) (Q:VK) (E:XK),Ao k (A.deeper (envOfC qual (zS st) s.heap.objs.size f cdv))->sp vs H Q E->
   ∃t,QG (Qu CX P w K mg base N qual (zS st) f cdv A outer s H E).nox (vL st) t/\t {nx:=λ_ H'=>Q .non H',rt:=Q} (IL N vs) H) (len: ∀vs H Q E,sp vs H Q E->vs.length=ps.length:=by intro _ _ _ _ h;cases h;subst_vars;rfl):Dl P w K mg base CX (k+1) f fd ps sp:=F.okN S len hbody
end
end L2
namespace L2
open PySem PySem.W PySem.W.X
theorem walkX_of {q:i7}{loose:a6 Str}{XP:(Str->i5 a9)->j4->Prop}{as:a6 i4}{K:Params->Frag}{n t:Nat}{r:RowW}{d:DefRec}{kwd:a6 (Str×j6)}{run:a9->a6 a9->Sem a9}(e: ∀P,as=(K P).map (·.1))
  (h:WalkO q loose XP (λw h=>(K w.params).In h) r d kwd run):WalkX q loose XP (obsZ as) (valZ K n t) r d kwd run:=by
 intro w s₀ s₁ mg mb G y a o pm cd doc dV kV h1 h2 h3 h4 h5 h6 args o7 as' L h7 h8 h9 h10 h11;have Y:(K w.params).In s₁.heap:=InK.keeps (K:=K) w s₀.heap s₁.heap (z_facts e y).2.1 L.keeps;exact h w s₀ s₁ mg mb G Y a o pm cd doc dV kV h1 h2 h3 h4 h5 h6 args o7 as' h7 h8 h9 h10 h11
end L2
namespace OcL
open PySem L2
noncomputable def top (i:Nat):i9:=PySem.Challenge.pw_ownchain_k37_each_row_and_line_bent_alon.main.body.getD i (.Pass #[0,0,0,0])
noncomputable abbrev Ic:i9:=top 24
theorem OV:yT ["kind"] ["kind"] (zS Ic):=.of
noncomputable abbrev FP:i9:=top 33
theorem Kl:yT ["thing"] ["thing"] (zS FP):=.of
noncomputable abbrev Dx:i9:=Jp (top 34) 0
theorem JQ:yT ["self","numbers"] ["self","numbers"] (zS Dx):=.of
noncomputable abbrev GO:i9:=Jp (top 34) 1
theorem IT:yT ["self","number"] ["self"] (zS GO):=.of
noncomputable abbrev Bm:i9:=Jp (top 34) 2
theorem AU:yT ["self","least","most","place","number"] ["self","least","most"] (zS Bm):=.of
noncomputable abbrev FI:i9:=top 35
theorem Ah:yT ["look","heads","most_params","function","params"] ["look"] (zS FI):=.of
noncomputable abbrev Ia:i9:=top 36
theorem OT:yT ["look","kind","heads","boxes"] ["look","kind","heads","boxes"] (zS Ia):=.of
noncomputable abbrev GC:i9:=top 37
theorem NR:yT ["kind","numbers","heads"] ["kind","numbers","heads"] (zS GC):=.of
noncomputable abbrev EE:i9:=top 38
theorem AJ:yT ["look","heads","boxes","deep","place","kind","numbers","parts","part"] ["look","heads","boxes","deep"] (zS EE):=.of
noncomputable abbrev GG:i9:=top 39
theorem AL:yT ["sheet","look","heads","told","params","boxes"] ["sheet"] (zS GG):=.of
noncomputable abbrev Ie:i9:=top 40
theorem CS:yT ["body","told","waiting","node","part"] ["body"] (zS Ie):=.of
noncomputable abbrev NW:i9:=top 41
theorem Gw:yT ["sheet","told","params","boxes","body"] ["sheet"] (zS NW):=.of
noncomputable abbrev JU:i9:=top 57
theorem Ec:yT ["head","function","many_rows","start","params","boxes","most_params"] ["head","function","many_rows"] (zS JU):=.of
noncomputable abbrev Eg:i9:=top 58
theorem Kx:yT ["op"] ["op"] (zS Eg):=.of
noncomputable abbrev Lw:i9:=top 59
theorem JP:yT ["row","many_functions","many_rows","op","number"] ["row","many_functions","many_rows"] (zS Lw):=.of
noncomputable abbrev Hr:i9:=top 60
theorem Rb:yT ["numbers","size"] ["numbers","size"] (zS Hr):=.of
noncomputable abbrev Ij:i9:=top 61
theorem OX:yT ["numbers"] ["numbers"] (zS Ij):=.of
noncomputable abbrev JS:i9:=top 62
theorem QZ:yT ["numbers"] ["numbers"] (zS JS):=.of
noncomputable abbrev uH:i9:=top 63
theorem GA:yT ["thing"] ["thing"] (zS uH):=.of
noncomputable abbrev Hq:i9:=top 64
theorem Ed:yT ["thing","many_numbers","many_rows","function","head"] ["thing"] (zS Hq):=.of
noncomputable abbrev Ii:i9:=top 65
theorem OW:yT ["code"] ["code"] (zS Ii):=.of
noncomputable abbrev JR:i9:=top 66
theorem QY:yT ["code"] ["code"] (zS JR):=.of
noncomputable abbrev Lv:i9:=top 67
theorem JO:yT ["things","size","numbers","thing"] ["things","size"] (zS Lv):=.of
noncomputable abbrev JV:i9:=top 68
theorem HY:yT ["heads","rows","numbers","code"] ["heads","rows"] (zS JV):=.of
noncomputable abbrev Ls:i9:=top 71
theorem TR:yT ["value"] ["value"] (zS Ls):=.of
noncomputable abbrev Ib:i9:=top 72
theorem OU:yT ["kind","first","second"] ["kind","first","second"] (zS Ib):=.of
noncomputable abbrev Mu:i9:=top 73
noncomputable abbrev NV:i9:=top 74
theorem Vv:yT ["kind","values","rows"] ["kind","values","rows"] (zS NV):=.of
noncomputable abbrev BB:i9:=Jp (top 76) 0
theorem HZ:yT ["self"] ["self"] (zS BB):=.of
noncomputable abbrev FM:i9:=top 77
theorem Kk:yT ["making","parts","part"] ["making","parts"] (zS FM):=.of
noncomputable abbrev EF:i9:=top 78
theorem uT:yT ["making","parts","many","first_jump","last_jump","jump","number","part"] ["making","parts"] (zS EF):=.of
noncomputable abbrev EH:i9:=top 79
theorem FD:yT ["making","parts","around","unless"] ["making","parts"] (zS EH):=.of
noncomputable abbrev JT:i9:=top 80
theorem Ra:yT ["kind","numbers"] ["kind","numbers"] (zS JT):=.of
noncomputable abbrev EG:i9:=top 81
theorem uU:yT ["making","node","kind","place","numbers","parts","begin","part"] ["making","node"] (zS EG):=.of
noncomputable abbrev GD:i9:=top 82
theorem By:yT ["program","making","params","boxes","body"] ["program"] (zS GD):=.of
noncomputable abbrev Re:i9:=top 83
theorem SG:yT ["sheet","making"] ["sheet"] (zS Re):=.of
noncomputable abbrev FO:i9:=top 84
theorem Mr:yT ["sheet"] ["sheet"] (zS FO):=.of
noncomputable abbrev Lu:i9:=top 86
theorem MU:yT ["value","parts","last"] ["value","parts"] (zS Lu):=.of
noncomputable abbrev NX:i9:=top 89
theorem Lr:yT ["rows","at","jump"] ["rows","at"] (zS NX):=.of
noncomputable abbrev IU:i9:=top 90
theorem CU:yT ["node","kind","place","numbers","parts","values","fault","value"] ["node"] (zS IU):=.of
noncomputable abbrev AM:i9:=Jp (top 91) 0
theorem At:yT ["self","rows","paper","place","begin","end"] ["self","rows","paper"] (zS AM):=.of
noncomputable abbrev Ik:i9:=top 92
theorem OY:yT ["check","node"] ["check","node"] (zS Ik):=.of
noncomputable abbrev Lx:i9:=top 93
theorem TU:yT ["check","node"] ["check","node"] (zS Lx):=.of
noncomputable abbrev GB:i9:=top 94
theorem NQ:yT ["check","at"] ["check","at"] (zS GB):=.of
noncomputable abbrev Rc:i9:=top 95
theorem SF:yT ["check","first","second","lead"] ["check","first","second"] (zS Rc):=.of
noncomputable abbrev Ly:i9:=top 96
theorem MV:yT ["check","at","row","lead"] ["check","at","row"] (zS Ly):=.of
noncomputable abbrev EI:i9:=top 97
theorem NS:yT ["check","parts"] ["check","parts"] (zS EI):=.of
noncomputable abbrev Ei:i9:=top 98
theorem Ky:yT ["check","node","part"] ["check","node","part"] (zS Ei):=.of
noncomputable abbrev FQ:i9:=top 99
theorem Ms:yT ["check","node","part"] ["check","node","part"] (zS FQ):=.of
noncomputable abbrev GF:i9:=top 100
theorem IR:yT ["check","node","value"] ["check","node"] (zS GF):=.of
noncomputable abbrev Eh:i9:=top 101
theorem Bh:yT ["check","node","parts","part","following"] ["check","node"] (zS Eh):=.of
noncomputable abbrev Dv:i9:=top 102
theorem vD:yT ["check","node","first","others","entry","number","part"] ["check","node"] (zS Dv):=.of
noncomputable abbrev BA:i9:=top 103
theorem Bl:yT ["check","node","value","part"] ["check","node"] (zS BA):=.of
noncomputable abbrev BW:i9:=top 104
theorem EC:yT ["check","at","lead"] ["check","at"] (zS BW):=.of
noncomputable abbrev Dw:i9:=top 105
theorem AK:yT ["check","node","first","second","out"] ["check","node"] (zS Dw):=.of
noncomputable abbrev FJ:i9:=top 106
theorem CG:yT ["check","node","at","part"] ["check","node"] (zS FJ):=.of
noncomputable abbrev Am:i9:=top 107
theorem qA:yT ["check","node","kind","place","numbers","parts","after"] ["check","node"] (zS Am):=.of
noncomputable abbrev Ig:i9:=top 108
theorem CT:yT ["check","node","kind","place","numbers","parts"] ["check","node"] (zS Ig):=.of
noncomputable abbrev AV:i9:=top 109
theorem Gy:yT ["check","start","body"] ["check","start","body"] (zS AV):=.of
noncomputable abbrev Ho:i9:=top 110
theorem FE:yT ["line","places","many_rows","place","begin","end"] ["line","places","many_rows"] (zS Ho):=.of
noncomputable abbrev Ih:i9:=top 111
theorem Gz:yT ["paper","places","many_rows","there","line"] ["paper","places","many_rows"] (zS Ih):=.of
noncomputable abbrev vU:i9:=top 112
theorem Ee:yT ["program","heads","asked"] ["program","heads"] (zS vU):=.of
noncomputable abbrev Fd:i9:=top 113
theorem Bk:yT ["sheet","code","paper","program","heads","rows","told","check","node"] ["sheet","code","paper"] (zS Fd):=.of
noncomputable abbrev GM:i9:=top 115
theorem NU:yT ["_law_script","_law_k"] ["_law_script","_law_k"] (zS GM):=.of
noncomputable abbrev GI:i9:=top 116
theorem vS:yT ["_law_state","_law_most","_law_script","_law_at","_law_left","_law_cell_here","_law_number"] ["_law_state","_law_most"] (zS GI):=.of
noncomputable abbrev GJ:i9:=top 117
theorem FG:yT ["_law_state","_law_a","_law_some"] ["_law_state"] (zS GJ):=.of
noncomputable abbrev GN:i9:=top 118
theorem vT:yT ["_law_state","_law_one","_law_other","_law_third","_law_bodies"] ["_law_state"] (zS GN):=.of
noncomputable abbrev Im:i9:=top 119
theorem ED:yT ["_law_state","_law_many","_law_found","_law_k"] ["_law_state","_law_many"] (zS Im):=.of
noncomputable abbrev GH:i9:=top 120
theorem FF:yT ["_law_state","_law_way","_law_many"] ["_law_state"] (zS GH):=.of
noncomputable abbrev FR:i9:=top 121
theorem AZ:yT ["_law_state","_law_body_here","_law_way"] ["_law_state"] (zS FR):=.of
noncomputable abbrev EJ:i9:=top 122
theorem IS:yT ["_law_code","_law_behind"] ["_law_code"] (zS EJ):=.of
noncomputable abbrev GL:i9:=top 123
theorem FH:yT ["_law_rows_here","_law_at","_law_turn"] ["_law_rows_here","_law_at"] (zS GL):=.of
noncomputable abbrev Il:i9:=top 124
theorem Km:yT ["_law_rows_here","_law_at","_law_here"] ["_law_rows_here","_law_at"] (zS Il):=.of
noncomputable abbrev GK:i9:=top 125
theorem NT:yT ["_law_rows_here","_law_one","_law_other"] ["_law_rows_here","_law_one","_law_other"] (zS GK):=.of
noncomputable abbrev DR:i9:=top 126
theorem uD:yT ["_law_node","_law_kind","_law_place","_law_numbers","_law_parts","_law_one","_law_other"] ["_law_node"] (zS DR):=.of
noncomputable abbrev CH:i9:=top 127
theorem Ef:yT ["_law_look","_law_node","_law_at","_law_rows_here","_law_spans"] ["_law_look","_law_node","_law_at"] (zS CH):=.of
noncomputable abbrev CI:i9:=top 128
theorem qW:yT ["_law_look","_law_many","_law_parts","_law_begin","_law_end","_law_rows_here","_law_spans","_law_first","_law_one","_law_here","_law_k","_law_part_here"] ["_law_look","_law_many","_law_parts","_law_begin","_law_end"] (zS CI):=.of
noncomputable abbrev CJ:i9:=top 129
theorem uL:yT ["_law_look","_law_parts","_law_begin","_law_end","_law_rows_here","_law_spans","_law_asks","_law_back","_law_out"] ["_law_look","_law_parts","_law_begin","_law_end"] (zS CJ):=.of
noncomputable abbrev uI:i9:=top 130
theorem kI:yT ["_law_look","_law_parts","_law_begin","_law_drops","_law_rows_here","_law_spans","_law_at","_law_k","_law_part_here"] ["_law_look","_law_parts","_law_begin","_law_drops"] (zS uI):=.of
noncomputable abbrev DS:i9:=top 131
theorem kQ:yT ["_law_look","_law_node","_law_rows_here","_law_spans","_law_kind","_law_place","_law_numbers","_law_parts","_law_begin","_law_end","_law_value","_law_at","_law_row_here"] ["_law_look","_law_node"] (zS DS):=.of
noncomputable abbrev Ej:i9:=top 132
theorem uR:yT ["_law_told","_law_code","_law_paper","_law_rows_here","_law_look","_law_k","_law_one","_law_params","_law_boxes","_law_body_here"] ["_law_told","_law_code","_law_paper"] (zS Ej):=.of
noncomputable abbrev vV:i9:=top 133
theorem jQ:yT ["_law_state","_law_code","_law_behind","_law_many","_law_found","_law_at","_law_rows_here","_law_third","_law_k","_law_spots","_law_j"] ["_law_state","_law_code"] (zS vV):=.of
noncomputable abbrev Ai:i9:=top 134
theorem qX:yT ["_law_third","_law_many","_law_paper","_law_found","_law_k","_law_place","_law_begin","_law_end","_law_lines"] ["_law_third","_law_many","_law_paper"] (zS Ai):=.of
noncomputable abbrev Vw:i9:=top 135
theorem Gx:yT ["_law_script","_law_state","_law_sheet_here","_law_told","_law_code","_law_paper","_law_bent","_law_lines"] ["_law_script"] (zS Vw):=.of
structure Gk (K:a7)(mg:Str->Option a9):Prop where
 n_len:mg "len"=none
 n_range:mg "range"=none
 n_all:mg "all"=none
 n_max:mg "max"=none
 n_enumerate:mg "enumerate"=none
 n_isinstance:mg "isinstance"=none
 n_int:mg "int"=none
 n_bool:mg "bool"=none
 n_tuple:mg "tuple"=none
 n_list:mg "list"=none
 m_ADD:kP mg "ADD" 8
 m_NEW:kP mg "NEW" 19
 m_MOST_FUNCTIONS:kP mg "MOST_FUNCTIONS" 16
 m_MOST_PARAMS:kP mg "MOST_PARAMS" 4
 m_MOST_BOXES:kP mg "MOST_BOXES" 12
 m_MOST_MANY:kP mg "MOST_MANY" 12
 m_LEAST_PICK:kP mg "LEAST_PICK" 2
 m_OP_PUSH:kP mg "OP_PUSH" 0
 m_OP_GET:kP mg "OP_GET" 1
 m_OP_SET:kP mg "OP_SET" 2
 m_OP_DROP:kP mg "OP_DROP" 3
 m_OP_JUMP:kP mg "OP_JUMP" 4
 m_OP_UNLESS:kP mg "OP_UNLESS" 5
 m_OP_CALL:kP mg "OP_CALL" 6
 m_OP_BACK:kP mg "OP_BACK" 7
 m_OP_FAIL:kP mg "OP_FAIL" 8
 m_OP_BREATH:kP mg "OP_BREATH" 9
 m_OP_DO:kP mg "OP_DO" 10
 m_OP_PICK:kP mg "OP_PICK" 11
 m_HEAD_SIZE:kP mg "HEAD_SIZE" 3
 m_ROW_SIZE:kP mg "ROW_SIZE" 2
 kint:PySem.W.kitOne K (.type "int") (.type "int")=some true
 kbool:PySem.W.kitOne K (.type "int") (.type "bool")=some false
 klist:PySem.W.kitOne K (.type "list") (.type "list")=some true
 kal:PySem.W.kitAny K (.type "list") [.type "list",.type "tuple"]=some true
 kat:PySem.W.kitAny K (.type "tuple") [.type "list",.type "tuple"]=some true
 ktup:PySem.W.kitOne K (.type "tuple") (.type "tuple")=some true
structure Jw (K:a7)(mg:Str->Option a9)(aP CL:i4):Prop where
 n_len:mg "len"=none
 n_range:mg "range"=none
 n_isinstance:mg "isinstance"=none
 n_int:mg "int"=none
 n_bool:mg "bool"=none
 n_tuple:mg "tuple"=none
 m_NUMBER:kP mg "NUMBER" 0
 m_GET:kP mg "GET" 1
 m_SET:kP mg "SET" 2
 m_ALL:kP mg "ALL" 3
 m_PICK:kP mg "PICK" 4
 m_LOOP:kP mg "LOOP" 5
 m_CALL:kP mg "CALL" 6
 m_FAIL:kP mg "FAIL" 7
 m_NEW:kP mg "NEW" 19
 m_MOST_FUNCTIONS:kP mg "MOST_FUNCTIONS" 16
 m_MOST_PARAMS:kP mg "MOST_PARAMS" 4
 m_MOST_BOXES:kP mg "MOST_BOXES" 12
 m_MOST_DEEP:kP mg "MOST_DEEP" 10
 m_MOST_MANY:kP mg "MOST_MANY" 12
 m_LEAST_ALL:kP mg "LEAST_ALL" 1
 m_LEAST_PICK:kP mg "LEAST_PICK" 2
 m_PARTS:mg "PARTS"=some (.ref aP)
 parts: ∀H,Ax K H aP (partsN.map V.int)
 kint:PySem.W.kitOne K (.type "int") (.type "int")=some true
 kbool:PySem.W.kitOne K (.type "int") (.type "bool")=some false
 look:So K CL
 lnum:AW K CL "numbers"
 lplace:AW K CL "place"
section
variable {P:i7}{w:j3}{K:a7}{mg:Str->i5 a9}{base:j4}{f:i4}{fd:FuncData}{aP CL CN CM CK:i4}
mutual
noncomputable def SN (p:Nat):Tr->Nd
 | .mk k own ps=>.mk k p own (Jz (p+1+own.length) ps)
noncomputable def Jz (p:Nat):a6 Tr->a6 Nd
 |[]=>[]
 |a::r=>SN p a::Jz (p+(jR a).length) r
end
mutual
theorem OC: ∀(t:Tr) (p:Nat),bare (SN p t)=t
 | .mk k own ps,p=>by
  rw[SN];show Tr.mk k own (zU _)=_;rw[Qz]
theorem Qz: ∀(ts:a6 Tr) (p:Nat),zU (Jz p ts)=ts
 |[],p=>by rw[Jz];rfl
 |a::r,p=>by
  rw[Jz];show bare _::zU _=_;rw[OC,Qz]
end
structure Shw (ns:List Int)(hs:Ev)(ts:List Tr):Prop where
 n0:ns[0]? =some (hs.length:Int)
 hd: ∀(i:Nat) (h:Int×Int),hs[i]? =some h->ns[1+2*i]? =some h.1/\ns[1+2*i+1]? =some h.2
 sb:Sub ns (1+2*hs.length) (xX ts)
 ln:ts.length=hs.length
 en:ns.length=1+2*hs.length+(xX ts).length
 good:HD hs
 fit: ∀(i:Nat) (h:Int×Int) (t:Tr),hs[i]? =some h->ts[i]? =some t->wW hs h.2 10 t
def Shr (ns:a6 Int)(r:Ev×a6 Nd):Prop:= ∃ts,Shw ns r.1 ts/\r.2=Jz (1+2*r.1.length) ts
inductive Sz (CL:i4) (vs:List V) (H:Hp) (Q:VK) (E:XK):Prop
 |mk (lk dx a:i4) (p:Nat) (ns:List Int) (n:Int) (h0:vs=[.ref lk]) (h1:Looks CL H lk dx a p ns) (h2:ns[p]? =some n) (h3:Q (.int n) (upd H lk (Bd CL dx a (p+1)))):Sz CL vs H Q E
inductive JA (CL:i4) (vs:List V) (H:Hp) (Q:VK) (E:XK):Prop
 |mk (lk dx a:i4) (p:Nat) (ns:List Int) (lo hi n:Int) (h0:vs=[.ref lk,.int lo,.int hi]) (h1:Looks CL H lk dx a p ns) (h2:ns[p]? =some n) (h3:lo<=n) (h4:n<=hi) (h5:Q (.int n) (upd H lk (Bd CL dx a (p+1)))):JA CL vs H Q E
inductive QV (CL:i4) (vs:List V) (H:Hp) (Q:VK) (E:XK):Prop
 |mk (lk dx a:i4) (ns:List Int) (hs:Ev) (ts:List Tr) (h0:vs=[.ref lk]) (h1:Looks CL H lk dx a 0 ns) (h2:Shw ns hs ts) (h3: ∀hd H',qE lk H H'->H' lk=some (Bd CL dx a (1+2*hs.length))->Ga H' hd hs->Q (.ref hd) H'):QV CL vs H Q E
inductive ND (CL:i4) (vs:List V) (H:Hp) (Q:VK) (E:XK):Prop
 |mk (lk dx a:i4) (p:Nat) (ns:List Int) (hd:i4) (hs:Ev) (boxes k:Int) (own:List Int) (h0:vs=[.ref lk,.int k,.ref hd,.int boxes]) (h1:Looks CL H lk dx a p ns) (h2:Ga H hd hs) (h3:Bn hs boxes k own) (h4:Sub ns p own) (h5: ∀t H',qE lk H H'->H' lk=some (Bd CL dx a (p+own.length))->H' t=some (.tup (own.map V.int))->Q (.ref t) H'):ND CL vs H Q E
inductive JE (CL:i4) (d:Nat) (vs:List V) (H:Hp) (Q:VK) (E:XK):Prop
 |mk (lk dx a:i4) (p:Nat) (ns:List Int) (hd:i4) (hs:Ev) (boxes:Int) (t:Tr) (h0:vs=[.ref lk,.ref hd,.int boxes,.int (11-(d:Int))]) (h1:Looks CL H lk dx a p ns) (h2:Ga H hd hs) (h3:XB hs) (h4:wW hs boxes d t) (h5:Sub ns p (jR t)) (h6:d<=10) (h7: ∀v H',qE lk H H'->H' lk=some (Bd CL dx a (p+(jR t).length))->jW H' d v (SN p t)->Q v H'):JE CL d vs H Q E
inductive HW (vs:List V) (H:Hp) (Q:VK) (E:XK):Prop
 |mk (a:i4) (ns:List Int) (r:Ev×List Nd) (h0:vs=[.ref a]) (h1:H a=some (.lst (ns.map V.int))) (h2:Shr ns r) (h3: ∀l H',xJ H H'->H l=none->Jx H' l r->Q (.ref l) H'):HW vs H Q E
set_option hygiene false in
local macro_rules|`(tactic|exists $x)=>`(tactic|refine F.oN $x λcdv A outer s H vs Q E hr h=>?_)
local macro_rules|`(tactic|exists _,$x)=>`(tactic|(refine⟨_,$x,?_⟩;try dsimp only[Cx.nox,Cx.exc,Cx.wish,xG]))
theorem Wh (T:Jw K mg aP CL)(F:qT K "__init__" "Look.__init__" Dx f fd):vO P w K mg base 1 f fd ["self","numbers"] (NI CL):=by
 exists JQ;obtain⟨x,dx,a,rfl,hx,q⟩:=h;exists _,(zC (FT (pv 0) (pv 1) rfl)
   (zL (FT (pv 0) zI rfl)))
 refine#[-2,x,CL,dx,-1,hx,T.look,T.lnum,(show 0<1000 by decide),?_];refine#[-1,x,CL,dx,-1,upd_same,T.look,T.lplace,(show 1<1000 by decide),?_];refine q _ (λb o nb e=>?_) upd_same;rw[yJ nb,yJ nb];exact e
theorem Wa (T:Jw K mg aP CL)(F:qT K "is_whole" "is_whole" FP f fd):vO P w K mg base 1 f fd ["thing"] Hj:=by
 exists Kl;obtain⟨i,rfl,q⟩:=h;exists _,(zL (zT (An (xK En rfl T.n_isinstance wL (zA (pv 0) (zA (BH (v:=.ty "int") rfl T.n_int Sa rfl) zB))) (BE (VQ (xK En rfl T.n_isinstance wL (zA (pv 0) (zA (BH (v:=.ty "bool") rfl T.n_bool Tq rfl) zB))))))))
 refine#[-1,.inl #[_,_,_,true,rfl,.int i,T.kint,-1,jI ?_]];exact#[-1,.inl #[_,_,_,false,rfl,.int i,T.kbool,-1,q]]
theorem zDa (T:Jw K mg aP CL)(F:qT K "take" "Look.take" GO f fd)(Cy:jY P w K mg base 1 "is_whole" ["thing"] Hj):vO P w K mg base 3 f fd ["self"] (Sz CL):=by
 exists IT;obtain⟨lk,dx,a,p,ns,n,rfl,⟨hl,ha⟩,ep,q⟩:=h;exists _,(zC (xD (zX HL (jJ (pv 0) rfl) (xK xA rfl T.n_len kO (zA (jJ (pv 0) rfl) zB)) (yG _)) (zL Ba) yD)
   (zC (yP 1 IT.nd (yZ jB (jJ (pv 0) rfl) (jJ (pv 0) rfl) (λ_ _=>rfl)))
   (zC (xD (qN (kR (zH Cy hr rfl (zA (pv 1) zB) zV))) (zL Ba) yD)
   (zC (TX (pv 0) zI zAz)
   (zL (zT (pv 1)))))))
 have hp:=(List.getElem?_eq_some_iff.mp ep).1;have hz:(ns.map V.int).length =ns.length:=zG ..;refine#[-1,lk,CL,dx,_,-1,hl,T.look,T.lplace,rfl,-1,lk,CL,dx,_,-1,hl,T.look,T.lnum,rfl,a,-1,.inl (.of ha),_,-1,rfl,-1,?_];rw[show decide (((ns.map V.int).length:Int)<=(p:Int))=false from zR ()];refine jE #[-1,lk,CL,dx,_,-1,hl,T.look,T.lnum,rfl,-1,lk,CL,dx,_,-1,hl,T.look,T.lplace,rfl,a,_,_,-1,rfl,.of ha,kK (by rw[zW,ep];rfl),?_];refine#[-1,n,rfl,-1,jE ?_];exact#[-1,lk,CL,dx,_,-1,hl,T.look,T.lplace,rfl,_,-1,rfl,dx,_,hl,(show 2<1000 by decide),-1,q]
theorem Ud (T:Jw K mg aP CL)(F:qT K "take_within" "Look.take_within" Bm f fd)(Mtake:MH P w K mg base (Hh P w) 3 CL "take" ["self"] (Sz CL)):vO P w K mg base 4 f fd ["self","least","most"] (JA CL):=by
 exists AU;obtain⟨lk,dx,a,p,ns,lo,hi,n,rfl,⟨hl,ha⟩,ep,n0,n1,q⟩:=h;exists _,(zC (yP 3 AU.nd (jJ (pv 0) rfl))
   (zC (yP 4 AU.nd (MW (pv 0) Mtake hr zV))
   (zC (xD (PW.pt (qY (zX Aw (pv 4) (pv 1) (yG _)) (kW (zX Kr (pv 4) (pv 2) (yG _))))) (zL Ba) yD)
   (zL (zT (pv 4))))))
 refine#[-1,lk,CL,dx,_,-1,hl,T.look,T.lplace,rfl,?_];refine#[-1,lk,dx,-1,hl,rfl,lk,dx,a,p,ns,n,rfl,#[hl,ha],ep,?_];refine#[-2,_,-1,rfl,-1,?_];rw[show decide (n<lo)=false from zR ()];refine jE #[-2,_,-1,rfl,-1,?_];rw[show decide (hi<n)=false from zR ()];exact jE #[-1,q]
theorem Wj (T:Jw K mg aP CL)(F:qT K "take_heads" "take_heads" FI f fd)(o4:MH P w K mg base (Hh P w) 4 CL "take_within" ["self","least","most"] (JA CL)):vO P w K mg base 5 f fd ["look"] (QV CL):=by
 exists Ah;obtain⟨lk,dx,a,ns,hs,ts,rfl,⟨hl,ha⟩,S,q⟩:=h;exists _,(zC (yP 1 Ah.nd (xF zB))
   (zC (yP 2 Ah.nd zI)
   (zC (qS yY rfl (Aj rfl T.n_range (zA (CY (pv 0) o4 hr (zA zI (zA (yH rfl T.m_MOST_FUNCTIONS) zB)) zV) zB)) (zY 3 Ah.nd) (zC (yP 4 Ah.nd (CY (pv 0) o4 hr (zA zI (zA (pv 2) zB)) zV))
   (zC (kG (Bb yR yX yW kT (pv 1) (zA (xO (zA (pv 4) (zA (CY (pv 0) o4 hr (zA (pv 4) (zA (yH rfl T.m_MOST_BOXES) zB)) zV) zB))) zB)))
   (zL (yP 2 Ah.nd (yH rfl T.m_MOST_PARAMS))))))
   (zL (zT (pv 1))))))
 refine#[zz0,λhd hhd=>?_];have nlh:lk≠hd:=yQ hl hhd;have k1:qE lk H (upd H hd (.lst [])):=qE.new _ hhd;have l1:Looks CL (upd H hd (.lst [])) lk dx a 0 ns:=Looks.go #[hl,ha] k1 (by rw[yJ nlh];exact hl);have g1:=S.good.lo;have g16:=S.good.hi;refine#[-1,lk,dx,-1,l1.1,rfl,lk,dx,a,0,ns,1,16,hs.length,rfl,l1,S.n0,(),(),?_];refine#[-1,(),(),AN (lo:=0) (n:=hs.length) (λi U' H'=> ∃(rs:a6 V) (most:Int) (v3 v4:i5 V),U'=[some (.ref lk),some (.ref hd),some (.int most),v3,v4]/\(i≠0->most=4)/\0<=most/\qE lk H H'/\H' lk=some (Bd CL dx a (1+2*i))/\H' hd=some (.lst rs)/\Paired (Ki H') rs (hs.take i)) #[[],0,_,-1,λz=>absurd rfl z,by decide,k1.trans qE.upd,upd_same,?_,.nil] ?_ ?_]
 ·rw[yJ (Ne.symm nlh)];exact upd_same
 ·rintro i U' H' hi ⟨rs,most,v3,v4,rfl,hm,m0,kp,el,eh',pr⟩;obtain⟨⟨x,y⟩,hx⟩: ∃h,hs[i]? =some h:=#[_,zF hi];obtain⟨ex,ey⟩:=S.hd i _ hx;obtain⟨x0,x4,xy,y12,xz⟩:=S.good.all i _ hx;have L1:Looks CL H' lk dx a (1+2*i) ns:=Looks.go #[hl,ha] kp el;have L2':Looks CL (upd H' lk (Bd CL dx a (1+2*i+1))) lk dx a (1+2*i+1) ns:=L1.go qE.upd upd_same;have eh2:(upd H' lk (Bd CL dx a (1+2*i+1))) hd=some (.lst rs):=by rw[yJ (Ne.symm nlh)];exact eh'
  refine#[-1,lk,dx,-1,el,rfl,-1,lk,dx,a,_,ns,0,most,x,rfl,L1,ex,x0,?_,?_]
  ·show x<=most
   by_cases c:i=0
   ·rw[show x=0 from xz c];exact m0
   ·rw[hm c];exact x4
  refine#[-1,.inl #[rfl,_,.of eh2],-2,lk,dx,-1,upd_same,rfl,-1,lk,dx,a,_,ns,x,12,y,rfl,L2',ey,xy,y12,sm2,λq hq=>?_];generalize hH2:upd (upd H' lk (Bd CL dx a (1+2*i+1))) lk (Bd CL dx a (1+2*i+1+1))=H2 at hq;have k2:qE lk H' H2:=by rw[<-hH2];exact qE.trans qE.upd qE.upd
  have e2:H2 lk=some (Bd CL dx a (1+2*i+1+1)):=by rw[<-hH2];exact upd_same
  have h2:H2 hd=some (.lst rs):=k2 hd _ (Ne.symm nlh) eh';have nq:hd≠q:=yQ h2 hq;have ql:lk≠q:=yQ e2 hq;have h3:upd H2 q (.tup [.int x,.int y]) hd=some (.lst rs):=by rw[yJ nq];exact h2
  have len:=Paired.len pr;rw[xM]at len;refine#[hd,rs,-1,rfl,h3,Fc (),?_];have tp:vN H' (upd (upd H2 q (.tup [.int x,.int y])) hd (.lst (rs++[.ref q]))):=.trans (.keep el k2) (.trans (.new hq) (.upd h3));have tk:hs.take (i+1)=hs.take i++[(x,y)]:=by rw[jU,hx]<;>rfl
  refine#[_,4,_,-1,λ_=>rfl,by decide,(kp.trans (k2.trans (qE.new _ hq))).fresh hhd,?_,upd_same,?_]
  ·rw[yJ nlh,yJ ql];exact e2
  ·rw[tk];exact Do (Paired.imp (λ_ _ z=>z.tups tp) pr) #[q,rfl,by rw[yJ (Ne.symm nq)];exact upd_same]
 ·rintro U' H' ⟨rs,most,v3,v4,rfl,hm,m0,kp,el,eh',pr⟩;rw[jL]at pr;exact#[-1,q hd H' kp el #[rs,eh',pr]]
theorem vt (c:decide (V.int i=V.int j)=true):i=j:=by
 have:=yB c;injection this
theorem vf (c: ¬decide (V.int i=V.int j)=true):i≠j:=λz=>c (zP (qZ V.int z))
theorem VW {hs:Ev}{b k:Int}{own:a6 Int}(h:Bn hs b k own):(k=0\/k=1\/k=2\/k=3\/k=4\/k=6-> ∃n,own=[n]/\(k≠0->0<=n)/\(k=1\/k=2->n<=b-1)/\(k=3->1<=n/\n<=12)/\(k=4->2<=n/\n<=12)/\(k=6->n<=(hs.length:Int)-1))/\(¬(k=0\/k=1\/k=2\/k=3\/k=4\/k=6)->own=[]):=by
 rcases h with⟨h,n,rfl⟩|⟨h,n,rfl,h1,h2⟩|⟨h,n,rfl,h1,h2⟩|⟨h,n,rfl,h1,h2⟩|⟨h,n,rfl,h1,h2⟩|⟨h,rfl⟩
 all_goals first|exact#[λ_=>#[n,rfl,(),(),(),(),()],λz=>()]|exact#[λz=>(),λ_=>rfl]
theorem Yn {hs:Ev}{b k:Int}{own:a6 Int}(k0:0<=k)(k1:k<=19)(h:Bn hs b k own):Xx hs k own:=by
 refine#[k0,k1,λz=>?_];obtain⟨n,e,h0,_,h3,h4,h6⟩:=(VW h).1 ();exact#[n,e,(),(),()]
theorem zAm (T:Jw K mg aP CL)(F:qT K "take_own" "take_own" Ia f fd)(Mtake:MH P w K mg base (Hh P w) 3 CL "take" ["self"] (Sz CL))(o4:MH P w K mg base (Hh P w) 4 CL "take_within" ["self","least","most"] (JA CL)):vO P w K mg base 5 f fd ["look","kind","heads","boxes"] (ND CL):=by
 exists OT;obtain⟨lk,dx,a,p,ns,hd,hs,boxes,k,own,rfl,L1,hh,of,sb,q⟩:=h;exists _,(zC (xD (zX jM (pv 1) (yH rfl T.m_NUMBER) (yG _)) (zL (zT (xO (zA (MW (pv 0) Mtake hr zV) zB)))) yD)
   (zC (xD (PW.pt (qY (zX jM (pv 1) (yH rfl T.m_GET) (yG _)) (kW (zX jM (pv 1) (yH rfl T.m_SET) (yG _))))) (zL (zT (xO (zA (CY (pv 0) o4 hr (zA zI (zA (yK uM (pv 3) zI) zB)) zV) zB)))) yD)
   (zC (xD (zX jM (pv 1) (yH rfl T.m_ALL) (yG _)) (zL (zT (xO (zA (CY (pv 0) o4 hr (zA (yH rfl T.m_LEAST_ALL) (zA (yH rfl T.m_MOST_MANY) zB)) zV) zB)))) yD)
   (zC (xD (zX jM (pv 1) (yH rfl T.m_PICK) (yG _)) (zL (zT (xO (zA (CY (pv 0) o4 hr (zA (yH rfl T.m_LEAST_PICK) (zA (yH rfl T.m_MOST_MANY) zB)) zV) zB)))) yD)
   (zC (xD (zX jM (pv 1) (yH rfl T.m_CALL) (yG _)) (zL (zT (xO (zA (CY (pv 0) o4 hr (zA zI (zA (yK uM (xK xA rfl T.n_len kO (zA (pv 2) zB)) zI) zB)) zV) zB)))) yD)
   (zL (zT (xO zB))))))))
 have hl:=L1.1;obtain⟨o1,o0⟩:=VW of;have fin: ∀n,own=[n]->Vm [.int n] (upd H lk (Bd CL dx a (p+1))) Q:=λn e=>by
  subst e;refine#[sm1,λt ht=>q t _ (qE.trans qE.upd (qE.new _ ht)) ?_ upd_same];rw[yJ (yQ (upd_same (H:=H) (a:=lk) (o:=Bd CL dx a (p+1))) ht)];exact upd_same
 have at_: ∀{n},own=[n]->ns[p]? =some n:=λe=>by rw[e]at sb;exact sb.1
 refine#[-1,rfl,-1,jK (λc=>?_) (λc0=>?_)]
 ·obtain⟨n,e,_⟩:=o1 (.inl (vt c));exact#[-1,lk,dx,-1,hl,rfl,lk,dx,a,p,ns,n,rfl,L1,at_ e,fin n e]
 have n0:=vf c0;refine#[-1,rfl,-1,jK (λc=>jI ?_) (λc1=>?_)]
 ·obtain⟨n,e,h0,h1,_⟩:=o1 (.inr (.inl (vt c)));exact#[-1,lk,dx,-1,hl,rfl,-1,_,-1,rfl,lk,dx,a,p,ns,0,boxes-1,n,rfl,L1,at_ e,h0 n0,h1 (.inl (vt c)),fin n e]
 refine#[-1,rfl,-1,jK (λc=>?_) (λc2=>?_)]
 ·obtain⟨n,e,h0,h1,_⟩:=o1 (.inr (.inr (.inl (vt c))));exact#[-1,lk,dx,-1,hl,rfl,-1,_,-1,rfl,lk,dx,a,p,ns,0,boxes-1,n,rfl,L1,at_ e,h0 n0,h1 (.inr (vt c)),fin n e]
 refine#[-1,rfl,-1,jK (λc=>?_) (λc3=>?_)]
 ·obtain⟨n,e,_,_,h3,_⟩:=o1 (.inr (.inr (.inr (.inl (vt c)))));exact#[-1,lk,dx,-1,hl,rfl,lk,dx,a,p,ns,1,12,n,rfl,L1,at_ e,(h3 (vt c)).1,(h3 (vt c)).2,fin n e]
 refine#[-1,rfl,-1,jK (λc=>?_) (λc4=>?_)]
 ·obtain⟨n,e,_,_,_,h4,_⟩:=o1 (.inr (.inr (.inr (.inr (.inl (vt c))))));exact#[-1,lk,dx,-1,hl,rfl,lk,dx,a,p,ns,2,12,n,rfl,L1,at_ e,(h4 (vt c)).1,(h4 (vt c)).2,fin n e]
 refine#[-1,rfl,-1,jK (λc=>?_) (λc6=>?_)]
 ·obtain⟨rs,eh,pr⟩:=id hh;have ln:rs.length=hs.length:=Paired.len pr;obtain⟨n,e,h0,_,_,_,h6⟩:=o1 (.inr (.inr (.inr (.inr (.inr (vt c))))));exact#[-1,lk,dx,-1,hl,rfl,-1,hd,-1,.inl (.of eh),_,-1,rfl,lk,dx,a,p,ns,0,_,n,rfl,L1,at_ e,h0 n0,by rw[ln];exact h6 (vt c),fin n e]
 ·have e:=o0 (by have:=vf c1;have:=vf c2;have:=vf c3;have:=vf c4;have:=vf c6;lia);subst e;refine#[zz0,λt ht=>q t _ (qE.new _ ht) ?_ upd_same];rw[yJ (yQ hl ht)];exact hl
inductive NC (vs:List V) (H:Hp) (Q:VK) (E:XK):Prop
 |mk (k:Nat) (v:Int) (h0:vs=[.int (7+(k:Int))]) (h1:partsN[k]? =some v) (h2:Q (.int v) H):NC vs H Q E
theorem Wc (T:Jw K mg aP CL)(F:qT K "parts_of" "parts_of" Ic f fd):vO P w K mg base 1 f fd ["kind"] NC:=by
 exists OV;obtain⟨k,v,rfl,hk,q⟩:=h;exists _,(zL (zT (yZ xL (Yk rfl T.m_PARTS) (yK uM (pv 0) (yH rfl T.m_FAIL)) (λ_ _=>rfl))))
 refine#[-1,_,-1,rfl,aP,_,_,-1,rfl,T.parts _,?_,q];rw[show(7:Int)+(k:Int)-7=(k:Int)by lia];exact kK (by rw[zW,hk];rfl)
theorem zAo (T:Jw K mg aP CL)(F:qT K "parts_due" "parts_due" GC f fd)(Ce6:jY P w K mg base 1 "parts_of" ["kind"] NC):
  vO P w K mg base 2 f fd ["kind","numbers","heads"] SE:=by
 exists NR;obtain⟨k,t,own,hd,hs,rfl,ht,⟨rs,eh,pr⟩,⟨h0,h1,hk⟩,q⟩:=h;exists _,(zC (xD (PW.pt (qY (zX jM (pv 0) (yH rfl T.m_NUMBER) (yG _)) (kW (zX jM (pv 0) (yH rfl T.m_GET) (yG _))))) (zL (zT zI)) yD)
   (zC (xD (zX jM (pv 0) (yH rfl T.m_SET) (yG _)) (zL (zT zI)) yD)
   (zC (xD (zX jM (pv 0) (yH rfl T.m_ALL) (yG _)) (zL (zT (yZ xL (pv 1) zI (λ_ _=>rfl)))) yD)
   (zC (xD (zX jM (pv 0) (yH rfl T.m_PICK) (yG _)) (zL (zT (yK jF zI (yZ xL (pv 1) zI (λ_ _=>rfl))))) yD)
   (zC (xD (zX jM (pv 0) (yH rfl T.m_LOOP) (yG _)) (zL (zT zI)) yD)
   (zC (xD (zX jM (pv 0) (yH rfl T.m_CALL) (yG _)) (zL (zT (yZ xL (yZ jB (pv 2) (yZ xL (pv 1) zI (λ_ _=>rfl)) (λ_ _=>rfl)) zI (λ_ _=>rfl)))) yD)
   (zL (zT (zH Ce6 hr rfl (zA (pv 0) zB) zV)))))))))
 have due0:k=0\/k=1->Fk hs k own=0:=λz=>zQ z;refine#[-1,rfl,-1,jK (λc=>jI ?_) (λc0=>?_)]
 ·rw[due0 (.inl (vt c))]at q;exact q
 refine#[-1,rfl,-1,jK (λc=>?_) (λc1=>?_)]
 ·rw[due0 (.inr (vt c))]at q;exact q
 have n01: ¬(k=0\/k=1):=λz=>z.elim (vf c0) (vf c1);unfold Fk at q;rw[zN n01]at q;refine#[-1,rfl,-1,jK (λc=>?_) (λc2=>?_)]
 ·rw[zQ (vt c)]at q;exact q
 rw[zN (vf c2)]at q;refine#[-1,rfl,-1,jK (λc=>?_) (λc3=>?_)]
 ·rw[zQ (vt c)]at q;obtain⟨n,rfl,_⟩:=hk (.inl (vt c));exact#[-1,t,_,_,-1,rfl,.of ht,rfl,q]
 rw[zN (vf c3)]at q;refine#[-1,rfl,-1,jK (λc=>?_) (λc4=>?_)]
 ·rw[zQ (vt c)]at q;obtain⟨n,rfl,_⟩:=hk (.inr (.inl (vt c)));exact#[-1,t,_,_,-1,rfl,.of ht,rfl,_,-1,rfl,q]
 rw[zN (vf c4)]at q;refine#[-1,rfl,-1,jK (λc=>?_) (λc5=>?_)]
 ·rw[zQ (vt c)]at q;exact q
 rw[zN (vf c5)]at q;refine#[-1,rfl,-1,jK (λc=>?_) (λc6=>?_)]
 ·rw[zQ (vt c)]at q;obtain⟨n,rfl,n0,n1,_⟩:=hk (.inr (.inr (vt c)));have hn:n.toNat<hs.length:=by have:=n1 (vt c);lia
  have ln:rs.length=hs.length:=Paired.len pr;have e1:hs[n.toNat]? =some hs[n.toNat]:=zF hn;have e2:rs[n.toNat]? =some rs[n.toNat]:=zF ();obtain⟨tt,er,et⟩:=Paired.get pr _ _ _ e2 e1;have av:IF rs n=some (.ref tt):=by
   have:=kK (xs:=rs) e2;rw[show((n.toNat:Nat):Int)=n by lia,er]at this;exact this
  refine#[-2,t,_,_,-1,rfl,.of ht,rfl,hd,rs,n,-1,rfl,.of eh,av,tt,_,_,-1,rfl,.of et,rfl,?_];have:(hs.getD ([n].headD 0).toNat (0,0)).1=hs[n.toNat].1:=by
   show(hs.getD n.toNat (0,0)).1=_;rw[yU,e1];rfl
  rw[this]at q;exact q
 ·rw[zN (vf c6)]at q;have n0:=vf c0;have n1:=vf c1;have n2:=vf c2;have n3:=vf c3;have n4:=vf c4;have n5:=vf c5;have n6:=vf c6;have hk7:(k-7).toNat <13:=()
  have e1:partsN[(k-7).toNat]? =some (partsN.getD (k-7).toNat 0):=by
   rw[yU,zF (by exact hk7)];rfl
  exact#[-1,(k-7).toNat,_,(by rw[show(7:Int)+((k-7).toNat:Int)=k by lia];rfl),e1,q]
def ZS (CL:i4):Nat->Sp
 |0=>λ_ _ _ _=>False
 |d+1=>JE CL d
theorem SS (d:Nat)(T:Jw K mg aP CL)(F:qT K "take_node" "take_node" EE f fd)(o4:MH P w K mg base (Hh P w) 4 CL "take_within" ["self","least","most"] (JA CL))
  (Ca0:jY P w K mg base 5 "take_own" ["look","kind","heads","boxes"] (ND CL)) (Cz:jY P w K mg base 2 "parts_due" ["kind","numbers","heads"] SE)
  (Ca2:jY P w K mg base (5+d) "take_node" ["look","heads","boxes","deep"] (ZS CL d)):vO P w K mg base (5+d+1) f fd ["look","heads","boxes","deep"] (JE CL d):=by
 exists AJ;obtain⟨lk,dx,a,p,ns,hd,hs,boxes,⟨k,own,ts⟩,rfl,L1,hh,ho,ft,sb,d10,q⟩:=h;exists _,(zC (yP 4 AJ.nd (jJ (pv 0) rfl))
   (zC (xD (zX Kr (pv 3) (yH rfl T.m_MOST_DEEP) (yG _)) (zL Ba) yD)
   (zC (yP 5 AJ.nd (CY (pv 0) o4 hr (zA (yH rfl T.m_NUMBER) (zA (yH rfl T.m_NEW) zB)) zV))
   (zC (yP 6 AJ.nd (zH Ca0 hr rfl (zA (pv 0) (zA (pv 5) (zA (pv 1) (zA (pv 2) zB)))) zV))
   (zC (yP 7 AJ.nd (xF zB))
   (zC (qS yY rfl (Aj rfl T.n_range (zA (zH Cz hr rfl (zA (pv 5) (zA (pv 6) (zA (pv 1) zB))) zV) zB)) (zY 8 AJ.nd) (zL (kG (Bb yR yX yW kT (pv 7) (zA (zH Ca2 hr rfl (zA (pv 0) (zA (pv 1) (zA (pv 2) (zA (yK jF (pv 3) zI) zB)))) zV) zB)))))
   (zL (zT (xO (zA (pv 5) (zA (pv 4) (zA (pv 6) (zA (Fe HN rfl T.n_tuple Hc (zA (pv 7) zB)) zB)))))))))))))
 have hl:=L1.1;cases d with
 |zero=>unfold wW at ft;exact ft.elim
 |succ d=>
 unfold wW at ft;obtain⟨k0,k19,of,n8,_,fts⟩:=ft;have en:jR (.mk k own ts)=(k::own)++xX ts:=by rw[jR]<;>rfl
 rw[en]at sb q;obtain⟨⟨ek,so⟩,sp⟩:=Sub.append (xs:=k::own) sb;refine#[-1,lk,CL,dx,_,-1,hl,T.look,T.lplace,rfl,?_];refine#[-1,_,-1,rfl,-1,?_];rw[show decide ((10:Int)<11-((d+1:Nat):Int))=false from zR ()];refine jE #[-1,lk,dx,-1,hl,rfl,lk,dx,a,p,ns,0,19,k,rfl,L1,ek,k0,k19,?_];have ka:qE lk H (upd H lk (Bd CL dx a (p+1))):=qE.upd;have La:=L1.go ka upd_same;refine#[-4,lk,dx,a,p+1,ns,hd,hs,boxes,k,own,rfl,La,hh.keep hl ka,of,so,λt H2 k2 el2 et2=>?_];have oo:=Yn k0 k19 of;have kb:=ka.trans k2;refine#[zz0,λps hps=>?_];have g3:=zM hps (.lst []);have nps:lk≠ps:=yQ el2 hps;have ntp:t≠ps:=yQ et2 hps;have kc:qE lk H (upd H2 ps (.lst [])):=kb.trans (qE.same g3);have elc:=g3 _ _ el2;obtain⟨j0,j13⟩:=zBd oo ho;generalize hN:Fk hs k own=N at j0 j13 n8;have nHp:H ps=none:=by
  cases e:H ps with
  |none=>rfl
  |some o=>rw[kb ps o (Ne.symm nps) e]at hps;cases hps
 refine#[-3,k,t,own,hd,hs,rfl,g3 _ _ et2,hh.keep hl kc,oo,N,by rw[hN],(),(),?_];have sp:Sub ns (p+1+own.length) (xX ts):=by rw[show p+1+own.length=p+(k::own).length by simp;lia];exact sp
 have eq0:((k::own)++xX ts).length =1+own.length+(xX ts).length:=by simp;lia
 refine AN (lo:=0) (n:=N.toNat) (λi U' H'=> ∃(done:a6 Nd) (vs:a6 V) (p':Nat) (v8:i5 V),U'=[some (.ref lk),some (.ref hd),some (.int boxes),some (.int (11-((d+1:Nat):Int))),some (.int (p:Int)),some (.int k),some (.ref t),some (.ref ps),v8]/\done.length=i/\qE lk H H'/\H' lk=some (Bd CL dx a p')/\H' t=some (.tup (own.map V.int))/\H' ps=some (.lst vs)/\Paired (jW H' d) vs done/\Sub ns p' (xX (ts.drop i))/\done++Jz p' (ts.drop i)=Jz (p+1+own.length) ts/\p'+(xX (ts.drop i)).length =p+1+own.length+(xX ts).length)
   #[[],[],_,-1,rfl,kc,elc,g3 _ _ et2,upd_same,.nil,sp,rfl,rfl] ?_ ?_
 ·rintro i U' H' hi ⟨done,vs,p',v8,rfl,hn,kp,el,et,ep,pr,s1,e1,e2⟩;obtain⟨tr,htr⟩: ∃tr,ts[i]? =some tr:=#[_,zF ()];have dr:ts.drop i=tr::ts.drop (i+1):=by
   obtain⟨hj,ej⟩:=List.getElem?_eq_some_iff.mp htr;rw[yS hj,ej]
  rw[dr,xX]at s1 e2;rw[dr,Jz]at e1;obtain⟨s1,s2⟩:=Sub.append s1;rw[zE]at e2;have L2':Looks CL H' lk dx a p' ns:=L1.go kp el;have ed:(11-((d+1:Nat):Int))+1=11-(d:Int):=()
  refine#[-1,.inl #[rfl,_,.of ep],-4,_,-1,rfl,lk,dx,a,p',ns,hd,hs,boxes,tr,qZ (λz=>[V.ref lk,V.ref hd,V.int boxes,V.int z]) ed,L2',hh.keep hl kp,ho,qV.mem fts (xB htr),s1,(),λv H3 k3 el3 nv=>?_];have ep3:H3 ps=some (.lst vs):=k3 ps _ (Ne.symm nps) ep;have len:vs.length<=13:=by have:=Paired.len pr;lia
  refine#[ps,vs,-1,rfl,ep3,Fc (),?_];have tp:vN H' (upd H3 ps (.lst (vs++[v]))):=.trans (.keep el k3) (.upd ep3);have ntl:t≠lk:=λz=>by rw[z,el]at et;cases et
  refine#[done++[SN p' tr],_,p'+(jR tr).length,-1,by simp[hn],(kp.trans k3).fresh nHp,?_,?_,upd_same,Do (Paired.imp (λ_ _ z=>z.tups tp) pr) (nv.tups (.upd ep3)),s2,by rw[<-e1,yN];rfl,()]
  ·rw[yJ nps];exact el3
  ·rw[yJ ntp];exact k3 t _ ntl et
 ·rintro U' H' ⟨done,vs,p',v8,rfl,hn,kp,el,et,ep,pr,s1,e1,e2⟩;have dn:ts.drop N.toNat=[]:=kL ();rw[dn,Jz,xI]at e1;rw[dn,xX,Af,Nat.add_zero]at e2;refine#[-4,ps,vs,rfl,.inl #[.of ep,λq' hq=>?_]];refine#[sm4,λu hu=>?_];have s1:=zM hq (.tup vs);have s2:=zM hu (.tup [.int k,.int (p:Int),.ref t,.ref q']);refine q (.ref u) _ (kp.trans (qE.same (s1.trans s2))) ?_ ?_
  ·rw[eq0,show p+(1+own.length+(xX ts).length)=p' by lia];exact s2 _ _ (s1 _ _ el)
  ·rw[SN,<-e1];exact#[u,t,q',vs,rfl,upd_same,s2 _ _ (s1 _ _ et),s2 _ _ upd_same,Paired.imp (λ_ _ z=>z.tups (.same (s1.trans s2))) pr]
theorem Wd (T:Jw K mg aP CL)(F:qT K "take_node" "take_node" EE f fd)(o4:MH P w K mg base (Hh P w) 4 CL "take_within" ["self","least","most"] (JA CL))
  (Ca0:jY P w K mg base 5 "take_own" ["look","kind","heads","boxes"] (ND CL)) (Cz:jY P w K mg base 2 "parts_due" ["kind","numbers","heads"] SE)
  (hm:mg "take_node"=some (.ref f)) (hk:PySem.W.keepIn K (.ref f)=true) (hb:uG K fd ["look","heads","boxes","deep"] []): ∀d,vO P w K mg base (5+d+1) f fd ["look","heads","boxes","deep"] (JE CL d):=by
 intro d
 induction d with
 |zero=>exact SS 0 T F o4 Ca0 Cz #[#[_,_,Xe,hm,hk,hb]]
 |succ d ih=>exact SS (d+1) T F o4 Ca0 Cz #[#[_,_,ih,hm,hk,hb]]
theorem zAn (T:Jw K mg aP CL)(F:qT K "functions" "functions" GG f fd)(Cf9:QD P w K mg base (Hh P w) 1 "Look" CL ["self","numbers"] (NI CL))
  (Cd2:jY P w K mg base 5 "take_heads" ["look"] (QV CL)) (Ca2:jY P w K mg base 16 "take_node" ["look","heads","boxes","deep"] (JE CL 10)):
  vO P w K mg base 17 f fd ["sheet"] HW:=by
 exists AL;obtain⟨a,ns,⟨hs,nds⟩,rfl,ha,⟨ts,S,en⟩,q⟩:=h;have S:Shw ns hs ts:=S;have en:nds=Jz (1+2*hs.length) ts:=en;exists _,(zC (yP 1 AL.nd (Pn Cf9 hr rfl (zA (pv 0) zB) zV))
   (zC (yP 2 AL.nd (zH Cd2 hr rfl (zA (pv 1) zB) zV))
   (zC (yP 3 AL.nd (xF zB))
   (zC (qS yY rfl (vK (pv 2)) (qO rfl (yF (zY 4 AL.nd) (yF (zY 5 AL.nd) jS))) (zL (kG (Bb yR yX yW kT (pv 3) (zA (xO (zA (pv 4) (zA (pv 5) (zA (zH Ca2 hr rfl (zA (pv 1) (zA (pv 2) (zA (pv 5) (zA zI zB)))) zV) zB)))) zB)))))
   (zC (xD (zX Aw (jJ (pv 1) rfl) (xK xA rfl T.n_len kO (zA (pv 0) zB)) (yG _)) (zL Ba) yD)
   (zL (zT (pv 3))))))))
 refine#[-1,λlk dx hlk hdx ndx=>#[lk,dx,a,rfl,upd_same,λH1 k1 el1=>#[rfl,?_]]];have nla:a≠lk:=yQ ha hlk;have same0: ∀{H':Hp},qE lk (upd (upd H dx (.own lk)) lk (.ins CL dx [])) H'->xJ H H':=fun{H'} k b o e=>by
  refine k b o (yQ e hlk) ?_;rw[yJ (yQ e hlk),yJ (yQ e hdx)];exact e
 have L1:Looks CL H1 lk dx a 0 ns:=#[el1,same0 k1 _ _ ha];refine#[-1,lk,dx,a,ns,hs,ts,rfl,L1,S,λhd H2 k2 el2 hh=>?_];have l16:=S.good.hi;have ltl:=S.ln;refine#[zz0,λtl htl=>?_];have g3:=zM htl (.lst []);have nlt:lk≠tl:=yQ el2 htl;have kc:qE lk H1 (upd H2 tl (.lst [])):=k2.trans (qE.same g3);obtain⟨rs,ehd,pr⟩:=id hh;have nht:hd≠tl:=yQ ehd htl;have nhl:hd≠lk:=λz=>by rw[z,el2]at ehd;cases ehd
 have lr:rs.length=hs.length:=Paired.len pr;have nHt:H1 tl=none:=by
  cases e:H1 tl with
  |none=>rfl
  |some o=>rw[k2 tl o (Ne.symm nlt) e]at htl;cases htl
 have nH0:H tl=none:=(same0 k1).free nHt;refine#[-1,hd,rfl,#[rs,.of (g3 _ _ ehd)],Dh (xs:=rs) (λi U' H'=> ∃(done:a6 Nd) (vs:a6 V) (p':Nat) (v4 v5:i5 V),U'=[some (.ref a),some (.ref lk),some (.ref hd),some (.ref tl),v4,v5]/\i<=rs.length/\done.length=i/\qE lk H1 H'/\H' lk=some (Bd CL dx a p')/\H' hd=some (.lst rs)/\Paired (Ki H') rs hs/\H' tl=some (.lst vs)/\Paired (US H') vs ((hs.take i).zip done)/\Sub ns p' (xX (ts.drop i))/\done++Jz p' (ts.drop i)=nds/\p'+(xX (ts.drop i)).length =ns.length)
   #[[],[],_,_,-1,xE _,rfl,kc,g3 _ _ el2,g3 _ _ ehd,Paired.imp (λ_ _ z=>z.tups (.same g3)) pr,upd_same,.nil,S.sb,en.symm,S.en.symm] ?_ ?_ ?_]
 ·rintro i U' H' _ ⟨done,vs,p',v4,v5,rfl,hi,hn,kp,el,eh',_⟩;exact .of eh'
 ·rintro i x U' H' hx ⟨done,vs,p',v4,v5,rfl,_,hn,kp,el,eh',pr',et,pf,s1,e1,e2⟩;have hi:i<rs.length:=(List.getElem?_eq_some_iff.mp hx).1;obtain⟨hx1,e1',u,rfl,eu⟩:=Paired.yonder pr' hx;obtain⟨tr,htr⟩: ∃tr,ts[i]? =some tr:=#[_,zF ()];have dr:ts.drop i=tr::ts.drop (i+1):=by
   obtain⟨hj,ej⟩:=List.getElem?_eq_some_iff.mp htr;rw[yS hj,ej]
  rw[dr,xX]at s1 e2;rw[dr,Jz]at e1;obtain⟨s1,s2⟩:=Sub.append s1;rw[zE]at e2;have tk:hs.take (i+1)=hs.take i++[hx1]:=by rw[jU,e1']<;>rfl
  refine#[u,-1,.of eu,rfl,_,-1,_,-1,rfl,?_];have L2':Looks CL H' lk dx a p' ns:=L1.go kp el;refine#[-1,.inl #[rfl,_,.of et],-5,lk,dx,a,p',ns,hd,hs,hx1.2,tr,rfl,L2',#[rs,eh',pr'],S.good.ok,S.fit i _ _ e1' htr,s1,zO _,λv H3 k3 el3 nv=>?_];refine#[sm3,λq hq=>?_];have s3:=zM hq (.tup [.int hx1.1,.int hx1.2,v]);have et3:=s3 _ _ (k3 tl _ (Ne.symm nlt) et);have len:=Paired.len pf;rw[kD,xM]at len;refine#[tl,vs,-1,rfl,et3,Fc (),?_];have tq:vN H3 (upd (upd H3 q (.tup [.int hx1.1,.int hx1.2,v])) tl (.lst (vs++[.ref q]))):=.trans (.same s3) (.upd et3);have tp:=vN.trans (.keep el k3) tq;have ntq:tl≠q:=yQ (k3 tl _ (Ne.symm nlt) et) hq;refine#[done++[SN p' tr],_,p'+(jR tr).length,_,-1,hi,by simp[hn],(kp.trans (k3.trans (qE.same s3))).fresh nHt,?_,?_,Paired.imp (λ_ _ z=>z.tups tp) pr',upd_same,?_,s2,by rw[<-e1,yN];rfl,()]
  ·rw[yJ nlt];exact s3 _ _ el3
  ·rw[yJ nht];exact s3 _ _ (k3 hd _ nhl eh')
  ·rw[tk,List.zip_append (by rw[xM];lia)];exact Do (Paired.imp (λ_ _ z=>z.tups tp) pf) #[q,v,rfl,by rw[yJ (Ne.symm ntq)];exact upd_same,nv.tups tq]
 ·rintro U' H' ⟨done,vs,p',v4,v5,rfl,_,hn,kp,el,eh',pr',et,pf,s1,e1,e2⟩;have dn:ts.drop rs.length=[]:=kL ();rw[dn,Jz,xI]at e1;rw[dn,xX,Af,Nat.add_zero]at e2;have ea:H' a=some (.lst (ns.map V.int)):=kp a _ nla L1.2;have hz:(ns.map V.int).length =ns.length:=zG ..;refine#[-1,lk,CL,dx,_,-1,el,T.look,T.lplace,rfl,-1,a,-1,.inl (.of ea),_,-1,rfl,-1,?_];rw[show decide ((p':Int)<((ns.map V.int).length:Int))=false from zR ()];subst e1;refine jE #[-1,q tl H' (same0 (k1.trans kp)) nH0 #[vs,et,by show hs.length=done.length;lia,?_]];rw[lr,jL]at pf;exact pf
theorem Ug (T:Gk K mg)(F:qT K "is_whole" "is_whole" FP f fd):vO P w K mg base 1 f fd ["thing"] Hj:=by
 exists Kl;obtain⟨i,rfl,q⟩:=h;exists _,(zL (zT (An (xK En rfl T.n_isinstance wL (zA (pv 0) (zA (BH (v:=.ty "int") rfl T.n_int Sa rfl) zB))) (BE (VQ (xK En rfl T.n_isinstance wL (zA (pv 0) (zA (BH (v:=.ty "bool") rfl T.n_bool Tq rfl) zB))))))))
 refine#[-1,.inl #[_,_,_,true,rfl,.int i,T.kint,-1,jI ?_]];exact#[-1,.inl #[_,_,_,false,rfl,.int i,T.kbool,-1,q]]
theorem Ru (T:Gk K mg)(F:qT K "is_head" "is_head" JU f fd):vO P w K mg base 1 f fd ["head","function","many_rows"] Li:=by
 exists Ec;obtain⟨t,s,p,b,fn,nr,rfl,ht,q⟩:=h;exists _,(zC (wS (pv 0) (qO rfl (yF (zY 3 Ec.nd) (yF (zY 4 Ec.nd) (yF (zY 5 Ec.nd) jS)))))
   (zC (xD (PW.pt (qY (zX Aw (pv 3) zI (yG _)) (kW (zX HL (pv 3) (pv 2) (yG _))))) (zL (zT qI)) yD)
   (zC (yP 6 Ec.nd (Jc (zX jM (pv 1) zI (yG _)) zI (yH rfl T.m_MOST_PARAMS)))
   (zL (zT (An (BF DN DN zI (pv 4) (pv 6)) (BE (BF DN DN (pv 4) (pv 5) (yH rfl T.m_MOST_BOXES)))))))))
 refine#[-1,t,-1,Ax.of ht,rfl,_,-1,_,-1,_,-1,rfl,?_];have no: ∀{z:Prop},z->(z-> ¬IA s p b fn nr)->Q (.bl false) H:=λc g=>q false #[λe=>(nomatch e),λe=>absurd e (g c)];refine#[-1,_,-1,rfl,-1,jK (λc=>?_) (λc=>?_)]
 ·exact jI (no (yB c) λc e=>by obtain⟨e,_⟩:=e;lia)
 have c1:=df c;refine#[-2,_,-1,rfl,-1,jK (λc=>?_) (λc=>?_)]
 ·exact no (yB c) λc e=>by obtain⟨_,e,_⟩:=e;lia
 have c2:=df c;refine#[-1,rfl,-1,jK (λc3=>?_) (λc3=>?_)]
 ·have e:=vt c3;dsimp only[tC,wI,Vo,Vr];refine Em 0 p 0 (λR h=>h) (λR h=>#[-1,h]) (λR h=>#[-1,h]) λr z=>#[-1,jK (λc=>?_) (λc=>?_)]
  ·have c':=z.mp c;exact Em p b 12 (λR h=>#[-1,h]) (λR h=>#[-1,h]) (λR h=>h) λr z=>q r (z.trans (by unfold IA;exact#[λh=>#[Int.not_lt.mp c1,Int.not_le.mp c2,c'.1,Int.le_trans c'.2 (by decide),λ_=>Int.le_antisymm c'.2 c'.1,h.1,h.2],λh=>h.2.2.2.2.2]))
  ·exact no (λy=>c (z.mpr y)) λc y=>c (by unfold IA at y;lia)
 ·have e:=vf c3;dsimp only[tC,wI,Vo,Vr];refine Em 0 p 4 (λR h=>h) (λR h=>#[-1,h]) (λR h=>#[-1,h]) λr z=>#[-1,jK (λc=>?_) (λc=>?_)]
  ·have c':=z.mp c;exact Em p b 12 (λR h=>#[-1,h]) (λR h=>#[-1,h]) (λR h=>h) λr z=>q r (z.trans (by unfold IA;exact#[λh=>#[Int.not_lt.mp c1,Int.not_le.mp c2,c'.1,c'.2,λz=>absurd z e,h.1,h.2],λh=>h.2.2.2.2.2]))
  ·exact no (λy=>c (z.mpr y)) λc y=>c (by unfold IA at y;lia)
theorem Wo (T:Gk K mg)(F:qT K "stands_alone" "stands_alone" Eg f fd):vO P w K mg base 1 f fd ["op"] NN:=by
 exists Kx;obtain⟨op,rfl,q⟩:=h;exists _,(zL (zT (uW Ff (pv 0) (xO (zA (yH rfl T.m_OP_DROP) (zA (yH rfl T.m_OP_BACK) (zA (yH rfl T.m_OP_FAIL) (zA (yH rfl T.m_OP_BREATH) zB))))) rfl)))
 refine#[-1,sm4,λu hu=>#[u,-1,.inr (Ax.of upd_same),rfl,rfl,q _ _ (zM hu _) ?_]];have ei:(if false=true then !Zs (.int op) ([3,7,8,9].map V.int)else Zs (.int op) ([3,7,8,9].map V.int))=decide (op∈[(3:Int),7,8,9]):=LW op [3,7,8,9];have em:op∈[(3:Int),7,8,9] ↔ op=3\/op=7\/op=8\/op=9:=by simp
 rw[<-em];exact#[λc=>yB (ei▸c),λc=>ei.trans (zP c)]
theorem Uo (T:Gk K mg)(F:qT K "is_row" "is_row" Lw f fd)(Cc2:jY P w K mg base 1 "stands_alone" ["op"] NN):vO P w K mg base 2 f fd ["row","many_functions","many_rows"] NH:=by
 exists JP;obtain⟨t,op,n,nf,nr,rfl,ht,q⟩:=h;exists _,(zC (wS (pv 0) (qO rfl (yF (zY 3 JP.nd) (yF (zY 4 JP.nd) jS))))
   (zC (xD (zX jM (pv 3) (yH rfl T.m_OP_PUSH) (yG _)) (zL (zT qI)) yD)
   (zC (xD (PW.pt (qY (zX jM (pv 3) (yH rfl T.m_OP_GET) (yG _)) (kW (zX jM (pv 3) (yH rfl T.m_OP_SET) (yG _))))) (zL (zT (BF DN Aw zI (pv 4) (yH rfl T.m_MOST_BOXES)))) yD)
   (zC (xD (PW.pt (qY (zX jM (pv 3) (yH rfl T.m_OP_JUMP) (yG _)) (kW (zX jM (pv 3) (yH rfl T.m_OP_UNLESS) (yG _))))) (zL (zT (BF DN Aw zI (pv 4) (pv 2)))) yD)
   (zC (xD (zX jM (pv 3) (yH rfl T.m_OP_CALL) (yG _)) (zL (zT (BF DN Aw zI (pv 4) (pv 1)))) yD)
   (zC (xD (zX jM (pv 3) (yH rfl T.m_OP_DO) (yG _)) (zL (zT (BF DN DN (yH rfl T.m_ADD) (pv 4) (yH rfl T.m_NEW)))) yD)
   (zC (xD (zX jM (pv 3) (yH rfl T.m_OP_PICK) (yG _)) (zL (zT (BF DN DN (yH rfl T.m_LEAST_PICK) (pv 4) (yH rfl T.m_MOST_MANY)))) yD)
   (zL (zT (An (zH Cc2 hr rfl (zA (pv 3) zB) zV) (BE (uW jM (pv 4) zI (yG _)))))))))))))
 refine#[-1,t,-1,Ax.of ht,rfl,_,-1,_,-1,rfl,?_];have go: ∀(r:i8),(r=true ↔ AE op n nf nr)->Q (.bl r) H:=λr e=>q r H (xJ.refl H) e;refine#[-1,rfl,-1,jK (λc=>?_) (λc=>?_)]
 ·have e:=vt c;exact go true #[λ_=>.inl e,λ_=>rfl]
 have n0:=vf c;refine#[-1,rfl,-1,jK (λc=>jI ?_) (λc=>?_)]
 ·have e:=vt c;exact Fo 0 n 12 (λR h=>h) (λR h=>#[-1,h]) (λR h=>h) λr z=>go r (z.trans (by subst e;simp[AE]))
 have n1:=vf c;refine#[-1,rfl,-1,jK (λc=>?_) (λc=>?_)]
 ·have e:=vt c;exact Fo 0 n 12 (λR h=>h) (λR h=>#[-1,h]) (λR h=>h) λr z=>go r (z.trans (by subst e;simp[AE]))
 have n2:=vf c;refine#[-1,rfl,-1,jK (λc=>jI ?_) (λc=>?_)]
 ·have e:=vt c;exact Fo 0 n nr (λR h=>h) (λR h=>#[-1,h]) (λR h=>#[-1,h]) λr z=>go r (z.trans (by subst e;simp[AE]))
 have n4:=vf c;refine#[-1,rfl,-1,jK (λc=>?_) (λc=>?_)]
 ·have e:=vt c;exact Fo 0 n nr (λR h=>h) (λR h=>#[-1,h]) (λR h=>#[-1,h]) λr z=>go r (z.trans (by subst e;simp[AE]))
 have n5:=vf c;refine#[-1,rfl,-1,jK (λc=>?_) (λc=>?_)]
 ·have e:=vt c;exact Fo 0 n nf (λR h=>h) (λR h=>#[-1,h]) (λR h=>#[-1,h]) λr z=>go r (z.trans (by subst e;simp[AE]))
 have n6:=vf c;refine#[-1,rfl,-1,jK (λc=>?_) (λc=>?_)]
 ·have e:=vt c;exact Em 8 n 19 (λR h=>h) (λR h=>#[-1,h]) (λR h=>h) λr z=>go r (z.trans (by subst e;simp[AE]))
 have n10:=vf c;refine#[-1,rfl,-1,jK (λc=>?_) (λc=>?_)]
 ·have e:=vt c;exact Em 2 n 12 (λR h=>h) (λR h=>#[-1,h]) (λR h=>h) λr z=>go r (z.trans (by subst e;simp[AE]))
 have n11:=vf c;refine#[-1,op,rfl,λr H' g z=>#[-1,?_]];cases r with
 |true=>
  have m:=z.mp rfl;refine jI #[-1,rfl,q _ _ g ?_];rw[Ox,Bp];rcases m with rfl|rfl|rfl|rfl<;>simp[AE]
 |false=>
  have m: ¬(op=3\/op=7\/op=8\/op=9):=λy=>nomatch z.mpr y;refine jE (q _ _ g #[λe=>(nomatch e),λe=>absurd e ?_]);simp[*,AE]
theorem Rx (T:Gk K mg)(F:qT K "grouped" "grouped" Hr f fd):vO P w K mg base 1 f fd ["numbers","size"] Hm:=by
 exists Rb;obtain⟨a,ns,k,rfl,hk,ha,hl,q⟩:=h;exists _,(zL (zT (vB (own:=["at"]) (ys:=["numbers","size"]) rfl (Hw rfl T.n_range (zA zI (zA (xK xA rfl T.n_len kO (zA (pv 0) zB)) (zA (pv 1) zB)))) (kJ (sc:=zS Hr) rfl (by decide+kernel)) (.cons (j:=0) rfl (.cons (j:=1) rfl .nil)) (λ_ _ _ _ _=>(zY 0 (show List.Nodup [("at":Str),("numbers":Str),("size":Str)]from(by decide+kernel)))) (λ_ _ _ _ _=>wN) (λ_ _ _ _ _=>(Fe (Mh K rfl) rfl T.n_tuple Hc (zA (wD (Eb K rfl) (pv 1) (wC (pv 0)) (wC (yK jF (pv 0) (pv 2)))) zB))))))
 have hz:(ns.map V.int).length =ns.length:=zG ..;refine#[-1,a,-1,.inl (kN.of ha),-1,_,_,_,(ns.length+(k-1)) / k,rfl,#[(),(),(),()],(),by rw[hz];exact Mv hk,λp hp=>?_];have hap:a≠p:=λz=>by rw[z,hp]at ha;cases ha
 refine Fm (λi U' H'=> ∃ys,H' p=some (.lst ys)/\i<=(ns.length+(k-1)) / k/\xJ H H'/\Paired (BS H') ys ((Gj k ns).take i)/\ ∃x,U'=[x,some (.ref a),some (.int k)]) #[[],upd_same,xE _,zM hp _,.nil,-1] ?_ ?_
 ·rintro i U' H' hi ⟨ys,hy,_,sm,pr,x,rfl⟩;have ea:(0:Int)+(i:Int)*(k:Int)=((i*k:Nat):Int):=by rw[Int.zero_add,Int.natCast_mul]
  have eb:(0:Int)+(i:Int)*(k:Int)+(k:Int)=((i*k+k:Nat):Int):=by rw[ea,Int.natCast_add]
  have ec:=Qv ns (i*k) (i*k+k);rw[<-ea,<-eb,Bt]at ec;dsimp only[wI,QL];refine jI #[-5,_,-1,rfl,-1,a,-1,kN.of (sm _ _ ha),λl hl1=>?_];rw[ec];refine#[l,-1,.inl #[kN.of upd_same,λl2 hl2=>?_]];have s1:xJ H' (upd (upd H' l (.lst (((ns.drop (i*k)).take k).map V.int))) l2 (.tup (((ns.drop (i*k)).take k).map V.int))):=(zM hl1 _).trans (zM hl2 _);have hy':=s1 _ _ hy;have yl:ys.length<=1000000:=by
   have e1:=Paired.len pr;have e2:=List.length_take_le i (Gj k ns);have e3:(ns.length+(k-1)) / k<=1000000:=by rcases hk with rfl|rfl<;>lia
   lia
  refine#[ys,hy',xR yl (by decide),CW.next hi #[_,upd_same,hi,?_,?_,-1]]
  ·exact(sm.trans s1).fresh hp
  ·rw[WW hi];refine Paired.append (Paired.imp (λ_ _ x=>(x.same s1).upd hy') pr) (.cons ?_ .nil);exact BS.upd #[l2,rfl,upd_same] hy'
 ·rintro U' H' ⟨ys,hy,_,sm,pr,_⟩;have ht:(Gj k ns).take ((ns.length+(k-1)) / k)=Gj k ns:=xW (by unfold Gj;simp);rw[ht]at pr;exact q p H' sm hp #[ys,hy,pr]
theorem PF (T:Gk K mg)(F:qT K "heads_in" "heads_in" Ij f fd)(Cb5:jY P w K mg base 1 "grouped" ["numbers","size"] Hm):vO P w K mg base 2 f fd ["numbers"] Hl:=by
 exists OX;obtain⟨a,ns,rfl,ha,hl,⟨n,ms,e,hn,hn'⟩,q⟩:=h;exists _,(zL (zT (zH Cb5 hr rfl (zA (wD FC (pv 0) (wC zI) (wC (yK jF zI (yK AC (yH rfl T.m_HEAD_SIZE) (yZ jB (pv 0) zI (λ_ _=>rfl)))))) (zA (yH rfl T.m_HEAD_SIZE) zB)) zV)))
 refine#[-3,a,_,_,-1,rfl,kN.of ha,OD e,_,-1,rfl,zAp hn hn',_,-1,rfl,-1,a,-1,kN.of ha,λl hl1=>?_];rw[WU e hn];have hh:(headNums ns).length<=ns.length:=by unfold headNums;simp;lia
 exact#[l,headNums ns,3,rfl,.inr rfl,upd_same,(),λr H' g1 g2 g3=>q r H' ((zM hl1 _).trans g1) ((zM hl1 _).free g2) g3]
theorem Rq (T:Gk K mg)(F:qT K "rows_in" "rows_in" JS f fd)(Cb5:jY P w K mg base 1 "grouped" ["numbers","size"] Hm):vO P w K mg base 2 f fd ["numbers"] IP:=by
 exists QZ;obtain⟨a,ns,rfl,ha,hl,⟨n,ms,e,hn,hn'⟩,q⟩:=h;exists _,(zL (zT (zH Cb5 hr rfl (zA (wD FC (pv 0) (wC (yK jF zI (yK AC (yH rfl T.m_HEAD_SIZE) (yZ jB (pv 0) zI (λ_ _=>rfl))))) Au) (zA (yH rfl T.m_ROW_SIZE) zB)) zV)))
 refine#[-2,a,_,_,-1,rfl,kN.of ha,OD e,_,-1,rfl,zAp hn hn',_,-1,rfl,-1,a,-1,kN.of ha,λl hl1=>?_];rw[XZ e hn];have hh:(rowNums ns).length<=ns.length:=by unfold rowNums;simp
 exact#[l,rowNums ns,2,rfl,.inl rfl,upd_same,(),λr H' g1 g2 g3=>q r H' ((zM hl1 _).trans g1) ((zM hl1 _).free g2) g3]
theorem Uf (T:Gk K mg)(F:qT K "is_list_of_wholes" "is_list_of_wholes" uH f fd)(Cy:jY P w K mg base 1 "is_whole" ["thing"] Hj):vO P w K mg base 2 f fd ["thing"] Lb:=by
 exists GA;obtain⟨a,ns,rfl,ha,hl,q⟩:=h;exists _,(zL (zT (An (xK En rfl T.n_isinstance wL (zA (pv 0) (zA (BH (v:=.ty "list") rfl T.n_list KU rfl) zB))) (BE (xK (Hb rfl) rfl T.n_all Mj (zA (vB (own:=["number"]) (ys:=[]) rfl (vK (pv 0)) (kJ (sc:=zS uH) rfl (by decide+kernel)) .nil (λ_ _ _ _ _=>(zY 0 (show List.Nodup [("number":Str)]from(by decide+kernel)))) (λ_ _ _ _ _=>wN) (λ_ _ _ _ _=>(zH Cy hr rfl (zA (pv 0) zB) zV))) zB))))))
 refine#[-1,.inl #[_,_,_,true,rfl,.lst ha,T.klist,-1,jI ?_]];refine#[-1,a,rfl,#[_,kN.of ha],λp hp=>?_];refine AD (xs:=ns.map V.int) (λi U' H'=>H'=upd H p (.lst ((List.replicate i true).map V.bl))/\ ∃x,U'=[x]) #[rfl,-1] ?_ ?_ ?_
 ·rintro i U' H' _ ⟨rfl,_⟩;exact kN.of (zM hp _ _ _ ha)
 ·rintro i x U' H' hi hx ⟨rfl,y,rfl⟩;obtain⟨n,rfl⟩: ∃n,x=.int n:=by
   rw[zW]at hx;cases e:ns[i]? with
   |none=>rw[e]at hx;cases hx
   |some n=>rw[e]at hx;cases hx;exact#[n,rfl]
  dsimp only[wI,QL];have hi':i<ns.length:=by rw[zG]at hi;exact hi
  refine jI #[-1,n,rfl,_,upd_same,?_,CW.next hi #[?_,-1]]
  ·rw[zG,qG];exact xP hi' (xH hl (by decide))
  ·have e:(List.replicate i true).map V.bl++[V.bl true]=(List.replicate (i+1) true).map V.bl:=by
    rw[Dr,yV]<;>rfl
   rw[e,KG]
 ·rintro U' H' ⟨rfl,_⟩;refine#[p,-1,kN.of upd_same,?_];have e:(List.replicate (ns.map V.int).length true).all id=true:=by
   rw[vE];intro b hb;rw[(List.mem_replicate.mp hb).2]<;>rfl
  rw[e];exact q _ (zM hp _)
theorem Rw (T:Gk K mg)(F:qT K "is_code" "is_code" Hq f fd)(Ca5:jY P w K mg base 2 "is_list_of_wholes" ["thing"] Lb)(Cb0:jY P w K mg base 2 "heads_in" ["numbers"] Hl)(Cb4:jY P w K mg base 2 "rows_in" ["numbers"] IP)
  (Ce9:jY P w K mg base 1 "is_head" ["head","function","many_rows"] Li) (Cf3:jY P w K mg base 2 "is_row" ["row","many_functions","many_rows"] NH):vO P w K mg base 3 f fd ["thing"] Fb:=by
 exists Ed;obtain⟨a,ns,rfl,ha,hl,q⟩:=h;exists _,(zC (xD (PW.pt (qY (qN (kR (zH Ca5 hr rfl (zA (pv 0) zB) zV))) (kW (zX jM (xK xA rfl T.n_len kO (zA (pv 0) zB)) zI (yG _))))) (zL (zT qI)) yD)
   (zC (xD (PW.pt (qY (zX Aw (yZ jB (pv 0) zI (λ_ _=>rfl)) zI (yG _)) (kW (zX Kr (yZ jB (pv 0) zI (λ_ _=>rfl)) (yH rfl T.m_MOST_FUNCTIONS) (yG _))))) (zL (zT qI)) yD)
   (zC (yP 1 Ed.nd (yK uM (yK uM (xK xA rfl T.n_len kO (zA (pv 0) zB)) zI) (yK AC (yH rfl T.m_HEAD_SIZE) (yZ jB (pv 0) zI (λ_ _=>rfl)))))
   (zC (xD (PW.pt (qY (zX Aw (pv 1) (yH rfl T.m_ROW_SIZE) (yG _)) (kW (zX Gf (yK Iu (pv 1) (yH rfl T.m_ROW_SIZE)) zI (yG _))))) (zL (zT qI)) yD)
   (zC (yP 2 Ed.nd (yK GS (pv 1) (yH rfl T.m_ROW_SIZE)) rfl (Or.inr rfl))
   (zC (qS yY rfl (SO rfl T.n_enumerate (zA (zH Cb0 hr rfl (zA (pv 0) zB) zV) zB)) (qO rfl (yF (zY 3 Ed.nd) (yF (zY 4 Ed.nd) jS))) (zL (xD (qN (kR (zH Ce9 hr rfl (zA (pv 4) (zA (pv 3) (zA (pv 2) zB))) zV))) (zL (zT qI)) yD)))
   (zL (zT (xK (Hb rfl) rfl T.n_all Mj (zA (vB (own:=["row"]) (ys:=["many_rows","thing"]) rfl (vK (zH Cb4 hr rfl (zA (pv 0) zB) zV)) (kJ (sc:=zS Hq) rfl (by decide+kernel)) (.cons (j:=2) rfl (.cons (j:=0) rfl .nil)) (λ_ _ _ _ _=>(zY 0 (show List.Nodup [("row":Str),("many_rows":Str),("thing":Str)]from(by decide+kernel)))) (λ_ _ _ _ _=>wN) (λ_ _ _ _ _=>(zH Cf3 hr rfl (zA (pv 0) (zA (yZ (Jo K rfl) (pv 2) zI (λ_ _=>rfl)) (zA (pv 1) zB))) zV))) zB))))))))))
 refine#[-1,a,ns,rfl,ha,hl,λH1 g1=>#[-1,jE ?_]];have bad: ∀H',xJ H H'-> ¬Ep ns->Q (.bl false) H':=λH' g c=>q false H' g #[λe=>(nomatch e),λe=>absurd e c];have ha1:=g1 _ _ ha;refine#[-1,a,-1,.inl (kN.of ha1),rfl,-1,jK (λc=>?_) (λc=>?_)]
 ·have e0:=vt c;refine bad H1 g1 λz=>?_;obtain⟨n,ms,e,_⟩:=z.big;rw[e]at e0;rw[zG,zK]at e0;lia
 have e0:=vf c;obtain⟨n,ms,e⟩: ∃n ms,ns=n::ms:=by
  cases ns with
  |nil=>exact absurd rfl e0
  |cons n ms=>exact#[n,ms,rfl]
 have a0:=OD e;refine#[-1,a,_,_,-1,rfl,kN.of ha1,a0,_,-1,rfl,-1,jK (λc=>jI ?_) (λc=>?_)]
 ·have c':=yB c;refine bad H1 g1 λz=>?_;obtain⟨n',ms',e',h1,_⟩:=z.big;rw[e]at e';injection e' with e' _
  lia
 have n1:=df c;refine#[-1,a,_,_,-1,rfl,kN.of ha1,a0,_,-1,rfl,-1,jK (λc=>?_) (λc=>?_)]
 ·have c':=yB c;refine bad H1 g1 λz=>?_;obtain⟨n',ms',e',_,h1,_⟩:=z.big;rw[e]at e';injection e' with e' _
  lia
 have n16:=df c;have n8:((ns.map V.int).length:Int)=ms.length+1:=by rw[e,zG,zK]<;>rfl
 refine#[-1,a,-1,.inl (kN.of ha1),_,-1,rfl,-1,a,_,_,-1,rfl,kN.of ha1,a0,_,-1,rfl,zAp () (),_,-1,rfl,?_];refine#[-1,_,-1,rfl,-1,jK (λc=>jI ?_) (λc=>?_)]
 ·have c':=yB c;refine bad H1 g1 λz=>?_;obtain⟨n',ms',e',_,_,h1,_⟩:=z.big;rw[e]at e';injection e' with e' e''
  subst e' e'';lia
 have n2:=df c;refine#[-1,_,-1,rfl,(by decide:(0:Int)<2),rfl,-1,jK (λc=>?_) (λc=>?_)]
 ·have c':(((ns.map V.int).length:Int)-1-3*n) % 2≠0:=λz=>by
   have y:decide (V.int ((((ns.map V.int).length:Int)-1-3*n) % 2)=V.int 0)=true:=zP (by rw[z]);have c2:(!decide (V.int ((((ns.map V.int).length:Int)-1-3*n) % 2)=V.int 0))=true:=c;rw[y]at c2;exact nomatch c2
  refine bad H1 g1 λz=>?_;obtain⟨n',ms',e',_,_,_,h1⟩:=z.big;rw[e]at e';injection e' with e' e''
  subst e' e'';lia
 have even:(((ns.map V.int).length:Int)-1-3*n) % 2=0:=Ez λz=>c (by
  have:decide (V.int ((((ns.map V.int).length:Int)-1-3*n) % 2)=V.int 0)=false:=zR λy=>by injection y with y;exact z y
  show(!decide (V.int ((((ns.map V.int).length:Int)-1-3*n) % 2)=V.int 0))=true;rw[this]<;>rfl)
 have hR:(rowNums ns).length =ms.length-3*n.toNat:=by
  rw[e];show(List.drop (1+3*n.toNat) (n::ms)).length =_;rw[qR,zK];lia
 have hHd:(headNums ns).length =3*n.toNat:=by
  rw[e];show(List.take (3*n.toNat) ms).length =_;rw[xM];lia
 have hN:(ns.headD 0).toNat =n.toNat:=by rw[e]<;>rfl
 have big: ∃n ms,ns=n::ms/\1<=n/\n<=16/\3*n+2<=ms.length/\(ms.length-3*n.toNat) % 2=0:=#[n,ms,e,(),(),(),()];obtain⟨mr,emr⟩: ∃mr:Nat,(((ns.map V.int).length:Int)-1-3*n) / 2=(mr:Int)/\mr=(rowNums ns).length / 2:=#[(rowNums ns).length / 2,by clear big;lia,rfl];have hm:xJ H H1/\(∃n ms,ns=n::ms/\0<=n/\n<=16):=#[g1,n,ms,e,by clear big emr;lia,by clear big emr;lia];refine#[-1,_,-1,rfl,#[by decide,by decide],?_];refine#[-1,a,ns,rfl,ha1,hl,hm.2,λl H2 g2 hl2 at2=>?_];obtain⟨rs,er,pr⟩:=at2;obtain⟨em1,em2⟩:=emr;have g12:=g1.trans g2;have ltH: ∀j g,(Gj 3 (headNums ns))[j]? =some g->j<rs.length:=λj g hg=>by
  rw[Paired.len pr];exact(List.getElem?_eq_some_iff.mp hg).1
 refine#[l,rs,rfl,kN.of er,Qm (xs:=rs) (λi U' H'=> ∃v3 v4,U'=[some (.ref a),some (.int (((ns.map V.int).length:Int)-1-3*n)),some (.int (mr:Int)),v3,v4]/\xJ H2 H'/\ ∀j g,j<i->(Gj 3 (headNums ns))[j]? =some g->RQ g j mr) #[_,_,by rw[<-em1];rfl,xJ.refl _,λj g z=>absurd z (Bj j)] ?_ ?_ ?_]
 ·rintro i U' H' _ ⟨v3,v4,rfl,g,_⟩;exact kN.of (g _ _ er)
 ·rintro i x U' H' t hx ⟨v3,v4,rfl,g3,hb⟩ ht;obtain⟨gx,hg,th,rfl,eth⟩:=Paired.yonder pr hx;obtain⟨s0,p0,b0,rfl⟩:=zHf (Th (.inr rfl) (by rw[hHd];lia) hg);have g4:=g3.trans (zM ht (.tup [.int (i:Nat),.ref th]));refine#[t,-1,Ax.of upd_same,rfl,_,-1,_,-1,rfl,?_];refine#[-3,th,s0,p0,b0,i,mr,rfl,g4 _ _ eth,λr z=>#[-1,?_]];cases r with
  |false=>
   refine jI (bad _ (g12.trans g4) λy=>?_);obtain⟨s1,p1,b1,e1,ok⟩:=y.heads i _ hg;cases e1;rw[<-em2]at ok;exact nomatch z.mpr ok
  |true=>
   refine jE #[_,-1,g4,λj g hj hg'=>?_]
   by_cases hji:j<i
   ·exact hb j g hji hg'
   ·have:j=i:=()
    subst this;rw[hg]at hg';cases hg';exact#[s0,p0,b0,rfl,z.mp rfl]
 ·rintro U' H' ⟨v3,v4,rfl,g3,hb⟩;have ha3:=g3 _ _ (g12 _ _ ha);refine#[-1,a,ns,rfl,ha3,hl,hm.2,λl3 H3 g4 hl3 at3=>?_];obtain⟨rs2,er2,pr2⟩:=at3;have ltR: ∀j g,(Gj 2 (rowNums ns))[j]? =some g->j<rs2.length:=λj g hg=>by
   rw[Paired.len pr2];exact(List.getElem?_eq_some_iff.mp hg).1
  have rl:rs2.length<=1000000:=by
   rw[Paired.len pr2,YK,hR];rw[e,zK]at hl;lia
  refine#[l3,rfl,#[_,kN.of er2],λp hp=>?_];refine AD (xs:=rs2) (λi U' H'=> ∃bs:a6 i8,H' p=some (.lst (bs.map V.bl))/\bs.length=i/\xJ H3 H'/\(bs.all id=true ↔∀j g,j<i->(Gj 2 (rowNums ns))[j]? =some g->BR g n.toNat mr)/\ ∃x,U'=[x,some (.int (mr:Int)),some (.ref a)]) #[[],upd_same,rfl,zM hp _,#[λ_ j g z=>absurd z (Bj j),λ_=>rfl],-1] ?_ ?_ ?_
  ·rintro i U' H' _ ⟨bs,_,_,g,_⟩;exact kN.of (g _ _ er2)
  ·rintro i x U' H' hi hx ⟨bs,eb,lb,g5,ib,y,rfl⟩;obtain⟨gx,hg,th,rfl,eth⟩:=Paired.yonder pr2 hx;obtain⟨op,nu,rfl⟩:=zHg (Th (.inl rfl) (by rw[hR];lia) hg);dsimp only[wI,QL];refine jI #[-2,a,_,_,-1,rfl,kN.of (g5 _ _ (g4 _ _ ha3)),a0,-1,th,op,nu,n,mr,rfl,g5 _ _ eth,λr H5 g6 z=>?_];refine#[_,g6 _ _ eb,?_,CW.next hi #[bs++[r],?_,?_,(g5.trans g6).fresh hp,?_,-1]]
   ·rw[zG,lb];exact xP hi (xH rl (by decide))
   ·rw[yV];exact upd_same
   ·rw[zE,lb]<;>rfl
   ·have hnn:((n.toNat:Nat):Int)=n:=()
    rw[Xs,ib,z];constructor
    ·rintro⟨h1,h2⟩ j g hj hg'
     by_cases hji:j<i
     ·exact h1 j g hji hg'
     ·have:j=i:=()
      subst this;rw[hg]at hg';cases hg';exact#[op,nu,rfl,by rw[hnn];exact h2]
    ·intro h;refine#[λj g hj hg'=>h j g () hg',?_];obtain⟨o1,n1',e1,ok⟩:=h i _ (AR i) hg;cases e1;rw[hnn]at ok;exact ok
  ·rintro U' H' ⟨bs,eb,lb,g5,ib,_⟩;refine#[p,bs,rfl,kN.of eb,q _ _ (g12.trans (g3.trans (g4.trans g5))) (ib.trans #[λh=>#[big,λj g hg=>?_,λg hg=>?_],λz j g hj hg=>?_])]
   ·rw[<-em2];exact hb j g (ltH j g hg) hg
   ·obtain⟨j,hj⟩:=List.mem_iff_getElem?.mp hg;rw[hN,<-em2];exact h j g (ltR j g hj) hj
   ·have:=z.rows g (List.mem_iff_getElem?.mpr #[j,hg]);rw[hN,<-em2]at this;exact this
theorem WM (T:Gk K mg)(h:Sq K H a xs): ∃TT,((TT="list"/\ ∃ys,kN K H a ys)\/(TT="tuple"/\ ∃ys,Ax K H a ys))/\PySem.W.kitAny K (.type TT) (["list","tuple"].map Value.type)=some true:=by
 rcases h with h|h
 ·exact#["list",.inl #[rfl,xs,h],T.kal]
 ·exact#["tuple",.inr #[rfl,xs,h],T.kat]
theorem Um (T:Gk K mg)(F:qT K "joined" "joined" Lv f fd):vO P w K mg base 1 f fd ["things","size"] (Lg K):=by
 exists JO;obtain⟨a,gs,xs,k,rfl,hq,pr,hg,hgl,hk,q⟩:=h;exists _,(zC (xD (qN (kR (xK Nq rfl T.n_isinstance wL (zA (pv 0) (zA (xO (zA (BH (v:=.ty "list") rfl T.n_list KU rfl) (zA (BH (v:=.ty "tuple") rfl T.n_tuple Hc rfl) zB))) zB))))) (zL Ba) yD)
   (zC (yP 2 JO.nd (xF zB))
   (zC (qS yY rfl (zAc (pv 0)) (zY 3 JO.nd) (zC (xD (PW.pt (qY (qN (kR (xK Nq rfl T.n_isinstance wL (zA (pv 3) (zA (xO (zA (BH (v:=.ty "list") rfl T.n_list KU rfl) (zA (BH (v:=.ty "tuple") rfl T.n_tuple Hc rfl) zB))) zB))))) (kW (zX Gf (xK xA rfl T.n_len kO (zA (pv 3) zB)) (pv 1) (yG _))))) (zL Ba) yD)
   (zL (kG (Bb yR EW EV RE (pv 2) (zA (pv 3) zB))))))
   (zL (zT (pv 2))))))
 refine#[-1,sm2,λtp htp=>?_];have g1:=zM htp (.tup (["list","tuple"].map V.ty));obtain⟨TT,h1,h2⟩:=WM T (Sq.same g1 hq);refine#[a,tp,["list","tuple"],true,TT,rfl,upd_same,h1,h2,-1,jE ?_];refine#[zz0,λl hl1=>?_];have s1:xJ H (upd (upd H tp (.tup (["list","tuple"].map V.ty))) l (.lst [])):=g1.trans (zM hl1 _);have hl0:H l=none:=g1.free hl1;refine#[-1,a,rfl,YM (xs:=xs) hq (λi U' H'=> ∃v3,U'=[some (.ref a),some (.int (k:Nat)),some (.ref l),v3]/\H' l=some (.lst ((gs.take i).flatten.map V.int))/\xJ H H') #[-1,upd_same,s1] ?_ ?_ ?_]
 ·rintro i U' H' _ ⟨v3,rfl,el,sm⟩;exact sm
 ·rintro i x U' H' hx ⟨v3,rfl,el,sm⟩;obtain⟨g,hgx,t,rfl,ht⟩:=Paired.yonder pr hx;have hlg:=hg g (List.mem_iff_getElem?.mpr #[_,hgx]);refine#[-1,sm2,λtp2 htp2=>?_];have g2:=zM htp2 (.tup (["list","tuple"].map V.ty));have hsq:Sq K (upd H' tp2 (.tup (["list","tuple"].map V.ty))) t (g.map V.int):=ht.imp (λe=>kN.of (g2 _ _ (sm _ _ e))) (λe=>Ax.of (g2 _ _ (sm _ _ e)));obtain⟨TT,h1,h2⟩:=WM T hsq;refine#[t,tp2,["list","tuple"],true,TT,rfl,upd_same,h1,h2,-1,jE ?_];refine#[-1,t,-1,hsq,-1,rfl,-1,zDh (qZ V.int (by rw[zG,hlg])) ?_];have hl':=g2 _ _ el;have hfl:(gs.take i).flatten.length<=3000:=by
   rw[EQ (k:=k) λx hx=>hg x (List.mem_of_mem_take hx)];have:(gs.take i).length<=1000:=xH (List.length_take_le' ..) hgl;exact xH (Nat.mul_le_mul this hk) (by decide)
  have hb:((gs.take i).flatten.map V.int).length +(g.map V.int).length<=sizeLine:=by
   rw[zG,zG,hlg];exact xH (show _<=3003 by lia) (by decide)
  have en:((gs.take i).flatten.map V.int)++(g.map V.int)=(gs.take (i+1)).flatten.map V.int:=by rw[YO hgx,yV]
  refine#[-1,.inl #[rfl,_,kN.of hl'],-1,?_]
  rcases ht with ht|ht
  ·refine .inl #[l,t,_,-1,rfl,hl',g2 _ _ (sm _ _ ht),hb,?_];rw[en];exact#[-1,upd_same,(sm.trans g2).fresh hl0]
  ·refine .inr #[l,t,_,-1,rfl,hl',g2 _ _ (sm _ _ ht),hb,?_];rw[en];exact#[-1,upd_same,(sm.trans g2).fresh hl0]
 ·rintro U' H' ⟨v3,rfl,el,sm⟩;have e:gs.take xs.length=gs:=xW (by rw[Paired.len pr];exact zO _);rw[e]at el;exact#[-1,q l H' sm hl0 el]
theorem RB (T:Gk K mg)(F:qT K "code_of" "code_of" JV f fd)(Cd4:jY P w K mg base 1 "joined" ["things","size"] (Lg K))(Cv:jY P w K mg base 3 "is_code" ["thing"] Fb):vO P w K mg base 4 f fd ["heads","rows"] (Lj K):=by
 exists HY;obtain⟨a,b,hs,rs,xs,ys,rfl,hqa,pra,h3,ha3,hqb,prb,h2,hb2,hk,q⟩:=h;exists _,(zC (yP 2 HY.nd (zH Cd4 hr rfl (zA (pv 0) (zA (yH rfl T.m_HEAD_SIZE) zB)) zV))
   (zC (yP 3 HY.nd (yK xV (yK xV (xF (zA (yK GS (xK xA rfl T.n_len kO (zA (pv 2) zB)) (yH rfl T.m_HEAD_SIZE)) zB)) (pv 2)) (zH Cd4 hr rfl (zA (pv 1) (zA (yH rfl T.m_ROW_SIZE) zB)) zV)))
   (zC (xD (qN (kR (zH Cv hr rfl (zA (pv 3) zB) zV))) (zL Ba) yD)
   (zL (zT (pv 3))))))
 refine#[-1,a,hs,xs,3,rfl,hqa,pra,h3,ha3,by decide,λl H1 g1 hl1 el=>?_];have lh:=EQ h3;have lr:=EQ h2;have e3:((hs.flatten.map V.int).length:Int) / 3=hs.length:=by rw[zG,lh];lia
 refine#[-1,l,-1,.inl (kN.of el),_,-1,rfl,#[by decide,by decide],sm1,λo ho=>?_];have eo:upd H1 o (.lst [V.int (((hs.flatten.map V.int).length:Int) / 3)]) o=some (.lst [V.int (hs.length:Int)]):=by rw[e3];exact upd_same
 have g2:xJ H1 (upd H1 o (.lst [V.int (((hs.flatten.map V.int).length:Int) / 3)])):=zM ho _;have lz:(hs.flatten.map V.int).length<=3000:=by rw[zG,lh];lia
 have lz2:(rs.flatten.map V.int).length<=2000:=by rw[zG,lr];lia
 refine#[-1,o,l,_,-1,rfl,eo,g2 _ _ el,xH (show _<=3001 by simp only[zK,Af];lia) (by decide),λo2 ho2=>?_];have g3:=g2.trans (zM ho2 (.lst ([V.int (hs.length:Int)]++hs.flatten.map V.int)));have g13:=g1.trans g3;refine#[-1,b,rs,ys,2,rfl,Sq.same g13 hqb,Paired.imp (λ_ _ x=>x.same g13) prb,h2,hb2,by decide,λl2 H2 g4 hl2 el2=>?_];refine#[o2,l2,_,-1,rfl,g4 _ _ upd_same,el2,xH (show _<=5001 by rw[zE];simp only[zK,Af];lia) (by decide),λo3 ho3=>?_];have ec:[V.int (hs.length:Int)]++hs.flatten.map V.int++rs.flatten.map V.int=(Dk hs rs).map V.int:=by
  unfold Dk;rw[yM,yV,yN]<;>rfl
 rw[ec];have g5:=g13.trans (g4.trans (zM ho3 (.lst ((Dk hs rs).map V.int))));have lc:(Dk hs rs).length<=1000000:=by
  unfold Dk;rw[zK,zE,lh,lr];lia
 refine#[-1,o3,Dk hs rs,rfl,upd_same,lc,λr H5 g6 z=>#[-1,?_]];rw[z.mpr hk];exact jE #[-1,q o3 H5 (g5.trans g6) ((g13.trans g4).free ho3) (g6 _ _ upd_same)]
noncomputable def zEg (C dx ha ra pa:i4):HO:=.ins C dx [("heads",.ref ha),("rows",.ref ra),("paper",.ref pa)]
structure Ml (K:a7)(mg:Str->Option a9)(CM:i4):Prop where
 n_len:mg "len"=none
 n_range:mg "range"=none
 n_enumerate:mg "enumerate"=none
 n_sorted:mg "sorted"=none
 m_NUMBER:kP mg "NUMBER" 0
 m_GET:kP mg "GET" 1
 m_SET:kP mg "SET" 2
 m_ALL:kP mg "ALL" 3
 m_PICK:kP mg "PICK" 4
 m_LOOP:kP mg "LOOP" 5
 m_CALL:kP mg "CALL" 6
 m_FAIL:kP mg "FAIL" 7
 m_OP_PUSH:kP mg "OP_PUSH" 0
 m_OP_GET:kP mg "OP_GET" 1
 m_OP_SET:kP mg "OP_SET" 2
 m_OP_DROP:kP mg "OP_DROP" 3
 m_OP_JUMP:kP mg "OP_JUMP" 4
 m_OP_UNLESS:kP mg "OP_UNLESS" 5
 m_OP_CALL:kP mg "OP_CALL" 6
 m_OP_BACK:kP mg "OP_BACK" 7
 m_OP_FAIL:kP mg "OP_FAIL" 8
 m_OP_BREATH:kP mg "OP_BREATH" 9
 m_OP_DO:kP mg "OP_DO" 10
 m_OP_PICK:kP mg "OP_PICK" 11
 mak:So K CM
 mheads:AW K CM "heads"
 mrows:AW K CM "rows"
 mpaper:AW K CM "paper"
def AY (ra pa:i4)(H H':Hp):Prop:= ∀b o,b≠ra->b≠pa->H b=some o->H' b=some o
theorem AY.trans (a:AY ra pa H H1)(b:AY ra pa H1 H2):AY ra pa H H2:=λc o n1 n2 e=>b c o n1 n2 (a c o n1 n2 e)
theorem AY.same (s:xJ H H1):AY ra pa H H1:=λc o _ _ e=>s c o e
theorem AY.rows:AY ra pa H (upd H ra o):=λc u n _ e=>by rw[yJ n];exact e
theorem AY.paper:AY ra pa H (upd H pa o):=λc u _ n e=>by rw[yJ n];exact e
structure HH (C:i4)(H:Hp)(mk dx ha ra pa:i4)(gs ls:List (List Int)):Prop where
 ob:H mk=some (zEg C dx ha ra pa)
 rows:qU H ra gs
 pap:qU H pa ls
 ne:ra≠pa
theorem HH.tups {C:i4}{H H':Hp}{mk dx ha ra pa:i4}{gs ls:a6 (a6 Int)}(h:HH C H mk dx ha ra pa gs ls)(k:AY ra pa H H'):vN H H':=λb xs e=>by
 obtain⟨rs,er,_⟩:=h.rows;obtain⟨qs,eq,_⟩:=h.pap;exact k b _ (λz=>by rw[z,er]at e;cases e) (λz=>by rw[z,eq]at e;cases e) e
theorem HH.obk {C:i4}{H H':Hp}{mk dx ha ra pa:i4}{gs ls:a6 (a6 Int)}(h:HH C H mk dx ha ra pa gs ls)(k:AY ra pa H H'):H' mk=some (zEg C dx ha ra pa):=by
 obtain⟨rs,er,_⟩:=h.rows;obtain⟨qs,eq,_⟩:=h.pap;have e:=h.ob;exact k mk _ (λz=>by rw[z,er]at e;cases e) (λz=>by rw[z,eq]at e;cases e) e
theorem HH.same {C:i4}{H H':Hp}{mk dx ha ra pa:i4}{gs ls:a6 (a6 Int)}(h:HH C H mk dx ha ra pa gs ls)(s:xJ H H'):HH C H' mk dx ha ra pa gs ls:=#[s _ _ h.ob,h.rows.same s,h.pap.same s,h.ne]
theorem HH.row {C:i4}{H:Hp}{mk dx ha ra pa t:i4}{gs ls:a6 (a6 Int)}{g:a6 Int}{rs:a6 V}(h:HH C H mk dx ha ra pa gs ls)(et:H t=some (.tup (g.map V.int)))(er:H ra=some (.lst rs)):HH C (upd H ra (.lst (rs++[.ref t]))) mk dx ha ra pa (gs++[g]) ls:=by
 obtain⟨rs',er',pr⟩:=h.rows;rw[er]at er';cases er';refine#[h.obk AY.rows,qU.push er pr #[t,rfl,et],h.pap.put er (Ne.symm h.ne),h.ne]
theorem HH.line {C:i4}{H:Hp}{mk dx ha ra pa t:i4}{gs ls:a6 (a6 Int)}{g:a6 Int}{rs:a6 V}(h:HH C H mk dx ha ra pa gs ls)(et:H t=some (.tup (g.map V.int)))(er:H pa=some (.lst rs)):HH C (upd H pa (.lst (rs++[.ref t]))) mk dx ha ra pa gs (ls++[g]):=by
 obtain⟨rs',er',pr⟩:=h.pap;rw[er]at er';cases er';refine#[h.obk AY.paper,h.rows.put er h.ne,qU.push er pr #[t,rfl,et],h.ne]
theorem HH.setR {C:i4}{H:Hp}{mk dx ha ra pa t:i4}{gs ls:a6 (a6 Int)}{g:a6 Int}{rs:a6 V}(i:Nat)(h:HH C H mk dx ha ra pa gs ls)(et:H t=some (.tup (g.map V.int)))(er:H ra=some (.lst rs)):HH C (upd H ra (.lst (rs.set i (.ref t)))) mk dx ha ra pa (gs.set i g) ls:=by
 obtain⟨rs',er',pr⟩:=h.rows;rw[er]at er';cases er';refine#[h.obk AY.rows,qU.setAt i er pr #[t,rfl,et],h.pap.put er (Ne.symm h.ne),h.ne]
theorem HH.len {C:i4}{H:Hp}{mk dx ha ra pa:i4}{gs ls:a6 (a6 Int)}{rs:a6 V}(h:HH C H mk dx ha ra pa gs ls)(er:H ra=some (.lst rs)):rs.length=gs.length:=by
 obtain⟨rs',er',pr⟩:=h.rows;rw[er]at er';cases er';exact Paired.len pr
inductive Gs (vs:List V) (H:Hp) (Q:VK) (E:XK):Prop
 |mk (k:Int) (o:i4) (own:List Int) (hs:Ev) (bx:Int) (h0:vs=[.int k,.ref o]) (h1:H o=some (.tup (own.map V.int))) (h2:Bn hs bx k own) (h3:k≠3) (h4:k≠4) (h5:k≠5) (h6: ∀t,H t=none->Q (.ref t) (upd H t (.tup ((Ek k own).map V.int)))):Gs vs H Q E
theorem Rs (T:Ml K mg CM)(F:qT K "own_row" "own_row" JT f fd):vO P w K mg base 1 f fd ["kind","numbers"] Gs:=by
 exists Ra;obtain⟨k,o,own,hs,bx,rfl,ho,of,h3,h4,h5,q⟩:=h;exists _,(zC (xD (zX jM (pv 0) (yH rfl T.m_NUMBER) (yG _)) (zL (zT (xO (zA (yH rfl T.m_OP_PUSH) (zA (yZ xL (pv 1) zI (λ_ _=>rfl)) zB))))) yD)
   (zC (xD (zX jM (pv 0) (yH rfl T.m_GET) (yG _)) (zL (zT (xO (zA (yH rfl T.m_OP_GET) (zA (yZ xL (pv 1) zI (λ_ _=>rfl)) zB))))) yD)
   (zC (xD (zX jM (pv 0) (yH rfl T.m_SET) (yG _)) (zL (zT (xO (zA (yH rfl T.m_OP_SET) (zA (yZ xL (pv 1) zI (λ_ _=>rfl)) zB))))) yD)
   (zC (xD (zX jM (pv 0) (yH rfl T.m_CALL) (yG _)) (zL (zT (xO (zA (yH rfl T.m_OP_CALL) (zA (yZ xL (pv 1) zI (λ_ _=>rfl)) zB))))) yD)
   (zC (xD (zX jM (pv 0) (yH rfl T.m_FAIL) (yG _)) (zL (zT (xO (zA (yH rfl T.m_OP_FAIL) (zA zI zB))))) yD)
   (zL (zT (xO (zA (yH rfl T.m_OP_DO) (zA (pv 0) zB))))))))))
 have one: ∀n,own=[n]->IF (own.map V.int) 0=some (.int n):=λn e=>by rw[e];rfl
 have ow: ∀j n:Int,own=[n]->(Ek k own)=[j,n]-> ∀t,H t=none->Q (.ref t) (upd H t (.tup [.int j,.int n])):=λj n e er t ht=>by
  have:=q t ht;rw[er]at this;exact this
 refine#[-1,rfl,-1,jK (λc=>?_) (λc0=>?_)]
 ·have e:=vt c;subst e
  rcases of with⟨_,n,en⟩|⟨z,_⟩|⟨z,_⟩|⟨z,_⟩|⟨z,_⟩|⟨z,_⟩<;>try lia
  exact#[-1,o,_,_,-1,rfl,.of ho,one n en,sm2,ow 0 n en (by rw[en];rfl)]
 have n0:=vf c0;refine#[-1,rfl,-1,jK (λc=>?_) (λc1=>?_)]
 ·have e:=vt c;subst e
  rcases of with⟨z,_⟩|⟨_,n,en,_⟩|⟨z,_⟩|⟨z,_⟩|⟨z,_⟩|⟨z,_⟩<;>try lia
  exact#[-1,o,_,_,-1,rfl,.of ho,one n en,sm2,ow 1 n en (by rw[en];rfl)]
 have n1:=vf c1;refine#[-1,rfl,-1,jK (λc=>?_) (λc2=>?_)]
 ·have e:=vt c;subst e
  rcases of with⟨z,_⟩|⟨_,n,en,_⟩|⟨z,_⟩|⟨z,_⟩|⟨z,_⟩|⟨z,_⟩<;>try lia
  exact#[-1,o,_,_,-1,rfl,.of ho,one n en,sm2,ow 2 n en (by rw[en];rfl)]
 have n2:=vf c2;refine#[-1,rfl,-1,jK (λc=>?_) (λc6=>?_)]
 ·have e:=vt c;subst e
  rcases of with⟨z,_⟩|⟨z,_⟩|⟨z,_⟩|⟨z,_⟩|⟨_,n,en,_⟩|⟨z,_⟩<;>try lia
  exact#[-1,o,_,_,-1,rfl,.of ho,one n en,sm2,ow 6 n en (by rw[en];rfl)]
 have n6:=vf c6;refine#[-1,rfl,-1,jK (λc=>?_) (λc7=>?_)]
 ·have e:=vt c;subst e;exact#[sm2,q]
 have n7:=vf c7;refine#[-1,sm2,λt ht=>?_];have:=q t ht;have er:Ek k own=[10,k]:=by
  unfold Ek;rw[zN (),zN n6,zN n7]
 rw[er]at this;exact this
inductive IQ (CM:i4) (vs:List V) (H:Hp) (Q:VK) (E:XK):Prop
 |mk (x dx:_) (h0:vs=[.ref x]) (h1:H x=some (.ins CM dx [])) (h2: ∀(ha ra pa:i4) (H':Hp),H ha=none->H ra=none->H pa=none->ha≠ra->ha≠pa->(∀b o,b≠x->H b=some o->H' b=some o)->HH CM H' x dx ha ra pa [] []->H' ha=some (.lst [])->Q .non H'):IQ CM vs H Q E
theorem Wg (T:Ml K mg CM)(F:qT K "__init__" "Making.__init__" BB f fd):vO P w K mg base 1 f fd ["self"] (IQ CM):=by
 exists HZ;obtain⟨x,dx,rfl,hx,q⟩:=h;exists _,(zC (FT (pv 0) (xF zB) rfl)
   (zC (FT (pv 0) (xF zB) rfl)
   (zL (FT (pv 0) (xF zB) rfl))))
 refine#[zz0,λha hha=>#[-1,x,CM,dx,-1,zM hha _ _ _ hx,T.mak,T.mheads,(show 0<1000 by decide),?_]];have nx:x≠ha:=yQ hx hha;refine#[zz0,λra hra=>#[-1,x,CM,dx,-1,zM hra _ _ _ upd_same,T.mak,T.mrows,(show 1<1000 by decide),?_]];have nxr:x≠ra:=λz=>by rw[<-z,upd_same]at hra;cases hra
 rw[yJ (Ne.symm nxr)]at hra;have nhr:ha≠ra:=λz=>by rw[<-z,upd_same]at hra;cases hra
 rw[yJ (Ne.symm nhr)]at hra;refine#[zz0,λpa hpa=>#[-1,x,CM,dx,-1,zM hpa _ _ _ upd_same,T.mak,T.mpaper,(show 2<1000 by decide),?_]];have nxp:x≠pa:=λz=>by rw[<-z,upd_same]at hpa;cases hpa
 rw[yJ (Ne.symm nxp)]at hpa;have nrp:ra≠pa:=λz=>by rw[<-z,upd_same]at hpa;cases hpa
 rw[yJ (Ne.symm nrp),yJ (Ne.symm nxp)]at hpa;have nhp:ha≠pa:=λz=>by rw[<-z,upd_same]at hpa;cases hpa
 rw[yJ (Ne.symm nhp)]at hpa;refine q ha ra pa _ hha hra hpa nhr nhp (λb o nb e=>?_) #[upd_same,#[[],?_,.nil],#[[],?_,.nil],nrp] ?_
 ·rw[yJ nb,yJ (yQ e hpa),yJ nb,yJ (yQ e hra),yJ nb,yJ (yQ e hha)];exact e
 ·rw[yJ (Ne.symm nxr),yJ nrp,yJ (Ne.symm nxr)];exact upd_same
 ·rw[yJ (Ne.symm nxp)];exact upd_same
 ·rw[yJ (Ne.symm nx),yJ nhp,yJ (Ne.symm nx),yJ nhr,yJ (Ne.symm nx)];exact upd_same
inductive EB (CM:i4) (hs:Ev) (d:Nat) (vs:List V) (H:Hp) (Q:VK) (E:XK):Prop
 |mk (mk dx ha ra pa:i4) (v:V) (nd:Nd) (gs ls:List (List Int)) (bx:Int) (h0:vs=[.ref mk,v]) (h1:HH CM H mk dx ha ra pa gs ls) (h2:jW H d v nd) (h3:wW hs bx d (bare nd)) (h4:gs.length+rl (bare nd)<=100000) (h5:ls.length+HM nd<=100000) (h6: ∀H',AY ra pa H H'->HH CM H' mk dx ha ra pa (gs++CO gs.length (bare nd)) (ls++Kz gs.length nd)->Q .non H'):EB CM hs d vs H Q E
inductive KH (CM:i4) (hs:Ev) (d:Nat) (k:Int) (ok:List Tr->Prop) (c:Nat->List Tr->List (List Int)) (more:Nat->Nat) (o:Nat) (vs:List V) (H:Hp) (Q:VK) (E:XK):Prop
 |mk (mk dx ha ra pa qa:i4) (us:List V) (ps:List Nd) (gs ls:List (List Int)) (bx:Int) (h0:vs=[.ref mk,.ref qa]) (h1:HH CM H mk dx ha ra pa gs ls) (h2:H qa=some (.tup us)) (h3:Paired (jW H d) us ps) (h4:qV hs bx d (zU ps)) (h5:ok (zU ps)) (h6:gs.length+kA (zU ps)+more ps.length<=100000) (h7:ls.length+Gg ps<=100000) (h8: ∀H',AY ra pa H H'->HH CM H' mk dx ha ra pa (gs++c gs.length (zU ps)) (ls++GR k (ps.length-1) 0 (gs.length+o) ps)->Q .non H'):KH CM hs d k ok c more o vs H Q E
abbrev SC (CM:i4)(hs:Ev)(d:Nat):Sp:=KH CM hs d 3 (λps=>ps≠[]) (λb ps=>IE b true ps) (λn=>n-1) 0
abbrev SB (CM:i4)(hs:Ev)(d:Nat):Sp:=KH CM hs d 4 (λps=>2<=ps.length) YF (λn=>2*(n-1)+1) 0
abbrev SA (CM:i4)(hs:Ev)(d:Nat):Sp:=KH CM hs d 5 (λps=>ps.length=2) XG (λn=>5) 1
theorem Js: ∀{ps:a6 Nd} {i:Nat} {x:Nd},qV hs bx d (zU ps)->ps[i]? =some x->wW hs bx d (bare x)
 |[],i,x,_,h=>by simp at h
 |p::r,0,x,f,h=>by
  have e:p=x:=by simpa using h
  subst e;rw[show zU (p::r)=bare p::zU r from rfl]at f;unfold qV at f;exact f.1
 |p::r,i+1,x,f,h=>by
  rw[show zU (p::r)=bare p::zU r from rfl]at f;unfold qV at f;exact Js f.2 (by simpa using h)
theorem LD (ps:a6 Nd)(i:Nat):kA (zU (ps.take i))<=kA (zU ps):=by
 have:=IW (zU (ps.take i)) (zU (ps.drop i));rw[<-AO,qF]at this;lia
theorem LZ (i:Nat)(h:Bv (zU ps)):Bv (zU (ps.take i)):=by
 rw[<-qF i ps,AO]at h;exact(Ti _ _ h).1
theorem LM (ps:a6 Nd)(i:Nat):Gg (ps.take i)<=Gg ps:=by
 have:=Jh (ps.take i) (ps.drop i);rw[qF]at this;lia
mutual
theorem Of: ∀(nd:Nd) (b:Nat),(Kz b nd).length =HM nd
 | .mk k p own ps,b=>by
  unfold Kz HM;rw[zE,Hu ps];show _+1=_;lia
theorem Hu: ∀(ps:a6 Nd) (k:Int) (m i b:Nat),(GR k m i b ps).length =Gg ps
 |[],k,m,i,b=>by unfold GR Gg;rfl
 |t::r,k,m,i,b=>by
  unfold GR Gg;rw[zE,Of t,Hu r]
end
theorem MY (h:Paired F us (p::ps)): ∃u us',us=u::us'/\F u p/\Paired F us' ps:=by
 cases h with
 |cons a b=>exact#[_,-1,a,b]
theorem at0:IF (u::l) 0=some u:=by
 show IF (u::l) ((0:Nat):Int)=some u;exact kK rfl
theorem Px (d:Nat)(T:Ml K mg CM)(F:qT K "make_all" "make_all" FM f fd)(Ch:jY P w K mg base kk "make_node" ["making","node"] (EB CM hs d)):vO P w K mg base (kk+1) f fd ["making","parts"] (SC CM hs d):=by
 exists Kk;obtain⟨mk,dx,ha,ra,pa,qa,us,ps,gs,ls,bx,rfl,M,eq,pr,ft,ne,z1,z2,q⟩:=h;exists _,(zC (kG (zH Ch hr rfl (zA (pv 0) (zA (yZ xL (pv 1) zI (λ_ _=>rfl)) zB)) zV))
   (zL (qS yY rfl (Ir (wD Lp (pv 1) (wC zI) Au)) (zY 2 Kk.nd) (zC (kG (Bb yR yX yW kT (jJ (pv 0) rfl) (zA (xO (zA (yH rfl T.m_OP_DROP) (zA zI zB))) zB)))
   (zL (kG (zH Ch hr rfl (zA (pv 0) (zA (pv 2) zB)) zV)))))))
 cases ps with
 |nil=>exact absurd (show zU []=[]from rfl) ne
 |cons p ps=>
 obtain⟨u,us,rfl,pu,pr⟩:=MY pr;rw[show zU (p::ps)=bare p::zU ps from rfl]at ft z1 q;unfold qV at ft;rw[kS]at z1;rw[Ad]at z2;rw[zK]at z1 q;have z1:gs.length+(rl (bare p)+kA (zU ps))+(ps.length+1-1)<=100000:=z1;have gd1:=DC d _ ft.1;have gd2:=KS d _ ft.2;refine#[-2,qa,_,_,-1,rfl,.of eq,at0,mk,dx,ha,ra,pa,u,p,gs,ls,bx,rfl,M,pu,ft.1,(),(),λH1 k1 M1=>?_];have t1:=M.tups k1;have e1:=t1 _ _ eq;refine#[-2,qa,-1,.of e1,?_,λc hc=>?_]
 ·rintro⟨z,_⟩;have:HT.sIx (u::us).length 0 (some (1:Int))=min 1 (u::us).length:=HT.sIx_nat _ _ 1;rw[this,zK]at z;lia
 have ec:Bu (u::us) (some (1:Int)) none=us:=Fl 1;rw[ec];have sc:=zM hc (.tup us);have M2:=M1.same sc;have k2:AY ra pa H (upd H1 c (.tup us)):=k1.trans (.same sc);have e2:upd H1 c (.tup us) c=some (.tup us):=upd_same;generalize upd H1 c (.tup us)=H2 at *
 refine#[c,rfl,#[_,.of e2],Jr (xs:=us) (λi U' H'=>AY ra pa H H'/\vN H2 H'/\HH CM H' mk dx ha ra pa (gs++IE gs.length true (zU (p::ps.take i))) (ls++GR 3 (ps.length+1-1) 0 gs.length (p::ps.take i))/\ ∃v,U'=[some (.ref mk),some (.ref qa),v]) #[k2,λ_ _ e=>e,?_,-1] (λi U' H' hi hh=>.of (hh.2.1 _ _ e2)) ?_ ?_]
 ·have a1:IE gs.length true (zU (p::ps.take 0))=CO gs.length (bare p):=by
   rw[AI];show IE gs.length true [bare p]=_;unfold IE;rw[zQ rfl];unfold IE;rw[xI]
  have a2:GR 3 (ps.length+1-1) 0 gs.length (p::ps.take 0)=Kz gs.length p:=by
   rw[AI];unfold GR;unfold GR;rw[xI]
  rw[a1,a2];exact M2
 ·rintro i v U' H3 hv ⟨k3,t3,M3,v2,rfl⟩;have hi:=(List.getElem?_eq_some_iff.mp hv).1;have hl:=Paired.len pr;have ex:ps[i]? =some (ps[i]'()):=zF _;have pv:=Paired.get pr _ _ _ hv ex;have et:ps.take (i+1)=ps.take i++[ps[i]'()]:=by rw[vH,ex];rfl
  generalize(ps[i]'())=x at *
  obtain⟨rs,er,_⟩:=id M3.rows;refine#[-1,mk,CM,dx,_,-1,M3.ob,T.mak,T.mrows,rfl,.inl #[rfl,_,.of er],sm2,λt ht=>?_];have s3:=zM ht (.tup [.int 3,.int 0]);have Mt:=M3.same s3;have er3:=s3 _ _ er;have ln:=M3.len er;have lm:(IE gs.length true (zU (p::ps.take i))).length =kA (zU (p::ps.take i))+i:=by
   rw[KN _ _ _ (show Bv (zU (p::ps.take i))from by rw[show zU (p::ps.take i)=bare p::zU (ps.take i)from rfl,uN];exact#[gd1,LZ i gd2]),zQ rfl,qB,zK,xM];lia
  have lb:kA (zU (p::ps.take i))=rl (bare p)+kA (zU (ps.take i)):=kS _ _;have l1:=LD ps (i+1);rw[et,AO,IW,show kA (zU [x])=rl (bare x)by rw[show zU [x]=[bare x]from rfl,kS];unfold kA;rfl]at l1;have n1:=LM ps (i+1);rw[et,Jh,show Gg [x]=HM x by rw[Ad];unfold Gg;rfl]at n1;rw[zE,lm]at ln;refine#[ra,rs,-1,rfl,er3,xR (show rs.length<=100000 by lia) (by decide),?_];have M4:=Mt.row (g:=[3,0]) upd_same er3;have k4:AY ra pa H3 (upd (upd H3 t (.tup [.int 3,.int 0])) ra (.lst (rs++[.ref t]))):=(AY.same s3).trans AY.rows;have t4:=M3.tups k4;have tH:=M.tups (k3.trans k4);generalize upd (upd H3 t (.tup [.int 3,.int 0])) ra (.lst (rs++[.ref t]))=H4 at *
  have l4:(gs++IE gs.length true (zU (p::ps.take i))++[[3,0]]).length =gs.length+kA (zU (p::ps.take i))+i+1:=by
   rw[zE,zE,lm];show gs.length+_+1=_;lia
  refine#[-2,mk,dx,ha,ra,pa,v,x,_,_,bx,rfl,M4,pv.tups tH,Js ft.2 ex,(),?_,λH5 k5 M5=>#[k3.trans (k4.trans k5),λb xs e=>M4.tups k5 _ _ (t4 _ _ (t3 _ _ e)),?_,-1]]
  ·rw[zE,Hu,Ad];lia
  ·rw[l4]at M5;rw[et];have a1:IE gs.length true (zU (p::(ps.take i++[x])))=IE gs.length true (zU (p::ps.take i))++([3,0]::CO (gs.length+kA (zU (p::ps.take i))+i+1) (bare x)):=by
    rw[show zU (p::(ps.take i++[x]))=bare p::zU (ps.take i)++[bare x]by rw[<-xN,AO];rfl,Wx];rw[show(bare p::zU (ps.take i)).length =i+1 by rw[zK,qB,xM];lia];rfl
   have a2:GR 3 (ps.length+1-1) 0 gs.length (p::(ps.take i++[x]))=GR 3 (ps.length+1-1) 0 gs.length (p::ps.take i)++Kz (gs.length+kA (zU (p::ps.take i))+i+1) x:=by
    rw[<-xN,IZ,Tv,qB,zK,xM,show min i ps.length+1=i+1 by lia];rfl
   rw[a1,a2];rw[yN,yN]at M5;rw[yN]at M5;exact M5
 ·rintro U' H3 ⟨k3,t3,M3,v2,rfl⟩;have hl:=Paired.len pr;rw[hl,jL]at M3;exact q H3 k3 M3
theorem VV (h:Paired F us ps)(l:ps.length=2): ∃u v x y,us=[u,v]/\ps=[x,y]/\F u x/\F v y:=by
 cases h with
 |nil=>cases l
 |cons a b=>
  cases b with
  |nil=>cases l
  |cons a2 b2=>
   cases b2 with
   |nil=>exact#[_,_,_,-1,rfl,a,a2]
   |cons _ _=>simp at l
theorem NP (A B:a6 α)(x g:α)(h:n=A.length):(A++x::B).set n g=A++g::B:=by
 rw[h,List.set_append_right _ _ (zO _),Jy];rfl
theorem RP (h:i<n):WK n (i:Int)=some i:=by
 unfold WK;rw[zQ (),zQ (),xY]
theorem at1:IF (u::v::l) 1=some v:=by
 show IF (u::v::l) ((1:Nat):Int)=some v;exact kK rfl
theorem Ol (d:Nat)(T:Ml K mg CM)(F:qT K "make_loop" "make_loop" EH f fd)(Ch:jY P w K mg base kk "make_node" ["making","node"] (EB CM hs d)):vO P w K mg base (kk+1) f fd ["making","parts"] (SA CM hs d):=by
 exists FD;obtain⟨mk,dx,ha,ra,pa,qa,us,ps,gs,ls,bx,rfl,M,eq,pr,ft,ne,z1,z2,q⟩:=h;exists _,(zC (yP 2 FD.nd (xK xA rfl T.n_len kO (zA (jJ (pv 0) rfl) zB)))
   (zC (kG (Bb yR yX yW kT (jJ (pv 0) rfl) (zA (xO (zA (yH rfl T.m_OP_BREATH) (zA zI zB))) zB)))
   (zC (kG (zH Ch hr rfl (zA (pv 0) (zA (yZ xL (pv 1) zI (λ_ _=>rfl)) zB)) zV))
   (zC (yP 3 FD.nd (xK xA rfl T.n_len kO (zA (jJ (pv 0) rfl) zB)))
   (zC (kG (Bb yR yX yW kT (jJ (pv 0) rfl) (zA (xO (zA (yH rfl T.m_OP_UNLESS) (zA zI zB))) zB)))
   (zC (kG (zH Ch hr rfl (zA (pv 0) (zA (yZ xL (pv 1) zI (λ_ _=>rfl)) zB)) zV))
   (zC (kG (Bb yR yX yW kT (jJ (pv 0) rfl) (zA (xO (zA (yH rfl T.m_OP_DROP) (zA zI zB))) zB)))
   (zC (kG (Bb yR yX yW kT (jJ (pv 0) rfl) (zA (xO (zA (yH rfl T.m_OP_JUMP) (zA (pv 2) zB))) zB)))
   (zC (wS (xO (zA (yH rfl T.m_OP_UNLESS) (zA (xK xA rfl T.n_len kO (zA (jJ (pv 0) rfl) zB)) zB))) (LI (jJ (pv 0) rfl) (pv 3) Gv))
   (zL (kG (Bb yR yX yW kT (jJ (pv 0) rfl) (zA (xO (zA (yH rfl T.m_OP_PUSH) (zA zI zB))) zB)))))))))))))
 have ne:(zU ps).length =2:=ne;rw[qB]at ne;obtain⟨u,v,x,y,rfl,rfl,px,py⟩:=VV pr ne;rw[show zU [x,y]=[bare x,bare y]from rfl]at ft z1 q;unfold qV at ft;unfold qV at ft;have z1:gs.length+(rl (bare x)+rl (bare y))+5<=100000:=by
  have:kA [bare x,bare y]=rl (bare x)+rl (bare y):=by rw[kS,kS];unfold kA;rfl
  rw[this]at z1;exact z1
 have z2:ls.length+(HM x+HM y)<=100000:=by
  have:Gg [x,y]=HM x+HM y:=by rw[Ad,Ad];unfold Gg;rfl
  rw[this]at z2;exact z2
 have gx:=DC d _ ft.1;have gy:=DC d _ ft.2.1;obtain⟨rs,er,_⟩:=id M.rows;have ln:=M.len er;refine#[-1,mk,CM,dx,_,-1,M.ob,T.mak,T.mrows,rfl,ra,-1,.inl (.of er),?_];refine#[-1,mk,CM,dx,_,-1,M.ob,T.mak,T.mrows,rfl,.inl #[rfl,_,.of er],sm2,λt ht=>?_];have s1:=zM ht (.tup [.int 9,.int 0]);refine#[ra,rs,-1,rfl,s1 _ _ er,xR (show rs.length<=100000 by lia) (by decide),?_];have M1:=(M.same s1).row (g:=[9,0]) upd_same (s1 _ _ er);have k1:AY ra pa H (upd (upd H t (.tup [.int 9,.int 0])) ra (.lst (rs++[.ref t]))):=(AY.same s1).trans AY.rows;have t1:=M.tups k1;generalize upd (upd H t (.tup [.int 9,.int 0])) ra (.lst (rs++[.ref t]))=H1 at *
 have l1:(gs++[[9,0]]).length =gs.length+1:=by rw[zE];rfl
 refine#[-2,qa,_,_,-1,rfl,.of (t1 _ _ eq),at0,mk,dx,ha,ra,pa,u,x,_,_,bx,rfl,M1,px.tups t1,ft.1,(),(),λH2 k2 M2=>?_];rw[l1]at M2;have lx:=wO (bare x) (gs.length+1) gx;have l2:(gs++[[9,0]]++CO (gs.length+1) (bare x)).length =gs.length+1+rl (bare x):=by rw[zE,l1,lx]
 have t2:=M1.tups k2;obtain⟨r2,e2,_⟩:=id M2.rows;have n2:=M2.len e2;rw[l2]at n2;refine#[-1,mk,CM,dx,_,-1,M2.ob,T.mak,T.mrows,rfl,ra,-1,.inl (.of e2),?_];refine#[-1,mk,CM,dx,_,-1,M2.ob,T.mak,T.mrows,rfl,.inl #[rfl,_,.of e2],sm2,λt' ht'=>?_];have s2:=zM ht' (.tup [.int 5,.int 0]);refine#[ra,r2,-1,rfl,s2 _ _ e2,xR (show r2.length<=100000 by lia) (by decide),?_];have M3:=(M2.same s2).row (g:=[5,0]) upd_same (s2 _ _ e2);have k3:AY ra pa H2 (upd (upd H2 t' (.tup [.int 5,.int 0])) ra (.lst (r2++[.ref t']))):=(AY.same s2).trans AY.rows;have t3:=M2.tups k3;generalize upd (upd H2 t' (.tup [.int 5,.int 0])) ra (.lst (r2++[.ref t']))=H3 at *
 have l3:(gs++[[9,0]]++CO (gs.length+1) (bare x)++[[5,0]]).length =gs.length+rl (bare x)+2:=by
  rw[zE,l2];show gs.length+1+rl (bare x)+1=_;lia
 have t13:vN H H3:=λb xs e=>t3 _ _ (t2 _ _ (t1 _ _ e));have lq:(ls++Kz (gs.length+1) x).length =ls.length+HM x:=by rw[zE,Of]
 refine#[-2,qa,_,_,-1,rfl,.of (t13 _ _ eq),at1,mk,dx,ha,ra,pa,v,y,_,_,bx,rfl,M3,py.tups t13,ft.2.1,(),(),λH4 k4 M4=>?_];rw[l3]at M4;have ly:=wO (bare y) (gs.length+rl (bare x)+2) gy;have l4:(gs++[[9,0]]++CO (gs.length+1) (bare x)++[[5,0]]++CO (gs.length+rl (bare x)+2) (bare y)).length =gs.length+rl (bare x)+2+rl (bare y):=by rw[zE,l3,ly]
 obtain⟨r4,e4,_⟩:=id M4.rows;have n4:=M4.len e4;rw[l4]at n4;refine#[-1,mk,CM,dx,_,-1,M4.ob,T.mak,T.mrows,rfl,.inl #[rfl,_,.of e4],sm2,λt5 ht5=>?_];have s4:=zM ht5 (.tup [.int 3,.int 0]);refine#[ra,r4,-1,rfl,s4 _ _ e4,xR (show r4.length<=100000 by lia) (by decide),?_];have M5:=(M4.same s4).row (g:=[3,0]) upd_same (s4 _ _ e4);have k5:AY ra pa H4 (upd (upd H4 t5 (.tup [.int 3,.int 0])) ra (.lst (r4++[.ref t5]))):=(AY.same s4).trans AY.rows;have e5:upd (upd H4 t5 (.tup [.int 3,.int 0])) ra (.lst (r4++[.ref t5])) ra=some (.lst (r4++[.ref t5])):=upd_same;generalize upd (upd H4 t5 (.tup [.int 3,.int 0])) ra (.lst (r4++[.ref t5]))=H5 at *
 have n5:(r4++[V.ref t5]).length =gs.length+rl (bare x)+rl (bare y)+3:=by
  rw[zE,n4];show _+1=_;lia
 refine#[-1,mk,CM,dx,_,-1,M5.ob,T.mak,T.mrows,rfl,.inl #[rfl,_,.of e5],-1,sm2,λt6 ht6=>?_];rw[ln];have s5:=zM ht6 (.tup [.int 4,.int (gs.length:Nat)]);refine#[ra,_,-1,rfl,s5 _ _ e5,xR (show(r4++[V.ref t5]).length<=100000 by lia) (by decide),?_];have M6:=(M5.same s5).row (g:=[4,(gs.length:Int)]) upd_same (s5 _ _ e5);have k6:AY ra pa H5 (upd (upd H5 t6 (.tup [.int 4,.int (gs.length:Nat)])) ra (.lst (r4++[.ref t5]++[.ref t6]))):=(AY.same s5).trans AY.rows;have e6:upd (upd H5 t6 (.tup [.int 4,.int (gs.length:Nat)])) ra (.lst (r4++[.ref t5]++[.ref t6])) ra=some (.lst (r4++[.ref t5]++[.ref t6])):=upd_same;generalize upd (upd H5 t6 (.tup [.int 4,.int (gs.length:Nat)])) ra (.lst (r4++[.ref t5]++[.ref t6]))=H6 at *
 have n6:(r4++[V.ref t5]++[V.ref t6]).length =gs.length+rl (bare x)+rl (bare y)+4:=by
  rw[zE,n5];rfl
 refine#[-1,mk,CM,dx,_,-1,M6.ob,T.mak,T.mrows,rfl,ra,-1,.inl (.of e6),sm2,λt7 ht7=>?_];have s6:=zM ht7 (.tup [.int 5,.int ((r4++[V.ref t5]++[V.ref t6]).length:Nat)]);have M6':=M6.same s6;have e6':=s6 _ _ e6;refine#[-1,mk,CM,dx,_,-1,M6'.ob,T.mak,T.mrows,rfl,-1,ra,_,_,-1,rfl,e6',RP (show r2.length<_ by lia),?_];have M7:=M6'.setR (g:=[5,((r4++[V.ref t5]++[V.ref t6]).length:Nat)]) r2.length upd_same e6';have k7:AY ra pa H6 (upd (upd H6 t7 (.tup [.int 5,.int ((r4++[V.ref t5]++[V.ref t6]).length:Nat)])) ra (.lst ((r4++[V.ref t5]++[V.ref t6]).set r2.length (.ref t7)))):=(AY.same s6).trans AY.rows;have e7:upd (upd H6 t7 (.tup [.int 5,.int ((r4++[V.ref t5]++[V.ref t6]).length:Nat)])) ra (.lst ((r4++[V.ref t5]++[V.ref t6]).set r2.length (.ref t7))) ra=some (.lst ((r4++[V.ref t5]++[V.ref t6]).set r2.length (.ref t7))):=upd_same;generalize upd (upd H6 t7 (.tup [.int 5,.int ((r4++[V.ref t5]++[V.ref t6]).length:Nat)])) ra (.lst ((r4++[V.ref t5]++[V.ref t6]).set r2.length (.ref t7)))=H7 at *
 refine#[-1,mk,CM,dx,_,-1,M7.ob,T.mak,T.mrows,rfl,.inl #[rfl,_,.of e7],sm2,λt8 ht8=>?_];have s7:=zM ht8 (.tup [.int 0,.int 0]);refine#[ra,_,-1,rfl,s7 _ _ e7,by rw[Gi];exact xR (show(r4++[V.ref t5]++[V.ref t6]).length<=100000 by lia) (by decide),?_];have M8:=(M7.same s7).row (g:=[0,0]) upd_same (s7 _ _ e7);refine q _ (k1.trans (k2.trans (k3.trans (k4.trans (k5.trans (k6.trans (k7.trans ((AY.same s7).trans AY.rows)))))))) ?_;have a1:gs++XG gs.length [bare x,bare y]=((gs++[[9,0]]++CO (gs.length+1) (bare x)++[[5,0]]++CO (gs.length+rl (bare x)+2) (bare y)++[[3,0]]++[[4,(gs.length:Int)]]).set r2.length [5,((r4++[V.ref t5]++[V.ref t6]).length:Nat)])++[[0,0]]:=by
  have e0:gs++[[9,0]]++CO (gs.length+1) (bare x)++[[5,0]]++CO (gs.length+rl (bare x)+2) (bare y)++[[3,0]]++[[4,(gs.length:Int)]]=(gs++[[9,0]]++CO (gs.length+1) (bare x))++[5,0]::(CO (gs.length+rl (bare x)+2) (bare y)++[[3,0]]++[[4,(gs.length:Int)]]):=by simp
  rw[e0,NP _ _ _ _ (by rw[n2,l2])];rw[n6];unfold XG;rw[kS];unfold KM;unfold KM;have r0:kA []=0:=by unfold kA;rfl
  rw[r0,show gs.length+rl (bare x)+(rl (bare y)+0)+4=gs.length+rl (bare x)+rl (bare y)+4 by lia]
  simp
 have a2:GR 5 ([x,y].length -1) 0 (gs.length+1) [x,y]=Kz (gs.length+1) x++Kz (gs.length+rl (bare x)+2) y:=by
  unfold GR;unfold GR;unfold GR;unfold KL;rw[zQ (.inr rfl),xI,show gs.length+1+rl (bare x)+1=gs.length+rl (bare x)+2 by lia]
 rw[a1,a2,<-yN];exact M8
theorem zHa:List.replicate (n+1) g=List.replicate n g++[g]:=Dr
theorem Oj (d:Nat)(T:Ml K mg CM)(F:qT K "make_pick" "make_pick" EF f fd)(Ch:jY P w K mg base kk "make_node" ["making","node"] (EB CM hs d)):vO P w K mg base (kk+1) f fd ["making","parts"] (SB CM hs d):=by
 exists uT;obtain⟨mk,dx,ha,ra,pa,qa,us,ps,gs,ls,bx,rfl,M,eq,pr,ft,ne,z1,z2,q⟩:=h;exists _,(zC (yP 2 uT.nd (yK uM (xK xA rfl T.n_len kO (zA (pv 1) zB)) zI))
   (zC (kG (zH Ch hr rfl (zA (pv 0) (zA (yZ xL (pv 1) zI (λ_ _=>rfl)) zB)) zV))
   (zC (kG (Bb yR yX yW kT (jJ (pv 0) rfl) (zA (xO (zA (yH rfl T.m_OP_PICK) (zA (pv 2) zB))) zB)))
   (zC (yP 3 uT.nd (xK xA rfl T.n_len kO (zA (jJ (pv 0) rfl) zB)))
   (zC (yP 4 uT.nd (yK jF (pv 3) (pv 2)))
   (zC (qS yY rfl (Aj rfl T.n_range (zA (yK jF (pv 2) zI) zB)) (zY 5 uT.nd) (zL (kG (Bb yR yX yW kT (jJ (pv 0) rfl) (zA (xO (zA (yH rfl T.m_OP_JUMP) (zA zI zB))) zB)))))
   (zC (qS yY rfl (Ja rfl T.n_enumerate (zA (wD Lp (pv 1) (wC zI) Au) zB)) (qO rfl (yF (zY 6 uT.nd) (yF (zY 7 uT.nd) jS))) (zC (DB (xD (zX Kr (pv 6) zI (yG _)) (zL (kG (Bb yR yX yW kT (jJ (pv 0) rfl) (zA (xO (zA (yH rfl T.m_OP_JUMP) (zA (pv 4) zB))) zB)))) yD))
   (zC (wS (xO (zA (yH rfl T.m_OP_JUMP) (zA (xK xA rfl T.n_len kO (zA (jJ (pv 0) rfl) zB)) zB))) (LI (jJ (pv 0) rfl) (yK jF (pv 3) (pv 6)) Gv))
   (zL (kG (zH Ch hr rfl (zA (pv 0) (zA (pv 7) zB)) zV))))))
   (zL (wS (xO (zA (yH rfl T.m_OP_JUMP) (zA (xK xA rfl T.n_len kO (zA (jJ (pv 0) rfl) zB)) zB))) (LI (jJ (pv 0) rfl) (pv 4) Gv))))))))))
 have ne:2<=(zU ps).length:=ne;rw[qB]at ne;cases ps with
 |nil=>cases ne
 |cons p ps=>
 obtain⟨u,us,rfl,pu,pr⟩:=MY pr;rw[show zU (p::ps)=bare p::zU ps from rfl]at ft z1 q;unfold qV at ft;rw[kS]at z1;rw[Ad]at z2;rw[zK]at z1 q ne;have z1:gs.length+(rl (bare p)+kA (zU ps))+(2*(ps.length+1-1)+1)<=100000:=z1;have gd1:=DC d _ ft.1;have gd2:=KS d _ ft.2;have hl:=Paired.len pr;refine#[-1,qa,-1,.inr (.of eq),_,-1,rfl,?_];have em:(((u::us).length:Nat):Int)-1=(ps.length:Nat):=by rw[zK,hl];lia
 dsimp only[wI,List.set];rw[em];refine#[-2,qa,_,_,-1,rfl,.of eq,at0,mk,dx,ha,ra,pa,u,p,gs,ls,bx,rfl,M,pu,ft.1,(),(),λH1 k1 M1=>?_];have lx:=wO (bare p) gs.length gd1;have l1:(gs++CO gs.length (bare p)).length =gs.length+rl (bare p):=by rw[zE,lx]
 have t1:=M.tups k1;obtain⟨r1,e1,_⟩:=id M1.rows;have n1:=M1.len e1;rw[l1]at n1;refine#[-1,mk,CM,dx,_,-1,M1.ob,T.mak,T.mrows,rfl,.inl #[rfl,_,.of e1],-1,sm2,λt2 ht2=>?_];have s1:=zM ht2 (.tup [.int 11,.int (ps.length:Nat)]);refine#[ra,r1,-1,rfl,s1 _ _ e1,xR (show r1.length<=100000 by lia) (by decide),?_];have M2:=(M1.same s1).row (g:=[11,(ps.length:Int)]) upd_same (s1 _ _ e1);have k2:AY ra pa H1 (upd (upd H1 t2 (.tup [.int 11,.int (ps.length:Nat)])) ra (.lst (r1++[.ref t2]))):=(AY.same s1).trans AY.rows;have e2:upd (upd H1 t2 (.tup [.int 11,.int (ps.length:Nat)])) ra (.lst (r1++[.ref t2])) ra=some (.lst (r1++[.ref t2])):=upd_same;generalize upd (upd H1 t2 (.tup [.int 11,.int (ps.length:Nat)])) ra (.lst (r1++[.ref t2]))=H2 at *
 have n2:(r1++[V.ref t2]).length =gs.length+rl (bare p)+1:=by
  rw[zE,n1];rfl
 refine#[-1,mk,CM,dx,_,-1,M2.ob,T.mak,T.mrows,rfl,ra,-1,.inl (.of e2),?_];rw[n2];refine#[-2,_,-1,rfl,?_];refine#[-1,_,-1,rfl,-1,(),(),?_];have l2:(gs++CO gs.length (bare p)++[[11,(ps.length:Int)]]).length =gs.length+rl (bare p)+1:=by
  rw[zE,l1];rfl
 generalize hG:gs++CO gs.length (bare p)++[[11,(ps.length:Int)]]=G1 at *
 refine AN (lo:=0) (n:=((ps.length:Int)+1).toNat) (λi U' H'=>AY ra pa H2 H'/\HH CM H' mk dx ha ra pa (G1++List.replicate i [4,0]) (ls++Kz gs.length p)/\ ∃v5,U'=[some (.ref mk),some (.ref qa),some (.int (ps.length:Nat)),some (.int ((gs.length+rl (bare p)+1:Nat):Int)),some (.int (((gs.length+rl (bare p)+1:Nat):Int)+(ps.length:Nat))),v5,none,none]) #[λ_ _ _ _ e=>e,by rw[List.replicate_zero,xI];exact M2,-1] ?_ ?_
 ·rintro i U' H3 hi ⟨k3,M3,v5,rfl⟩;obtain⟨r3,e3,_⟩:=id M3.rows;have n3:=M3.len e3;rw[zE,l2,qG]at n3;refine#[-1,mk,CM,dx,_,-1,M3.ob,T.mak,T.mrows,rfl,.inl #[rfl,_,.of e3],sm2,λt ht=>?_];have s3:=zM ht (.tup [.int 4,.int 0]);refine#[ra,r3,-1,rfl,s3 _ _ e3,xR (show r3.length<=100000 by lia) (by decide),?_];have M4:=(M3.same s3).row (g:=[4,0]) upd_same (s3 _ _ e3);rw[yN,<-zHa]at M4;exact#[k3.trans ((AY.same s3).trans AY.rows),M4,-1]
 rintro U' H3 ⟨k3,M3,v5,rfl⟩;rw[show((ps.length:Int)+1).toNat =ps.length+1 by lia]at M3;have t3:vN H H3:=λb xs e=>M2.tups k3 _ _ (M1.tups k2 _ _ (t1 _ _ e));refine#[-2,qa,-1,.of (t3 _ _ eq),?_,λc hc=>?_]
 ·rintro⟨z,_⟩;have:HT.sIx (u::us).length 0 (some (1:Int))=min 1 (u::us).length:=HT.sIx_nat _ _ 1;rw[this,zK]at z;lia
 have ec:Bu (u::us) (some (1:Int)) none=us:=Fl 1;rw[ec];have sc:=zM hc (.tup us);have M4:=M3.same sc;have k4:AY ra pa H (upd H3 c (.tup us)):=k1.trans (k2.trans (k3.trans (.same sc)));have e4:upd H3 c (.tup us) c=some (.tup us):=upd_same;generalize upd H3 c (.tup us)=H4 at *
 refine#[c,-1,.of e4,HA (xs:=us) (λi U' H'=>AY ra pa H H'/\vN H4 H'/\HH CM H' mk dx ha ra pa (G1++(Iq (gs.length+rl (bare p)+ps.length+2) true (zU (ps.take i))).map (λs:Nat=>[4,(s:Int)])++List.replicate (ps.length+1-i) [4,0]++Iv (gs.length+rl (bare p)+ps.length+2) (gs.length+rl (bare p)+ps.length+1) true (zU (ps.take i))) (ls++GR 4 (ps.length+1-1) 0 gs.length (p::ps.take i))/\
  ∃v5 v6 v7,U'=[some (.ref mk),some (.ref qa),some (.int (ps.length:Nat)),some (.int ((gs.length+rl (bare p)+1:Nat):Int)),some (.int (((gs.length+rl (bare p)+1:Nat):Int)+(ps.length:Nat))),v5,v6,v7]) #[k4,λ_ _ e=>e,?_,_,_,-1] (λi U' H' _ hh=>.of (hh.2.1 _ _ e4)) ?_ ?_]
 ·rw[AI];have a1:zU []=[]:=rfl;have a2:Iq (gs.length+rl (bare p)+ps.length+2) true []=[]:=by unfold Iq;rfl
  have a3:Iv (gs.length+rl (bare p)+ps.length+2) (gs.length+rl (bare p)+ps.length+1) true []=[]:=by unfold Iv;rfl
  have a4:GR 4 (ps.length+1-1) 0 gs.length [p]=Kz gs.length p:=by
   unfold GR;unfold GR;rw[xI]
  rw[a1,a2,a3,a4,List.map_nil,xI,xI,Nat.sub_zero];exact M4
 ·rintro i v U' H5 tt hv ⟨k5,t5,M5,v5,v6,v7,rfl⟩ htt;have hi:=(List.getElem?_eq_some_iff.mp hv).1;have ex:ps[i]? =some (ps[i]'()):=zF _;have pv:=Paired.get pr _ _ _ hv ex;have et:ps.take (i+1)=ps.take i++[ps[i]'()]:=by rw[vH,ex];rfl
  generalize(ps[i]'())=x at *
  have sT:=zM htt (.tup [.int (i:Nat),v]);have M5':=M5.same sT;have t5':vN H4 (upd H5 tt (.tup [.int (i:Nat),v])):=λb xs e=>sT _ _ (t5 _ _ e);have k5':AY ra pa H (upd H5 tt (.tup [.int (i:Nat),v])):=k5.trans (.same sT);refine#[tt,-1,.of upd_same,rfl,_,-1,_,-1,rfl,?_];generalize upd H5 tt (.tup [.int (i:Nat),v])=H6 at *
  have li:(zU (ps.take i)).length =i:=by rw[qB,xM];lia
  have lP:(Iv (gs.length+rl (bare p)+ps.length+2) (gs.length+rl (bare p)+ps.length+1) true (zU (ps.take i))).length =kA (zU (ps.take i))+(i-1):=by rw[Jj _ _ _ _ (LZ i gd2),zQ rfl,li]
  have lA:(G1++(Iq (gs.length+rl (bare p)+ps.length+2) true (zU (ps.take i))).map (λs:Nat=>[4,(s:Int)])).length =gs.length+rl (bare p)+1+i:=by rw[zE,l2,zG,Hv,li]
  have l6:(G1++(Iq (gs.length+rl (bare p)+ps.length+2) true (zU (ps.take i))).map (λs:Nat=>[4,(s:Int)])++List.replicate (ps.length+1-i) [4,0]++Iv (gs.length+rl (bare p)+ps.length+2) (gs.length+rl (bare p)+ps.length+1) true (zU (ps.take i))).length =gs.length+rl (bare p)+ps.length+2+kA (zU (ps.take i))+(i-1):=by
   rw[zE,zE,lA,qG,lP];lia
  have lr:=LD ps (i+1);rw[et,AO,IW,show kA (zU [x])=rl (bare x)by rw[show zU [x]=[bare x]from rfl,kS];unfold kA;rfl]at lr;have nr:=LM ps (i+1);rw[et,Jh,show Gg [x]=HM x by rw[Ad];unfold Gg;rfl]at nr;generalize hA:G1++(Iq (gs.length+rl (bare p)+ps.length+2) true (zU (ps.take i))).map (λs:Nat=>[4,(s:Int)])=A1 at *
  generalize hP:Iv (gs.length+rl (bare p)+ps.length+2) (gs.length+rl (bare p)+ps.length+1) true (zU (ps.take i))=P1 at *
  refine#[λU' H'=>AY ra pa H6 H'/\HH CM H' mk dx ha ra pa (A1++List.replicate (ps.length+1-i) [4,0]++P1++(if i=0 then[]else[[4,((gs.length+rl (bare p)+ps.length+1:Nat):Int)]])) (ls++GR 4 (ps.length+1-1) 0 gs.length (p::ps.take i))/\U'=[some (.ref mk),some (.ref qa),some (.int (ps.length:Nat)),some (.int ((gs.length+rl (bare p)+1:Nat):Int)),some (.int (((gs.length+rl (bare p)+1:Nat):Int)+(ps.length:Nat))),v5,some (.int (i:Nat)),some v],?_,?_]
  ·obtain⟨r6,e6,_⟩:=id M5'.rows;have n6:=M5'.len e6;rw[l6]at n6;refine#[-1,_,-1,rfl,-1,jK (λc=>?_) (λc=>?_)]
   ·have c':(i:Int) > 0:=yB c;refine#[-1,mk,CM,dx,_,-1,M5'.ob,T.mak,T.mrows,rfl,.inl #[rfl,_,.of e6],-1,sm2,λt ht=>?_];have s6:=zM ht (.tup [.int 4,.int (((gs.length+rl (bare p)+1:Nat):Int)+(ps.length:Nat))]);refine#[ra,r6,-1,rfl,s6 _ _ e6,xR (show r6.length<=100000 by lia) (by decide),?_];have M6:=(M5'.same s6).row (g:=[4,((gs.length+rl (bare p)+1:Nat):Int)+(ps.length:Nat)]) upd_same (s6 _ _ e6);rw[show((gs.length+rl (bare p)+1:Nat):Int)+(ps.length:Nat)=((gs.length+rl (bare p)+ps.length+1:Nat):Int)by lia]at M6;refine#[(AY.same s6).trans AY.rows,?_,rfl];rw[zN (),show((gs.length+rl (bare p)+1:Nat):Int)+(ps.length:Nat)=((gs.length+rl (bare p)+ps.length+1:Nat):Int)by lia];exact M6
   ·have c': ¬(i:Int) > 0:=λz=>c (zP z);refine#[λ_ _ _ _ e=>e,?_,rfl];rw[zQ (),xI];exact M5'
  ·rintro _ H7 ⟨k7,M7,rfl⟩;have l7:(A1++List.replicate (ps.length+1-i) [4,0]++P1++(if i=0 then[]else[[4,((gs.length+rl (bare p)+ps.length+1:Nat):Int)]])).length =gs.length+rl (bare p)+ps.length+2+kA (zU (ps.take i))+i:=by
    rw[zE,l6];split
    ·show _+0=_;lia
    ·show _+1=_;lia
   obtain⟨r7,e7,_⟩:=id M7.rows;have n7:=M7.len e7;rw[l7]at n7;refine#[-1,mk,CM,dx,_,-1,M7.ob,T.mak,T.mrows,rfl,ra,-1,.inl (.of e7),sm2,λt ht=>?_];have s7:=zM ht (.tup [.int 4,.int (r7.length:Nat)]);have M7':=M7.same s7;have e7':=s7 _ _ e7;refine#[-1,mk,CM,dx,_,-1,M7'.ob,T.mak,T.mrows,rfl,-2,_,-1,rfl,ra,_,_,gs.length+rl (bare p)+1+i,rfl,rfl,e7',?_,?_]
   ·show WK _ (((gs.length+rl (bare p)+1:Nat):Int)+(i:Nat))=_;rw[show((gs.length+rl (bare p)+1:Nat):Int)+(i:Nat)=((gs.length+rl (bare p)+1+i:Nat):Int)by lia];exact RP ()
   have M8:=M7'.setR (g:=[4,(r7.length:Nat)]) (gs.length+rl (bare p)+1+i) upd_same e7';have k8:AY ra pa H7 (upd (upd H7 t (.tup [.int 4,.int (r7.length:Nat)])) ra (.lst (r7.set (gs.length+rl (bare p)+1+i) (.ref t)))):=(AY.same s7).trans AY.rows;generalize upd (upd H7 t (.tup [.int 4,.int (r7.length:Nat)])) ra (.lst (r7.set (gs.length+rl (bare p)+1+i) (.ref t)))=H8 at *
   have es:(A1++List.replicate (ps.length+1-i) [4,0]++P1++(if i=0 then[]else[[4,((gs.length+rl (bare p)+ps.length+1:Nat):Int)]])).set (gs.length+rl (bare p)+1+i) [4,(r7.length:Nat)]=A1++[[4,((gs.length+rl (bare p)+ps.length+2+kA (zU (ps.take i))+i:Nat):Int)]]++List.replicate (ps.length+1-(i+1)) [4,0]++P1++(if i=0 then[]else[[4,((gs.length+rl (bare p)+ps.length+1:Nat):Int)]]):=by
    rw[show ps.length+1-i=ps.length+1-(i+1)+1 by lia,List.replicate_succ,n7];rw[yN,yN,xN,NP _ _ _ _ lA.symm]
    simp
   rw[es]at M8;have l8:(A1++[[4,((gs.length+rl (bare p)+ps.length+2+kA (zU (ps.take i))+i:Nat):Int)]]++List.replicate (ps.length+1-(i+1)) [4,0]++P1++(if i=0 then[]else[[4,((gs.length+rl (bare p)+ps.length+1:Nat):Int)]])).length =gs.length+rl (bare p)+ps.length+2+kA (zU (ps.take i))+i:=by
    rw[<-es,Gi,l7]
   have t8:vN H H8:=M.tups (k5'.trans (k7.trans k8));refine#[-2,mk,dx,ha,ra,pa,v,x,_,_,bx,rfl,M8,pv.tups t8,Js ft.2 ex,(),?_,λH9 k9 M9=>#[k5'.trans (k7.trans (k8.trans k9)),λb xs e=>M8.tups k9 _ _ (M7.tups k8 _ _ (M5'.tups k7 _ _ (t5' _ _ e))),?_,_,_,-1]]
   ·rw[zE,Hu,Ad];lia
   ·rw[l8]at M9;rw[et,AO,show zU [x]=[bare x]from rfl,VL,Wv,li,hP,yV,<-yN G1,hA];have a2:GR 4 (ps.length+1-1) 0 gs.length (p::(ps.take i++[x]))=GR 4 (ps.length+1-1) 0 gs.length (p::ps.take i)++Kz (gs.length+rl (bare p)+ps.length+2+kA (zU (ps.take i))+i) x:=by
     rw[<-xN,IZ];rw[show zU (p::ps.take i)=bare p::zU (ps.take i)from rfl];unfold Tw;rw[Qy _ _ _ _ (Nat.succ_pos _),li];unfold KL;rw[zN (by decide),zQ rfl,zQ rfl,show gs.length+rl (bare p)+(ps.length+1-1+2)+kA (zU (ps.take i))+i=gs.length+rl (bare p)+ps.length+2+kA (zU (ps.take i))+i by lia]
    rw[a2];rw[yN ls]at M9;have e9:A1++[[4,((gs.length+rl (bare p)+ps.length+2+kA (zU (ps.take i))+i:Nat):Int)]]++List.replicate (ps.length+1-(i+1)) [4,0]++P1++(if i=0 then[]else[[4,((gs.length+rl (bare p)+ps.length+1:Nat):Int)]])++CO (gs.length+rl (bare p)+ps.length+2+kA (zU (ps.take i))+i) (bare x)=A1++[[4,((gs.length+rl (bare p)+ps.length+2+kA (zU (ps.take i))+i:Nat):Int)]]++List.replicate (ps.length+1-(i+1)) [4,0]++(P1++((if i=0 then[]else[[4,((gs.length+rl (bare p)+ps.length+1:Nat):Int)]])++CO (gs.length+rl (bare p)+ps.length+2+kA (zU (ps.take i))+i) (bare x))):=by simp
    rw[e9]at M9;exact M9
 ·rintro U' H5 ⟨k5,t5,M5,v5,v6,v7,rfl⟩;rw[hl,jL,show ps.length+1-ps.length=1 by lia,show List.replicate 1 ([4,0]:a6 Int)=[[4,0]]from rfl]at M5;have lP:(Iv (gs.length+rl (bare p)+ps.length+2) (gs.length+rl (bare p)+ps.length+1) true (zU ps)).length =kA (zU ps)+(ps.length-1):=by rw[Jj _ _ _ _ gd2,zQ rfl,qB]
  have lA:(G1++(Iq (gs.length+rl (bare p)+ps.length+2) true (zU ps)).map (λs:Nat=>[4,(s:Int)])).length =gs.length+rl (bare p)+1+ps.length:=by rw[zE,l2,zG,Hv,qB]
  have l5:(G1++(Iq (gs.length+rl (bare p)+ps.length+2) true (zU ps)).map (λs:Nat=>[4,(s:Int)])++[[4,0]]++Iv (gs.length+rl (bare p)+ps.length+2) (gs.length+rl (bare p)+ps.length+1) true (zU ps)).length =gs.length+rl (bare p)+ps.length+2+kA (zU ps)+(ps.length-1):=by
   rw[zE,zE,lA,lP];show _+1+_=_;lia
  obtain⟨r5,e5,_⟩:=id M5.rows;have n5:=M5.len e5;rw[l5]at n5;refine#[-1,mk,CM,dx,_,-1,M5.ob,T.mak,T.mrows,rfl,ra,-1,.inl (.of e5),sm2,λt ht=>?_];have s5:=zM ht (.tup [.int 4,.int (r5.length:Nat)]);have M5':=M5.same s5;have e5':=s5 _ _ e5;refine#[-1,mk,CM,dx,_,-1,M5'.ob,T.mak,T.mrows,rfl,-1,ra,_,_,gs.length+rl (bare p)+1+ps.length,rfl,rfl,e5',?_,?_]
  ·rw[show((gs.length+rl (bare p)+1:Nat):Int)+(ps.length:Nat)=((gs.length+rl (bare p)+1+ps.length:Nat):Int)by lia];exact RP ()
  have M8:=M5'.setR (g:=[4,(r5.length:Nat)]) (gs.length+rl (bare p)+1+ps.length) upd_same e5';refine q _ (k5.trans ((AY.same s5).trans AY.rows)) ?_;have es:(G1++(Iq (gs.length+rl (bare p)+ps.length+2) true (zU ps)).map (λs:Nat=>[4,(s:Int)])++[[4,0]]++Iv (gs.length+rl (bare p)+ps.length+2) (gs.length+rl (bare p)+ps.length+1) true (zU ps)).set (gs.length+rl (bare p)+1+ps.length) [4,(r5.length:Nat)]=gs++YF gs.length (bare p::zU ps):=by
   rw[yN,List.singleton_append,NP _ _ _ _ lA.symm,n5,<-hG];unfold YF;rw[qB]
   simp
  rw[es]at M8;exact M8
theorem MA (d:Nat)(T:Ml K mg CM)(F:qT K "make_node" "make_node" EG f fd)(Ch:jY P w K mg base kk "make_node" ["making","node"] (EB CM hs d))(Ce8:jY P w K mg base (kk+1) "make_all" ["making","parts"] (SC CM hs d))
  (Ce1:jY P w K mg base (kk+1) "make_pick" ["making","parts"] (SB CM hs d)) (Ce0:jY P w K mg base (kk+1) "make_loop" ["making","parts"] (SA CM hs d)) (Cw:jY P w K mg base 1 "own_row" ["kind","numbers"] Gs):vO P w K mg base (kk+2) f fd ["making","node"] (EB CM hs (d+1)):=by
 exists uU;obtain⟨mk,dx,ha,ra,pa,v,nd,gs,ls,bx,rfl,M,na,ft,z1,z2,q⟩:=h;exists _,(zC (wS (pv 1) (qO rfl (yF (zY 2 uU.nd) (yF (zY 3 uU.nd) (yF (zY 4 uU.nd) (yF (zY 5 uU.nd) jS))))))
   (zC (yP 6 uU.nd (xK xA rfl T.n_len kO (zA (jJ (pv 0) rfl) zB)))
   (zC (DB (xD (zX jM (pv 2) (yH rfl T.m_ALL) (yG _)) (zL (kG (zH Ce8 hr rfl (zA (pv 0) (zA (pv 5) zB)) zV))) (zL (xD (zX jM (pv 2) (yH rfl T.m_PICK) (yG _)) (zL (kG (zH Ce1 hr rfl (zA (pv 0) (zA (pv 5) zB)) zV))) (zL (xD (zX jM (pv 2) (yH rfl T.m_LOOP) (yG _)) (zL (kG (zH Ce0 hr rfl (zA (pv 0) (zA (pv 5) zB)) zV))) (zC (qS yY rfl (Ir (pv 5)) (zY 7 uU.nd) (zL (kG (zH Ch hr rfl (zA (pv 0) (zA (pv 7) zB)) zV))))
   (zL (kG (Bb yR yX yW kT (jJ (pv 0) rfl) (zA (zH Cw hr rfl (zA (pv 2) (zA (pv 4) zB)) zV) zB)))))))))))
   (zL (kG (Bb yR yX yW kT (jJ (pv 0) rfl) (zA (xO (zA (pv 3) (zA (pv 6) (zA (xK xA rfl T.n_len kO (zA (jJ (pv 0) rfl) zB)) zB)))) zB)))))))
 obtain⟨k,pl,own,ps⟩:=nd;obtain⟨t,o,qa,us,rfl,et,eo,eq,pr⟩:=na;rw[show bare (.mk k pl own ps)=.mk k own (zU ps)from rfl]at ft z1 q;have gd:=DC _ _ ft;unfold wW at ft;obtain⟨k0,k1,of,lp,_,fp⟩:=ft;unfold KY at gd;have z2:ls.length+(1+Gg ps)<=100000:=by rw[show HM (.mk k pl own ps)=1+Gg ps by rw[HM]]at z2;exact z2
 obtain⟨rs,er,_⟩:=id M.rows;have ln:=M.len er;refine#[-1,t,-1,.of et,rfl,_,-1,_,-1,_,-1,_,-1,rfl,?_];refine#[-1,mk,CM,dx,_,-1,M.ob,T.mak,T.mrows,rfl,ra,-1,.inl (.of er),?_];rw[ln];refine#[λU' H'=>AY ra pa H H'/\HH CM H' mk dx ha ra pa (gs++CO gs.length (.mk k own (zU ps))) (ls++GR k (ps.length-1) 0 (gs.length+if k=5 then 1 else 0) ps)/\ ∃v7,U'=[some (.ref mk),some (.ref t),some (.int k),some (.int (pl:Nat)),some (.ref o),some (.ref qa),some (.int (gs.length:Nat)),v7],?_,?_]
 ·refine#[-1,rfl,-1,jK (λc=>?_) (λc3=>?_)]
  ·have e:=vt c;subst e;have z:gs.length+kA (zU ps)+(ps.length-1)<=100000:=by
    rw[rl,zQ rfl,qB]at z1;lia
   refine#[-2,mk,dx,ha,ra,pa,qa,us,ps,gs,ls,bx,rfl,M,eq,pr,fp,gd.1 rfl,z,(),λH' k' M'=>#[k',?_,-1]];rw[CO,zQ rfl];exact M'
  have n3:=vf c3;refine#[-1,rfl,-1,jK (λc=>?_) (λc4=>?_)]
  ·have e:=vt c;subst e;have z:gs.length+kA (zU ps)+(2*(ps.length-1)+1)<=100000:=by
    rw[rl,zN (by decide),zQ rfl,qB]at z1;lia
   refine#[-2,mk,dx,ha,ra,pa,qa,us,ps,gs,ls,bx,rfl,M,eq,pr,fp,gd.2.1 rfl,z,(),λH' k' M'=>#[k',?_,-1]];rw[CO,zN (by decide),zQ rfl];exact M'
  have n4:=vf c4;refine#[-1,rfl,-1,jK (λc=>?_) (λc5=>?_)]
  ·have e:=vt c;subst e;have z:gs.length+kA (zU ps)+5<=100000:=by
    rw[rl,zN (by decide),zN (by decide),zQ rfl]at z1;lia
   refine#[-2,mk,dx,ha,ra,pa,qa,us,ps,gs,ls,bx,rfl,M,eq,pr,fp,gd.2.2.1 rfl,z,(),λH' k' M'=>#[k',?_,-1]];rw[CO,zN (by decide),zN (by decide),zQ rfl];exact M'
  have n5:=vf c5;have gp:=gd.2.2.2;rw[rl,zN n3,zN n4,zN n5]at z1;refine#[-1,qa,rfl,#[_,.of eq],Jr (xs:=us) (λi U' H'=>AY ra pa H H'/\vN H H'/\HH CM H' mk dx ha ra pa (gs++KM gs.length (zU (ps.take i))) (ls++GR k (ps.length-1) 0 gs.length (ps.take i))/\ ∃v7,U'=[some (.ref mk),some (.ref t),some (.int k),some (.int (pl:Nat)),some (.ref o),some (.ref qa),some (.int (gs.length:Nat)),v7]) #[λ_ _ _ _ e=>e,λ_ _ e=>e,?_,-1] (λi U' H' _ hh=>.of (hh.2.1 _ _ eq)) ?_ ?_]
  ·rw[AI,show zU []=[]from rfl,show KM gs.length []=[]by rw[KM],show GR k (ps.length-1) 0 gs.length []=[]by rw[GR],xI,xI];exact M
  ·rintro i v U' H3 hv ⟨k3,t3,M3,v7,rfl⟩;have hl:=Paired.len pr;have hi:=(List.getElem?_eq_some_iff.mp hv).1;have ex:ps[i]? =some (ps[i]'()):=zF _;have pv:=Paired.get pr _ _ _ hv ex;have et':ps.take (i+1)=ps.take i++[ps[i]'()]:=by rw[vH,ex];rfl
   generalize(ps[i]'())=x at *
   have lS:(gs++KM gs.length (zU (ps.take i))).length =gs.length+kA (zU (ps.take i)):=by rw[zE,Hy _ _ (LZ i gp)]
   have lr:=LD ps (i+1);rw[et',AO,IW,show kA (zU [x])=rl (bare x)by rw[show zU [x]=[bare x]from rfl,kS];unfold kA;rfl]at lr;have nr:=LM ps (i+1);rw[et',Jh,show Gg [x]=HM x by rw[Ad];unfold Gg;rfl]at nr;refine#[-2,mk,dx,ha,ra,pa,v,x,_,_,bx,rfl,M3,pv.tups t3,Js fp ex,(),?_,λH5 k5 M5=>#[k3.trans k5,λb xs e=>M3.tups k5 _ _ (t3 _ _ e),?_,-1]]
   ·rw[zE,Hu];lia
   ·rw[lS]at M5;rw[et',AO,show zU [x]=[bare x]from rfl,PV,IZ,Tu n3 n4 n5,<-yN,<-yN];exact M5
  ·rintro U' H3 ⟨k3,t3,M3,v7,rfl⟩;have hl:=Paired.len pr;rw[hl,jL]at M3;obtain⟨r3,e3,_⟩:=id M3.rows;have l3:=M3.len e3;rw[zE,Hy _ _ gp]at l3;refine#[-1,mk,CM,dx,_,-1,M3.ob,T.mak,T.mrows,rfl,.inl #[rfl,_,.of e3],-2,k,o,own,hs,bx,rfl,t3 _ _ eo,of,n3,n4,n5,λt4 ht4=>?_];have s3:=zM ht4 (.tup ((Ek k own).map V.int));refine#[ra,r3,-1,rfl,s3 _ _ e3,xR (show r3.length<=100000 by lia) (by decide),?_];have M4:=(M3.same s3).row (g:=Ek k own) upd_same (s3 _ _ e3);refine#[k3.trans ((AY.same s3).trans AY.rows),?_,-1];rw[CO,zN n3,zN n4,zN n5,zN n5,<-yN];exact M4
 ·rintro U' H5 ⟨k5,M5,v7,rfl⟩;obtain⟨r5,e5,_⟩:=id M5.rows;obtain⟨p5,f5,pp5⟩:=id M5.pap;have lT:(gs++CO gs.length (.mk k own (zU ps))).length =gs.length+rl (.mk k own (zU ps)):=by rw[zE,wO _ _ (by unfold KY;exact gd)]
  have l5:=M5.len e5;rw[lT]at l5;have lq:=Paired.len pp5;rw[zE,Hu]at lq;refine#[-1,mk,CM,dx,_,-1,M5.ob,T.mak,T.mpaper,rfl,.inl #[rfl,_,.of f5],-3,mk,CM,dx,_,-1,M5.ob,T.mak,T.mrows,rfl,ra,-1,.inl (.of e5),sm3,λt6 ht6=>?_];have s5:=zM ht6 (.tup [.int (pl:Nat),.int (gs.length:Nat),.int (r5.length:Nat)]);refine#[pa,p5,-1,rfl,s5 _ _ f5,xR (show p5.length<=100000 by lia) (by decide),?_];have M6:=(M5.same s5).line (g:=[(pl:Int),(gs.length:Int),(r5.length:Int)]) upd_same (s5 _ _ f5);refine q _ (k5.trans ((AY.same s5).trans AY.paper)) ?_;rw[Kz,<-yN,<-l5];exact M6
theorem Pw (T:Ml K mg CM)(FN:qT K "make_node" "make_node" EG fN dN)(FA:qT K "make_all" "make_all" FM fA dA)(FK:qT K "make_pick" "make_pick" EF fK dK)(FL:qT K "make_loop" "make_loop" EH fL dL)
  (Cw:jY P w K mg base 1 "own_row" ["kind","numbers"] Gs) (cN: ∀{k:Nat} {sp:Sp},vO P w K mg base k fN dN ["making","node"] sp->jY P w K mg base k "make_node" ["making","node"] sp) (cA: ∀{k:Nat} {sp:Sp},vO P w K mg base k fA dA ["making","parts"] sp->jY P w K mg base k "make_all" ["making","parts"] sp)
  (cK: ∀{k:Nat} {sp:Sp},vO P w K mg base k fK dK ["making","parts"] sp->jY P w K mg base k "make_pick" ["making","parts"] sp) (cL: ∀{k:Nat} {sp:Sp},vO P w K mg base k fL dL ["making","parts"] sp->jY P w K mg base k "make_loop" ["making","parts"] sp):
  ∀d,jY P w K mg base (2*d+1) "make_node" ["making","node"] (EB CM hs d)
 |0=>cN #[λvs H Q E h=>by
   obtain⟨_,_,_,_,_,_,_,_,_,_,_,_,_,ft,_⟩:=h;unfold wW at ft;exact ft.elim,λ_ _ _ _ _ _ _ _ _ _ _ _ _ h=>by
   obtain⟨_,_,_,_,_,_,_,_,_,_,_,_,_,ft,_⟩:=h;unfold wW at ft;exact ft.elim]
 |d+1=>by
  have ih:=Pw (hs:=hs) T FN FA FK FL Cw cN cA cK cL d;exact cN (MA d T FN ih (cA (Px d T FA ih)) (cK (Oj d T FK ih)) (cL (Ol d T FL ih)) Cw)
theorem Ua (G:QD X.prog X.w X.K X.mg X.base CX k x C ps sp)(hr:Ao n X.A)(hg:Gl X x)(hx:BY CX X E)(hk:autoParam (k+1<=n) L2.aH._auto_1)(hdb:autoParam ((x==("__debug__":Str))=false) L2.aB._auto_1):PE X (.Call (.Name x p) [] [] pos) (Sw C sp [] E Mp):=by
 obtain⟨f,fd,M,F,hm,hb⟩:=G.ex;exact VS M F (hr.mono hk) hg hm hb .nil hx hdb
theorem Jk: ∀(fs:a6 IG) (b:Nat),(∀f∈fs,KY (bare f.2))->(Nc b fs).length =Fa fs
 |[],b,_=>rfl
 |f::r,b,h=>by
  show(CO b (bare f.2)++([7,0]::Nc (b+rl (bare f.2)+1) r)).length =rl (bare f.2)+1+Fa r;rw[zE,wO _ _ (h f (yA ..)),zK,Jk r _ λg hg=>h g (yC _ hg)];lia
theorem KJ: ∀(fs:a6 IG) (b:Nat),(UU b fs).length =Na fs
 |[],b=>rfl
 |f::r,b=>by
  show(Kz b f.2++UU (b+rl (bare f.2)+1) r).length =HM f.2+Na r;rw[zE,Of,KJ r]
theorem FZ: ∀(fs:a6 IG) (b:Nat),(Nk b fs).length =fs.length
 |[],b=>rfl
 |f::r,b=>by
  show(Nk (b+rl (bare f.2)+1) r).length +1=r.length+1;rw[FZ r]
inductive Ea (CM:i4) (hs:Ev) (vs:List V) (H:Hp) (Q:VK) (E:XK):Prop
 |mk (l:i4) (rs:List V) (fs:List IG) (h0:vs=[.ref l]) (h1:H l=some (.lst rs)) (h2:Paired (US H) rs fs) (h3:(∀f∈fs,wW hs f.1.2 10 (bare f.2))) (h4:Fa fs<=100000) (h5:Na fs<=100000) (h6:fs.length<=16) (h7: ∀(mk dx ha ra pa:i4) (H':Hp),xJ H H'->HH CM H' mk dx ha ra pa (Nc 0 fs) (UU 0 fs)->qU H' ha (Nk 0 fs)->H mk=none->H ha=none->H ra=none->H pa=none->Q (.ref mk) H'):Ea CM hs vs H Q E
theorem Tg (M:HH C H mk dx ha ra pa gs ls)(k:AY ra pa H H')(h:qU H ha hs)(n1:ha≠ra)(n2:ha≠pa):qU H' ha hs:=by
 obtain⟨rs,e,p⟩:=h;exact#[rs,k _ _ n1 n2 e,Paired.imp (λv g ⟨t,e1,e2⟩=>#[t,e1,M.tups k _ _ e2]) p]
theorem Oi (T:Ml K mg CM)(F:qT K "making_of" "making_of" GD f fd)(Cf4:QD P w K mg base (Hh P w) 1 "Making" CM ["self"] (IQ CM))(Ch:jY P w K mg base 21 "make_node" ["making","node"] (EB CM hs 10)):vO P w K mg base 22 f fd ["program"] (Ea CM hs):=by
 exists By;obtain⟨l,rs,fs,rfl,el,pr,ft,z1,z2,z3,q⟩:=h;exists _,(zC (yP 1 By.nd (Ua Cf4 hr rfl zV))
   (zC (qS yY rfl (vK (pv 0)) (qO rfl (yF (zY 2 By.nd) (yF (zY 3 By.nd) (yF (zY 4 By.nd) jS)))) (zC (kG (Bb yR yX yW kT (jJ (pv 1) rfl) (zA (xO (zA (xK xA rfl T.n_len kO (zA (jJ (pv 1) rfl) zB)) (zA (pv 2) (zA (pv 3) zB)))) zB)))
   (zC (kG (zH Ch hr rfl (zA (pv 1) (zA (pv 4) zB)) zV))
   (zL (kG (Bb yR yX yW kT (jJ (pv 1) rfl) (zA (xO (zA (yH rfl T.m_OP_BACK) (zA zI zB))) zB)))))))
   (zL (zT (pv 1)))))
 intro mk dx hmk hdx ndx;refine#[mk,dx,rfl,upd_same,λha ra pa H1 n1 n2 n3 nhr nhp kp M1 e1=>#[rfl,?_]];have hn: ∀{b:i4},upd (upd H dx (.own mk)) mk (.ins CM dx []) b=none->H b=none:=fun{b} e=>by
  have nb:b≠mk:=λz=>by rw[z,upd_same]at e;cases e
  rw[yJ nb]at e;have nd:b≠dx:=λz=>by rw[z,upd_same]at e;cases e
  rw[yJ nd]at e;exact e
 have hha:=hn n1;have hra:=hn n2;have hpa:=hn n3;have sH:xJ H H1:=λb o e=>kp b o (yQ e hmk) (by rw[yJ (yQ e hmk),yJ (yQ e hdx)];exact e);refine#[-1,l,rfl,#[_,.of (sH _ _ el)],Dh (xs:=rs) (λi U' H'=>xJ H H'/\HH CM H' mk dx ha ra pa (Nc 0 (fs.take i)) (UU 0 (fs.take i))/\qU H' ha (Nk 0 (fs.take i))/\ ∃v2 v3 v4,U'=[some (.ref l),some (.ref mk),v2,v3,v4]) #[sH,by rw[AI];exact M1,#[[],e1,.nil],_,_,-1] (λi U' H' _ hh=>.of (hh.1 _ _ el)) ?_ ?_]
 ·rintro i v U' H3 hv ⟨s3,M3,G3,v2,v3,v4,rfl⟩;have hl:=Paired.len pr;have hi:=(List.getElem?_eq_some_iff.mp hv).1;have ex:fs[i]? =some (fs[i]'()):=zF _;have pv:=Paired.get pr _ _ _ hv ex;have et':fs.take (i+1)=fs.take i++[fs[i]'()]:=by rw[vH,ex];rfl
  have fx:=ft _ (xB ex);generalize(fs[i]'())=x at *
  obtain⟨t,b,rfl,et,nb⟩:=pv;have gds: ∀f∈fs.take i,KY (bare f.2):=λf hf=>DC _ _ (ft f (List.mem_of_mem_take hf));obtain⟨r3,e3,_⟩:=id M3.rows;obtain⟨h3,f3,ph3⟩:=id G3;have l3:=M3.len e3;rw[Jk _ _ gds]at l3;have lh:=Paired.len ph3;rw[FZ,xM]at lh;have lr:=NY (fs.take (i+1)) (fs.drop (i+1));rw[qF,et',NY,show Fa [x]=rl (bare x.2)+1 from rfl]at lr;have nr:=Oq (fs.take (i+1)) (fs.drop (i+1));rw[qF,et',Oq,show Na [x]=HM x.2 from rfl]at nr;refine#[t,-1,.of (s3 _ _ et),rfl,_,-1,_,-1,_,-1,rfl,?_];refine#[-1,mk,CM,dx,_,-1,M3.ob,T.mak,T.mheads,rfl,.inl #[rfl,_,.of f3],-1,mk,CM,dx,_,-1,M3.ob,T.mak,T.mrows,rfl,ra,-1,.inl (.of e3),-2,sm3,λt4 ht4=>?_];have s4:=zM ht4 (.tup [.int (r3.length:Nat),.int x.1.1,.int x.1.2]);refine#[ha,h3,-1,rfl,s4 _ _ f3,xR (show h3.length<=1000 by lia) (by decide),?_];have ht4H:H t4=none:=s3.free ht4;have G4:=qU.push (g:=[(r3.length:Int),x.1.1,x.1.2]) (s4 _ _ f3) (Paired.imp (λv g ⟨t,e1,e2⟩=>#[t,e1,s4 _ _ e2]) ph3) #[t4,rfl,upd_same];have M3':=M3.same s4;have M4:HH CM (upd (upd H3 t4 (.tup [.int (r3.length:Nat),.int x.1.1,.int x.1.2])) ha (.lst (h3++[.ref t4]))) mk dx ha ra pa (Nc 0 (fs.take i)) (UU 0 (fs.take i)):=by
   refine#[?_,M3'.rows.put (s4 _ _ f3) (Ne.symm nhr),M3'.pap.put (s4 _ _ f3) (Ne.symm nhp),M3.ne];rw[yJ (λz=>by have:=M3'.ob;rw[z,s4 _ _ f3]at this;cases this)];exact M3'.ob
  have sH4:xJ H (upd (upd H3 t4 (.tup [.int (r3.length:Nat),.int x.1.1,.int x.1.2])) ha (.lst (h3++[.ref t4]))):=λb o e=>by
   rw[yJ (yQ e hha)];exact s4 _ _ (s3 _ _ e)
  generalize upd (upd H3 t4 (.tup [.int (r3.length:Nat),.int x.1.1,.int x.1.2])) ha (.lst (h3++[.ref t4]))=H4 at *
  have lf:(Nc 0 (fs.take i)).length =Fa (fs.take i):=Jk _ _ gds;refine#[-2,mk,dx,ha,ra,pa,b,x.2,_,_,x.1.2,rfl,M4,nb.tups λc xs e=>sH4 _ _ e,fx,(),by rw[KJ];lia,λH5 k5 M5=>?_];have sH5:xJ H H5:=λc o e=>k5 c o (yQ e hra) (yQ e hpa) (sH4 _ _ e);have G5:=Tg M4 k5 G4 nhr nhp;rw[lf]at M5;obtain⟨r5,e5,_⟩:=id M5.rows;have l5:=M5.len e5;rw[zE,lf,wO _ _ (DC _ _ fx)]at l5;refine#[-1,mk,CM,dx,_,-1,M5.ob,T.mak,T.mrows,rfl,.inl #[rfl,_,.of e5],sm2,λt6 ht6=>?_];have s5:=zM ht6 (.tup [.int 7,.int 0]);refine#[ra,r5,-1,rfl,s5 _ _ e5,xR (show r5.length<=100000 by lia) (by decide),?_];have M6:=(M5.same s5).row (g:=[7,0]) upd_same (s5 _ _ e5);have k6:AY ra pa H5 (upd (upd H5 t6 (.tup [.int 7,.int 0])) ra (.lst (r5++[.ref t6]))):=(AY.same s5).trans AY.rows;refine#[λc o e=>k6 c o (yQ e hra) (yQ e hpa) (sH5 _ _ e),?_,?_,_,_,-1]
  ·rw[et',PY,Pj,Gb,<-yN];exact M6
  ·rw[et',Qk,Gb,<-l3];exact Tg M5 k6 G5 nhr nhp
 ·rintro U' H3 ⟨s3,M3,G3,v2,v3,v4,rfl⟩;have hl:=Paired.len pr;rw[hl,jL]at M3 G3;exact#[-1,q mk dx ha ra pa H3 s3 M3 G3 hmk hha hra hpa]
theorem Ww: ∀(fs:a6 IG) (b:Nat),(∀f∈fs,wW hs f.1.2 10 (bare f.2)/\f.1.2<=12)->b+Fa fs<=nr-> ∀g∈Nc b fs,BR g hs.length nr
 |[],b,_,_,g,hg=>by cases hg
 |f::r,b,h,hn,g,hg=>by
  have hn:b+(rl (bare f.2)+1+Fa r)<=nr:=hn;have h1:=h f (yA ..)
  rcases List.mem_append.mp (show g∈CO b (bare f.2)++([7,0]::Nc (b+rl (bare f.2)+1) r)from hg)with z|z
  ·exact GV h1.2 10 _ b h1.1 () g z
  rcases List.mem_cons.mp z with z|z
  ·rw[z];exact zGy
  ·exact Ww r _ (λx hx=>h x (yC _ hx)) () g z
theorem WV: ∀(fs:a6 IG) (b i:Nat) (g:a6 Int),(Nk b fs)[i]? =some g-> ∃(f:IG) (s:Nat),fs[i]? =some f/\g=[(s:Int),f.1.1,f.1.2]/\s<b+Fa fs
 |[],b,i,g,h=>by simp[Nk]at h
 |f::r,b,0,g,h=>by
  have e:[(b:Int),f.1.1,f.1.2]=g:=by simpa[Nk]using h
  exact#[f,b,rfl,e.symm,by show b<b+(rl (bare f.2)+1+Fa r);lia]
 |f::r,b,i+1,g,h=>by
  obtain⟨x,s,e1,e2,e3⟩:=WV r (b+rl (bare f.2)+1) i g (by simpa[Nk]using h);exact#[x,s,by simpa using e1,e2,by show s<b+(rl (bare f.2)+1+Fa r);lia]
theorem Np (eh:fs.map (·.1)=hs)(g:HD hs)(h: ∀f∈fs,wW hs f.1.2 10 (bare f.2))(hz:Fa fs<=900):vQ (Nk 0 fs) (Nc 0 fs):=by
 have le:hs.length=fs.length:=by rw[<-eh,zG]
 have b12: ∀f∈fs,f.1.2<=12:=λf hf=>by
  obtain⟨i,e⟩:=List.getElem?_of_mem hf;exact(g.all i f.1 (by rw[<-eh,zW,e];rfl)).2.2.2.1
 have lm:(Nc 0 fs).length =Fa fs:=Jk fs 0 λf hf=>DC _ _ (h f hf);have g1:=g.lo;have g2:=g.hi;have r1:1<=Fa fs:=by
  cases fs with
  |nil=>rw[le]at g1;cases g1
  |cons f r=>show 1<=rl (bare f.2)+1+Fa r;lia
 refine#[by rw[FZ];lia,by rw[FZ];lia,(),(),λi gg e=>?_,λgg hg=>?_]
 ·obtain⟨f,s,e1,rfl,e3⟩:=WV fs 0 i gg e;obtain⟨a1,a2,a3,a4,a5⟩:=g.all i f.1 (by rw[<-eh,zW,e1];rfl);rw[lm];exact#[s,f.1.1,f.1.2,rfl,(),(),a1,a2,λz=>a5 (),a3,a4]
 ·rw[FZ,lm,<-le];exact Ww fs 0 (λf hf=>#[h f hf,b12 f hf]) () gg hg
def Xz (ns:a6 Int)(fs:a6 IG):Prop:= ∃r:Ev×a6 Nd,Shr ns r/\r.1.zip r.2=fs/\fs.map (·.1)=r.1/\HD r.1/\(∀f∈fs,wW r.1 f.1.2 10 (bare f.2))/\Fa fs<=900/\Na fs<=100000
inductive QT (vs:List V) (H:Hp) (Q:VK) (E:XK):Prop
 |mk (a:i4) (ns:List Int) (fs:List IG) (h0:vs=[.ref a]) (h1:H a=some (.lst (ns.map V.int))) (h2:Xz ns fs) (h3: ∀l H',xJ H H'->H l=none->H' l=some (.lst ((Dk (Nk 0 fs) (Nc 0 fs)).map V.int))->Q (.ref l) H'):QT vs H Q E
theorem Yw (T:Ml K mg CM)(F:qT K "made" "made" Re f fd)(Co:jY P w K mg base 17 "functions" ["sheet"] HW)(Cp: ∀hs,jY P w K mg base 22 "making_of" ["program"] (Ea CM hs))(Cf1:jY P w K mg base 4 "code_of" ["heads","rows"] (Lj K)):vO P w K mg base 23 f fd ["sheet"] QT:=by
 exists SG;obtain⟨a,ns,fs,rfl,ea,⟨r,er,rfl,em,hg,ft,z1,z2⟩,q⟩:=h;replace Cp:=Cp r.1;exists _,(zC (yP 1 SG.nd (zH Cp hr rfl (zA (zH Co hr rfl (zA (pv 0) zB) zV) zB) zV))
   (zL (zT (zH Cf1 hr rfl (zA (jJ (pv 1) rfl) (zA (jJ (pv 1) rfl) zB)) zV))))
 refine#[-1,a,ns,r,rfl,ea,er,λl H1 s1 fr fa=>?_];obtain⟨rs,el,ln,pr⟩:=fa;have cp:=Np em hg ft z1;have le:(r.1.zip r.2).length =r.1.length:=by rw[<-zG (f:=(·.1)),em]
 refine#[l,rs,r.1.zip r.2,rfl,el,pr,ft,(),z2,by rw[le];exact hg.hi,λmk dx ha ra pa H2 s2 M2 G2 _ _ _ _=>?_];obtain⟨hv,eh,ph⟩:=G2;obtain⟨rv,ev,pv'⟩:=id M2.rows;have r24:=cp.r24;have lh:=Paired.len ph;refine#[-1,mk,CM,dx,_,-1,M2.ob,T.mak,T.mheads,rfl,-1,mk,CM,dx,_,-1,M2.ob,T.mak,T.mrows,rfl,ha,ra,_,_,hv,rv,rfl,.inl (kN.of eh),qU.seqs ph,cp.h3,by have:=hg.hi;rw[FZ,le];lia,.inl (kN.of ev),qU.seqs pv',cp.r2,(),cp.ok,λco H3 g3 hco eco=>?_];exact q co H3 (s1.trans (s2.trans g3)) ((s1.trans s2).free hco) eco
abbrev Ln:=Int×Int×Int
noncomputable def l3 (x:Ln):a6 Int:=[x.1,x.2.1,x.2.2]
mutual
noncomputable def QF (b:Nat):Nd->a6 Ln
 | .mk k p own ps=>((p:Int),(b:Int),((b+rl (.mk k own (zU ps)):Nat):Int))::Kb k (ps.length-1) 0 (b+if k=5 then 1 else 0) ps
noncomputable def Kb (k:Int)(m i b:Nat):a6 Nd->a6 Ln
 |[]=>[]
 |t::r=>QF b t++Kb k m (i+1) (KL k m i b (bare t)) r
end
noncomputable def LS (b:Nat):a6 IG->a6 Ln
 |[]=>[]
 |f::r=>QF b f.2++LS (b+rl (bare f.2)+1) r
mutual
theorem VJ: ∀(b:Nat) (nd:Nd),(Kz b nd).Perm ((QF b nd).map l3)
 |b,.mk k p own ps=>by
  show(GR k (ps.length-1) 0 (b+if k=5 then 1 else 0) ps++[_]).Perm (_::(Kb k (ps.length-1) 0 (b+if k=5 then 1 else 0) ps).map l3);exact(List.perm_append_singleton _ _).trans ((VI k (ps.length-1) 0 _ ps).cons _)
theorem VI: ∀(k:Int) (m i b:Nat) (ps:a6 Nd),(GR k m i b ps).Perm ((Kb k m i b ps).map l3)
 |_,_,_,_,[]=>.refl _
 |k,m,i,b,t::r=>by
  show(Kz b t++GR k m (i+1) (KL k m i b (bare t)) r).Perm ((QF b t++Kb k m (i+1) (KL k m i b (bare t)) r).map l3);rw[yV];exact(VJ b t).append (VI k m (i+1) _ r)
end
theorem Rh: ∀(b:Nat) (fs:a6 IG),(UU b fs).Perm ((LS b fs).map l3)
 |_,[]=>.refl _
 |b,f::r=>by
  show(Kz b f.2++UU _ r).Perm ((QF b f.2++LS _ r).map l3);rw[yV];exact(VJ b f.2).append (Rh _ r)
def Si (p q:Nat)(ls:a6 Ln):Prop:=(ls.Pairwise λx y=>x.1<y.1)/\ ∀x∈ls,(p:Int)<=x.1/\x.1<(q:Int)
theorem Si.app (h1:Si p q a)(h2:Si q r b)(hp:p<=q)(hq:q<=r):Si p r (a++b):=by
 refine#[List.pairwise_append.mpr #[h1.1,h2.1,λx hx y hy=>?_],λx hx=>?_]
 ·have:=(h1.2 x hx).2;have:=(h2.2 y hy).1;lia
 ·rcases List.mem_append.mp hx with z|z
  ·have:=h1.2 x z;lia
  ·have:=h2.2 x z;lia
mutual
theorem Qe: ∀(t:Tr) (b p:Nat),Si p (p+(jR t).length) (QF b (SN p t))
 | .mk k own ps,b,p=>by
  have r:=Qd ps k ((Jz (p+1+own.length) ps).length -1) 0 (b+if k=5 then 1 else 0) (p+1+own.length);have el:(jR (.mk k own ps)).length =1+own.length+(xX ps).length:=by rw[jR,zK,zE];lia
  rw[SN,QF];refine#[.cons (λy hy=>?_) r.1,λx hx=>?_]
  ·have:=(r.2 y hy).1;show(p:Int)<y.1;lia
  ·rcases List.mem_cons.mp hx with z|z
   ·rw[z];exact#[Int.le_refl _,by rw[el];show(p:Int)<_;lia]
   ·have:=r.2 x z;lia
theorem Qd: ∀(ts:a6 Tr) (k:Int) (m i b p:Nat),Si p (p+(xX ts).length) (Kb k m i b (Jz p ts))
 |[],_,_,_,_,p=>by rw[Jz,Kb];exact#[.nil,λ_ h=>by cases h]
 |t::r,k,m,i,b,p=>by
  have a:=(Qe t b p).app (Qd r k m (i+1) (KL k m i b (bare (SN p t))) _) () ();rw[Jz,Kb,xX,zE,<-HR];exact a
end
theorem LR: ∀(fs:a6 IG) (b p:Nat) (ts:a6 Tr),fs.map (·.2)=Jz p ts-> ∃q,p<=q/\Si p q (LS b fs)
 |[],_,p,_,_=>#[p,zO _,.nil,λ_ h=>by cases h]
 |f::r,b,p,[],h=>by rw[Jz]at h;cases h
 |f::r,b,p,t::ts,h=>by
  rw[Jz,yM]at h;injection h with h1 h2
  obtain⟨q,l,rr⟩:=LR r (b+rl (bare f.2)+1) _ ts h2;rw[LS,h1]at *
  exact#[q,(),(Qe t b p).app rr () l]
theorem Vj {rs:a6 V}{gs:a6 (a6 Int)}(h:Paired (BS H) rs gs):(∀g∈gs,∃x:Ln,g=l3 x)-> ∃(as:a6 i4) (ls:a6 Ln),rs=as.map V.ref/\gs=ls.map l3/\Paired (KD H) as ls:=by
 induction h with
 |nil=>exact λ_=>#[[],[],rfl,rfl,.nil]
 |cons h0 p ih=>
 intro h;obtain⟨t,e,et⟩:=h0;obtain⟨as,ls,e1,e2,p2⟩:=ih λg hg=>h g (yC _ hg);obtain⟨x,rfl⟩:=h _ (yA ..);exact#[t::as,x::ls,by rw[e,e1];rfl,by rw[e2];rfl,.cons et p2]
theorem Yh {a b:a6 Ln}(h:(a.map l3).Perm (b.map l3)):a.Perm b:=by
 have g: ∀l:a6 Ln,(l.map l3).map (λx:a6 Int=>((x.getD 0 0,x.getD 1 0,x.getD 2 0):Ln))=l:=λl=>by
  rw[Aa];exact List.map_id' l
 have:=h.map (λx:a6 Int=>((x.getD 0 0,x.getD 1 0,x.getD 2 0):Ln));rw[g,g]at this;exact this
theorem Yb {a b:a6 Ln}(h:a.Perm b)(ha:a.Pairwise λx y=>x.1<=y.1)(hb:b.Pairwise λx y=>x.1<y.1):a=b:=by
 induction a generalizing b with
 |nil=>exact(List.nil_perm.mp h).symm
 |cons x r ih=>
  cases b with
  |nil=>exact absurd h.symm (by simp)
  |cons y t=>
   obtain⟨a1,a2⟩:=List.pairwise_cons.mp ha;obtain⟨b1,b2⟩:=List.pairwise_cons.mp hb;have hx:=h.mem_iff.mp (yA (a:=x) (l:=r));have hy:=h.mem_iff.mpr (yA (a:=y) (l:=t));have e:x=y:=by
    rcases List.mem_cons.mp hx with z|z
    ·exact z
    rcases List.mem_cons.mp hy with z'|z'
    ·exact z'.symm
    have:=b1 x z;have:=a1 y z';lia
   subst e;rw[ih (List.perm_cons _ |>.mp h) a2 b2]
inductive Gu (vs:List V) (H:Hp) (Q:VK) (E:XK):Prop
 |mk (a:i4) (ns:List Int) (fs:List IG) (h0:vs=[.ref a]) (h1:H a=some (.lst (ns.map V.int))) (h2:Xz ns fs) (h3:Na fs<64) (h4: ∀l as H',xJ H H'->H l=none->H' l=some (.lst (as.map V.ref))->Paired (KD H') as (LS 0 fs)->Q (.ref l) H'):Gu vs H Q E
theorem MB (T:Ml K mg CM)(F:qT K "made_paper" "made_paper" FO f fd)(Co:jY P w K mg base 17 "functions" ["sheet"] HW)(Cp: ∀hs,jY P w K mg base 22 "making_of" ["program"] (Ea CM hs)):vO P w K mg base 23 f fd ["sheet"] Gu:=by
 exists Mr;obtain⟨a,ns,fs,rfl,ea,⟨r,er,rfl,em,hg,ft,z1,z2⟩,z64,q⟩:=h;replace Cp:=Cp r.1;exists _,(zL (zT (xK Oz rfl T.n_sorted UO (zA (jJ (zH Cp hr rfl (zA (zH Co hr rfl (zA (pv 0) zB) zV) zB) zV) rfl) zB))))
 refine#[-1,a,ns,r,rfl,ea,er,λl H1 s1 fr fa=>?_];obtain⟨rs,el,ln,pr⟩:=fa;have le:(r.1.zip r.2).length =r.1.length:=by rw[<-zG (f:=(·.1)),em]
 refine#[l,rs,r.1.zip r.2,rfl,el,pr,ft,(),z2,by rw[le];exact hg.hi,λmk dx ha ra pa H2 s2 M2 G2 _ _ _ _=>?_];obtain⟨pv',ep,pp⟩:=id M2.pap;obtain⟨ts,_,pl⟩:=er;rw[show r.2=(r.1.zip r.2).map (·.2)from(List.map_snd_zip ()).symm]at pl;generalize r.1.zip r.2=fs at *
 obtain⟨qq,_,ri⟩:=LR fs 0 _ ts pl;have pm:=Rh 0 fs;obtain⟨as,ls,rfl,e2,tr⟩:=Vj pp λg hg=>by
  obtain⟨x,_,e⟩:=List.mem_map.mp (pm.mem_iff.mp hg);exact#[x,e.symm]
 rw[e2]at pm;have pm:=Yh pm;have nd:(ls.map (·.1)).Nodup:=(pm.map (·.1)).nodup_iff.mpr (List.pairwise_map.mpr (ri.1.imp fun{x y} z=>()));have la:as.length=Na fs:=by
  have:=Paired.len tr;rw[this,<-zG (f:=l3),<-e2,KJ]
 refine#[mk,CM,dx,_,-1,M2.ob,T.mak,T.mpaper,rfl,pa,as,ls,rfl,ep,tr,Vu nd (by rw[zG,<-Paired.len tr];lia),(),λp as' ls' hp tr' pm' so=>?_];have e3:=Yb (pm'.trans pm) so ri.1;subst e3;have s3:=zM hp (.lst (as'.map V.ref));exact q p as' _ (s1.trans (s2.trans s3)) ((s1.trans s2).free hp) upd_same (Paired.imp (λ_ _ z=>s3 _ _ z) tr')
structure BJ (K:a7)(mg:Str->Option a9)(CK:i4):Prop extends Gk K mg where
 n_zip:mg "zip"=none
 n_dict:mg "dict"=none
 n_reversed:mg "reversed"=none
 m_LINE_SIZE:kP mg "LINE_SIZE" 3
 m_NUMBER:kP mg "NUMBER" 0
 m_ALL:kP mg "ALL" 3
 m_PICK:kP mg "PICK" 4
 m_LOOP:kP mg "LOOP" 5
 m_FAIL:kP mg "FAIL" 7
 ck:So K CK
 crows:AW K CK "rows"
 cleads:AW K CK "leads"
 clines:AW K CK "lines"
 cright:AW K CK "right"
theorem PJ (T:BJ K mg CK)(F:qT K "begin_of" "begin_of" Ik f fd):vO P w K mg base 1 f fd ["check","node"] (Al CK (·.1)):=by
 exists OY;obtain⟨c,dx,r,l,d,q,rs,L,R,tn,k,p,x,y,⟨b,e⟩,rfl,C,et,hp,q⟩:=h;exists _,(zL (zT (yZ xL (uV (AS hr) (jJ (pv 0) rfl) (yZ xL (pv 1) zI (λ_ _=>rfl)) (λ_ _=>rfl)) zI (λ_ _=>rfl))))
 obtain⟨t,hg,ht⟩:=C.line hp;exact#[-1,c,CK,dx,_,-1,C.ob,T.ck,T.clines,rfl,-1,tn,_,_,-1,rfl,.of et,rfl,d,-1,hg,t,_,_,-1,rfl,.of ht,rfl,q]
theorem Ur (T:BJ K mg CK)(F:qT K "end_of" "end_of" Lx f fd):vO P w K mg base 1 f fd ["check","node"] (Al CK (·.2)):=by
 exists TU;obtain⟨c,dx,r,l,d,q,rs,L,R,tn,k,p,x,y,⟨b,e⟩,rfl,C,et,hp,q⟩:=h;exists _,(zL (zT (yZ xL (uV (AS hr) (jJ (pv 0) rfl) (yZ xL (pv 1) zI (λ_ _=>rfl)) (λ_ _=>rfl)) zI (λ_ _=>rfl))))
 obtain⟨t,hg,ht⟩:=C.line hp;exact#[-1,c,CK,dx,_,-1,C.ob,T.ck,T.clines,rfl,-1,tn,_,_,-1,rfl,.of et,rfl,d,-1,hg,t,_,_,-1,rfl,.of ht,rfl,q]
theorem Og (T:BJ K mg CK)(F:qT K "row_meant" "row_meant" GB f fd):vO P w K mg base 1 f fd ["check","at"] (DX CK):=by
 exists NQ;obtain⟨c,dx,r,l,d,q,rs,L,R,a,rfl,C,q⟩:=h;exists _,(zC (xD (PW.pt (qY (zX FV (pv 1) qH (yG _)) (kW (zX HL (pv 1) (xK xA rfl T.n_len kO (zA (jJ (pv 0) rfl) zB)) (yG _))))) (zL (zT qH)) yD)
   (zL (zT (yZ jB (jJ (pv 0) rfl) (pv 1) (λ_ _=>rfl)))))
 have ll:((List.range rs.length).map λi=>oI (ME rs i)).length =rs.length:=by rw[zG,wQ]
 cases a with
 |none=>exact#[-1,rfl,-1,jI q]
 |some i=>
  refine#[-1,rfl,-1,jE ?_];refine#[-2,c,CK,dx,_,-1,C.ob,T.ck,T.cleads,rfl,l,-1,.inl (.of C.leads),_,-1,rfl,-1,jK (λc1=>?_) (λc1=>?_)]
  ·have c1':=yB c1;rw[ll]at c1';have e:DM rs (some i)=none:=by show(if i<rs.length then _ else none)=none;rw[zN ()]
   rw[e]at q;exact q
  ·have c1':=df c1;rw[ll]at c1';have hi:i<rs.length:=()
   have e:DM rs (some i)=ME rs i:=by show(if i<rs.length then _ else none)=_;rw[zQ hi]
   rw[e]at q;exact#[-1,c,CK,dx,_,-1,C.ob,T.ck,T.cleads,rfl,-1,l,_,_,-1,rfl,.of C.leads,kK (C.lead hi),q]
theorem zDc: ∀{a b:i5 Nat},decide (oI a=oI b)=decide (a=b)
 |none,none=>rfl
 |none,some _=>rfl
 |some _,none=>rfl
 |some x,some y=>by
  by_cases h:x=y
  ·rw[h,zP rfl,zP rfl]
  ·rw[zR (λz=>h (by have z:V.int (x:Nat)=V.int (y:Nat):=z;injection z with z;lia)),zR (λz=>h (by injection z))]
theorem YB (h:a.isSome=true):ZU (oI a) (oI b)=true:=by
 cases a<;>cases b<;>rfl
theorem Yv (T:BJ K mg CK)(F:qT K "meet" "meet" Rc f fd)(Ct:jY P w K mg base 1 "row_meant" ["check","at"] (DX CK)):vO P w K mg base 2 f fd ["check","first","second"] (DZ CK):=by
 exists SF;obtain⟨c,dx,r,l,d,q,rs,L,R,a,b,rfl,C,q⟩:=h;exists _,(zC (yP 3 SF.nd (zH Ct hr rfl (zA (pv 0) (zA (pv 1) zB)) zV))
   (zL (zT (An (uW Jf (pv 3) qH (yG _)) (BE (uW jM (pv 3) (zH Ct hr rfl (zA (pv 0) (zA (pv 2) zB)) zV) (yG _)))))))
 refine#[-2,c,dx,r,l,d,_,rs,L,R,a,rfl,C,?_];refine#[-1,rfl,-1,jK (λc1=>?_) (λc1=>?_)]
 ·refine#[-3,c,dx,r,l,d,_,rs,L,R,b,rfl,C,?_];have hs:(DM rs a).isSome =true:=by
   cases e:DM rs a with
   |none=>rw[e]at c1;cases c1
   |some i=>rfl
  have em:xS rs a b=decide (oI (DM rs a)=oI (DM rs b)):=by unfold xS;rw[hs,zDc,xC]
  rw[em]at q;exact#[YB hs,q]
 ·have hs:(DM rs a).isSome =false:=by
   cases e:DM rs a with
   |none=>rfl
   |some i=>rw[e]at c1;exact absurd rfl c1
  have em:xS rs a b=false:=by unfold xS;rw[hs];rfl
  rw[em]at q;exact q
theorem Uu (T:BJ K mg CK)(F:qT K "behind" "behind" Ly f fd)(Ct:jY P w K mg base 1 "row_meant" ["check","at"] (DX CK)):vO P w K mg base 2 f fd ["check","at","row"] (CQ CK):=by
 exists MV;obtain⟨c,dx,r,l,d,q0,rs,L,R,a,t,op,n,rfl,C,et,q⟩:=h;exists _,(zC (yP 3 MV.nd (zH Ct hr rfl (zA (pv 0) (zA (pv 1) zB)) zV))
   (zC (xD (PW.pt (qY (zX FV (pv 3) qH (yG _)) (kW (zX (Hx hr) (yZ jB (jJ (pv 0) rfl) (pv 3) (λ_ _=>rfl)) (pv 2) (yG _))))) (zL (zT qH)) yD)
   (zL (zT (yK jF (pv 3) zI)))))
 refine#[-2,c,dx,r,l,d,q0,rs,L,R,a,rfl,C,?_];cases e:DM rs a with
 |none=>
  have eb:OB rs a op n=none:=by cases n with|none=>rfl|some m=>show qP rs a op m=none;unfold qP;rw[e];rfl
  rw[eb]at q;exact#[-1,rfl,-1,jI q]
 |some i=>
  refine#[-1,rfl,-1,jE ?_];have hi:=LA e;obtain⟨vs,ev,pv⟩:=C.rows;obtain⟨t2,op2,n2,hv,hr2,et2⟩:=Oe pv hi;have fz:GZ (oZ n)=true:=by cases n<;>rfl
  refine#[-1,c,CK,dx,_,-1,C.ob,T.ck,T.crows,rfl,-1,r,_,_,-1,rfl,.of ev,kK hv,-1,t2,t,_,_,_,-1,rfl,.of et2,.of et,fz,-1,jK (λc1=>?_) (λc1=>?_)]
  ·have eb:OB rs a op n=none:=by
    cases n with
    |none=>rfl
    |some m=>
     show qP rs a op m=none;unfold qP;rw[e];show(if rs[i]? =some (op,m)then some (i+1)else none)=none;rw[zN];intro z;rw[hr2]at z;injection z with z
     injection z with z1 z2
     have c1:(!(op2==op&&(n2==m)))=true:=c1;rw[z1,z2,Ft,Ft]at c1;cases c1
   rw[eb]at q;exact q
  ·have z:(op2==op&&Ha (.int n2) (oZ n))=true:=by
    cases w:(op2==op&&Ha (.int n2) (oZ n))with
    |true=>rfl
    |false=>rw[w]at c1;exact absurd rfl c1
   obtain⟨z1,z2⟩:=Bool.and_eq_true_iff.mp z;have z1:=eq_of_beq z1;have eb:OB rs a op n=some (i+1):=by
    cases n with
    |none=>cases z2
    |some m=>
     have z2:(n2==m)=true:=z2;have z2:=eq_of_beq z2;show qP rs a op m=_;unfold qP;rw[e];show(if rs[i]? =some (op,m)then some (i+1)else none)=_;rw[zQ (by rw[hr2,z1,z2])]
   rw[eb]at q;exact#[-1,_,-1,rfl,q]
theorem KA (T:BJ K mg CK)(F:qT K "begins_alike" "begins_alike" Ei f fd)(Cc:jY P w K mg base 1 "begin_of" ["check","node"] (Al CK (·.1)))(Ck:jY P w K mg base 2 "meet" ["check","first","second"] (DZ CK)):vO P w K mg base 3 f fd ["check","node","part"] (Bx CK (·.1)):=by
 exists Ky;obtain⟨c,dx,r,l,d,q0,rs,L,R,tn,tp,k,p,k',p',x,y,x',y',be,be',rfl,C,et,hp,et',hp',q⟩:=h;exists _,(zL (zT (zH Ck hr rfl (zA (pv 0) (zA (zH Cc hr rfl (zA (pv 0) (zA (pv 2) zB)) zV) (zA (zH Cc hr rfl (zA (pv 0) (zA (pv 1) zB)) zV) zB))) zV)))
 refine#[-3,c,dx,r,l,d,q0,rs,L,R,tp,k',p',x',y',be',rfl,C,et',hp',?_];refine#[-2,c,dx,r,l,d,q0,rs,L,R,tn,k,p,x,y,be,rfl,C,et,hp,?_];exact#[c,dx,r,l,d,q0,rs,L,R,some be'.1,some be.1,rfl,C,q]
theorem MC (T:BJ K mg CK)(F:qT K "ends_alike" "ends_alike" FQ f fd)(Ce:jY P w K mg base 1 "end_of" ["check","node"] (Al CK (·.2)))(Ck:jY P w K mg base 2 "meet" ["check","first","second"] (DZ CK)):vO P w K mg base 3 f fd ["check","node","part"] (Bx CK (·.2)):=by
 exists Ms;obtain⟨c,dx,r,l,d,q0,rs,L,R,tn,tp,k,p,k',p',x,y,x',y',be,be',rfl,C,et,hp,et',hp',q⟩:=h;exists _,(zL (zT (zH Ck hr rfl (zA (pv 0) (zA (zH Ce hr rfl (zA (pv 0) (zA (pv 2) zB)) zV) (zA (zH Ce hr rfl (zA (pv 0) (zA (pv 1) zB)) zV) zB))) zV)))
 refine#[-3,c,dx,r,l,d,q0,rs,L,R,tp,k',p',x',y',be',rfl,C,et',hp',?_];refine#[-2,c,dx,r,l,d,q0,rs,L,R,tn,k,p,x,y,be,rfl,C,et,hp,?_];exact#[c,dx,r,l,d,q0,rs,L,R,some be'.2,some be.2,rfl,C,q]
theorem Yy (T:BJ K mg CK)(F:qT K "left_by_unless" "left_by_unless" BW f fd)(Ct:jY P w K mg base 1 "row_meant" ["check","at"] (DX CK)):vO P w K mg base 2 f fd ["check","at"] (QU CK):=by
 exists EC;obtain⟨c,dx,r,l,d,q0,rs,L,R,a,rfl,C,uk,q⟩:=h;exists _,(zC (yP 2 EC.nd (zH Ct hr rfl (zA (pv 0) (zA (pv 1) zB)) zV))
   (zC (xD (PW.pt (qY (zX FV (pv 2) qH (yG _)) (kW (zX Gf (yZ xL (yZ jB (jJ (pv 0) rfl) (pv 2) (λ_ _=>rfl)) zI (λ_ _=>rfl)) (yH rfl T.m_OP_UNLESS) (yG _))))) (zL (zT qH)) yD)
   (zL (zT (yZ xL (yZ jB (jJ (pv 0) rfl) (pv 2) (λ_ _=>rfl)) zI (λ_ _=>rfl))))))
 refine#[-2,c,dx,r,l,d,q0,rs,L,R,a,rfl,C,?_];cases e:DM rs a with
 |none=>
  have eb:Bc rs a=none:=by unfold Bc;rw[e];rfl
  rw[eb]at q;exact#[-1,rfl,-1,jI q]
 |some i=>
  refine#[-1,rfl,-1,jE ?_];have hi:=LA e;obtain⟨vs,ev,pv⟩:=C.rows;obtain⟨t2,op2,n2,hv,hr2,et2⟩:=Oe pv hi;refine#[-1,c,CK,dx,_,-1,C.ob,T.ck,T.crows,rfl,-1,r,_,_,-1,rfl,.of ev,kK hv,t2,_,_,-1,rfl,.of et2,rfl,rfl,-1,jK (λc1=>?_) (λc1=>?_)]
  ·have n5:op2≠5:=λz=>by
    rw[z]at c1;cases c1
   have eb:Bc rs a=none:=by
    unfold Bc;rw[e];show(match rs[i]? with|some (5,n)=>some n.toNat|_=>none)=none;rw[hr2];split
    ·rename_i h;cases h;exact absurd rfl n5
    ·rfl
   rw[eb]at q;exact q
  ·have e5:op2=5:=by
    by_cases z:op2=5
    ·exact z
    ·exact absurd (show(!decide (V.int op2=V.int 5))=true by rw[zR (λy=>z (by injection y))];rfl) c1
   subst e5;have u0:=uk i n2 hr2;have eb:Bc rs a=some n2.toNat:=by
    unfold Bc;rw[e];show(match rs[i]? with|some (5,n)=>some n.toNat|_=>none)=_;rw[hr2];rfl
   rw[eb]at q;have q:Q (.int (n2.toNat:Nat)) H:=q;rw[jZ u0]at q;exact#[-1,c,CK,dx,_,-1,C.ob,T.ck,T.crows,rfl,-1,r,_,_,-1,rfl,.of ev,kK hv,t2,_,_,-1,rfl,.of et2,rfl,q]
theorem On (T:BJ K mg CK)(F:qT K "are_right" "are_right" EI f fd):vO P w K mg base 1 f fd ["check","parts"] (HX CK):=by
 exists NS;obtain⟨c,dx,r,l,d,q0,rs,L,R,pt,m7,bs,rfl,C,ept,pp,hn,q⟩:=h;exists _,(zL (zT (xK (Hb rfl) rfl T.n_all Mj (zA (vB (own:=["part"]) (ys:=["check"]) rfl (Ir (pv 1)) (kJ (sc:=zS EI) rfl (by decide+kernel)) (.cons (j:=0) rfl .nil) (λ_ _ _ _ _=>(zY 0 (show List.Nodup [("part":Str),("check":Str)]from(by decide+kernel)))) (λ_ _ _ _ _=>wN) (λ_ _ _ _ _=>(uV (AS hr) (Yl K rfl (pv 1)) (yZ (Jn K rfl) (pv 0) zI (λ_ _=>rfl)) (λ_ _=>rfl)))) zB))))
 have sl:sizeLine=16777216:=jX;have lp:=Paired.len pp;refine#[-1,pt,rfl,#[m7,.of ept],λp hp=>?_];refine Me (xs:=m7) (λi U' H'=>H'=upd H p (.lst ((bs.take i).map V.bl))/\ ∃x,U'=[x,some (.ref c)]) #[rfl,-1] ?_ ?_ ?_
 ·rintro i U' H' _ ⟨rfl,_⟩;exact .of (zM hp _ _ _ ept)
 ·rintro i x U' H' hi hx ⟨rfl,x0,rfl⟩;obtain⟨b,hb,t,k,pl,y1,y2,rfl,et,hR⟩:=Paired.yonder pp hx;have tk:bs.take (i+1)=bs.take i++[b]:=by rw[jU,hb]<;>rfl
  have s1:=zM hp (.lst ((bs.take i).map V.bl));have C1:=C.same s1;unfold wI;refine HS #[-1,c,CK,dx,_,-1,C1.ob,T.ck,T.cright,rfl,-1,t,_,_,-1,rfl,.of (s1 _ _ et),rfl,q0,-1,C1.rt hR,?_];refine#[_,upd_same,by rw[zG,xM];lia,CW.next hi #[?_,-1]];rw[tk,yV,KG];rfl
 ·rintro U' H' ⟨rfl,_⟩;rw[lp,jL];exact#[p,-1,.of upd_same,q _ (zM hp _)]
structure YY (K:a7)(mg:Str->Option a9):Prop where
 n_len:mg "len"=none
 m_ADD:kP mg "ADD" 8
 m_SUB:kP mg "SUB" 9
 m_MUL:kP mg "MUL" 10
 m_QUO:kP mg "QUO" 11
 m_LESS:kP mg "LESS" 13
 m_SAME:kP mg "SAME" 14
 m_PUSH:kP mg "PUSH" 15
 m_PUT:kP mg "PUT" 17
 m_SIZE:kP mg "SIZE" 18
 m_NEW:kP mg "NEW" 19
 m_GREAT:kP mg "GREAT" 10000000000000000000000000000000000000000000000000000000000000000000000000000000000000000000000000000
structure zBl (K:a7)(mg:Str->Option a9):Prop extends YY K mg where
 m_NUMBER:kP mg "NUMBER" 0
theorem Ry (T:YY K mg)(F:qT K "within" "within" Ls f fd):vO P w K mg base 1 f fd ["value"] JJ:=by
 exists TR;obtain⟨v,rfl,q⟩:=h;exists _,(zC (xD (PW.pt (qY (zX HL (pv 0) (yH rfl T.m_GREAT) (yG _)) (kW (zX DN (pv 0) (Kn Gn (yH rfl T.m_GREAT)) (yG _))))) (zL (zT (xO (xU (.str (.int .nil)))))) yD)
   (zL (zT (xO (zA qH (zA (pv 0) zB))))))
 refine#[-1,_,-1,rfl,-1,?_];have hit:v ≥ Mn\/v<= -Mn->wV v=[.str "great",.int 0]:=λc=>zQ c;refine jK (λc=>?_) (λc=>?_)
 ·refine#[sm2,λt ht=>q _ _ ht ?_];rw[hit (.inl (yB c))]
 refine#[-2,_,-1,rfl,-1,?_];refine jK (λc2=>?_) (λc2=>?_)
 ·refine#[sm2,λt ht=>q _ _ ht ?_];rw[hit (.inr (yB c2))]
 ·refine#[-1,sm2,λt ht=>q _ _ ht ?_];have c1':=wF (Bool.eq_false_iff.mpr c);have c2':=wF (Bool.eq_false_iff.mpr c2);have:wV v=[.non,.int v]:=zN λz=>by rcases z with z|z;exact c1' z;exact c2' z
  rw[this]
theorem Pr (T:YY K mg)(F:qT K "reckoned" "reckoned" Ib f fd)(Cb9:jY P w K mg base 1 "within" ["value"] JJ):vO P w K mg base 2 f fd ["kind","first","second"] QR:=by
 exists OU;obtain⟨k,a,b,rfl,ha,hb,q⟩:=h;exists _,(zC (xD (zX jM (pv 0) (yH rfl T.m_ADD) (yG _)) (zL (zT (zH Cb9 hr rfl (zA (yK jF (pv 1) (pv 2)) zB) zV))) yD)
   (zC (xD (zX jM (pv 0) (yH rfl T.m_SUB) (yG _)) (zL (zT (zH Cb9 hr rfl (zA (yK uM (pv 1) (pv 2)) zB) zV))) yD)
   (zC (xD (zX jM (pv 0) (yH rfl T.m_MUL) (yG _)) (zL (zT (zH Cb9 hr rfl (zA (yK Yr (pv 1) (pv 2)) zB) zV))) yD)
   (zC (xD (zX jM (pv 0) (yH rfl T.m_LESS) (yG _)) (zL (zT (xO (zA qH (zA (Jc (zX Aw (pv 1) (pv 2) (yG _)) zI zI) zB))))) yD)
   (zC (xD (zX jM (pv 0) (yH rfl T.m_SAME) (yG _)) (zL (zT (xO (zA qH (zA (Jc (zX jM (pv 1) (pv 2) (yG _)) zI zI) zB))))) yD)
   (zC (xD (zX jM (pv 2) zI (yG _)) (zL (zT (xO (xU (.str (.int .nil)))))) yD)
   (zC (xD (zX jM (pv 0) (yH rfl T.m_QUO) (yG _)) (zL (zT (xO (zA qH (zA (yK LK (pv 1) (pv 2)) zB))))) yD)
   (zL (zT (xO (zA qH (zA (yK Ys (pv 1) (pv 2)) zB))))))))))))
 refine#[-1,rfl,-1,?_];refine jK (λc8=>?_) (λc8=>?_)
 ·have e:=vt c8;subst e;exact#[-2,_,-1,rfl,-1,λp H' hp e=>q p H' hp e]
 have e8:=vf c8;refine#[-1,rfl,-1,?_];refine jK (λc9=>?_) (λc9=>?_)
 ·have e:=vt c9;subst e;exact#[-2,_,-1,rfl,-1,λp H' hp e=>q p H' hp e]
 have e9:=vf c9;refine#[-1,rfl,-1,?_];refine jK (λc10=>?_) (λc10=>?_)
 ·have e:=vt c10;subst e;exact#[-2,_,-1,rfl,#[ha,hb],-1,λp H' hp e=>q p H' hp e]
 have e10:=vf c10;refine#[-1,rfl,-1,?_];refine jK (λc13=>?_) (λc13=>?_)
 ·have e:=vt c13;subst e;refine#[-2,_,-1,rfl,-1,?_];refine jK (λcl=>?_) (λcl=>?_)
  ·refine#[sm2,λt ht=>q _ _ ht ?_];have:Gd 13 a b=[.non,.int (if a<b then 1 else 0)]:=rfl;rw[this,zQ (yB cl)]
  ·refine#[sm2,λt ht=>q _ _ ht ?_];have:Gd 13 a b=[.non,.int (if a<b then 1 else 0)]:=rfl;rw[this,zN (wF (Bool.eq_false_iff.mpr cl))]
 have e13:=vf c13;refine#[-1,rfl,-1,?_];refine jK (λc14=>?_) (λc14=>?_)
 ·have e:=vt c14;subst e;refine#[-2,rfl,-1,?_];refine jK (λcl=>?_) (λcl=>?_)
  ·refine#[sm2,λt ht=>q _ _ ht ?_];have:Gd 14 a b=[.non,.int (if a=b then 1 else 0)]:=rfl;rw[this,zQ (vt cl)]
  ·refine#[sm2,λt ht=>q _ _ ht ?_];have:Gd 14 a b=[.non,.int (if a=b then 1 else 0)]:=rfl;rw[this,zN (vf cl)]
 have e14:=vf c14;have rest:Gd k a b=if b=0 then[.str "zero",.int 0]else if k=11 then[.non,.int (a.fdiv b)]else[.non,.int (a.fmod b)]:=by
  unfold Gd;rw[zN e8,zN e9,zN e10,zN e13,zN e14]
 refine#[-1,rfl,-1,?_];refine jK (λc0=>?_) (λc0=>?_)
 ·refine#[sm2,λt ht=>q _ _ ht ?_];rw[rest,zQ (vt c0)]
 have e0:=vf c0;rw[zN e0]at rest;refine#[-1,rfl,-1,?_];refine jK (λc11=>?_) (λc11=>?_)
 ·refine#[-2,_,-1,rfl,#[e0,hb],sm2,λt ht=>q _ _ ht ?_];rw[rest,zQ (vt c11)]
 ·refine#[-2,_,-1,rfl,e0,sm2,λt ht=>q _ _ ht ?_];rw[rest,zN (vf c11)]
def zCk:Sp:=λ_ _ _ _=>False
inductive NB (vs:List V) (H:Hp) (Q:VK) (E:XK):Prop
 |mk (k a b:Int) (vp rp:i4) (h0:vs=[.int k,.ref vp,.ref rp]) (h1:H vp=some (.lst [.int a,.int b])) (h2:8<=k) (h3:k<=14) (h4:a.natAbs<2^2000) (h5:b.natAbs<2^2000) (h6: ∀p H',H p=none->H'=upd H p (.tup (Gd k a b))->Q (.ref p) H'):NB vs H Q E
theorem VZ (T:YY K mg)(F:qT K "worth" "worth" NV f fd)(Cc3:jY P w K mg base 1 "done_to_row" ["kind","values","rows"] zCk)(Ce4:jY P w K mg base 2 "reckoned" ["kind","first","second"] QR):vO P w K mg base 3 f fd ["kind","values","rows"] NB:=by
 exists Vv;obtain⟨k,a,b,vp,rp,rfl,hv,k8,k14,ha,hb,q⟩:=h;exists _,(zC (xD (zX jM (pv 0) (yH rfl T.m_NEW) (yG _)) (zC (kG (Bb yR yX yW kT (pv 2) (zA (xF zB) zB)))
   (zL (zT (xO (zA qH (zA (yK uM (xK xA rfl T.n_len kO (zA (pv 2) zB)) zI) zB)))))) yD)
   (zC (xD (zX HL (pv 0) (yH rfl T.m_PUSH) (yG _)) (zL (zT (zH Cc3 hr rfl (zA (pv 0) (zA (pv 1) (zA (pv 2) zB))) zV))) yD)
   (zL (zT (zH Ce4 hr rfl (zA (pv 0) (zA (yZ jB (pv 1) zI (λ_ _=>rfl)) (zA (yZ jB (pv 1) zI (λ_ _=>rfl)) zB))) zV)))))
 refine#[-1,rfl,-1,jK (λc=>absurd (vt c) ()) (λ_=>#[-1,_,-1,rfl,-1,jK (λc=>absurd (yB c) ()) (λ_=>?_)])];exact#[-2,vp,_,_,-1,rfl,kN.of hv,rfl,-1,vp,_,_,-1,rfl,kN.of hv,rfl,k,a,b,rfl,ha,hb,q]
theorem Wl (d:Nat)(T:zBl K mg)(F:qT K "fixed" "fixed" IU f fd)(Cc4:jY P w K mg base 3 "worth" ["kind","values","rows"] NB)(Ca8:jY P w K mg base (3+d) "fixed" ["node"] (FB d)):vO P w K mg base (3+d+1) f fd ["node"] (FB (d+1)):=by
 exists CU;obtain⟨v,t,rfl,ht,fx,q⟩:=h;cases t with
 |mk k own ps=>
 obtain⟨t,pl,o,qa,vs,rfl,e1,e2,e3,pr⟩:=ht;obtain⟨h0,h2,hp⟩:=fx;exists _,(zC (wS (pv 0) (qO rfl (yF (zY 1 CU.nd) (yF (zY 2 CU.nd) (yF (zY 3 CU.nd) (yF (zY 4 CU.nd) jS))))))
   (zC (xD (zX jM (pv 1) (yH rfl T.m_NUMBER) (yG _)) (zL (zT (yZ xL (pv 3) zI (λ_ _=>rfl)))) yD)
   (zC (xD (PW.pt (qY (zX Aw (pv 1) (yH rfl T.m_ADD) (yG _)) (kW (zX Kr (pv 1) (yH rfl T.m_SAME) (yG _))))) (zL (zT qH)) yD)
   (zC (Ip (i:=5) CU.nd rfl rfl (own:=["part"]) (ys:=[]) rfl (Ir (pv 4)) (kJ (sc:=zS IU) rfl (by decide+kernel)) .nil (λ_ _ _ _ _=>(zY 0 (show List.Nodup [("part":Str)]from(by decide+kernel)))) (λ_ _ _ _ _=>wN) (λ_ _ _ _ _=>(zH Ca8 hr rfl (zA (pv 0) zB) zV)))
   (zC (xD (zX Ff qH (pv 5) rfl) (zL (zT qH)) yD)
   (zC (wS (zH Cc4 hr rfl (zA (pv 1) (zA (pv 5) (zA (xF zB) zB))) zV) (qO rfl (yF (zY 6 CU.nd) (yF (zY 7 CU.nd) jS))))
   (zL (zT (Jc (zX FV (pv 6) qH (yG _)) (pv 7) qH)))))))))
 refine#[-1,t,-1,Ax.of e1,rfl,_,-1,_,-1,_,-1,_,-1,rfl,?_];refine#[-1,rfl,-1,jK (λc=>?_) (λc=>?_)]
 ·have k0:=vt c;obtain⟨n,rfl,fn⟩:=h0 k0;have e:kM (.mk k [n] ps)=some n:=by unfold kM;rw[zQ k0]<;>rfl
  rw[e]at q;exact#[-1,o,_,_,-1,rfl,Ax.of e2,rfl,q H (xJ.refl H)]
 have k0:=vf c;have none8:k<8\/14<k->Q .non H:=λz=>by
  have e:kM (.mk k own ps)=none:=by unfold kM;rw[zN k0,zQ z]
  rw[e]at q;exact q H (xJ.refl H)
 refine#[-1,_,-1,rfl,-1,jK (λc=>jI (none8 (.inl (yB c)))) (λc=>?_)];have k8:=df c;refine#[-1,_,-1,rfl,-1,jK (λc=>none8 (.inr (yB c))) (λc=>?_)];have k14:=df c;have l2:=h2 () ();obtain⟨p1,p2,rfl⟩: ∃p1 p2,ps=[p1,p2]:=by
  match ps,l2 with
  |[a,b],_=>exact#[a,b,rfl]
 have eV:=XO (own:=own) k0 () () p1 p2;have lv:vs.length=2:=Paired.len pr;refine#[-1,qa,rfl,#[_,Ax.of e3],λp hp'=>?_];refine Me (xs:=vs) (λi U' H'=> ∃x,U'=[x]/\xJ H H'/\H' p=some (.lst ((([kM p1,kM p2].take i).map oZ)))) #[-1,zM hp' _,upd_same] ?_ ?_ ?_
 ·rintro i U' H' _ ⟨x,rfl,g,_⟩;exact xJ.seqT g (Ax.of e3)
 ·rintro i x U' H' hi hx ⟨y,rfl,g,ez⟩;obtain⟨tx,hg,tt⟩:=Paired.yonder pr hx;have fx:=hp tx (List.mem_iff_getElem?.mpr #[_,hg]);dsimp only[wI,QL];refine jI #[-1,x,tx,rfl,Kg.tups (.same g) tt,fx,λH2 g2=>?_];have hv:[kM p1,kM p2][i]? =some (kM tx):=by
   match i,hg with
   |0,hg=>cases hg;rfl
   |1,hg=>cases hg;rfl
  refine#[_,g2 _ _ ez,Fc (by rw[zG];exact xH (List.length_take_le' ..) (show 2<=1000 by decide)),CW.next hi #[-1,(g.trans g2).fresh hp',?_]];rw[upd_same,vH,hv,yV]<;>rfl
 ·rintro U' H1 ⟨x,rfl,g1,ez⟩;rw[lv]at ez;have ez':H1 p=some (.lst [oZ (kM p1),oZ (kM p2)]):=ez;clear ez;have f1:=hp p1 (by simp);have f2:=hp p2 (by simp);rw[eV]at q;cases z1:kM p1 with
  |none=>
   rw[z1]at q ez';cases z2:kM p2 with
   |none=>
    rw[z2]at q ez';exact#[-1,p,-1,.inl (kN.of ez'),rfl,rfl,-1,jK (λ_=>q H1 g1) (λc=>absurd rfl c)]
   |some b=>
    rw[z2]at q ez';exact#[-1,p,-1,.inl (kN.of ez'),rfl,rfl,-1,jK (λ_=>q H1 g1) (λc=>absurd rfl c)]
  |some a=>
   rw[z1]at q ez';cases z2:kM p2 with
   |none=>
    rw[z2]at q ez';exact#[-1,p,-1,.inl (kN.of ez'),rfl,rfl,-1,jK (λ_=>q H1 g1) (λc=>absurd rfl c)]
   |some b=>
    rw[z2]at q ez';refine#[-1,p,-1,.inl (kN.of ez'),rfl,rfl,-1,jK (λc=>nomatch c) (λ_=>?_)];have fa:=KF d p1 a f1 z1;have fb:=KF d p2 b f2 z2;refine#[-2,zz0,λrp hrp=>?_];have s2:=zM hrp (.lst []);refine#[k,a,b,p,rp,rfl,s2 _ _ ez',(),(),fa.big,fb.big,λtp H3 htp e3=>?_];have g3:xJ H H3:=by rw[e3];exact g1.trans (s2.trans (zM htp _))
    have told:H3 tp=some (.tup (Gd k a b)):=by rw[e3];exact upd_same
    have q3:=q H3 g3;clear q
    rcases Yd k a b with⟨v,er,ev⟩|⟨er,z,ev⟩
    ·rw[ev]at told;refine#[tp,-1,Ax.of told,rfl,_,-1,_,-1,rfl,?_];have q4:Q (oZ (rk k a b)) H3:=q3;rw[er]at q4;exact#[-1,rfl,-1,jK (λ_=>#[-1,q4]) (λc=>absurd rfl c)]
    ·rw[ev]at told;refine#[tp,-1,Ax.of told,rfl,_,-1,_,-1,rfl,?_];have q4:Q (oZ (rk k a b)) H3:=q3;rw[er]at q4;exact#[-1,rfl,-1,jK (λc=>nomatch c) (λ_=>q4)]
theorem Uq (T:zBl K mg)(F:qT K "fixed" "fixed" IU f fd)(Cc4:jY P w K mg base 3 "worth" ["kind","values","rows"] NB)(hm:mg "fixed"=some (.ref f))(hk:PySem.W.keepIn K (.ref f)=true)(hb:uG K fd ["node"] []):
  ∀d,vO P w K mg base (3+d) f fd ["node"] (FB d):=by
 intro d
 induction d with
 |zero=>exact KQ λvs H Q E h=>by obtain⟨v,t,_,z,_⟩:=h;exact z.elim
 |succ d ih=>exact Wl d T F Cc4 #[#[_,_,ih,hm,hk,hb]]
theorem Mz (T:BJ K mg CK)(F:qT K "own_row_at" "own_row_at" FJ f fd)(Cc:jY P w K mg base 1 "begin_of" ["check","node"] (Al CK (·.1)))(Ce:jY P w K mg base 1 "end_of" ["check","node"] (Al CK (·.2)))(Ck:jY P w K mg base 2 "meet" ["check","first","second"] (DZ CK)):vO P w K mg base 3 f fd ["check","node"] (NE CK):=by
 exists CG;obtain⟨c,dx,r,l,d,q0,rs,L,R,tn,k,p,x,pt,m7,be,o6,rfl,C,et,ept,hp,pp,q⟩:=h;exists _,(zC (yP 2 CG.nd (zH Cc hr rfl (zA (pv 0) (zA (pv 1) zB)) zV))
   (zC (qS yY rfl (Ir (yZ xL (pv 1) zI (λ_ _=>rfl))) (zY 3 CG.nd) (zC (xD (qN (kR (zH Ck hr rfl (zA (pv 0) (zA (pv 2) (zA (zH Cc hr rfl (zA (pv 0) (zA (pv 3) zB)) zV) zB))) zV))) (zL (zT qH)) yD)
   (zL (yP 2 CG.nd (zH Ce hr rfl (zA (pv 0) (zA (pv 3) zB)) zV)))))
   (zL (zT (pv 2)))))
 have lp:=Paired.len pp;refine#[-2,c,dx,r,l,d,q0,rs,L,R,tn,k,p,x,_,be,rfl,C,et,hp,?_];refine#[-1,tn,_,_,-1,rfl,.of et,rfl,pt,rfl,#[m7,.of ept],Jr (xs:=m7) (λi U' H'=>H'=H/\ ∃(b:Nat) (v3:i5 V),U'=[some (.ref c),some (.ref tn),some (.int (b:Nat)),v3]/\AB rs be.1 o6=AB rs b (o6.drop i)) #[rfl,be.1,none,rfl,rfl] ?_ ?_ ?_]
 ·rintro i U' H' _ ⟨rfl,_⟩;exact .of ept
 ·rintro i v U' H' hv ⟨rfl,b,v3,rfl,e⟩;obtain⟨bi,hb,t,k',p',x',y',rfl,ett,hL⟩:=Paired.yonder pp hv;have dr:o6.drop i=bi::o6.drop (i+1):=by
   have hi:=(List.getElem?_eq_some_iff.mp hb).1;rw[yS hi];rw[zF hi]at hb;cases hb;rfl
  rw[dr]at e;have e:AB rs be.1 o6=if xS rs (some b) (some bi.1)=true then AB rs bi.2 (o6.drop (i+1))else none:=e;refine#[-4,c,dx,r,l,d,q0,rs,L,R,t,k',p',x',y',bi,rfl,C,ett,hL,?_];refine#[c,dx,r,l,d,q0,rs,L,R,some b,some bi.1,rfl,C,-1,?_];cases m:xS rs (some b) (some bi.1)with
  |false=>
   rw[m,zN (by decide)]at e;rw[e]at q;exact jI q
  |true=>
   rw[m,zQ rfl]at e;refine jE ?_;exact#[-2,c,dx,r,l,d,q0,rs,L,R,t,k',p',x',y',bi,rfl,C,ett,hL,rfl,bi.2,-1,e]
 ·rintro U' H' ⟨rfl,b,v3,rfl,e⟩;rw[lp,uQ]at e;rw[e]at q;exact#[-1,q]
theorem Om (e:Nat)(T:BJ K mg CK)(F:qT K "is_pushed" "is_pushed" GF f fd)(Ca8:jY P w K mg base (3+e) "fixed" ["node"] (FB e))(Cc:jY P w K mg base 1 "begin_of" ["check","node"] (Al CK (·.1)))(Ce:jY P w K mg base 1 "end_of" ["check","node"] (Al CK (·.2)))(Cn:jY P w K mg base 2 "behind" ["check","at","row"] (CQ CK))(Ck:jY P w K mg base 2 "meet" ["check","first","second"] (DZ CK)):vO P w K mg base (3+e+1) f fd ["check","node"] (Ld CK e):=by
 exists IR;obtain⟨c,dx,r,l,d,q0,rs,L,R,tn,k,p,x,y,t,be,rfl,C,et,tr,fx,hp,q⟩:=h;exists _,(zC (yP 2 IR.nd (zH Ca8 hr rfl (zA (pv 1) zB) zV))
   (zC (xD (zX FV (pv 2) qH (yG _)) (zL (zT qI)) yD)
   (zL (zT (zH Ck hr rfl (zA (pv 0) (zA (zH Cn hr rfl (zA (pv 0) (zA (zH Cc hr rfl (zA (pv 0) (zA (pv 1) zB)) zV) (zA (xO (zA (yH rfl T.m_OP_PUSH) (zA (pv 2) zB))) zB))) zV) (zA (zH Ce hr rfl (zA (pv 0) (zA (pv 1) zB)) zV) zB))) zV)))))
 refine#[-1,_,t,rfl,tr,fx,λH1 s1=>?_];have C1:=C.same s1;have et1:=s1 _ _ et;cases e1:kM t with
 |none=>
  rw[e1]at q;exact#[-1,rfl,-1,jI (q H1 s1)]
 |some n=>
  rw[e1]at q;refine#[-1,rfl,-1,jE ?_];refine#[-4,c,dx,r,l,d,q0,rs,L,R,tn,k,p,x,y,be,rfl,C1,et1,hp,?_];refine#[-1,sm2,λt2 h2=>?_];have s2:=zM h2 (.tup [.int 0,.int n]);refine#[c,dx,r,l,d,q0,rs,L,R,some be.1,t2,0,some n,rfl,C1.same s2,upd_same,?_];refine#[-2,c,dx,r,l,d,q0,rs,L,R,tn,k,p,x,y,be,rfl,C1.same s2,s2 _ _ et1,hp,?_];exact#[c,dx,r,l,d,q0,rs,L,R,_,some be.2,rfl,C1.same s2,q _ (s1.trans s2)]
theorem Ui (T:BJ K mg CK)(F:qT K "picked" "picked" Lu f fd):vO P w K mg base 1 f fd ["value","parts"] Le:=by
 exists MU;obtain⟨v,pt,m7,x,rfl,ept,h0,hx,q⟩:=h;exists _,(zC (yP 2 MU.nd (yK uM (xK xA rfl T.n_len kO (zA (pv 1) zB)) zI))
   (zC (xD (PW.pt (qY (zX Aw (pv 0) zI (yG _)) (kW (zX HL (pv 0) (pv 2) (yG _))))) (zL (zT (yZ xL (pv 1) (pv 2) (λ_ _=>rfl)))) yD)
   (zL (zT (yZ xL (pv 1) (yK jF zI (pv 0)) (λ_ _=>rfl))))))
 refine#[-1,pt,-1,.inr (.of ept),_,-1,rfl,?_];have last:v<0\/v ≥ (m7.length:Int)-1->IF m7 ((m7.length:Int)-1)=some x:=λz=>by
  have e:Pm v m7.length=m7.length-1:=by unfold Pm;rw[zQ z]
  rw[e]at hx;rw[show(m7.length:Int)-1=((m7.length-1:Nat):Int)by lia];exact kK hx
 refine#[-1,_,-1,rfl,-1,jK (λc=>jI ?_) (λc=>?_)]
 ·exact#[-2,pt,_,_,-1,rfl,.of ept,last (.inl (yB c)),q]
 have c1:=df c;refine#[-2,_,-1,rfl,-1,jK (λc=>?_) (λc=>?_)]
 ·exact#[-2,pt,_,_,-1,rfl,.of ept,last (.inr (yB c)),q]
 have c2:=df c;have e:Pm v m7.length=1+v.toNat:=by unfold Pm;rw[zN ()]
 rw[e]at hx;refine#[-2,_,-1,rfl,pt,_,_,-1,rfl,.of ept,?_,q];show IF m7 (1+v)=some x;rw[show(1:Int)+v=((1+v.toNat:Nat):Int)by lia];exact kK hx
theorem Wp (e:Nat)(T:BJ K mg CK)(F:qT K "is_picked_ahead" "is_picked_ahead" BA f fd)(Ca8:jY P w K mg base (3+e) "fixed" ["node"] (FB e))(Cf5:jY P w K mg base 1 "picked" ["value","parts"] Le)(Cq:jY P w K mg base 3 "begins_alike" ["check","node","part"] (Bx CK (·.1)))(Cu:jY P w K mg base 3 "ends_alike" ["check","node","part"] (Bx CK (·.2))):vO P w K mg base (3+e+1) f fd ["check","node"] (Ll CK e):=by
 exists Bl;obtain⟨c,dx,r,l,d,q0,rs,L,R,tn,k,p,x,pt,m7,is,v0,t0,be,rfl,C,et,ept,hp,pp,h0,tr,fx,q⟩:=h;exists _,(zC (yP 2 Bl.nd (zH Ca8 hr rfl (zA (yZ xL (yZ xL (pv 1) zI (λ_ _=>rfl)) zI (λ_ _=>rfl)) zB) zV))
   (zC (xD (zX FV (pv 2) qH (yG _)) (zL (zT qI)) yD)
   (zC (yP 3 Bl.nd (zH Cf5 hr rfl (zA (pv 2) (zA (yZ xL (pv 1) zI (λ_ _=>rfl)) zB)) zV))
   (zL (zT (An (uV (AS hr) (jJ (pv 0) rfl) (yZ xL (pv 3) zI (λ_ _=>rfl)) (λ_ _=>rfl)) (An (zH Cq hr rfl (zA (pv 0) (zA (pv 1) (zA (pv 3) zB))) zV) (BE (zH Cu hr rfl (zA (pv 0) (zA (pv 1) (zA (pv 3) zB))) zV)))))))))
 have lp:=Paired.len pp;have l0:0<m7.length:=(List.getElem?_eq_some_iff.mp h0).1;refine#[-1,tn,_,_,-1,rfl,.of et,rfl,pt,_,_,-1,rfl,.of ept,kK (j:=0) h0,v0,t0,rfl,tr,fx,λH1 s1=>?_];have C1:=C.same s1;have et1:=s1 _ _ et;have ept1:=s1 _ _ ept;cases e1:kM t0 with
 |none=>
  rw[e1]at q;exact#[-1,rfl,-1,jI (q H1 s1)]
 |some n=>
  rw[e1]at q;refine#[-1,rfl,-1,jE ?_];have o5:=VM (v:=n) l0;have hx:m7[Pm n m7.length]? =some m7[Pm n m7.length]:=zF o5;obtain⟨⟨b,be'⟩,hi,t,k',p',x',y',ev,ett,hR,hL⟩:=Paired.yonder pp hx;refine#[-2,tn,_,_,-1,rfl,.of et1,rfl,n,pt,m7,-1,ept1,l0,hx,?_];rw[ev];have ea:Sc rs be is (some n)=(b&&(xS rs (some be'.1) (some be.1)&&xS rs (some be'.2) (some be.2))):=by
   rw[lp]at hi;show(match is[Pm n is.length]? with|some i=>i.1&&(xS rs (some i.2.1) (some be.1)&&xS rs (some i.2.2) (some be.2))|none=>false)=_;rw[hi]
  rw[ea]at q;have ett1:=s1 _ _ ett;refine#[-1,c,CK,dx,_,-1,C1.ob,T.ck,T.cright,rfl,-1,t,_,_,-1,rfl,.of ett1,rfl,q0,-1,C1.rt hR,b,rfl,?_];cases b with
  |false=>exact jE (q H1 s1)
  |true=>
   refine jI ?_;have hL:=hL rfl;refine#[-3,c,dx,r,l,d,q0,rs,L,R,tn,t,k,p,k',p',x,_,x',y',be,be',rfl,C1,et1,hp,ett1,hL,-1,?_];cases m:xS rs (some be'.1) (some be.1)with
   |false=>
    rw[m]at q;exact jE (q H1 s1)
   |true=>
    rw[m]at q;refine jI ?_;exact#[-3,c,dx,r,l,d,q0,rs,L,R,tn,t,k,p,k',p',x,_,x',y',be,be',rfl,C1,et1,hp,ett1,hL,q H1 s1]
inductive NM (C:i4) (vs:List V) (H:Hp) (Q:VK) (E:XK):Prop
 |mk (c dx r l d q:i4) (rs:vX) (L:Int->Option (Nat×Nat)) (R:Int->Option i8) (tn:i4) (k p:Int) (o pt:i4) (own:List Int) (m7:List V) (hs:Ev) (bx:Int) (be:Nat×Nat) (o6:List (Nat×Nat)) (h0:vs=[.ref c,.ref tn]) (h1:ID C H c dx r l d q rs L R) (h2:H tn=some (.tup [.int k,.int p,.ref o,.ref pt])) (h3:H o=some (.tup (own.map V.int))) (h4:H pt=some (.tup m7)) (h5:Bn hs bx k own) (h6:k≠3) (h7:k≠4) (h8:k≠5) (h9:L p=some be) (h10:Paired (LnP H L) m7 o6) (h11: ∀H',xJ H H'->Q (.bl (Je rs be o6 k (Ek k own))) H'):NM C vs H Q E
theorem VX (k:Int)(own:a6 Int): ∃a b,Ek k own=[a,b]:=by
 unfold Ek;split
 ·exact#[_,-1]
 ·split
  ·exact#[_,-1]
  ·split
   ·exact#[_,-1]
   ·exact#[_,-1]
theorem Us (T:BJ K mg CK)(F:qT K "is_right_by_own_row" "is_right_by_own_row" Am f fd)(Cd1:jY P w K mg base 3 "own_row_at" ["check","node"] (NE CK))(Cw:jY P w K mg base 1 "own_row" ["kind","numbers"] Gs)(Cn:jY P w K mg base 2 "behind" ["check","at","row"] (CQ CK))(Ce:jY P w K mg base 1 "end_of" ["check","node"] (Al CK (·.2)))(Ck:jY P w K mg base 2 "meet" ["check","first","second"] (DZ CK)):vO P w K mg base 4 f fd ["check","node"] (NM CK):=by
 exists qA;obtain⟨c,dx,r,l,d,q0,rs,L,R,tn,k,p,o,pt,own,m7,hs,bx,be,o6,rfl,C,et,eo,ept,of,n3,n4,n5,hp,pp,q⟩:=h;exists _,(zC (wS (pv 1) (qO rfl (yF (zY 2 qA.nd) (yF (zY 3 qA.nd) (yF (zY 4 qA.nd) (yF (zY 5 qA.nd) jS))))))
   (zC (yP 6 qA.nd (zH Cn hr rfl (zA (pv 0) (zA (zH Cd1 hr rfl (zA (pv 0) (zA (pv 1) zB)) zV) (zA (zH Cw hr rfl (zA (pv 2) (zA (pv 4) zB)) zV) zB))) zV))
   (zC (xD (zX jM (pv 2) (yH rfl T.m_FAIL) (yG _)) (zL (zT (uW Jf (pv 6) qH (yG _)))) yD)
   (zL (zT (zH Ck hr rfl (zA (pv 0) (zA (pv 6) (zA (zH Ce hr rfl (zA (pv 0) (zA (pv 1) zB)) zV) zB))) zV))))))
 obtain⟨ra,rb,er⟩:=VX k own;refine#[-1,tn,-1,.of et,rfl,_,-1,_,-1,_,-1,_,-1,rfl,?_];refine#[-3,c,dx,r,l,d,q0,rs,L,R,tn,k,p,_,pt,m7,be,o6,rfl,C,et,ept,hp,pp,?_];refine#[-2,k,o,own,hs,bx,rfl,eo,of,n3,n4,n5,λt2 h2=>?_];rw[er];have s2:=zM h2 (.tup ([ra,rb].map V.int));refine#[c,dx,r,l,d,q0,rs,L,R,_,t2,ra,some rb,rfl,C.same s2,upd_same,?_];have em:Je rs be o6 k (Ek k own)=if k=7 then(qP rs (AB rs be.1 o6) ra rb).isSome else xS rs (qP rs (AB rs be.1 o6) ra rb) (some be.2):=by rw[er];rfl
 rw[em]at q;refine#[-1,rfl,-1,jK (λc1=>?_) (λc1=>?_)]
 ·have k7:=vt c1;have q:=q _ s2;rw[zQ k7]at q;refine#[-1,rfl,?_];show Q (.bl (!decide (oI (qP rs (AB rs be.1 o6) ra rb)=.non))) _;have e2:(!decide (oI (qP rs (AB rs be.1 o6) ra rb)=.non))=(qP rs (AB rs be.1 o6) ra rb).isSome:=by
   cases qP rs (AB rs be.1 o6) ra rb<;>rfl
  rw[e2];exact q
 ·have k7:=vf c1;have q:=q _ s2;rw[zN k7]at q;refine#[-4,c,dx,r,l,d,q0,rs,L,R,tn,k,p,_,_,be,rfl,C.same s2,s2 _ _ et,hp,?_];exact#[c,dx,r,l,d,q0,rs,L,R,_,some be.2,rfl,C.same s2,q]
noncomputable def UY (rs:vX):a6 (Nat×Nat)->i8
 |[]=>true
 |a::r=>match r with
  |[]=>true
  |b::_=>xS rs (qP rs (some a.2) 3 0) (some b.1)&&UY rs r
noncomputable def Xt (rs:vX)(be:Nat×Nat)(o6:a6 (Nat×Nat)):i8:=
 UY rs o6&&match o6.head?,o6.getLast? with
  |some a,some z=>xS rs (some a.1) (some be.1)&&xS rs (some z.2) (some be.2)
  |_,_=>false
inductive HU (C:i4) (vs:List V) (H:Hp) (Q:VK) (E:XK):Prop
 |mk (c dx r l d q:i4) (rs:vX) (L:Int->Option (Nat×Nat)) (R:Int->Option i8) (tn:i4) (k p:Int) (x:V) (pt:i4) (m7:List V) (be:Nat×Nat) (o6:List (Nat×Nat)) (h0:vs=[.ref c,.ref tn]) (h1:ID C H c dx r l d q rs L R) (h2:H tn=some (.tup [.int k,.int p,x,.ref pt])) (h3:H pt=some (.tup m7)) (h4:0<m7.length) (h5:L p=some be) (h6:Paired (LnP H L) m7 o6) (h7: ∀H',xJ H H'->Q (.bl (Xt rs be o6)) H'):HU C vs H Q E
theorem LnP.same (s:xJ H H'):LnP H L v be->LnP H' L v be:=fun⟨t,k,p,x,y,e,h,z⟩=>#[t,k,p,x,y,e,s _ _ h,z]
theorem Ny:IF (y::yr) 0=some y:=kK (xs:=y::yr) (j:=0) rfl
theorem QA (h:0<xs.length):IF xs (-1)=xs[xs.length-1]?:=by
 unfold IF WK;rw[zN (by decide)];split
 ·show xs[((xs.length:Int)+ -1).toNat]? =_;rw[show((xs.length:Int)+ -1).toNat =xs.length-1 by lia]
 ·lia
theorem Oh (T:BJ K mg CK)(F:qT K "is_right_all" "is_right_all" Eh f fd)(Cc:jY P w K mg base 1 "begin_of" ["check","node"] (Al CK (·.1)))(Ce:jY P w K mg base 1 "end_of" ["check","node"] (Al CK (·.2)))(Cn:jY P w K mg base 2 "behind" ["check","at","row"] (CQ CK))(Ck:jY P w K mg base 2 "meet" ["check","first","second"] (DZ CK))(Cq:jY P w K mg base 3 "begins_alike" ["check","node","part"] (Bx CK (·.1)))(Cu:jY P w K mg base 3 "ends_alike" ["check","node","part"] (Bx CK (·.2))):vO P w K mg base 4 f fd ["check","node"] (HU CK):=by
 exists Bh;obtain⟨c,dx,r,l,d,q0,rs,L,R,tn,k,p,x,pt,m7,be,o6,rfl,C,et,ept,l0,hp,pp,q⟩:=h;exists _,(zC (yP 2 Bh.nd (yZ xL (pv 1) zI (λ_ _=>rfl)))
   (zC (qS yY rfl (VP true true rfl T.n_zip (zA (pv 2) (zA (wD Lp (pv 2) (wC zI) Au) zB))) (qO rfl (yF (zY 3 Bh.nd) (yF (zY 4 Bh.nd) jS))) (zL (xD (qN (kR (zH Ck hr rfl (zA (pv 0) (zA (zH Cn hr rfl (zA (pv 0) (zA (zH Ce hr rfl (zA (pv 0) (zA (pv 3) zB)) zV) (zA (xO (zA (yH rfl T.m_OP_DROP) (zA zI zB))) zB))) zV) (zA (zH Cc hr rfl (zA (pv 0) (zA (pv 4) zB)) zV) zB))) zV))) (zL (zT qI)) yD)))
   (zL (zT (An (zH Cq hr rfl (zA (pv 0) (zA (pv 1) (zA (yZ xL (pv 2) zI (λ_ _=>rfl)) zB))) zV) (BE (zH Cu hr rfl (zA (pv 0) (zA (pv 1) (zA (yZ xL (pv 2) (Kn Gn zI) (λ_ _=>rfl)) zB))) zV)))))))
 have lp:=Paired.len pp;obtain⟨u,us,rfl⟩: ∃u us,m7=u::us:=by
  cases m7 with
  |nil=>cases l0
  |cons u us=>exact#[u,us,rfl]
 refine#[-1,tn,_,_,-1,rfl,.of et,rfl,?_];refine#[-3,pt,-1,.of ept,?_,λcx hcx=>?_]
 ·rintro⟨z,_⟩;have:HT.sIx (u::us).length 0 (some (1:Int))=min 1 (u::us).length:=HT.sIx_nat _ _ 1;rw[this,zK]at z;lia
 have ec:Bu (u::us) (some (1:Int)) none=us:=Fl 1;rw[ec];have s1:=zM hcx (.tup us);have ecx:upd H cx (.tup us) cx=some (.tup us):=upd_same;generalize upd H cx (.tup us)=H1 at *
 refine#[pt,cx,u::us,us,rfl,Ax.of (s1 _ _ ept),Ax.of ecx,Xb (xs:=u::us) (ys:=us) (λi U' H'=>xJ H1 H'/\ ∃v3 v4,U'=[some (.ref c),some (.ref tn),some (.ref pt),v3,v4]/\UY rs o6=UY rs (o6.drop i)) #[xJ.refl _,_,-1,rfl] (by rw[zK];lia) ?_ ?_ ?_]
 ·rintro i U' H' _ ⟨z,_⟩;exact#[Ax.of ((s1.trans z) _ _ ept),Ax.of (z _ _ ecx)]
 ·rintro i v v' U' H2 t hv hv' ⟨z,v3,v4,rfl,e⟩ ht;have hv2:(u::us)[i+1]? =some v':=hv';obtain⟨b1,hb1,t1,k1,p1,x1,y1,rfl,et1,hL1⟩:=Paired.yonder pp hv;obtain⟨b2,hb2,t2,k2,p2,x2,y2,rfl,et2,hL2⟩:=Paired.yonder pp hv2;have zt:=zM ht (.tup [.ref t1,.ref t2]);have g:=s1.trans (z.trans zt);have C3:=C.same g;have dr:o6.drop i=b1::b2::o6.drop (i+2):=by
   have h1:=(List.getElem?_eq_some_iff.mp hb1).1;have h2:=(List.getElem?_eq_some_iff.mp hb2).1;rw[yS h1,yS h2];rw[zF h1]at hb1;rw[zF h2]at hb2;cases hb1;cases hb2;rfl
  have dr2:o6.drop (i+1)=b2::o6.drop (i+2):=by
   have h2:=(List.getElem?_eq_some_iff.mp hb2).1;rw[yS h2];rw[zF h2]at hb2;cases hb2;rfl
  have e2:UY rs o6=(xS rs (qP rs (some b1.2) 3 0) (some b2.1)&&UY rs (o6.drop (i+1))):=by rw[e,dr,dr2];rfl
  refine#[t,-1,.of upd_same,rfl,_,-1,_,-1,rfl,?_];refine#[-4,c,dx,r,l,d,q0,rs,L,R,t1,k1,p1,x1,y1,b1,rfl,C3,g _ _ et1,hL1,?_];refine#[sm2,λt5 h5=>?_];have s5:=zM h5 (.tup [.int 3,.int 0]);refine#[c,dx,r,l,d,q0,rs,L,R,some b1.2,t5,3,some 0,rfl,C3.same s5,upd_same,?_];refine#[-2,c,dx,r,l,d,q0,rs,L,R,t2,k2,p2,x2,y2,b2,rfl,C3.same s5,(g.trans s5) _ _ et2,hL2,?_];refine#[c,dx,r,l,d,q0,rs,L,R,qP rs (some b1.2) 3 0,some b2.1,rfl,C3.same s5,-1,?_];cases m:xS rs (qP rs (some b1.2) 3 0) (some b2.1)with
  |false=>
   have ea:Xt rs be o6=false:=by unfold Xt;rw[e2,m];rfl
   rw[ea]at q;exact jI (q _ (g.trans s5))
  |true=>
   rw[m,xC]at e2;exact jE #[z.trans (zt.trans s5),_,-1,e2]
 ·rintro U' H2 ⟨z,v3,v4,rfl,e⟩;have g:=s1.trans z;have C2:=C.same g;obtain⟨b0,hb0,t0,k0,p0,x0,y0,eu,et0,hL0⟩:=Paired.yonder pp (show(u::us)[0]? =some u from rfl);have ll:us.length<(u::us).length:=by rw[zK];lia
  obtain⟨bz,hbz,tz,kz,pz,xz,yz,ez,etz,hLz⟩:=Paired.yonder pp (zF ll);have lb:o6.length=us.length+1:=by rw[<-lp,zK]
  have e1:UY rs o6=true:=by
   rw[e,yS (),List.drop_eq_nil_of_le ()];rfl
  have eh:o6.head?=some b0:=by rw[List.head?_eq_getElem?];exact hb0
  have el:o6.getLast?=some bz:=by rw[List.getLast?_eq_getElem?,lb];exact hbz
  have ea:Xt rs be o6=(xS rs (some b0.1) (some be.1)&&xS rs (some bz.2) (some be.2)):=by
   unfold Xt;rw[e1,eh,el,xC]
  rw[ea]at q;subst eu;refine#[-3,pt,_,_,-1,rfl,.of (g _ _ ept),Ny,c,dx,r,l,d,q0,rs,L,R,tn,t0,k,p,k0,p0,x,_,x0,y0,be,b0,rfl,C2,g _ _ et,hp,g _ _ et0,hL0,-1,?_];cases m:xS rs (some b0.1) (some be.1)with
  |false=>
   rw[m]at q;exact jE (q _ g)
  |true=>
   rw[m]at q;refine jI ?_;have al:IF (V.ref t0::us) (-1)=some (.ref tz):=by
    have:=QA (xs:=V.ref t0::us) (by rw[zK];lia);rw[this];rw[show(V.ref t0::us).length -1=us.length from rfl,zF ll,ez]
   exact#[-4,pt,_,_,-1,rfl,.of (g _ _ ept),al,c,dx,r,l,d,q0,rs,L,R,tn,tz,k,p,kz,pz,x,_,xz,yz,be,bz,rfl,C2,g _ _ et,hp,g _ _ etz,hLz,q _ g]
noncomputable def Ge (rs:vX)(be:Nat×Nat)(en:Nat):a6 (Nat×Nat)->i8
 |[]=>true
 |b::r=>xS rs (some en) (some b.1)&&(xS rs (some b.2) (some be.2)&&Ge rs be (en+1) r)
noncomputable def UV (rs:vX)(be b0:Nat×Nat)(bs:a6 (Nat×Nat)):i8:=match qP rs (some b0.2) 11 (bs.length:Int)with
 |none=>false
 |some en=>xS rs (some b0.1) (some be.1)&&Ge rs be en bs
inductive Gp (C:i4) (vs:List V) (H:Hp) (Q:VK) (E:XK):Prop
 |mk (c dx r l d q:i4) (rs:vX) (L:Int->Option (Nat×Nat)) (R:Int->Option i8) (tn:i4) (k p:Int) (x:V) (pt:i4) (v0:V) (m7:List V) (be b0:Nat×Nat) (bs:List (Nat×Nat)) (h0:vs=[.ref c,.ref tn]) (h1:ID C H c dx r l d q rs L R) (h2:H tn=some (.tup [.int k,.int p,x,.ref pt])) (h3:H pt=some (.tup (v0::m7))) (h4:L p=some be) (h5:LnP H L v0 b0) (h6:Paired (LnP H L) m7 bs) (h7: ∀H',xJ H H'->Q (.bl (UV rs be b0 bs)) H'):Gp C vs H Q E
theorem Mx (T:BJ K mg CK)(F:qT K "is_right_pick" "is_right_pick" Dv f fd)(Cc:jY P w K mg base 1 "begin_of" ["check","node"] (Al CK (·.1)))(Ce:jY P w K mg base 1 "end_of" ["check","node"] (Al CK (·.2)))(Cn:jY P w K mg base 2 "behind" ["check","at","row"] (CQ CK))(Ck:jY P w K mg base 2 "meet" ["check","first","second"] (DZ CK))(Cq:jY P w K mg base 3 "begins_alike" ["check","node","part"] (Bx CK (·.1)))(Cu:jY P w K mg base 3 "ends_alike" ["check","node","part"] (Bx CK (·.2))):vO P w K mg base 4 f fd ["check","node"] (Gp CK):=by
 exists vD;obtain⟨c,dx,r,l,d,q0,rs,L,R,tn,k,p,x,pt,v0,m7,be,b0,bs,rfl,C,et,ept,hp,⟨t0,k0,p0,x0,y0,rfl,et0,hL0⟩,pp,q⟩:=h;exists _,(zC (yP 2 vD.nd (yZ xL (yZ xL (pv 1) zI (λ_ _=>rfl)) zI (λ_ _=>rfl)))
   (zC (yP 3 vD.nd (wD Lp (yZ xL (pv 1) zI (λ_ _=>rfl)) (wC zI) Au))
   (zC (yP 4 vD.nd (zH Cn hr rfl (zA (pv 0) (zA (zH Ce hr rfl (zA (pv 0) (zA (pv 2) zB)) zV) (zA (xO (zA (yH rfl T.m_OP_PICK) (zA (xK xA rfl T.n_len kO (zA (pv 3) zB)) zB))) zB))) zV))
   (zC (xD (PW.pt (qY (zX FV (pv 4) qH (yG _)) (kW (qN (kR (zH Cq hr rfl (zA (pv 0) (zA (pv 1) (zA (pv 2) zB))) zV)))))) (zL (zT qI)) yD)
   (zC (qS yY rfl (Ja rfl T.n_enumerate (zA (pv 3) zB)) (qO rfl (yF (zY 5 vD.nd) (yF (zY 6 vD.nd) jS))) (zL (xD (PW.pt (qY (qN (kR (zH Ck hr rfl (zA (pv 0) (zA (yK jF (pv 4) (pv 5)) (zA (zH Cc hr rfl (zA (pv 0) (zA (pv 6) zB)) zV) zB))) zV))) (kW (qN (kR (zH Cu hr rfl (zA (pv 0) (zA (pv 1) (zA (pv 6) zB))) zV)))))) (zL (zT qI)) yD)))
   (zL (zT qI)))))))
 have lp:=Paired.len pp;refine#[-1,tn,_,_,-1,rfl,.of et,rfl,pt,_,_,-1,rfl,.of ept,Ny,?_];refine#[-1,tn,_,_,-1,rfl,.of et,rfl,-1,pt,-1,.of ept,?_,λcx hcx=>?_]
 ·rintro⟨z,_⟩;have:HT.sIx (V.ref t0::m7).length 0 (some (1:Int))=min 1 (V.ref t0::m7).length:=HT.sIx_nat _ _ 1;rw[this,zK]at z;lia
 have ec:Bu (V.ref t0::m7) (some (1:Int)) none=m7:=Fl 1;rw[ec];have s1:=zM hcx (.tup m7);have ecx:upd H cx (.tup m7) cx=some (.tup m7):=upd_same;generalize upd H cx (.tup m7)=H1 at *
 have C1:=C.same s1;refine#[-3,c,dx,r,l,d,q0,rs,L,R,t0,k0,p0,x0,y0,b0,rfl,C1,s1 _ _ et0,hL0,?_];refine#[-1,cx,-1,.inr (.of ecx),sm2,λt2 h2=>?_];have s2:=zM h2 (.tup [.int 11,.int (m7.length:Nat)]);have C2:=C1.same s2;have g2:=s1.trans s2;refine#[c,dx,r,l,d,q0,rs,L,R,some b0.2,t2,11,some ((m7.length:Nat):Int),rfl,C2,upd_same,?_];have ecx2:=s2 _ _ ecx;generalize upd H1 t2 (.tup [.int 11,.int (m7.length:Nat)])=H2 at *
 have eb:OB rs (some b0.2) 11 (some ((m7.length:Nat):Int))=qP rs (some b0.2) 11 (bs.length:Int):=by rw[lp];rfl
 rw[eb];cases e1:qP rs (some b0.2) 11 (bs.length:Int)with
 |none=>
  have em:UV rs be b0 bs=false:=by unfold UV;rw[e1]
  rw[em]at q;exact#[-1,rfl,-1,jI (q _ g2)]
 |some en=>
  have em:UV rs be b0 bs=(xS rs (some b0.1) (some be.1)&&Ge rs be en bs):=by unfold UV;rw[e1]
  rw[em]at q;refine#[-1,rfl,-1,jE ?_];refine#[-3,c,dx,r,l,d,q0,rs,L,R,tn,t0,k,p,k0,p0,x,_,x0,y0,be,b0,rfl,C2,g2 _ _ et,hp,g2 _ _ et0,hL0,-1,?_];cases m:xS rs (some b0.1) (some be.1)with
  |false=>
   rw[m]at q;exact jI (q _ g2)
  |true=>
   rw[m,xC]at q;refine jE ?_;refine#[-1,cx,-1,.of ecx2,HA (xs:=m7) (λi U' H'=>xJ H2 H'/\ ∃v5 v6,U'=[some (.ref c),some (.ref tn),some (.ref t0),some (.ref cx),some (.int (en:Nat)),v5,v6]/\Ge rs be en bs=Ge rs be (en+i) (bs.drop i)) #[xJ.refl _,_,-1,rfl] (λi U' H' _ ⟨z,_⟩=>.of (z _ _ ecx2)) ?_ ?_]
   ·rintro i v U' H3 t hv ⟨z,v5,v6,rfl,e⟩ ht;obtain⟨bi,hb,ti,ki,pi,xi,yi,rfl,eti,hLi⟩:=Paired.yonder pp hv;have zt:=zM ht (.tup [.int (i:Nat),.ref ti]);have g:=g2.trans (z.trans zt);have C3:=C.same g;have dr:bs.drop i=bi::bs.drop (i+1):=by
     have hi:=(List.getElem?_eq_some_iff.mp hb).1;rw[yS hi];rw[zF hi]at hb;cases hb;rfl
    have e2:Ge rs be en bs=(xS rs (some (en+i)) (some bi.1)&&(xS rs (some bi.2) (some be.2)&&Ge rs be (en+(i+1)) (bs.drop (i+1)))):=by rw[e,dr];rfl
    refine#[t,-1,.of upd_same,rfl,_,-1,_,-1,rfl,?_];refine#[-3,_,-1,rfl,-2,c,dx,r,l,d,q0,rs,L,R,ti,ki,pi,xi,yi,bi,rfl,C3,g _ _ eti,hLi,?_];refine#[c,dx,r,l,d,q0,rs,L,R,some (en+i),some bi.1,rfl,C3,-1,?_];cases m1:xS rs (some (en+i)) (some bi.1)with
    |false=>
     rw[m1]at e2;rw[e2]at q;exact jI (q _ g)
    |true=>
     rw[m1,xC]at e2;refine jE ?_;refine#[-3,c,dx,r,l,d,q0,rs,L,R,tn,ti,k,p,ki,pi,x,_,xi,yi,be,bi,rfl,C3,g _ _ et,hp,g _ _ eti,hLi,-1,?_];cases m2:xS rs (some bi.2) (some be.2)with
     |false=>
      rw[m2]at e2;rw[e2]at q;exact jI (q _ g)
     |true=>
      rw[m2,xC]at e2;exact jE #[z.trans zt,_,-1,e2]
   ·rintro U' H3 ⟨z,v5,v6,rfl,e⟩;rw[lp,uQ]at e;rw[e]at q;exact q _ (g2.trans z)
noncomputable def UW (rs:vX)(be b1 b2:Nat×Nat):i8:=
 xS rs (qP rs (some be.1) 9 0) (some b1.1)&&(xS rs (OB rs (some b1.2) 5 ((Bc rs (some b1.2)).map Int.ofNat)) (some b2.1)&&(xS rs (qP rs (some b2.2) 3 0) (some be.1)&&xS rs (qP rs (Bc rs (some b1.2)) 0 0) (some be.2)))
inductive Gq (C:i4) (vs:List V) (H:Hp) (Q:VK) (E:XK):Prop
 |mk (c dx r l d q:i4) (rs:vX) (L:Int->Option (Nat×Nat)) (R:Int->Option i8) (tn:i4) (k p:Int) (x:V) (pt:i4) (v1 v2:V) (be b1 b2:Nat×Nat) (h0:vs=[.ref c,.ref tn]) (h1:ID C H c dx r l d q rs L R) (h2:UOk rs) (h3:H tn=some (.tup [.int k,.int p,x,.ref pt])) (h4:H pt=some (.tup [v1,v2])) (h5:L p=some be) (h6:LnP H L v1 b1) (h7:LnP H L v2 b2) (h8: ∀H',xJ H H'->Q (.bl (UW rs be b1 b2)) H'):Gq C vs H Q E
theorem zDb:oI a=oZ (a.map Int.ofNat):=by cases a<;>rfl
theorem My (T:BJ K mg CK)(F:qT K "is_right_loop" "is_right_loop" Dw f fd)(Cc:jY P w K mg base 1 "begin_of" ["check","node"] (Al CK (·.1)))(Ce:jY P w K mg base 1 "end_of" ["check","node"] (Al CK (·.2)))(Cn:jY P w K mg base 2 "behind" ["check","at","row"] (CQ CK))(Ck:jY P w K mg base 2 "meet" ["check","first","second"] (DZ CK))(Cb7:jY P w K mg base 2 "left_by_unless" ["check","at"] (QU CK)):vO P w K mg base 3 f fd ["check","node"] (Gq CK):=by
 exists AK;obtain⟨c,dx,r,l,d,q0,rs,L,R,tn,k,p,x,pt,v1,v2,be,b1,b2,rfl,C,uk,et,ept,hp,⟨t1,k1,p1,x1,y1,rfl,et1,hL1⟩,⟨t2,k2,p2,x2,y2,rfl,et2,hL2⟩,q⟩:=h;exists _,(zC (wS (yZ xL (pv 1) zI (λ_ _=>rfl)) (qO rfl (yF (zY 2 AK.nd) (yF (zY 3 AK.nd) jS))))
   (zC (yP 4 AK.nd (zH Cb7 hr rfl (zA (pv 0) (zA (zH Ce hr rfl (zA (pv 0) (zA (pv 2) zB)) zV) zB)) zV))
   (zL (zT (An (zH Ck hr rfl (zA (pv 0) (zA (zH Cn hr rfl (zA (pv 0) (zA (zH Cc hr rfl (zA (pv 0) (zA (pv 1) zB)) zV) (zA (xO (zA (yH rfl T.m_OP_BREATH) (zA zI zB))) zB))) zV) (zA (zH Cc hr rfl (zA (pv 0) (zA (pv 2) zB)) zV) zB))) zV) (An (zH Ck hr rfl (zA (pv 0) (zA (zH Cn hr rfl (zA (pv 0) (zA (zH Ce hr rfl (zA (pv 0) (zA (pv 2) zB)) zV) (zA (xO (zA (yH rfl T.m_OP_UNLESS) (zA (pv 4) zB))) zB))) zV) (zA (zH Cc hr rfl (zA (pv 0) (zA (pv 3) zB)) zV) zB))) zV) (An (zH Ck hr rfl (zA (pv 0) (zA (zH Cn hr rfl (zA (pv 0) (zA (zH Ce hr rfl (zA (pv 0) (zA (pv 3) zB)) zV) (zA (xO (zA (yH rfl T.m_OP_DROP) (zA zI zB))) zB))) zV) (zA (zH Cc hr rfl (zA (pv 0) (zA (pv 1) zB)) zV) zB))) zV) (BE (zH Ck hr rfl (zA (pv 0) (zA (zH Cn hr rfl (zA (pv 0) (zA (pv 4) (zA (xO (zA (yH rfl T.m_OP_PUSH) (zA zI zB))) zB))) zV) (zA (zH Ce hr rfl (zA (pv 0) (zA (pv 1) zB)) zV) zB))) zV)))))))))
 refine#[-1,tn,_,_,-1,rfl,.of et,rfl,pt,-1,.of ept,rfl,_,-1,_,-1,rfl,?_];refine#[-3,c,dx,r,l,d,q0,rs,L,R,t1,k1,p1,x1,y1,b1,rfl,C,et1,hL1,?_];refine#[c,dx,r,l,d,q0,rs,L,R,some b1.2,rfl,C,uk,?_];have eq:UW rs be b1 b2=(xS rs (qP rs (some be.1) 9 0) (some b1.1)&&(xS rs (OB rs (some b1.2) 5 ((Bc rs (some b1.2)).map Int.ofNat)) (some b2.1)&&(xS rs (qP rs (some b2.2) 3 0) (some be.1)&&xS rs (qP rs (Bc rs (some b1.2)) 0 0) (some be.2)))):=rfl;rw[eq]at q;generalize Bc rs (some b1.2)=out at *
 refine#[-4,c,dx,r,l,d,q0,rs,L,R,tn,k,p,x,_,be,rfl,C,et,hp,?_];refine#[sm2,λa1 h1=>?_];have s1:=zM h1 (.tup [.int 9,.int 0]);refine#[c,dx,r,l,d,q0,rs,L,R,some be.1,a1,9,some 0,rfl,C.same s1,upd_same,?_];refine#[-2,c,dx,r,l,d,q0,rs,L,R,t1,k1,p1,x1,y1,b1,rfl,C.same s1,s1 _ _ et1,hL1,?_];refine#[c,dx,r,l,d,q0,rs,L,R,qP rs (some be.1) 9 0,some b1.1,rfl,C.same s1,-1,?_];cases m1:xS rs (qP rs (some be.1) 9 0) (some b1.1)with
 |false=>
  rw[m1]at q;exact jE (q _ s1)
 |true=>
 rw[m1,xC]at q;refine jI ?_;refine#[-4,c,dx,r,l,d,q0,rs,L,R,t1,k1,p1,x1,y1,b1,rfl,C.same s1,s1 _ _ et1,hL1,?_];refine#[-1,sm2,λa2 h2=>?_];have s2:=s1.trans (zM h2 (.tup [.int 5,oI out]));refine#[c,dx,r,l,d,q0,rs,L,R,some b1.2,a2,5,out.map Int.ofNat,rfl,C.same s2,by rw[upd_same,<-zDb],?_];refine#[-2,c,dx,r,l,d,q0,rs,L,R,t2,k2,p2,x2,y2,b2,rfl,C.same s2,s2 _ _ et2,hL2,?_];refine#[c,dx,r,l,d,q0,rs,L,R,_,some b2.1,rfl,C.same s2,-1,?_];cases m2:xS rs (OB rs (some b1.2) 5 (out.map Int.ofNat)) (some b2.1)with
 |false=>
  rw[m2]at q;exact jE (q _ s2)
 |true=>
 rw[m2,xC]at q;refine jI ?_;refine#[-4,c,dx,r,l,d,q0,rs,L,R,t2,k2,p2,x2,y2,b2,rfl,C.same s2,s2 _ _ et2,hL2,?_];refine#[sm2,λa3 h3=>?_];have s3:=s2.trans (zM h3 (.tup [.int 3,.int 0]));refine#[c,dx,r,l,d,q0,rs,L,R,some b2.2,a3,3,some 0,rfl,C.same s3,upd_same,?_];refine#[-2,c,dx,r,l,d,q0,rs,L,R,tn,k,p,x,_,be,rfl,C.same s3,s3 _ _ et,hp,?_];refine#[c,dx,r,l,d,q0,rs,L,R,qP rs (some b2.2) 3 0,some be.1,rfl,C.same s3,-1,?_];cases m3:xS rs (qP rs (some b2.2) 3 0) (some be.1)with
 |false=>
  rw[m3]at q;exact jE (q _ s3)
 |true=>
 rw[m3,xC]at q;refine jI ?_;refine#[-3,sm2,λa4 h4=>?_];have s4:=s3.trans (zM h4 (.tup [.int 0,.int 0]));refine#[c,dx,r,l,d,q0,rs,L,R,out,a4,0,some 0,rfl,C.same s4,upd_same,?_];refine#[-2,c,dx,r,l,d,q0,rs,L,R,tn,k,p,x,_,be,rfl,C.same s4,s4 _ _ et,hp,?_];exact#[c,dx,r,l,d,q0,rs,L,R,qP rs out 0 0,some be.2,rfl,C.same s4,q _ s4]
theorem PQ (ih: ∀{v:V} {nd:Nd},jW H d v nd->Kg H d v (bare nd)){vs:a6 V}{ps:a6 Nd}(h:Paired (jW H d) vs ps):Paired (Kg H d) vs (zU ps):=by
 induction h with
 |nil=>exact .nil
 |cons a r i=>exact .cons (ih a) i
theorem Jg: ∀{d:Nat} {v:V} {nd:Nd},jW H d v nd->Kg H d v (bare nd)
 |0,_,_,h=>h.elim
 |d+1,v,.mk k p own ps,⟨t,o,q,vs,e,h1,h2,h3,r⟩=>#[t,p,o,q,vs,e,h1,h2,h3,PQ (λh=>Jg h) r]
noncomputable def Av:Nd->Int
 | .mk _ p _ _=>(p:Int)
noncomputable def xT (L:Int->i5 (Nat×Nat))(x:Nd):Nat×Nat:=(L (Av x)).getD (0,0)
noncomputable def QE (rs:vX)(be:Nat×Nat)(k:Int)(own:a6 Int)(o6:a6 (Nat×Nat)):i8:=
 if k=3 then Xt rs be o6 else if k=4 then(match o6 with
  |b0::bs=>UV rs be b0 bs
  |[]=>false)else if k=5 then(match o6 with
  |[b1,b2]=>UW rs be b1 b2
  |_=>false)else Je rs be o6 k (Ek k own)
noncomputable def XI:a6 Nd->i5 Int
 |a::_=>kM (bare a)
 |[]=>none
noncomputable def XF (rs:vX)(L:Int->i5 (Nat×Nat))(R:Int->i5 i8):Nd->i8
 | .mk k p own ps=>match L p with
  |none=>false
  |some be=>if SL rs be (kM (.mk k own (zU ps)))=true then true
   else if k=4/\Sc rs be (ps.map λx=>((R (Av x)).getD false,xT L x)) (XI ps)=true then true
   else if(ps.map λx=>(R (Av x)).getD false).all id=true then QE rs be k own (ps.map (xT L))else false
inductive JG (C:i4) (e:Nat) (vs:List V) (H:Hp) (Q:VK) (E:XK):Prop
 |mk (c dx r l d q:i4) (rs:vX) (L:Int->Option (Nat×Nat)) (R:Int->Option i8) (v:V) (k:Int) (p:Nat) (own:List Int) (ps:List Nd) (hs:Ev) (bx:Int) (h0:vs=[.ref c,v]) (h1:ID C H c dx r l d q rs L R) (h2:UOk rs) (h3:jW H (e+1) v (.mk k p own ps)) (h4:wW hs bx (e+1) (bare (.mk k p own ps))) (h5:OK (e+1) (bare (.mk k p own ps))) (h6:(∀x∈ps,∃b,R (Av x)=some b/\(b=true->(L (Av x)).isSome =true))) (h7:ps.length<=1000) (h8: ∀H',xJ H H'->Q (.bl (XF rs L R (.mk k p own ps))) H'):JG C e vs H Q E
theorem Oo: ∀{us:a6 V} {ps:a6 Nd},Paired (jW H e) us ps->(∀x∈ps,∃b,R (Av x)=some b/\(b=true->(L (Av x)).isSome =true))->Paired (PtV H L R) us (ps.map λx=>((R (Av x)).getD false,xT L x))/\Paired (RtV H R) us (ps.map λx=>(R (Av x)).getD false)
 |_,_,.nil,_=>#[.nil,.nil]
 |u::us,x::ps,.cons a r,h=>by
  obtain⟨b,hb,hl⟩:=h x (yA ..);obtain⟨i1,i2⟩:=Oo r λy hy=>h y (yC _ hy);obtain _|e:=e
  ·exact a.elim
  obtain⟨k,p,own,qs⟩:=x;obtain⟨t,o,q,vs,rfl,h1,_⟩:=a;have hb':R (p:Int)=some b:=hb;refine#[.cons #[t,k,p,_,-1,h1,?_,λz=>?_] i1,.cons #[t,k,p,_,-1,h1,?_] i2]
  ·show R (p:Int)=some ((R (p:Int)).getD false);rw[hb'];rfl
  ·have z:(R (p:Int)).getD false=true:=z;rw[hb']at z;have hs:=hl z;show L (p:Int)=some ((L (p:Int)).getD (0,0));have hs:(L (p:Int)).isSome =true:=hs;cases y:L (p:Int)with
   |none=>rw[y]at hs;cases hs
   |some be=>rfl
  ·show R (p:Int)=some ((R (p:Int)).getD false);rw[hb'];rfl
theorem ST: ∀{us:a6 V} {ps:a6 Nd},Paired (PtV H L R) us (ps.map λx=>((R (Av x)).getD false,xT L x))->(ps.map λx=>(R (Av x)).getD false).all id=true->Paired (LnP H L) us (ps.map (xT L))
 |_,[],.nil,_=>.nil
 |_,x::ps,.cons h0 r,a=>by
  obtain⟨t,k,p,y,z,e,h,hR,hL⟩:=h0;have a:((R (Av x)).getD false&&(ps.map λx=>(R (Av x)).getD false).all id)=true:=a;obtain⟨a1,a2⟩:=Bool.and_eq_true_iff.mp a;exact .cons #[t,k,p,y,z,e,h,hL a1] (ST r a2)
theorem Pz (e:Nat)(T:BJ K mg CK)(F:qT K "is_right" "is_right" Ig f fd)(Cd5:jY P w K mg base (3+(e+1)+1) "is_pushed" ["check","node"] (Ld CK (e+1)))(Cb3:jY P w K mg base (3+e+1) "is_picked_ahead" ["check","node"] (Ll CK e))(Cd7:jY P w K mg base 1 "are_right" ["check","parts"] (HX CK))(Cc1:jY P w K mg base 4 "is_right_all" ["check","node"] (HU CK))(Cb8:jY P w K mg base 4 "is_right_pick" ["check","node"] (Gp CK))(Cc0:jY P w K mg base 3 "is_right_loop" ["check","node"] (Gq CK))(Ca4:jY P w K mg base 4 "is_right_by_own_row" ["check","node"] (NM CK)):vO P w K mg base (3+(e+1)+2) f fd ["check","node"] (JG CK e):=by
 exists CT;obtain⟨c,dx,r,l,d,q0,rs,L,R,v,k,p,own,ps,hs,bx,rfl,C,uk,na,ft,fx,hR,ln,q⟩:=h;exists _,(zC (wS (pv 1) (qO rfl (yF (zY 2 CT.nd) (yF (zY 3 CT.nd) (yF (zY 4 CT.nd) (yF (zY 5 CT.nd) jS))))))
   (zC (xD (Rg (MX (AS hr) (pv 3) (jJ (pv 0) rfl))) (zL (zT qI)) yD)
   (zC (DB (xD (PW.pt (qY (kR (zH Cd5 hr rfl (zA (pv 0) (zA (pv 1) zB)) zV)) (kW (PW.pt (JY (zX jM (pv 2) (yH rfl T.m_PICK) (yG _)) (Hs (kR (zH Cb3 hr rfl (zA (pv 0) (zA (pv 1) zB)) zV)))))))) (zL (zT qI)) yD))
   (zC (xD (qN (kR (zH Cd7 hr rfl (zA (pv 0) (zA (pv 5) zB)) zV))) (zL (zT qI)) yD)
   (zC (xD (zX jM (pv 2) (yH rfl T.m_ALL) (yG _)) (zL (zT (zH Cc1 hr rfl (zA (pv 0) (zA (pv 1) zB)) zV))) yD)
   (zC (xD (zX jM (pv 2) (yH rfl T.m_PICK) (yG _)) (zL (zT (zH Cb8 hr rfl (zA (pv 0) (zA (pv 1) zB)) zV))) yD)
   (zC (xD (zX jM (pv 2) (yH rfl T.m_LOOP) (yG _)) (zL (zT (zH Cc0 hr rfl (zA (pv 0) (zA (pv 1) zB)) zV))) yD)
   (zL (zT (zH Ca4 hr rfl (zA (pv 0) (zA (pv 1) zB)) zV))))))))))
 have tr:=Jg na;obtain⟨tn,o,pt,us,rfl,et,eo,ept,pp⟩:=na;have lp:=Paired.len pp;refine#[-1,tn,-1,.of et,rfl,_,-1,_,-1,_,-1,_,-1,rfl,?_];obtain⟨oo,hg,ho⟩:=C.has (p:Int);refine#[-2,c,CK,dx,_,-1,C.ob,T.ck,T.clines,rfl,d,oo,rfl,hg,-1,?_];have eR:XF rs L R (.mk k p own ps)=match L p with
  |none=>false
  |some be=>if SL rs be (kM (.mk k own (zU ps)))=true then true
   else if k=4/\Sc rs be (ps.map λx=>((R (Av x)).getD false,xT L x)) (XI ps)=true then true
   else if(ps.map λx=>(R (Av x)).getD false).all id=true then QE rs be k own (ps.map (xT L))else false:=rfl
 rw[eR]at q;cases hL:L (p:Int)with
 |none=>
  rw[hL]at ho q;rw[ho];exact jI (q H (xJ.refl H))
 |some be=>
 rw[hL]at ho q;dsimp only at q;rw[ho];refine jE ?_;obtain⟨p1,p2⟩:=Oo pp hR;have ft0:=ft;rw[show bare (.mk k p own ps)=.mk k own (zU ps)from rfl]at ft ft0 fx tr;unfold wW at ft;obtain⟨k0,k19,of,lq,_,fp⟩:=ft;rw[qB]at lq;refine#[λU' H'=>U'=[some (.ref c),some (.ref tn),some (.int k),some (.int (p:Nat)),some (.ref o),some (.ref pt)]/\xJ H H'/\ ¬SL rs be (kM (.mk k own (zU ps)))=true/\ ¬(k=4/\Sc rs be (ps.map λx=>((R (Av x)).getD false,xT L x)) (XI ps)=true),?_,?_]
 ·refine#[-2,c,dx,r,l,d,q0,rs,L,R,tn,k,p,_,_,_,be,rfl,C,et,tr,fx,hL,λH1 s1=>#[-1,?_]]
  by_cases m:SL rs be (kM (.mk k own (zU ps)))=true
  ·rw[zQ m]at q;rw[m];exact jI (jI (q H1 s1))
  ·rw[zN m]at q;have m':SL rs be (kM (.mk k own (zU ps)))=false:=by cases y:SL rs be (kM (.mk k own (zU ps)))with|true=>exact absurd y m|false=>rfl
   rw[m'];refine jE ?_;refine#[-1,rfl,-1,jK (λc4=>?_) (λc4=>jE #[rfl,s1,by decide,λz=>vf c4 z.1])];have k4:=vt c4;subst k4
   rcases of with⟨z,_⟩|⟨z,_⟩|⟨z,_⟩|⟨_,n,rfl,na,nb⟩|⟨z,_⟩|⟨z,_⟩<;>try lia
   rw[show(Fk hs 4 [n]).toNat =(1+n).toNat from rfl]at lq;obtain⟨a,ps,rfl⟩: ∃a r,ps=a::r:=by
    cases ps with
    |nil=>exact absurd lq (by show ¬(0:Nat)=_;lia)
    |cons a r=>exact#[a,r,rfl]
   obtain⟨u,us,rfl⟩: ∃u r,us=u::r:=by
    cases us with
    |nil=>cases lp
    |cons u r=>exact#[u,r,rfl]
   obtain⟨_,_⟩:=id pp;rename_i a1 a2;have C1:=C.same s1;obtain⟨_,_,fxp⟩:=fx;refine#[-2,c,dx,r,l,d,q0,rs,L,R,tn,4,p,_,pt,_,_,u,bare a,be,rfl,C1,s1 _ _ et,s1 _ _ ept,hL,Paired.imp (λ_ _ ⟨t,k,p,x,y,e1,e2,e3⟩=>#[t,k,p,x,y,e1,s1 _ _ e2,e3]) p1,rfl,(Jg a1).tups (λb xs z=>s1 _ _ z),fxp _ (yA ..),λH2 s2=>#[-1,?_]]
   by_cases m2:Sc rs be ((a::ps).map λx=>((R (Av x)).getD false,xT L x)) (XI (a::ps))=true
   ·rw[zQ #[rfl,m2]]at q;have m3:Sc rs be ((a::ps).map λx=>((R (Av x)).getD false,xT L x)) (kM (bare a))=true:=m2;rw[m3];exact jI (q H2 (s1.trans s2))
   ·have m3:Sc rs be ((a::ps).map λx=>((R (Av x)).getD false,xT L x)) (kM (bare a))=false:=by
     cases y:Sc rs be ((a::ps).map λx=>((R (Av x)).getD false,xT L x)) (kM (bare a))with
     |true=>exact absurd y m2
     |false=>rfl
    rw[m3];exact jE #[rfl,s1.trans s2,by decide,λz=>m2 z.2]
 ·rintro _ H1 ⟨rfl,s1,m1,m2⟩;rw[zN m1,zN m2]at q;have C1:=C.same s1;have p1':Paired (PtV H1 L R) us (ps.map λx=>((R (Av x)).getD false,xT L x)):=Paired.imp (λ_ _ ⟨t,k,p,x,y,e1,e2,e3⟩=>#[t,k,p,x,y,e1,s1 _ _ e2,e3]) p1;refine#[-2,c,dx,r,l,d,q0,rs,L,R,pt,us,-1,C1,s1 _ _ ept,Paired.imp (λ_ _ ⟨t,k,p,x,y,e1,e2,e3⟩=>#[t,k,p,x,y,e1,s1 _ _ e2,e3]) p2,(),λH2 s2=>#[-1,?_]];have s12:=s1.trans s2;have C2:=C.same s12
  by_cases m:(ps.map λx=>(R (Av x)).getD false).all id=true
  ·rw[zQ m]at q;rw[m];refine jE ?_;have pl:Paired (LnP H2 L) us (ps.map (xT L)):=Paired.imp (λ_ _ z=>OcL.LnP.same s2 z) (ST p1' m);have et2:=s12 _ _ et;have ept2:=s12 _ _ ept;have eo2:=s12 _ _ eo;have eP:QE rs be k own (ps.map (xT L))=if k=3 then Xt rs be (ps.map (xT L))else if k=4 then(match ps.map (xT L)with
    |b0::bs=>UV rs be b0 bs
    |[]=>false)else if k=5 then(match ps.map (xT L)with
    |[b1,b2]=>UW rs be b1 b2
    |_=>false)else Je rs be (ps.map (xT L)) k (Ek k own):=rfl
   rw[eP]at q;have lb:us.length=(ps.map (xT L)).length:=Paired.len pl;generalize ps.map (xT L)=o6 at *
   refine#[-1,rfl,-1,jK (λc3=>?_) (λc3=>?_)]
   ·have k3:=vt c3;subst k3;rw[zQ rfl]at q
    rcases of with⟨z,_⟩|⟨z,_⟩|⟨_,n,rfl,na,nb⟩|⟨z,_⟩|⟨z,_⟩|⟨z,_⟩<;>try lia
    rw[show(Fk hs 3 [n]).toNat =n.toNat from rfl]at lq;exact#[-2,c,dx,r,l,d,q0,rs,L,R,tn,3,p,_,pt,us,be,o6,rfl,C2,et2,ept2,(),hL,pl,λH3 s3=>q _ (s12.trans s3)]
   have n3:=vf c3;rw[zN n3]at q;refine#[-1,rfl,-1,jK (λc4=>?_) (λc4=>?_)]
   ·have k4:=vt c4;subst k4;rw[zQ rfl]at q
    rcases of with⟨z,_⟩|⟨z,_⟩|⟨z,_⟩|⟨_,n,rfl,na,nb⟩|⟨z,_⟩|⟨z,_⟩<;>try lia
    rw[show(Fk hs 4 [n]).toNat =(1+n).toNat from rfl]at lq;cases pl with
    |nil=>exact absurd lp (by show ¬(0:Nat)=_;lia)
    |cons a1 a2=>exact#[-2,c,dx,r,l,d,q0,rs,L,R,tn,4,p,_,pt,_,_,be,_,-1,C2,et2,ept2,hL,a1,a2,λH3 s3=>q _ (s12.trans s3)]
   have n4:=vf c4;rw[zN n4]at q;refine#[-1,rfl,-1,jK (λc5=>?_) (λc5=>?_)]
   ·have k5:=vt c5;subst k5;rw[zQ rfl]at q;rw[show(Fk hs 5 own).toNat =2 from rfl]at lq;cases pl with
    |nil=>exact absurd lp (by show ¬(0:Nat)=_;lia)
    |cons a1 a2=>
     cases a2 with
     |nil=>exact absurd lp (by show ¬(1:Nat)=_;lia)
     |cons a2 a3=>
      cases a3 with
      |nil=>exact#[-2,c,dx,r,l,d,q0,rs,L,R,tn,5,p,_,pt,_,_,be,_,-1,C2,uk,et2,ept2,hL,a1,a2,λH3 s3=>q _ (s12.trans s3)]
      |cons a3 a4=>
       rw[zK,zK,zK]at lp;lia
   have n5:=vf c5;rw[zN n5]at q;exact#[-2,c,dx,r,l,d,q0,rs,L,R,tn,k,p,o,pt,own,us,hs,bx,be,o6,rfl,C2,et2,eo2,ept2,of,n3,n4,n5,hL,pl,λH3 s3=>q _ (s12.trans s3)]
  ·rw[zN m]at q;have m':(ps.map λx=>(R (Av x)).getD false).all id=false:=by
    cases y:(ps.map λx=>(R (Av x)).getD false).all id with
    |true=>exact absurd y m
    |false=>rfl
   rw[m'];exact jI (q _ s12)
noncomputable def SJ (rs:vX)(st:Nat)(b:i8)(be:Nat×Nat):i8:=b&&(xS rs (some st) (some be.1)&&(qP rs (some be.2) 7 0).isSome)
inductive JB (C:i4) (vs:List V) (H:Hp) (Q:VK) (E:XK):Prop
 |mk (c dx r l d q:i4) (rs:vX) (L:Int->Option (Nat×Nat)) (R:Int->Option i8) (st:Nat) (v:V) (b:i8) (be:Nat×Nat) (h0:vs=[.ref c,.int (st:Nat),v]) (h1:ID C H c dx r l d q rs L R) (h2:PtV H L R v (b,be)) (h3: ∀H',xJ H H'->Q (.bl (SJ rs st b be)) H'):JB C vs H Q E
theorem Pq (T:BJ K mg CK)(F:qT K "is_right_function" "is_right_function" AV f fd)(Cc:jY P w K mg base 1 "begin_of" ["check","node"] (Al CK (·.1)))(Ce:jY P w K mg base 1 "end_of" ["check","node"] (Al CK (·.2)))(Cn:jY P w K mg base 2 "behind" ["check","at","row"] (CQ CK))(Ck:jY P w K mg base 2 "meet" ["check","first","second"] (DZ CK)):vO P w K mg base 3 f fd ["check","start","body"] (JB CK):=by
 exists Gy;obtain⟨c,dx,r,l,d,q0,rs,L,R,st,v,b,be,rfl,C,⟨t,k,p,x,y,rfl,et,hR,hL⟩,q⟩:=h;exists _,(zC (xD (PW.pt (qY (qN (Ph (uV (AS hr) (jJ (pv 0) rfl) (yZ xL (pv 2) zI (λ_ _=>rfl)) (λ_ _=>rfl)) (λ_=>rfl))) (kW (qN (kR (zH Ck hr rfl (zA (pv 0) (zA (pv 1) (zA (zH Cc hr rfl (zA (pv 0) (zA (pv 2) zB)) zV) zB))) zV)))))) (zL (zT qI)) yD)
   (zL (zT (uW Jf (zH Cn hr rfl (zA (pv 0) (zA (zH Ce hr rfl (zA (pv 0) (zA (pv 2) zB)) zV) (zA (xO (zA (yH rfl T.m_OP_BACK) (zA zI zB))) zB))) zV) qH (yG _)))))
 have hR:R p=some b:=hR;refine#[-1,c,CK,dx,_,-1,C.ob,T.ck,T.cright,rfl,-1,t,_,_,-1,rfl,.of et,rfl,q0,-1,C.rt hR,?_];refine#[b,rfl,?_];cases b with
 |false=>exact jI (q H (xJ.refl H))
 |true=>
 have hL:L p=some be:=hL rfl;have eq:SJ rs st true be=(xS rs (some st) (some be.1)&&(qP rs (some be.2) 7 0).isSome):=rfl;rw[eq]at q;refine jE ?_;refine#[-4,c,dx,r,l,d,q0,rs,L,R,t,k,p,x,y,be,rfl,C,et,hL,?_];refine#[c,dx,r,l,d,q0,rs,L,R,some st,some be.1,rfl,C,-1,?_];cases m:xS rs (some st) (some be.1)with
 |false=>
  rw[m]at q;exact jI (q H (xJ.refl H))
 |true=>
 rw[m,xC]at q;refine jE ?_;refine#[-3,c,dx,r,l,d,q0,rs,L,R,t,k,p,x,y,be,rfl,C,et,hL,?_];refine#[sm2,λa1 h1=>?_];have s1:=zM h1 (.tup [.int 7,.int 0]);refine#[c,dx,r,l,d,q0,rs,L,R,some be.2,a1,7,some 0,rfl,C.same s1,upd_same,?_];refine#[rfl,?_];show Q (.bl (!decide (oI (qP rs (some be.2) 7 0)=.non))) _;have e2:(!decide (oI (qP rs (some be.2) 7 0)=.non))=(qP rs (some be.2) 7 0).isSome:=by
  cases qP rs (some be.2) 7 0<;>rfl
 rw[e2];exact q _ s1
noncomputable def Zr (D:Int->i8)(m p b e:Int):i8:=D p&&(decide (0<=b/\b<m)&&decide (0<=e/\e<=m))
def KyA (H:Hp)(d:i4)(D:Int->i8):Prop:= ∃kvs:a6 (AQ×V),H d=some (.dK kvs)/\ ∀p:Int,(Ak kvs (.inl p)).isSome =D p
theorem KyA.same (s:xJ H H')(h:KyA H d D):KyA H' d D:=by
 obtain⟨kv,e,z⟩:=h;exact#[kv,s _ _ e,z]
theorem KyA.has (h:KyA H d D)(p:Int): ∃o,Ew H d (.int p) o/\o.isSome=D p:=by
 obtain⟨kv,e,z⟩:=h;exact#[_,Ew.k (k:=.inl p) e,z p]
inductive Lh (vs:List V) (H:Hp) (Q:VK) (E:XK):Prop
 |mk (t d:i4) (m p b e:Int) (D:Int->i8) (h0:vs=[.ref t,.ref d,.int m]) (h1:H t=some (.tup [.int p,.int b,.int e])) (h2:KyA H d D) (h3: ∀H',xJ H H'->Q (.bl (Zr D m p b e)) H'):Lh vs H Q E
theorem Rt (T:BJ K mg CK)(F:qT K "is_line" "is_line" Ho f fd)(Cy:jY P w K mg base 1 "is_whole" ["thing"] Hj):vO P w K mg base 2 f fd ["line","places","many_rows"] Lh:=by
 exists FE;obtain⟨t,d,m,p,b,e,D,rfl,ht,hd,q⟩:=h;exists _,(zC (xD (PW.pt (qY (qN (kR (xK En rfl T.n_isinstance wL (zA (pv 0) (zA (BH (v:=.ty "tuple") rfl T.n_tuple Hc rfl) zB))))) (qY (zX Gf (xK xA rfl T.n_len kO (zA (pv 0) zB)) (yH rfl T.m_LINE_SIZE) (yG _)) (kW (qN (kR (xK (Hb rfl) rfl T.n_all Mj (zA (vB (own:=["number"]) (ys:=[]) rfl (Ir (pv 0)) (kJ (sc:=zS Ho) rfl (by decide+kernel)) .nil (λ_ _ _ _ _=>(zY 0 (show List.Nodup [("number":Str)]from(by decide+kernel)))) (λ_ _ _ _ _=>wN) (λ_ _ _ _ _=>(zH Cy hr rfl (zA (pv 0) zB) zV))) zB)))))))) (zL (zT qI)) yD)
   (zC (wS (pv 0) (qO rfl (yF (zY 3 FE.nd) (yF (zY 4 FE.nd) (yF (zY 5 FE.nd) jS)))))
   (zL (zT (An (zAh (VT (AS hr) (pv 3) (pv 1))) (An (BF DN Aw zI (pv 4) (pv 2)) (BE (BF DN DN zI (pv 5) (pv 2)))))))))
 refine#[-1,.inl #[_,_,_,true,rfl,.tup ht,T.ktup,-1,jE ?_]];refine#[-1,t,-1,.inr (Ax.of ht),rfl,-1,jE ?_];refine#[-1,t,rfl,#[_,Ax.of ht],λu hu=>?_];refine Me (xs:=[V.int p,.int b,.int e]) (λi U' H'=>H'=upd H u (.lst ((List.replicate i true).map V.bl))/\ ∃x,U'=[x]) #[rfl,-1] ?_ ?_ ?_
 ·rintro i U' H' _ ⟨rfl,_⟩;exact Ax.of (zM hu _ _ _ ht)
 ·rintro i x U' H' hi hx ⟨rfl,y,rfl⟩;obtain⟨n,rfl⟩: ∃n,x=.int n:=by
   have hx:([p,b,e].map V.int)[i]? =some x:=hx;rw[zW]at hx;cases z:[p,b,e][i]? with
   |none=>rw[z]at hx;cases hx
   |some n=>rw[z]at hx;cases hx;exact#[n,rfl]
  dsimp only[wI];refine HS #[-1,n,rfl,_,upd_same,?_,CW.next hi #[?_,-1]]
  ·rw[zG,qG];exact xP hi (show 3<=sizeLine by decide)
  ·have z:(List.replicate i true).map V.bl++[V.bl true]=(List.replicate (i+1) true).map V.bl:=by
    rw[Dr,yV]<;>rfl
   rw[z,KG]
 ·rintro U' H' ⟨rfl,_⟩;refine#[u,-1,kN.of upd_same,?_];have s1:=zM hu (.lst ((List.replicate 3 true).map V.bl));refine#[true,rfl,jE ?_];refine#[-1,t,-1,Ax.of (s1 _ _ ht),rfl,_,-1,_,-1,_,-1,rfl,?_];obtain⟨o,ho,eo⟩:=(hd.same s1).has p;refine#[-2,d,o,rfl,ho,?_];have eq:Zr D m p b e=(D p&&(decide (0<=b/\b<m)&&decide (0<=e/\e<=m))):=rfl;rw[eq]at q;refine#[-1,?_];rw[eo];cases z:D p with
  |false=>
   rw[z]at q;exact jE (q _ s1)
  |true=>
  rw[z,xC]at q;refine jI ?_;refine Fo 0 b m (λR h=>h) (λR h=>#[-1,h]) (λR h=>#[-1,h]) λr z=>#[-1,jK (λc=>?_) (λc=>?_)]
  ·rw[zP (z.mp c),xC]at q;refine Em 0 e m (λR h=>h) (λR h=>#[-1,h]) (λR h=>#[-1,h]) λr z=>?_;have er:r=decide (0<=e/\e<=m):=by
    rw[jN,jD];exact z
   rw[er];exact q _ s1
  ·have c:r=false:=Bool.eq_false_iff.mpr c;rw[zR (λy=>by have:=z.mpr y;rw[c]at this;cases this),qM]at q;exact q _ s1
abbrev Gh:=a6 (Int×Int×Int)
def QC (H:Hp)(v:V)(l:Int×Int×Int):Prop:= ∃t,v=.ref t/\H t=some (.tup [.int l.1,.int l.2.1,.int l.2.2])
noncomputable def TY (D:Int->i8)(m:Int):(Int->i8)->Gh->i8
 |_,[]=>true
 |S,l::ls=>Zr D m l.1 l.2.1 l.2.2&&(!S l.1&&TY D m (λx=>decide (x=l.1) || S x) ls)
noncomputable def XH (kvs:a6 (AQ×V)):Int->i8:=λp=>(Ak kvs (.inl p)).isSome
theorem Ta (kvs:a6 (AQ×V))(p:Int)(v:V):XH (Dy kvs (.inl p) v)=λx=>decide (x=p) || XH kvs x:=by
 funext x;unfold XH;rw[IJ]
 by_cases h:x=p
 ·rw[zQ (by rw[h]),zP h]<;>rfl
 ·rw[zN (λz=>h (EK z)),zR h]<;>rfl
inductive JH (vs:List V) (H:Hp) (Q:VK) (E:XK):Prop
 |mk (pa d:i4) (m:Int) (rv:List V) (ls:Gh) (D:Int->i8) (h0:vs=[.ref pa,.ref d,.int m]) (h1:H pa=some (.lst rv)) (h2:Paired (QC H) rv ls) (h3:KyA H d D) (h4:ls.length<=1000) (h5: ∀H',xJ H H'->Q (.bl (TY D m (λ_=>false) ls)) H'):JH vs H Q E
theorem PB (T:BJ K mg CK)(F:qT K "is_paper" "is_paper" Ih f fd)(Cf2:jY P w K mg base 2 "is_line" ["line","places","many_rows"] Lh):vO P w K mg base 3 f fd ["paper","places","many_rows"] JH:=by
 exists Gz;obtain⟨pa,d,m,rv,ls,D,rfl,hp,pp,hd,hn,q⟩:=h;exists _,(zC (xD (qN (kR (xK En rfl T.n_isinstance wL (zA (pv 0) (zA (BH (v:=.ty "list") rfl T.n_list KU rfl) zB))))) (zL (zT qI)) yD)
   (zC (yP 3 Gz.nd LJ)
   (zC (qS yY rfl (vK (pv 0)) (zY 4 Gz.nd) (zC (xD (PW.pt (qY (qN (kR (zH Cf2 hr rfl (zA (pv 4) (zA (pv 1) (zA (pv 2) zB))) zV))) (kW (Rg (VT (AS hr) (yZ xL (pv 4) zI (λ_ _=>rfl)) (pv 3)))))) (zL (zT qI)) yD)
   (zL (Oc (AS hr) (pv 3) (yZ xL (pv 4) zI (λ_ _=>rfl)) qI rfl))))
   (zL (zT qI)))))
 have sl:sizeLine=16777216:=jX;have lp:=Paired.len pp;refine#[-1,.inl #[_,_,_,true,rfl,.lst hp,T.klist,-1,jE ?_]];refine λth hth=>?_;have s0:=zM hth (.dK []);refine#[-1,pa,rfl,#[_,kN.of (s0 _ _ hp)],Dh (xs:=rv) (λi U' H'=>xJ H H'/\ ∃(kvs:a6 (AQ×V)) (x:i5 V),U'=[some (.ref pa),some (.ref d),some (.int m),some (.ref th),x]/\H' th=some (.dK kvs)/\kvs.length<=i/\TY D m (λ_=>false) ls=TY D m (XH kvs) (ls.drop i)) #[s0,[],-1,upd_same,zO _,rfl] ?_ ?_ ?_]
 ·rintro i U' H' _ ⟨s1,_⟩;exact kN.of (s1 _ _ hp)
 ·rintro i x U' H' hx ⟨s1,kvs,x0,rfl,eth,hk,er⟩;obtain⟨l,hl,t,rfl,et⟩:=Paired.yonder pp hx;have hi:i<ls.length:=by
   rw[<-List.getElem?_eq_some_iff.mp hl |>.2]at *
   exact(List.getElem?_eq_some_iff.mp hl).1
  have ed:ls.drop i=l::ls.drop (i+1):=by
   rw[yS hi,(List.getElem?_eq_some_iff.mp hl).2]
  have er:TY D m (λ_=>false) ls=(Zr D m l.1 l.2.1 l.2.2&&(!XH kvs l.1&&TY D m (λx=>decide (x=l.1) || XH kvs x) (ls.drop (i+1)))):=by rw[er,ed]<;>rfl
  rw[er]at q;dsimp only[wI];refine#[-3,t,d,m,l.1,l.2.1,l.2.2,D,rfl,s1 _ _ et,hd.same s1,λH2 g2=>?_];have s2:=s1.trans g2;refine#[-1,?_];cases z:Zr D m l.1 l.2.1 l.2.2 with
  |false=>
   rw[z]at q;exact jI (q _ s2)
  |true=>
  rw[z,xC]at q er;refine jE ?_;have eth2:=g2 _ _ eth;refine#[-1,t,_,_,-1,rfl,.of (s2 _ _ et),rfl,-1,th,-1,Ew.k (k:=.inl l.1) eth2,?_];cases y:XH kvs l.1 with
  |true=>
   rw[y]at q;refine#[true,by rw[show(Ak kvs (.inl l.1)).isSome =true from y],jI (q _ s2)]
  |false=>
   rw[y]at er;refine#[false,by rw[show(Ak kvs (.inl l.1)).isSome =false from y],jE ?_];refine#[-2,t,_,_,-1,rfl,.of (s2 _ _ et),rfl,th,-1,Sm.k (k:=.inl l.1) eth2 (),?_];refine#[λb o e=>?_,_,-1,upd_same,xH (Bs ..) (CA hk),?_]
   ·rw[yJ (λz=>by rw[z,hth]at e;cases e)];exact s2 _ _ e
   ·rw[Ta,er];rfl
 ·rintro U' H' ⟨s1,kvs,x0,rfl,eth,hk,er⟩;rw[lp,uQ]at er;rw[er]at q;exact q _ s1
theorem We (T:Gk K mg)(F:qT K "meant" "meant" NX f fd):vO P w K mg base 1 f fd ["rows","at"] NF:=by
 exists Lr;obtain⟨l,rs,i0,rfl,⟨vs,el,pr⟩,ok,h0,h1,hi,q⟩:=h;have hl:vs.length=rs.length:=(Paired.len pr).trans (zG ..);exists _,(zC (qS yY rfl (Aj rfl T.n_range (zA (xK xA rfl T.n_len kO (zA (pv 0) zB)) zB)) (zY 2 Lr.nd) (zC (xD (PW.pt (qY (zX Aw (pv 1) zI (yG _)) (kW (zX HL (pv 1) (xK xA rfl T.n_len kO (zA (pv 0) zB)) (yG _))))) (zL (zT qH)) yD)
   (zC (xD (zX Gf (yZ xL (yZ jB (pv 0) (pv 1) (λ_ _=>rfl)) zI (λ_ _=>rfl)) (yH rfl T.m_OP_JUMP) (yG _)) (zL (zT (pv 1))) yD)
   (zL (yP 1 Lr.nd (yZ xL (yZ jB (pv 0) (pv 1) (λ_ _=>rfl)) zI (λ_ _=>rfl)))))))
   (zL (zT qH)))
 refine#[-1,l,-1,.inl (kN.of el),-1,(),(),AN (lo:=0) (n:=(vs.length:Int).toNat) (λi U' H'=>H'=H/\(∃v2,U'=[some (.ref l),some (.int (its rs i i0:Nat)),v2])/\ ∀j,j<i->OL rs (its rs j i0)) #[rfl,#[-1],λj hj=>absurd hj (Bj _)] ?_ ?_]
 ·rintro i U' H' hi' ⟨rfl,⟨v2,rfl⟩,hj⟩;have hle:=WL ok hi i;refine#[-1,_,-1,rfl,-1,jK (λc=>jI ?_) (λc=>?_)]
  ·have c':=yB c;lia
  refine#[-2,l,-1,.inl (kN.of el),_,-1,rfl,-1,jK (λc=>?_) (λc=>?_)]
  ·have c':=yB c;have ge: ¬its rs i i0<rs.length:=()
   rw[Ka () (λz=>ge z.lt),zN ge]at q;exact q
  have c':=df c;have lt:its rs i i0<rs.length:=()
  obtain⟨t,op,n,hv,hr',et⟩:=Oe pr lt;refine#[-2,l,_,_,-1,rfl,kN.of el,kK hv,t,_,_,-1,rfl,Ax.of et,rfl,rfl,-1,jK (λc=>?_) (λc=>?_)]
  ·have n4: ¬OL rs (its rs i i0):=fun⟨m,z⟩=>by
    rw[hr']at z;cases z;exact nomatch c
   rw[Ka () n4,zQ lt]at q;exact#[-1,q]
  ·have e4:op=4:=Ez λz=>c (by
    show(!decide (V.int op=V.int 4))=true;rw[zR (λy=>z (by injection y))]<;>rfl)
   subst e4;have e:=QM ok hr';refine#[-2,l,_,_,-1,rfl,kN.of el,kK hv,t,_,_,-1,rfl,Ax.of et,rfl,rfl,#[some (.int (0+(i:Int))),?_],λj hj'=>?_]
   ·show _=[some (V.ref l),some (V.int ((Sy rs (its rs i i0):Nat):Int)),some (V.int (0+(i:Int)))];rw[e]<;>rfl
   ·by_cases z:j<i
    ·exact hj j z
    ·have:j=i:=()
     subst this;exact#[n,hr']
 ·rintro U' H' ⟨rfl,⟨v2,rfl⟩,hj⟩;rw[Ji ok (λj z=>hj j ()) h0]at q;exact q
noncomputable def lkF (L:Int->i5 (Nat×Nat))(ls:Gh):Int->i5 (Nat×Nat):=ls.foldl (λL l p=>if p=l.1 then some (l.2.1.toNat,l.2.2.toNat)else L p) L
noncomputable def FX (ls:Gh):Int->i5 (Nat×Nat):=lkF (λ_=>none) ls
theorem LQ (s: ∀t xs,H t=some (.tup xs)->H' t=some (.tup xs)): ∀{o:i5 V} {b:i5 (Nat×Nat)},XM H o b->XM H' o b
 |none,none,_=>trivial
 |some _,some _,⟨t,e,h⟩=>#[t,e,s _ _ h]
 |none,some _,h=>h.elim
 |some _,none,h=>h.elim
noncomputable def YI (rs:vX)(n:Nat):a6 V:=(List.range n).map λi=>oI (ME rs i)
inductive NJ (C:i4) (vs:List V) (H:Hp) (Q:VK) (E:XK):Prop
 |mk (x dx r pa:i4) (rs:vX) (rv:List V) (ls:Gh) (h0:vs=[.ref x,.ref r,.ref pa]) (h1:H x=some (.ins C dx [])) (h2:qU H r (JZ rs)) (h3:ON rs) (h4:0<rs.length) (h5:rs.length<=1000) (h6:H pa=some (.lst rv)) (h7:Paired (QC H) rv ls) (h8:(∀l∈ls,0<=l.2.1/\0<=l.2.2)) (h9:ls.length<=1000) (h10: ∀(l d q:i4) (H':Hp),(∀b o,b≠x->H b=some o->H' b=some o)->ID C H' x dx r l d q rs (FX ls) (λ_=>none)->H' q=some (.dK [])->d≠q->H q=none->Q .non H'):NJ C vs H Q E
theorem Wi (T:BJ K mg CK)(F:qT K "__init__" "Check.__init__" AM f fd)(Cf8:jY P w K mg base 1 "meant" ["rows","at"] NF):vO P w K mg base 2 f fd ["self","rows","paper"] (NJ CK):=by
 exists At;obtain⟨x,dx,r,pa,rs,rv,ls,rfl,hx,hr0,jok,h0,h1,hp,pp,nn,hn,q⟩:=h;exists _,(zC (FT (pv 0) (pv 1) rfl)
   (zC (FT (pv 0) (vB (own:=["at"]) (ys:=["rows"]) rfl (Aj rfl T.n_range (zA (xK xA rfl T.n_len kO (zA (pv 1) zB)) zB)) (kJ (sc:=zS AM) rfl (by decide+kernel)) (.cons (j:=1) rfl .nil) (λ_ _ _ _ _=>(zY 0 (show List.Nodup [("at":Str),("rows":Str)]from(by decide+kernel)))) (λ_ _ _ _ _=>wN) (λ_ _ _ _ _=>(zH Cf8 hr rfl (zA (pv 1) (zA (pv 0) zB)) zV))) rfl)
   (zC (FT (pv 0) LJ rfl)
   (zC (qS yY rfl (vK (pv 2)) (qO rfl (yF (zY 3 At.nd) (yF (zY 4 At.nd) (yF (zY 5 At.nd) jS)))) (zL (Oc (AS hr) (jJ (pv 0) rfl) (pv 3) (xO (zA (pv 4) (zA (pv 5) zB))) rfl)))
   (zL (FT (pv 0) LJ rfl))))))
 have sl:sizeLine=16777216:=jX;have lp:=Paired.len pp;obtain⟨vr,er,pr⟩:=hr0;have lr:vr.length=rs.length:=(Paired.len pr).trans (zG ..);have k1: ∀b o,b≠x->H b=some o->upd H x (.ins CK dx [("rows",.ref r)]) b=some o:=λb o nb e=>by rw[yJ nb];exact e
 have er1:=k1 _ _ (λz=>by rw[z,hx]at er;cases er) er;have pr1:qU (upd H x (.ins CK dx [("rows",.ref r)])) r (JZ rs):=#[vr,er1,Paired.imp (λ_ _ ⟨t,a,b⟩=>#[t,a,k1 _ _ (λz=>by rw[z,hx]at b;cases b) b]) pr];refine#[-2,x,CK,dx,-1,hx,T.ck,T.crows,(show 0<1000 by decide),?_];refine#[-1,r,-1,.inl (kN.of er1),-1,(),(),λp hpn=>?_];refine Xo (lo:=0) (n:=(vr.length:Int).toNat) (λi _ H'=>H'=upd (upd H x (.ins CK dx [("rows",.ref r)])) p (.lst (YI rs i))) rfl ?_ ?_
 ·rintro i ys H' hi rfl;have s1:=zM hpn (.lst (YI rs i));refine HS #[-2,r,rs,i,by rw[Int.zero_add]<;>rfl,pr1.same s1,jok,h0,h1,(),?_];refine#[_,upd_same,by unfold YI;rw[zG,wQ];lia,?_];refine#[_,Nat.sub_lt_sub_left hi (AR i),hi,rfl,#[-1],[],?_];have e1:YI rs (i+1)=YI rs i++[oI (ME rs i)]:=by
   unfold YI;rw[List.range_succ,yV];rfl
  show _=upd _ p (.lst (YI rs (i+1)));rw[e1,KG]
 ·rintro ys H' rfl;have ev:(vr.length:Int).toNat =rs.length:=()
  rw[ev];have nxp:x≠p:=λz=>by rw[<-z,upd_same]at hpn;cases hpn
  rw[yJ (Ne.symm nxp)]at hpn;refine#[-1,x,CK,dx,-1,(yJ nxp).trans upd_same,T.ck,T.cleads,(show 1<1000 by decide),?_];refine λd hd=>?_;have nxd:x≠d:=λz=>by rw[<-z,upd_same]at hd;cases hd
  rw[yJ (Ne.symm nxd)]at hd;have npd:p≠d:=λz=>by rw[<-z,upd_same]at hd;cases hd
  rw[yJ (Ne.symm npd),yJ (Ne.symm nxd)]at hd;refine#[-1,x,CK,dx,-1,(yJ nxd).trans upd_same,T.ck,T.clines,(show 2<1000 by decide),?_];generalize hH:upd (upd _ d _) x _=H5;have ex:H5 x=some (.ins CK dx [("rows",.ref r),("leads",.ref p),("lines",.ref d)]):=by rw[<-hH];exact upd_same
  have epl:H5 p=some (.lst (YI rs rs.length)):=by rw[<-hH,yJ (Ne.symm nxp),yJ npd,yJ (Ne.symm nxp),upd_same]
  have edk:H5 d=some (.dK []):=by rw[<-hH,yJ (Ne.symm nxd),upd_same]
  have fr: ∀b o,b≠x->H b=some o->H5 b=some o:=λb o nb e=>by
   rw[<-hH,yJ nb,yJ (yQ e hd),yJ nb,yJ (yQ e hpn),yJ nb];exact e
  clear hH;have fl:H5 pa=some (.lst rv):=fr _ _ (λz=>by rw[z,hx]at hp;cases hp) hp;refine#[-1,pa,rfl,#[_,kN.of fl],Dh (xs:=rv) (λi U' H'=>(∀b o,b≠x->H b=some o->H' b=some o)/\H' x=some (.ins CK dx [("rows",.ref r),("leads",.ref p),("lines",.ref d)])/\H' p=some (.lst (YI rs rs.length))/\(∃(a b c:i5 V),U'=[some (.ref x),some (.ref r),some (.ref pa),a,b,c])/\ ∃(kvs:a6 (AQ×V)),H' d=some (.dK kvs)/\kvs.length<=i/\ ∀p:Int,XM H' (Ak kvs (.inl p)) (FX (ls.take i) p)) #[fr,ex,epl,#[_,_,-1],[],edk,zO _,λ_=>trivial] ?_ ?_ ?_]
  ·rintro i U' H' _ ⟨fr,_⟩;exact kN.of (fr _ _ (λz=>by rw[z,hx]at hp;cases hp) hp)
  ·rintro i v U' H' hv ⟨fr,ex,epl,⟨a,b,c,rfl⟩,kvs,edk,hk,hl⟩;obtain⟨l,hll,t,rfl,et⟩:=Paired.yonder pp hv;have et':=fr _ _ (λz=>by rw[z,hx]at et;cases et) et;obtain⟨hi,hle⟩:=List.getElem?_eq_some_iff.mp hll;have ml:l∈ls:=hle▸wH hi;obtain⟨n1,n2⟩:=nn l ml;refine#[t,-1,Ax.of et',rfl,_,-1,_,-1,_,-1,rfl,?_];refine#[-2,sm2,λu hu=>?_];have s1:=zM hu (.tup [.int l.2.1,.int l.2.2]);have edk1:=s1 _ _ edk;refine#[-1,x,CK,dx,_,-1,s1 _ _ ex,T.ck,T.clines,rfl,-1,d,-1,Sm.k (k:=.inl l.1) edk1 (),?_];have kp: ∀b o,b≠d->H' b=some o->upd (upd H' u (.tup [.int l.2.1,.int l.2.2])) d (.dK (Dy kvs (.inl l.1) (.ref u))) b=some o:=λb o nb e=>by
    rw[yJ nb];exact s1 _ _ e
   refine#[λb o nb e=>kp _ _ (yQ e hd) (fr _ _ nb e),kp _ _ nxd ex,kp _ _ npd epl,#[_,_,-1],_,upd_same,xH (Bs ..) (CA hk),λy=>?_];have ek:FX (ls.take (i+1)) y=if y=l.1 then some (l.2.1.toNat,l.2.2.toNat)else FX (ls.take i) y:=by
    rw[jU,hll];unfold FX lkF;rw[List.foldl_append];rfl
   rw[ek,IJ]
   by_cases z:y=l.1
   ·rw[zQ z,zQ (by rw[z])];refine#[u,rfl,?_];rw[yJ (λz=>by rw[z,edk]at hu;cases hu),upd_same];show some (HO.tup [.int l.2.1,.int l.2.2])=some (HO.tup [.int ((l.2.1.toNat:Nat):Int),.int ((l.2.2.toNat:Nat):Int)]);rw[jZ n1,jZ n2]
   ·rw[zN z,zN (λw=>z (EK w))];exact LQ (λb xs e=>kp _ _ (λw=>by rw[w,edk]at e;cases e) e) (hl y)
  ·rintro U' H' ⟨fr,ex,epl,⟨a,b,c,rfl⟩,kvs,edk,hk,hl⟩;rw[lp,jL]at hl;refine λqa hq=>?_;have nxq:x≠qa:=yQ ex hq;refine#[-1,x,CK,dx,-1,(yJ nxq).trans ex,T.ck,T.cright,(show 3<1000 by decide),?_];have kp: ∀b o,b≠x->H' b=some o->upd (upd H' qa (.dK [])) x (CkO CK dx r p d qa) b=some o:=λb o nb e=>by
    rw[yJ nb,yJ (yQ e hq)];exact e
   have eq:upd (upd H' qa (.dK [])) x (CkO CK dx r p d qa) qa=some (.dK []):=by rw[yJ (Ne.symm nxq),upd_same]
   have hqn:H qa=none:=by
    cases e:H qa with
    |none=>rfl
    |some o=>rw[fr _ _ (Ne.symm nxq) e]at hq;cases hq
   refine q p d qa _ (λb o nb e=>kp _ _ nb (fr _ _ nb e)) #[upd_same,#[vr,kp _ _ (λz=>by rw[z,hx]at er;cases er) (fr _ _ (λz=>by rw[z,hx]at er;cases er) er),Paired.imp (λ_ _ ⟨t,a,b⟩=>#[t,a,kp _ _ (λz=>by rw[z,hx]at b;cases b) (fr _ _ (λz=>by rw[z,hx]at b;cases b) b)]) pr],kp _ _ (Ne.symm nxp) epl,#[kvs,kp _ _ (Ne.symm nxd) edk,λy=>LQ (λb xs e=>kp _ _ (λw=>by rw[w,ex]at e;cases e) e) (hl y)],#[[],eq,λ_=>rfl]] eq (yQ edk hq) hqn
inductive Go (vs:List V) (H:Hp) (Q:VK) (E:XK):Prop
 |mk (pl hl:i4) (r:Ev×List Nd) (gs:List (List Int)) (hs:Gh) (h0:vs=[.ref pl,.ref hl]) (h1:Jx H pl r) (h2:qU H hl gs) (h3:gs=hs.map (λh=>[h.1,h.2.1,h.2.2])) (h4:r.1.length<=1000) (h5:hs.length<=1000) (h6: ∀H',xJ H H'->Q (.bl (decide (r.1=hs.map λh=>(h.2.1,h.2.2)))) H'):Go vs H Q E
theorem SR (eu:H u=some (.lst zs))(ha:H a=none)(pz:Paired (QB H) zs gs):Paired (QB (upd (upd H a (.tup [.int p.1,.int p.2])) u (.lst (zs++[.ref a])))) (zs++[.ref a]) (gs++[p]):=by
 have nu:a≠u:=λz=>by rw[z,eu]at ha;cases ha
 refine Paired.append (Paired.imp ?_ pz) (.cons #[a,rfl,by rw[yJ nu,upd_same]] .nil);rintro v p ⟨t,e1,e2⟩;refine#[t,e1,?_];rw[yJ (λz=>by rw[z,eu]at e2;cases e2)];exact zM ha _ _ _ e2
theorem Mw (T:BJ K mg CK)(F:qT K "have_same_boxes" "have_same_boxes" vU f fd):vO P w K mg base 1 f fd ["program","heads"] Go:=by
 exists Ee;obtain⟨pl,hl,r,gs,hs,rfl,⟨vp,ep,ln,pp⟩,⟨vh,eh,ph⟩,rfl,n1,n2,q⟩:=h;exists _,(zC (Ip (i:=2) Ee.nd rfl rfl (own:=["params","boxes","body"]) (ys:=[]) rfl (vK (pv 0)) (kJ (sc:=zS vU) rfl (by decide+kernel)) .nil (λ_ _ _ _ _=>(Jb (n:=3) K rfl rfl (yF (zY 0 (show List.Nodup [("params":Str),("boxes":Str),("body":Str)]from(by decide+kernel))) (yF (zY 1 (show List.Nodup [("params":Str),("boxes":Str),("body":Str)]from(by decide+kernel))) (yF (zY 2 (show List.Nodup [("params":Str),("boxes":Str),("body":Str)]from(by decide+kernel))) jS))))) (λ_ _ _ _ _=>wN) (λ_ _ _ _ _=>(xO (zA (pv 0) (zA (pv 1) zB)))))
   (zL (zT (uW (zAk hr) (pv 2) (vB (own:=["start","params","boxes"]) (ys:=[]) rfl (vK (pv 1)) (kJ (sc:=zS vU) rfl (by decide+kernel)) .nil (λ_ _ _ _ _=>(Jb (n:=3) K rfl rfl (yF (zY 0 (show List.Nodup [("start":Str),("params":Str),("boxes":Str)]from(by decide+kernel))) (yF (zY 1 (show List.Nodup [("start":Str),("params":Str),("boxes":Str)]from(by decide+kernel))) (yF (zY 2 (show List.Nodup [("start":Str),("params":Str),("boxes":Str)]from(by decide+kernel))) jS))))) (λ_ _ _ _ _=>wN) (λ_ _ _ _ _=>(xO (zA (pv 1) (zA (pv 2) zB))))) (yG _)))))
 have sl:sizeLine=16777216:=jX;have lp:=Paired.len pp;have lh:=Paired.len ph;rw[kD,<-ln,Nat.min_self]at lp;rw[zG]at lh;refine#[-1,pl,rfl,#[_,kN.of ep],λu hu=>?_];refine AD (xs:=vp) (λi U' H'=>xJ H H'/\(∃a b c,U'=[a,b,c])/\ ∃zs,H' u=some (.lst zs)/\Paired (QB H') zs (r.1.take i)) #[zM hu _,#[_,_,-1],[],upd_same,.nil] ?_ ?_ ?_
 ·rintro i U' H' _ ⟨s1,_⟩;exact kN.of (s1 _ _ ep)
 ·rintro i x U' H' hi hx ⟨s1,⟨a,b,c,rfl⟩,zs,eu,pz⟩;obtain⟨g,hg,t,bd,rfl,et,_⟩:=Paired.yonder pp hx;have hg1:=(List.getElem?_zip_eq_some.mp hg).1;have tk:r.1.take (i+1)=r.1.take i++[g.1]:=by rw[jU,hg1]<;>rfl
  have lz:=Paired.len pz;rw[xM]at lz;refine#[t,-1,Ax.of (s1 _ _ et),rfl,_,-1,_,-1,_,-1,rfl,?_];refine HS #[-2,sm2,λa1 h1=>#[_,zM h1 _ _ _ eu,(),CW.next hi #[λb o e=>?_,#[_,_,-1],_,upd_same,?_]]]
  ·rw[yJ (yQ e hu)];exact zM h1 _ _ _ (s1 _ _ e)
  ·rw[tk];exact SR eu h1 pz
 ·rintro U' H1 ⟨s1,_,zs,eu,pz⟩;rw[lp,jL]at pz;refine#[-1,?_];refine#[-1,hl,rfl,#[_,kN.of (s1 _ _ eh)],λv hv=>?_];refine AD (xs:=vh) (λi U' H'=>xJ H1 H'/\(∃a b c,U'=[a,b,c])/\ ∃zs,H' v=some (.lst zs)/\Paired (QB H') zs ((hs.map λh=>(h.2.1,h.2.2)).take i)) #[zM hv _,#[_,_,-1],[],upd_same,.nil] ?_ ?_ ?_
  ·rintro i U' H' _ ⟨s2,_⟩;exact kN.of (s2 _ _ (s1 _ _ eh))
  ·rintro i x U' H' hi hx ⟨s2,⟨a,b,c,rfl⟩,zs,eu,pz⟩;obtain⟨g,hg,t,rfl,et⟩:=Paired.yonder ph hx;rw[zW]at hg;obtain⟨h,hh,rfl⟩:=Option.map_eq_some_iff.mp hg;have tk:(hs.map λh=>(h.2.1,h.2.2)).take (i+1)=(hs.map λh=>(h.2.1,h.2.2)).take i++[(h.2.1,h.2.2)]:=by rw[jU,zW,hh]<;>rfl
   have lz:=Paired.len pz;rw[xM,zG]at lz;refine#[t,-1,Ax.of (s2 _ _ (s1 _ _ et)),rfl,_,-1,_,-1,_,-1,rfl,?_];refine HS #[-2,sm2,λa1 h1=>#[_,zM h1 _ _ _ eu,(),CW.next hi #[λb o e=>?_,#[_,_,-1],_,upd_same,?_]]]
   ·rw[yJ (yQ e hv)];exact zM h1 _ _ _ (s2 _ _ e)
   ·rw[tk];exact SR (p:=(h.2.1,h.2.2)) eu h1 pz
  ·rintro U' H2 ⟨s2,_,ys,ev,py⟩;rw[lh,xW (by rw[zG];exact zO _)]at py;exact#[u,v,zs,ys,r.1,-1,rfl,kN.of (s2 _ _ eu),kN.of ev,Paired.imp (λ_ _ ⟨t,e1,e2⟩=>#[t,e1,s2 _ _ e2]) pz,py,q _ (s1.trans s2)]
def Sk (v:V)(tl wl:i4)(H:Hp)(nd:Nd)(m:Nat)(U':St)(H':Hp):Prop:= ∃(done st:a6 Nd) (us ws:a6 V) (v3 v4:i5 V),U'=[some v,some (.ref tl),some (.ref wl),v3,v4]/\m=(jO st).length/\xJ H H'/\H' tl=some (.lst us)/\H' wl=some (.lst ws)/\Paired (jW H' 10) us done/\Paired (jW H' 10) ws st/\done++jO st.reverse=pre nd
theorem Pu (T:Jw K mg aP CL)(n_reversed:mg "reversed"=none)(F:qT K "nodes_in" "nodes_in" Ie f fd):vO P w K mg base 1 f fd ["body"] JD:=by
 exists CS;obtain⟨v,nd,rfl,hv,hc,q⟩:=h;exists _,(zC (yP 1 CS.nd (xF zB))
   (zC (yP 2 CS.nd (xF (zA (pv 0) zB)))
   (zC (VF yY (Ph (pv 2) (λ_=>rfl)) (zC (yP 3 CS.nd (zAi yR PySem.F.slot_list_pop PySem.F.type_list_pop zAq (pv 2)))
   (zC (kG (Bb yR yX yW kT (pv 1) (zA (pv 3) zB)))
   (zL (qS yY rfl (zAd rfl n_reversed (zA (yZ xL (pv 3) zI (λ_ _=>rfl)) zB)) (zY 4 CS.nd) (zL (kG (Bb yR yX yW kT (pv 2) (zA (pv 4) zB)))))))))
   (zL (zT (pv 1))))))
 refine#[zz0,λtl htl=>?_];have s1:=zM htl (.lst []);refine#[-1,sm1,λwl hwl=>?_];have s2:=zM hwl (.lst [v]);have hwl0:H wl=none:=s1.free hwl;have ntw:tl≠wl:=yQ upd_same hwl;have sl:sizeLine=16777216:=jX;refine#[Sk v tl wl H nd,
  #[_,[],[nd],[],[v],_,-1,rfl,s1.trans s2,s2 _ _ upd_same,upd_same,.nil,.cons (hv.tups (.same (s1.trans s2))) .nil,by simp[jO]],?_]
 rintro m U' H' ⟨done,st,us,ws,v3,v4,rfl,rfl,g,et,ew,pu,pw,eq⟩;refine#[-1,!ws.isEmpty,.inl #[ws,.of ew,rfl],?_]
 rcases List.eq_nil_or_concat ws with rfl|⟨ws',x,rfl⟩
 ·cases pw;refine jE #[-1,q tl us H' g htl et ?_];have:done=pre nd:=by simpa[jO]using eq
  rw[<-this];exact pu
 rw[List.concat_eq_append]at *
 obtain⟨st',n,rfl,pw',nx⟩:=Paired.unsnoc pw;have ne:(!(ws'++[x]).isEmpty)=true:=by simp
 rw[ne];refine jI #[λU'' H''=> ∃m',m'<(jO (st'++[n])).length/\ ∃(done st:a6 Nd) (us ws:a6 V) (v3 v4:i5 V),U''=[some v,some (.ref tl),some (.ref wl),v3,v4]/\m'=(jO st).length/\xJ H H''/\H'' tl=some (.lst us)/\H'' wl=some (.lst ws)/\Paired (jW H'' 10) us done/\Paired (jW H'' 10) ws st/\done++jO st.reverse=pre nd,λ_ _ z=>z,?_];cases n with
 |mk k p own ps=>
 obtain⟨t,o,pq,vs,rfl,etn,eo,ep,pr⟩:=nx;have UX:done++(.mk k p own ps::(jO ps++jO st'.reverse))=pre nd:=by
  rw[<-eq];simp[jO,pre,uS]
 have tot:done.length+1+(jO ps).length +(jO st').length<=1000000:=by
  have:=qZ List.length UX;rw[<-FU st'];simp only[zE,zK]at this;lia
 have lu:us.length=done.length:=Paired.len pu;have lw:ws'.length<=(jO st').length:=by rw[Paired.len pw'];exact LG st'
 have lv:vs.length<=(jO ps).length:=by rw[Paired.len pr];exact LG ps
 refine#[-1,.inl #[rfl,_,.of ew],wl,_,.ref t,rfl,rfl,ew,by simp,?_];have dl:(ws'++[V.ref t]).dropLast =ws':=by simp
 have et1:upd H' wl (.lst (ws'++[V.ref t]).dropLast) tl=some (.lst us):=by rw[yJ ntw];exact et
 refine#[-1,.inl #[rfl,_,.of et1],-1,tl,us,-1,rfl,et1,(),?_];have tp2:vN H' (upd (upd H' wl (.lst (ws'++[V.ref t]).dropLast)) tl (.lst (us++[V.ref t]))):=.trans (.upd ew) (.upd et1);have g2:xJ H (upd (upd H' wl (.lst (ws'++[V.ref t]).dropLast)) tl (.lst (us++[V.ref t]))):=(g.fresh hwl0).fresh htl;refine#[-1,t,_,_,-1,rfl,.of (tp2 _ _ etn),rfl,pq,vs,rfl,.of (tp2 _ _ ep),YN (xs:=vs) (λi U'' H''=> ∃v4,U''=[some v,some (.ref tl),some (.ref wl),some (.ref t),v4]/\xJ H H''/\H'' tl=some (.lst (us++[.ref t]))/\H'' wl=some (.lst (ws'++vs.reverse.take i))/\vN H' H'')
  #[-1,g2,upd_same,by rw[yJ (Ne.symm ntw),upd_same,dl];simp,tp2] ?_ ?_ ?_]
 ·rintro i U'' H'' _ ⟨v4,rfl,_,_,_,tp⟩;exact .of (tp _ _ ep)
 ·rintro i x U'' H'' hx ⟨v4,rfl,g3,et3,ew3,tp⟩;have hi:i<vs.length:=by have:=(List.getElem?_eq_some_iff.mp hx).1;simpa using this
  refine#[-1,.inl #[rfl,_,.of ew3],-1,wl,_,-1,rfl,ew3,?_,?_]
  ·simp only[zE,xM,DP];lia
  ·refine#[-1,g3.fresh hwl0,by rw[yJ ntw];exact et3,?_,.trans tp (.upd ew3)];rw[upd_same,jU,hx,yN];rfl
 ·rintro U'' H'' ⟨v4,rfl,g3,et3,ew3,tp⟩;have tk:vs.reverse.take vs.length=vs.reverse:=by rw[<-DP (as:=vs),jL]
  rw[tk]at ew3;refine#[_,?_,done++[.mk k p own ps],st'++ps.reverse,_,_,_,-1,rfl,g3,et3,ew3,Do (Paired.imp (λ_ _ z=>z.tups tp) pu) (jW.tups (d:=10) (n:=.mk k p own ps) tp #[t,o,pq,vs,rfl,etn,eo,ep,pr]),Paired.append (Paired.imp (λ_ _ z=>z.tups tp) pw') (Paired.imp (λ_ _ z=>(jW.tups tp z).more) (Paired.rev pr)),?_]
  ·simp only[uS,FU,zE,jO,pre,zK,Af];lia
  ·rw[<-UX];simp[uS]
mutual
theorem zBf: ∀(t:Tr) (p:Nat),(pre (SN p t)).length<=(jR t).length
 | .mk k own ps,p=>by
  have:=Oy ps (p+1+own.length);rw[SN,pre,jR,zK,zK,zE];lia
theorem Oy: ∀(ts:a6 Tr) (p:Nat),(jO (Jz p ts)).length<=(xX ts).length
 |[],p=>by rw[Jz,jO];exact xE _
 |a::r,p=>by
  have:=zBf a p;have:=Oy r (p+(jR a).length);rw[Jz,jO,xX,zE,zE];lia
end
inductive QS (vs:List V) (H:Hp) (Q:VK) (E:XK):Prop
 |mk (a:i4) (ns:List Int) (r:Ev×List Nd) (h0:vs=[.ref a]) (h1:H a=some (.lst (ns.map V.int))) (h2:ns.length<=1000000) (h3:Shr ns r) (h4: ∀l us H',xJ H H'->H l=none->H' l=some (.lst us)->Paired (jW H' 10) us (jO r.2)->Q (.ref l) H'):QS vs H Q E
def UR (a tl l:i4)(rs:a6 V)(nds:a6 Nd)(H H1:Hp)(i:Nat)(U':St)(H':Hp):Prop:= ∃(us:a6 V) (v2 v3 v4:i5 V),U'=[some (.ref a),some (.ref tl),v2,v3,v4]/\i<=rs.length/\xJ H H'/\H' l=some (.lst rs)/\vN H1 H'/\H' tl=some (.lst us)/\Paired (jW H' 10) us (jO (nds.take i))
theorem Uk (T:Jw K mg aP CL)(F:qT K "nodes" "nodes" NW f fd)(Co:jY P w K mg base 17 "functions" ["sheet"] HW)(Ce5:jY P w K mg base 1 "nodes_in" ["body"] JD):
  vO P w K mg base 18 f fd ["sheet"] QS:=by
 exists Gw;obtain⟨a,ns,r,rfl,ha,hz,er,t1⟩:=h;exists _,(zC (yP 1 Gw.nd (xF zB))
   (zC (qS yY rfl (vK (zH Co hr rfl (zA (pv 0) zB) zV)) (qO rfl (yF (zY 2 Gw.nd) (yF (zY 3 Gw.nd) (yF (zY 4 Gw.nd) jS)))) (zL (kG (Bb yR EW EV Nb (pv 1) (zA (zH Ce5 hr rfl (zA (pv 4) zB) zV) zB)))))
   (zL (zT (pv 1)))))
 refine#[zz0,λtl htl=>?_];have s1:=zM htl (.lst []);have sl:sizeLine=16777216:=jX;refine#[-1,a,ns,r,rfl,s1 _ _ ha,er,λl H1 s2 fr fa=>?_];obtain⟨rs,el,ln,pr⟩:=fa;have cnt:(jO r.2).length<=ns.length:=by
  obtain⟨ts,S,e⟩:=er;have:=S.en;have:=Oy ts (1+2*r.1.length);rw[e];lia
 have ntl:l≠tl:=λz=>by rw[z]at fr;rw[upd_same]at fr;cases fr
 obtain⟨hs,nds⟩:=r;simp only at ln pr cnt;have lr:rs.length=nds.length:=by have:=Paired.len pr;rw[kD]at this;lia
 refine#[l,rfl,#[rs,.of el],Dh (xs:=rs) (UR a tl l rs nds H H1)
  #[[],_,_,-1,xE _,s1.trans s2,el,λ_ _ e=>e,s2 _ _ upd_same,.nil] ?_ ?_ ?_]
 ·rintro i U' H' _ ⟨us,v2,v3,v4,rfl,_,_,e,_⟩;exact .of e
 ·rintro i x U' H' hx ⟨us,v2,v3,v4,rfl,_,g,el',tp,et,pu⟩;have hi:i<rs.length:=(List.getElem?_eq_some_iff.mp hx).1;have e2:nds[i]? =some nds[i]:=zF ();have e1:hs[i]? =some (hs[i]'()):=zF ();generalize nds[i]=ni at *
  generalize hs[i]'()=hx1 at *
  obtain⟨t,b,rfl,ett,nb⟩:=Paired.get pr i _ _ hx ((Ex (z:=(hx1,ni))).mpr #[e1,e2]);have tk:nds.take (i+1)=nds.take i++[ni]:=by rw[jU,e2];rfl
  have c1:(jO (nds.take (i+1))).length<=(jO nds).length:=by
   conv=>rhs;rw[<-qF (i+1) nds]
   rw[uS,zE];lia
  rw[tk,uS,zE]at c1;simp only[jO,xI]at c1;refine#[t,-1,.of (tp _ _ ett),rfl,_,-1,_,-1,_,-1,rfl,?_];refine#[-1,.inl #[rfl,_,.of et],-1,b,ni,rfl,nb.tups tp,(),λl2 us2 H2 g2 fr2 el2 pu2=>?_];have lu:us.length=(jO (nds.take i)).length:=Paired.len pu;have lu2:us2.length=(pre ni).length:=Paired.len pu2;refine#[tl,l2,us,us2,rfl,rfl,g2 _ _ et,el2,(),?_];have et2:=g2 _ _ et;refine#[_,_,_,-1,hi,(g.trans g2).fresh htl,by rw[yJ ntl];exact g2 _ _ el',.trans tp (.trans (.same g2) (.upd et2)),upd_same,?_];rw[tk,uS];simp only[jO,xI];exact Paired.append (Paired.imp (λ_ _ z=>z.tups (.trans (.same g2) (.upd et2))) pu) (Paired.imp (λ_ _ z=>z.tups (.upd et2)) pu2)
 ·rintro U' H' ⟨us,v2,v3,v4,rfl,_,g,el',tp,et,pu⟩;rw[lr,jL]at pu;exact#[-1,t1 tl us H' g htl et pu]
theorem PD (T:Gk K mg)(F:qT K "heads_of" "heads_of" Ii f fd)(Cv:jY P w K mg base 3 "is_code" ["thing"] Fb)(Cb0:jY P w K mg base 2 "heads_in" ["numbers"] Hl):vO P w K mg base 4 f fd ["code"] JI:=by
 exists OW;obtain⟨a,ns,rfl,ha,hl,hk,q⟩:=h;exists _,(zC (xD (qN (kR (zH Cv hr rfl (zA (pv 0) zB) zV))) (zL Ba) yD)
   (zL (zT (zH Cb0 hr rfl (zA (pv 0) zB) zV))))
 refine#[-1,a,ns,rfl,ha,hl,λr H1 g1 z=>#[-1,?_]];rw[z.mpr hk];obtain⟨n,ms,e,h1,h2,_⟩:=hk.big;exact jE #[-1,a,ns,rfl,g1 _ _ ha,hl,#[n,ms,e,(),()],λl H2 g2 hl2 at2=>q l H2 (g1.trans g2) (g1.free hl2) at2]
theorem Rp (T:Gk K mg)(F:qT K "rows_of" "rows_of" JR f fd)(Cv:jY P w K mg base 3 "is_code" ["thing"] Fb)(Cb4:jY P w K mg base 2 "rows_in" ["numbers"] IP):vO P w K mg base 4 f fd ["code"] Lc:=by
 exists QY;obtain⟨a,ns,rfl,ha,hl,hk,q⟩:=h;exists _,(zC (xD (qN (kR (zH Cv hr rfl (zA (pv 0) zB) zV))) (zL Ba) yD)
   (zL (zT (zH Cb4 hr rfl (zA (pv 0) zB) zV))))
 refine#[-1,a,ns,rfl,ha,hl,λr H1 g1 z=>#[-1,?_]];rw[z.mpr hk];obtain⟨n,ms,e,h1,h2,_⟩:=hk.big;exact jE #[-1,a,ns,rfl,g1 _ _ ha,hl,#[n,ms,e,(),()],λl H2 g2 hl2 at2=>q l H2 (g1.trans g2) (g1.free hl2) at2]
noncomputable def Pe (rs:vX)(L:Int->i5 (Nat×Nat)):a6 Nd->Int->i5 i8
 |[]=>λ_=>none
 |nd::r=>λp=>if p=Av nd then some (XF rs L (Pe rs L r) nd)else Pe rs L r p
noncomputable def lbM (rs:vX)(L:Int->i5 (Nat×Nat))(hs:Gh)(nds:a6 Nd):i8:=(hs.zip nds).all λx=>SJ rs x.1.1.toNat ((Pe rs L (jO nds) (Av x.2)).getD false) (xT L x.2)
theorem Vz: ∀{nd:Nd},XF rs L R nd=true->(L (Av nd)).isSome =true
 | .mk k p own ps,h=>by
  unfold XF at h;dsimp only at h;show(L (p:Int)).isSome =true;cases z:L (p:Int)with
  |none=>rw[z]at h;cases h
  |some be=>rfl
theorem Oa: ∀{ns:a6 Nd} {x:Nd},x∈ns-> ∃b,Pe rs L ns (Av x)=some b/\(b=true->(L (Av x)).isSome =true)
 |nd::r,x,m=>by
  by_cases h:Av x=Av nd
  ·refine#[XF rs L (Pe rs L r) nd,by rw[h];exact zQ rfl,λz=>?_];rw[h];exact Vz z
  ·have m':x∈r:=by
    rcases List.mem_cons.mp m with rfl|m'
    ·exact absurd rfl h
    ·exact m'
   obtain⟨b,e,z⟩:=Oa (rs:=rs) (L:=L) m';exact#[b,(zN h).trans e,z]
noncomputable def RO:Nd->a6 Nd
 | .mk _ _ _ ps=>ps
def XN:a6 Nd->Prop
 |[]=>True
 |nd::r=>(∀x∈RO nd,x∈r)/\XN r
theorem YG: ∀x:Nd,x∈pre x
 | .mk k p own ps=>by
  unfold pre;exact yA ..
theorem GW: ∀{ps:a6 Nd} {x:Nd},x∈ps->x∈jO ps
 |a::r,x,m=>by
  unfold jO
  rcases List.mem_cons.mp m with rfl|m
  ·exact uC _ (YG x)
  ·exact jA _ (GW m)
mutual
theorem YJ: ∀(a:Nd) (r:a6 Nd),XN r->XN (pre a++r)
 | .mk k p own ps,r,h=>by
  unfold pre;exact#[λx m=>uC _ (GW m),Jm ps r h]
theorem Jm: ∀(l:a6 Nd) (r:a6 Nd),XN r->XN (jO l++r)
 |[],r,h=>by
  unfold jO;exact h
 |a::l,r,h=>by
  unfold jO;rw[yN];exact YJ a _ (Jm l r h)
end
theorem XN.drop: ∀{ns:a6 Nd} {i:Nat} {nd:Nd} {r:a6 Nd},XN ns->ns.drop i=nd::r-> ∀x∈RO nd,x∈r
 |[],i,nd,r,_,e=>by
  rw[List.drop_nil]at e;cases e
 |a::ns,0,nd,r,h,e=>by
  cases e;exact h.1
 |a::ns,i+1,nd,r,h,e=>XN.drop h.2 e
theorem VH: ∀{ls:Gh} {S:Int->i8},TY D m S ls=true-> ∀l∈ls,0<=l.2.1/\0<=l.2.2
 |a::ls,S,h,l,ml=>by
  have h:(Zr D m a.1 a.2.1 a.2.2&&(!S a.1&&TY D m (λx=>decide (x=a.1) || S x) ls))=true:=h;obtain⟨h1,h2⟩:=Bool.and_eq_true_iff.mp h;obtain⟨_,h2⟩:=Bool.and_eq_true_iff.mp h2
  rcases List.mem_cons.mp ml with rfl|ml
  ·obtain⟨_,h1⟩:=Bool.and_eq_true_iff.mp h1;obtain⟨e1,e2⟩:=Bool.and_eq_true_iff.mp h1;exact#[(yB e1).1,(yB e2).1]
  ·exact VH h2 l ml
theorem zBg (h:ID C H c dx r l d q rs L R)(e:H q=some (.dK kvs))(n:d≠q):ID C (upd H q (.dK (Dy kvs (.inl p) (.bl b)))) c dx r l d q rs L (λy=>if y=p then some b else R y):=by
 have kp: ∀a o,a≠q->H a=some o->upd H q (.dK (Dy kvs (.inl p) (.bl b))) a=some o:=λa o na z=>by rw[yJ na];exact z
 obtain⟨kv,e1,e2⟩:=h.lines;obtain⟨kr,e3,e4⟩:=h.right;obtain⟨vs,e5,e6⟩:=h.rows;have e7:=h.ob;have e8:=h.leads;rw[e]at e3;cases e3;refine#[kp _ _ (λz=>by rw[z,e]at e7;cases e7) e7,#[vs,kp _ _ (λz=>by rw[z,e]at e5;cases e5) e5,Paired.imp (λ_ _ ⟨t,a,b⟩=>#[t,a,kp _ _ (λz=>by rw[z,e]at b;cases b) b]) e6],kp _ _ (λz=>by rw[z,e]at e8;cases e8) e8,#[kv,kp _ _ n e1,λy=>LQ (λt xs z=>kp _ _ (λw=>by rw[w,e]at z;cases z) z) (e2 y)],#[_,upd_same,λy=>?_]];rw[IJ]
 by_cases z:y=p
 ·rw[zQ (by rw[z]),zQ z];rfl
 ·rw[zN (λw=>z (EK w)),zN z];exact e4 y
noncomputable def Rj (ns:a6 Nd):Int->i8:=λp=>ns.any λx=>decide (Av x=p)
theorem SZ: ∀(ns:a6 Nd) (acc:a6 (AQ×V)) (p:Int),XH ((ns.map λx=>((Sum.inl (Av x):AQ),V.bl true)).foldl (λacc x=>Dy acc x.1 x.2) acc) p=(XH acc p || Rj ns p)
 |[],acc,p=>(Bool.or_false _).symm
 |x::ns,acc,p=>by
  have e:Rj (x::ns) p=(decide (Av x=p) || Rj ns p):=rfl;have i:=SZ ns (Dy acc (.inl (Av x)) (.bl true)) p;rw[Ta]at i;rw[e];refine i.trans ?_;dsimp only;have e2:decide (p=Av x)=decide (Av x=p):=by rw[jN,jD,jD];exact eq_comm
  rw[e2];cases decide (Av x=p)<;>cases XH acc p<;>rfl
noncomputable def lsM (rs:vX)(hs:Gh)(r:Ev×a6 Nd)(ls:Gh):i8:=decide (r.1=hs.map λh=>(h.2.1,h.2.2))&&(TY (Rj (jO r.2)) rs.length (λ_=>false) ls&&lbM rs (FX ls) hs r.2)
structure LtP (r:Ev×List Nd)(cs:List Int)(hs:Gh)(rs:vX)(ls:Gh):Prop where
 cl:cs.length<=1000000
 co:Ep cs
 hd:Gj 3 (headNums cs)=hs.map λh=>[h.1,h.2.1,h.2.2]
 rw_:Gj 2 (rowNums cs)=JZ rs
 jo:ON rs
 uo:UOk rs
 r0:0<rs.length
 r1:rs.length<=1000
 h1:hs.length<=1000
 h0: ∀h∈hs,0<=h.1
 l1:ls.length<=1000
 f1:r.1.length<=1000
 p1:(jO r.2).length<=1000
 fit: ∀nd∈jO r.2,(∃hs bx,wW hs bx 10 (bare nd))/\OK 10 (bare nd)/\(RO nd).length<=1000
inductive NG (vs:List V) (H:Hp) (Q:VK) (E:XK):Prop
 |mk (a c pa:i4) (ns cs:List Int) (rv:List V) (ls hs:Gh) (rs:vX) (r:Ev×List Nd) (h0:vs=[.ref a,.ref c,.ref pa]) (h1:H a=some (.lst (ns.map V.int))) (h2:ns.length<=1000000) (h3:Shr ns r) (h4:H c=some (.lst (cs.map V.int))) (h5:LtP r cs hs rs ls) (h6:H pa=some (.lst rv)) (h7:Paired (QC H) rv ls) (h8: ∀H',xJ H H'->Q (.bl (lsM rs hs r ls)) H'):NG vs H Q E
theorem Yx (T:BJ K mg CK)(F:qT K "lets_by" "lets_by" Fd f fd)(Co:jY P w K mg base 17 "functions" ["sheet"] HW)(Ce3:jY P w K mg base 4 "heads_of" ["code"] JI)(Cf0:jY P w K mg base 4 "rows_of" ["code"] Lc)(Cf6:jY P w K mg base 18 "nodes" ["sheet"] QS)(Cb2:jY P w K mg base 1 "have_same_boxes" ["program","heads"] Go)(Ce7:jY P w K mg base 3 "is_paper" ["paper","places","many_rows"] JH)(Cf7:QD P w K mg base (Hh P w) 2 "Check" CK ["self","rows","paper"] (NJ CK))(Ce2:jY P w K mg base 15 "is_right" ["check","node"] (JG CK 9))(Cb1:jY P w K mg base 3 "is_right_function" ["check","start","body"] (JB CK)):vO P w K mg base 19 f fd ["sheet","code","paper"] NG:=by
 have n_reversed:=T.n_reversed;exists Bk;obtain⟨a,c,pa,ns,cs,rv,ls,hs,rs,r,rfl,ha,hn,ef,hc,L,hp,pp,q⟩:=h;exists _,(zC (yP 3 Bk.nd (zH Co hr rfl (zA (pv 0) zB) zV))
   (zC (yP 4 Bk.nd (zH Ce3 hr rfl (zA (pv 1) zB) zV))
   (zC (yP 5 Bk.nd (zH Cf0 hr rfl (zA (pv 1) zB) zV))
   (zC (yP 6 Bk.nd (zH Cf6 hr rfl (zA (pv 0) zB) zV))
   (zC (xD (PW.pt (qY (qN (kR (zH Cb2 hr rfl (zA (pv 3) (zA (pv 4) zB)) zV))) (kW (qN (kR (zH Ce7 hr rfl (zA (pv 2) (zA (Fe (Mi rfl) rfl T.n_dict Tp (zA (vB (own:=["node"]) (ys:=[]) rfl (vK (pv 6)) (kJ (sc:=zS Fd) rfl (by decide+kernel)) .nil (λ_ _ _ _ _=>(zY 0 (show List.Nodup [("node":Str)]from(by decide+kernel)))) (λ_ _ _ _ _=>wN) (λ_ _ _ _ _=>(xO (zA (yZ (Jn K rfl) (pv 0) zI (λ_ _=>rfl)) (zA qI zB))))) zB)) (zA (xK xA rfl T.n_len kO (zA (pv 5) zB)) zB))) zV)))))) (zL (zT qI)) yD)
   (zC (yP 7 Bk.nd (Pn Cf7 hr rfl (zA (pv 5) (zA (pv 2) zB)) zV) rfl (Or.inr rfl))
   (zC (qS yY rfl (Yg rfl n_reversed (zA (pv 6) zB)) (zY 8 Bk.nd) (zL (Oc (AS hr) (jJ (pv 7) rfl) (yZ xL (pv 8) zI (λ_ _=>rfl)) (zH Ce2 hr rfl (zA (pv 7) (zA (pv 8) zB)) zV) rfl)))
   (zL (zT (xK (Hb rfl) rfl T.n_all Mj (zA (vB (own:=["head","function"]) (ys:=["check"]) rfl (VP false false rfl T.n_zip (zA (pv 4) (zA (pv 3) zB))) (kJ (sc:=zS Fd) rfl (by decide+kernel)) (.cons (j:=7) rfl .nil) (λ_ _ _ _ _=>(Jb (n:=2) K rfl rfl (yF (zY 0 (show List.Nodup [("head":Str),("function":Str),("check":Str)]from(by decide+kernel))) (yF (zY 1 (show List.Nodup [("head":Str),("function":Str),("check":Str)]from(by decide+kernel))) jS)))) (λ_ _ _ _ _=>wN) (λ_ _ _ _ _=>(zH Cb1 hr rfl (zA (pv 2) (zA (yZ (Jn K rfl) (pv 0) zI (λ_ _=>rfl)) (zA (yZ (Jn K rfl) (pv 1) zI (λ_ _=>rfl)) zB))) zV))) zB)))))))))))
 have sl:sizeLine=16777216:=jX;refine#[-1,a,ns,r,rfl,ha,ef,λfl H1 s1 _ fa=>?_];refine#[-1,c,cs,rfl,s1 _ _ hc,L.cl,L.co,λhl H2 g2 _ gh=>?_];have s2:=s1.trans g2;refine#[-1,c,cs,rfl,s2 _ _ hc,L.cl,L.co,λrl H3 g3 _ gr=>?_];have s3:=s2.trans g3;refine#[-1,a,ns,r,rfl,s3 _ _ ha,hn,ef,λtl us H4 g4 _ et pt=>?_];have s4:=s3.trans g4;rw[L.hd]at gh;rw[L.rw_]at gr;have g14:=g2.trans (g3.trans g4);refine#[-2,fl,hl,r,_,hs,rfl,fa.same g14,gh.same (g3.trans g4),rfl,L.f1,L.h1,λH5 g5=>?_];have s5:=s4.trans g5;have eq:lsM rs hs r ls=(decide (r.1=hs.map λh=>(h.2.1,h.2.2))&&(TY (Rj (jO r.2)) rs.length (λ_=>false) ls&&lbM rs (FX ls) hs r.2)):=rfl;rw[eq]at q;refine#[-1,?_];cases z1:decide (r.1=hs.map λh=>(h.2.1,h.2.2))with
 |false=>
  rw[z1]at q;exact jI (q _ s5)
 |true=>
 rw[z1,xC]at q;refine jE ?_;refine#[-2,tl,rfl,#[_,kN.of (g5 _ _ et)],λu hu=>?_];refine AD (xs:=us) (λi U' H'=>xJ H5 H'/\(∃x,U'=[x])/\ ∃as:a6 i4,H' u=some (.lst (as.map V.ref))/\Paired (λa kv=>H' a=some (.tup [kV kv.1,kv.2])) as (((jO r.2).take i).map λx=>(Sum.inl (Av x),V.bl true))) #[zM hu _,#[-1],[],upd_same,.nil] ?_ ?_ ?_
 ·rintro i U' H' _ ⟨g,_⟩;exact kN.of (g _ _ (g5 _ _ et))
 ·rintro i x U' H' hi hx ⟨g,⟨y,rfl⟩,as,eu,pa'⟩;obtain⟨nd,hnd,na⟩:=Paired.yonder pt hx;obtain⟨k,p,own,ps⟩:=nd;obtain⟨t,o,y1,y2,rfl,et1,_⟩:=na;have tk:((jO r.2).take (i+1)).map (λx=>((Sum.inl (Av x):AQ),V.bl true))=((jO r.2).take i).map (λx=>((Sum.inl (Av x):AQ),V.bl true))++[(Sum.inl (p:Int),V.bl true)]:=by
   rw[jU,hnd,yV]<;>rfl
  have la:=Paired.len pa';rw[zG,xM]at la;have lu:=L.p1;dsimp only[wI];refine HS #[-1,t,_,_,-1,rfl,.of (g _ _ (g5 _ _ et1)),rfl,sm2,λa1 h1=>#[_,zM h1 _ _ _ eu,by rw[zG];lia,CW.next hi #[λb o e=>?_,#[-1],as++[a1],?_,?_]]]
  ·rw[yJ (yQ e hu)];exact zM h1 _ _ _ (g _ _ e)
  ·rw[upd_same,yV];rfl
  ·rw[tk];have nu:a1≠u:=λz=>by rw[z,eu]at h1;cases h1
   refine Paired.append (Paired.imp ?_ pa') (.cons ?_ .nil)
   ·intro b kv e;rw[yJ (λz=>by rw[z,eu]at e;cases e)];exact zM h1 _ _ _ e
   ·rw[yJ nu,upd_same];rfl
 ·rintro U' H6 ⟨g6,_,as,eu,pa'⟩;have lu:=Paired.len pt;rw[lu,jL]at pa';refine#[u,as,-1,eu,pa',λd hd=>?_];have s7:=(s5.trans g6).trans (zM hd (.dK (DA ((jO r.2).map λx=>((Sum.inl (Av x):AQ),V.bl true)))));have g7:=((g4.trans g5).trans g6).trans (zM hd (.dK (DA ((jO r.2).map λx=>((Sum.inl (Av x):AQ),V.bl true)))));obtain⟨vr,erl,prr⟩:=gr;have lr:vr.length=rs.length:=(Paired.len prr).trans (zG ..);refine#[-1,rl,-1,.inl (kN.of (g7 _ _ erl)),pa,d,_,rv,ls,Rj (jO r.2),rfl,s7 _ _ hp,Paired.imp (λ_ _ ⟨t,e1,e2⟩=>#[t,e1,s7 _ _ e2]) pp,#[_,upd_same,λp=>SZ (jO r.2) [] p],L.l1,λH8 g8=>?_];have s8:=s7.trans g8;rw[lr];refine#[-1,?_];cases z2:TY (Rj (jO r.2)) rs.length (λ_=>false) ls with
  |false=>
   rw[z2]at q;exact jI (q _ s8)
  |true=>
  rw[z2,xC]at q;refine jE ?_;refine#[-2,λx dx hx hdx ndx=>?_];have gm:xJ H8 (upd (upd H8 dx (.own x)) x (.ins CK dx [])):=λb o e=>by
   rw[yJ (yQ e hx),yJ (yQ e hdx)];exact e
  have s9:=s8.trans gm;have g9:=(g7.trans g8).trans gm;refine#[x,dx,rl,pa,rs,rv,ls,rfl,upd_same,#[vr,g9 _ _ erl,Paired.imp (λ_ _ ⟨t,e1,e2⟩=>#[t,e1,g9 _ _ e2]) prr],L.jo,L.r0,L.r1,s9 _ _ hp,Paired.imp (λ_ _ ⟨t,e1,e2⟩=>#[t,e1,s9 _ _ e2]) pp,VH z2,L.l1,λll dd qq H9 k9 C9 eq9 nq hqn=>#[rfl,?_]];have gk:xJ H8 H9:=λb o e=>k9 _ _ (yQ e hx) (gm _ _ e);have hq8:H8 qq=none:=by
   cases e:H8 qq with
   |none=>rfl
   |some o=>rw[gm _ _ e]at hqn;cases hqn
  have g48:xJ H4 H8:=((g5.trans g6).trans (zM hd (.dK (DA ((jO r.2).map λx=>((Sum.inl (Av x):AQ),V.bl true)))))).trans g8;have lu:=Paired.len pt;have kd:XN (jO r.2):=by
   have z:=Jm r.2 [] trivial;rw[xI]at z;exact z
  refine#[-1,tl,us,rfl,kN.of (gk _ _ (g48 _ _ et)),Xd (xs:=us) (λi U' H'=>xJ H8 H'/\(∃y,U'=[some (.ref a),some (.ref c),some (.ref pa),some (.ref fl),some (.ref hl),some (.ref rl),some (.ref tl),some (.ref x),y])/\(∃kvs,H' qq=some (.dK kvs)/\kvs.length<=i)/\ID CK H' x dx rl ll dd qq rs (FX ls) (Pe rs (FX ls) ((jO r.2).drop (us.length-i)))) #[gk,#[-1],#[[],eq9,zO _],by rw[Nat.sub_zero,lu,uQ];exact C9] ?_ ?_ ?_]
  ·rintro i U' H' _ ⟨g,_⟩;exact kN.of (g _ _ (g48 _ _ et))
  ·rintro i v U' H' hv ⟨g,⟨y,rfl⟩,⟨kvs,ek,lk⟩,C⟩;have hi:i<us.length:=by
    have z:=(List.getElem?_eq_some_iff.mp hv).1
    rwa [DP]at z
   rw[List.getElem?_reverse hi]at hv;obtain⟨nd,hnd,na⟩:=Paired.yonder pt hv;obtain⟨hj,ej⟩:=List.getElem?_eq_some_iff.mp hnd;have ed:(jO r.2).drop (us.length-(i+1))=nd::(jO r.2).drop (us.length-i):=by
    rw[show us.length-(i+1)=us.length-1-i by lia,yS hj,ej,show us.length-1-i+1=us.length-i by lia]
   obtain⟨⟨hs',bx,fit⟩,fx,kl⟩:=L.fit nd (ej▸wH hj);have kc:=kd.drop ed;have lp1:=L.p1;obtain⟨k,p,own,ps⟩:=nd;have na1:jW H' (9+1) v (.mk k p own ps):=jW.tups (vN.same (g48.trans g)) na;have na0:=na1;obtain⟨t,o,y1,y2,rfl,et1,_⟩:=na0;dsimp only[wI];refine#[-2,x,dx,rl,ll,dd,qq,rs,_,_,_,k,p,own,ps,hs',bx,rfl,C,L.uo,na1,fit,fx,λz hz=>Oa (kc z hz),kl,λH2 g2=>?_];refine#[-1,x,CK,dx,_,-1,(C.same g2).ob,T.ck,T.cright,rfl,-1,t,_,_,-1,rfl,.of (g2 _ _ et1),rfl,qq,-1,Sm.k (k:=.inl (p:Int)) (g2 _ _ ek) (),?_];refine#[λb o e=>?_,#[-1],#[_,upd_same,xH (Bs ..) (CA lk)],?_]
   ·rw[yJ (yQ e hq8)];exact g2 _ _ (g _ _ e)
   ·rw[ed];exact zBg (C.same g2) (g2 _ _ ek) nq
  ·rintro U' H' ⟨g,⟨y,rfl⟩,_,C⟩;rw[Jy,BP]at C;obtain⟨vf,efl,ln,pf⟩:=fa;obtain⟨vh,ehl,ph⟩:=gh;have gz1:xJ H1 H':=(g14.trans g48).trans g;have gz2:xJ H2 H':=((g3.trans g4).trans g48).trans g;have lf:=Paired.len pf;have lh:=Paired.len ph;have e11:r.1.length=hs.length:=by rw[yB z1,zG]
   rw[kD]at lf;rw[zG]at lh;have lh1:=L.h1;refine#[-2,hl,fl,vh,vf,rfl,kN.of (gz2 _ _ ehl),kN.of (gz1 _ _ efl),λu hu=>?_];refine Xn (b1:=false) (b2:=false) (xs:=vh) (ys:=vf) (λi U' H3=>xJ H' H3/\(∃a b,U'=[a,b,some (.ref x)])/\H3 u=some (.lst ((((hs.zip r.2).map λx=>SJ rs x.1.1.toNat ((Pe rs (FX ls) (jO r.2) (Av x.2)).getD false) (xT (FX ls) x.2)).take i).map V.bl))) #[zM hu _,#[_,-1],upd_same] () ?_ ?_ ?_
   ·rintro i U' H3 _ ⟨s,_⟩;exact#[kN.of (s _ _ (gz2 _ _ ehl)),kN.of (s _ _ (gz1 _ _ efl))]
   ·rintro i v1 v2 U' H3 t hi hv1 hv2 ⟨s,⟨a',b',rfl⟩,eu⟩ ht;obtain⟨hg,hhg,t1,rfl,et1⟩:=Paired.yonder ph hv1;rw[zW]at hhg;obtain⟨h,hh,rfl⟩:=Option.map_eq_some_iff.mp hhg;obtain⟨⟨h2,nd⟩,hnd,t2,bd,rfl,et2,nb⟩:=Paired.yonder pf hv2;have hn2:=(List.getElem?_zip_eq_some.mp hnd).2;have ez:(hs.zip r.2)[i]? =some (h,nd):=List.getElem?_zip_eq_some.mpr #[hh,hn2];have tk:((hs.zip r.2).map λx=>SJ rs x.1.1.toNat ((Pe rs (FX ls) (jO r.2) (Av x.2)).getD false) (xT (FX ls) x.2)).take (i+1)=((hs.zip r.2).map λx=>SJ rs x.1.1.toNat ((Pe rs (FX ls) (jO r.2) (Av x.2)).getD false) (xT (FX ls) x.2)).take i++[SJ rs h.1.toNat ((Pe rs (FX ls) (jO r.2) (Av nd)).getD false) (xT (FX ls) nd)]:=by
     rw[jU,zW,ez]<;>rfl
    have st:=zM ht (.tup [.ref t1,.ref t2]);have s3:=s.trans st;have nn:=L.h0 h (xB hh);have nb3:jW (upd H3 t (.tup [.ref t1,.ref t2])) 10 bd nd:=jW.tups (vN.same (gz1.trans s3)) nb;obtain⟨pv,_⟩:=Oo (L:=FX ls) (R:=Pe rs (FX ls) (jO r.2)) (Paired.cons nb3 .nil) (λz hz=>by
     rw[List.mem_singleton.mp hz];exact Oa (GW (xB hn2)))
    obtain _|⟨pv,_⟩:=pv
    refine#[t,-1,Ax.of upd_same,rfl,_,-1,_,-1,rfl,?_];refine HS #[-2,t1,_,_,-1,rfl,.of (s3 _ _ (gz2 _ _ et1)),rfl,-1,t2,_,_,-1,rfl,.of (s3 _ _ (gz1 _ _ et2)),rfl,x,dx,rl,ll,dd,qq,rs,_,_,h.1.toNat,bd,_,_,by rw[jZ nn]<;>rfl,C.same s3,pv,λH5 g5=>?_];refine#[_,g5 _ _ (st _ _ eu),by rw[zG,xM,zG,kD];lia,CW.next hi #[λb o e=>?_,#[_,-1],?_]]
    ·rw[yJ (yQ e hu)];exact g5 _ _ (s3 _ _ e)
    ·rw[upd_same,tk,yV];rfl
   ·rintro U' H3 ⟨s,_,eu⟩;rw[xW (by rw[zG,kD];lia)]at eu;refine#[u,-1,kN.of eu,?_];have e:((hs.zip r.2).map λx=>SJ rs x.1.1.toNat ((Pe rs (FX ls) (jO r.2) (Av x.2)).getD false) (xT (FX ls) x.2)).all id=lbM rs (FX ls) hs r.2:=by
     rw[List.all_map];rfl
    rw[e];exact q _ ((s8.trans g).trans s)
mutual
noncomputable def CV (rs:vX)(L:Int->i5 (Nat×Nat)):Nd->i8
 | .mk k p own ps=>match L p with
  |none=>false
  |some be=>if SL rs be (kM (.mk k own (zU ps)))=true then true
   else if k=4/\Sc rs be ((wR rs L ps).zip (ps.map (xT L))) (XI ps)=true then true
   else if(wR rs L ps).all id=true then QE rs be k own (ps.map (xT L))else false
noncomputable def wR (rs:vX)(L:Int->i5 (Nat×Nat)):a6 Nd->a6 i8
 |[]=>[]
 |a::r=>CV rs L a::wR rs L r
end
theorem SH {rs:vX}{L:Int->i5 (Nat×Nat)}{R:Int->i5 i8}: ∀{ps:a6 Nd},(∀x∈ps,R (Av x)=some (CV rs L x))->
  (ps.map λx=>(R (Av x)).getD false)=wR rs L ps/\(ps.map λx=>((R (Av x)).getD false,xT L x))=(wR rs L ps).zip (ps.map (xT L))
 |[],_=>by rw[wR];exact#[rfl,rfl]
 |a::r,h=>by
  obtain⟨e1,e2⟩:=SH (ps:=r) λx m=>h x (yC _ m);have e:=h a (yA ..);rw[wR,yM,yM,yM,kX,e1,e2,e];exact#[rfl,rfl]
theorem Yc: ∀{nd:Nd},(∀x∈RO nd,R (Av x)=some (CV rs L x))->XF rs L R nd=CV rs L nd
 | .mk k p own ps,h=>by
  obtain⟨e1,e2⟩:=SH (ps:=ps) h;rw[XF,CV,e1,e2]<;>(cases L (p:Int)<;>rfl)
theorem Zm: ∀{ns:a6 Nd},XN ns->(ns.map Av).Nodup-> ∀x∈ns,Pe rs L ns (Av x)=some (CV rs L x)
 |nd::r,kd,nod,x,m=>by
  rw[yM,List.nodup_cons]at nod;have ih:=λy my=>Zm (rs:=rs) (L:=L) kd.2 nod.2 y my
  rcases List.mem_cons.mp m with rfl|m'
  ·show(if Av x=Av x then some (XF rs L (Pe rs L r) x)else Pe rs L r (Av x))=_;rw[zQ rfl,Yc λy my=>ih y (kd.1 y my)]
  ·have ne:Av x≠Av nd:=λz=>nod.1 (z▸AX m');show(if Av x=Av nd then some (XF rs L (Pe rs L r) nd)else Pe rs L r (Av x))=_;rw[zN ne];exact ih x m'
theorem Yz (T:Gk K mg)(F:qT K "_law_cell" "_law_cell" GM f fd):vO P w K mg base 1 f fd ["_law_script","_law_k"] (NL K):=by
 exists NU;obtain⟨a,ns,k,rfl,hs,hk,q⟩:=h;exists _,(zC (xD (zX Aw (pv 1) (xK xA rfl T.n_len kO (zA (pv 0) zB)) (yG _)) (zL (zT (yZ jB (pv 0) (pv 1) (λ_ _=>rfl)))) yD)
   (zL (zT zI)))
 have n8:((ns.map V.int).length:Int)=ns.length:=by rw[zG]
 refine#[-2,a,-1,.inl hs.sq,_,-1,rfl,-1,jK (λck=>?_) (λck=>q 0)];have ck':=yB ck;rw[n8]at ck';obtain⟨v,hv⟩:=YW (ns:=ns) hk ck';exact#[-2,a,_,_,-1,rfl,hs.sq,hv,q v]
theorem Yu (T:Gk K mg)(F:qT K "_law_take" "_law_take" GI f fd)(Cd8:jY P w K mg base 1 "_law_cell" ["_law_script","_law_k"] (NL K)):vO P w K mg base 2 f fd ["_law_state","_law_most"] (Fz K):=by
 exists vS;obtain⟨st,m,rfl,hm0,hm1,D,q⟩:=h;exists _,(zC (wS (pv 0) (zAe rfl (yF (zY 2 vS.nd) (yF (zY 3 vS.nd) (yF (zY 4 vS.nd) jS)))))
   (zC (DB (xD (zX jM (pv 4) zI (yG _)) (zC (yP 5 vS.nd (zH Cd8 hr rfl (zA (pv 2) (zA (yK Iu (pv 3) zI) zB)) zV))
   (zC (wS (yK jF (pv 3) zI) (LI (pv 0) zI Gv))
   (zL (xD (PW.pt (JY (zX Aw (pv 3) (xK xA rfl T.n_len kO (zA (pv 2) zB)) (yG _)) (Hs (zX HL (pv 5) (yK zAj zI zI) (yG _))))) (zL (yP 4 vS.nd (pv 5))) (zC (yP 6 vS.nd (yK Iu (yK AC (yK jF (yK jF (yK Iu (pv 5) zI) (yK AC zI (pv 3))) zI) zI) zI))
   (zC (yP 6 vS.nd (yK Iu (yK jF (yK jF (yK AC (pv 6) (pv 6)) (yK AC zI (pv 6))) (pv 3)) zI))
   (zL (zT (yK Iu (yK GS (pv 6) zI) (pv 1)))))))))) yD))
   (zC (wS (yK GS (pv 4) (pv 1)) (LI (pv 0) zI Gv))
   (zL (zT (yK Iu (pv 4) (pv 1)))))))
 obtain⟨a,ns,k,c,hst,hs,hl,hk,hc⟩:=D;refine#[-1,st,-1,kN.of hst,rfl,_,-1,_,-1,_,-1,rfl,?_];refine#[λU' H'=> ∃(v5 v6:i5 V) (c':Int),U'=[some (.ref st),some (.int m),some (.ref a),some (.int k),some (.int c'),v5,v6]/\0<=c'/\ ∃k' c0,H' st=some (.lst [.ref a,.int k',.int c0])/\qE st H H'/\0<=k'/\0<=c0,
  #[-1,rfl,-1,jK (λc0=>?_) (λc0=>#[_,_,c,rfl,hc,k,c,hst,qE.refl _ _,hk,hc])],?_]
 ·refine#[-2,_,-1,rfl,(by decide:(0:Int)<63),a,ns,-1,hs,wT _ (by decide),λx=>?_];refine#[-1,_,-1,rfl,-1,st,_,_,-1,rfl,hst,rfl,?_];have h1:upd H st (.lst [.ref a,.int (k+1),.int c]) st=some (.lst [.ref a,.int (k+1),.int c]):=upd_same;have k1:qE st H (upd H st (.lst [.ref a,.int (k+1),.int c])):=qE.upd;have s1:UZ K (upd H st (.lst [.ref a,.int (k+1),.int c])) a ns:=hs.keep hst k1;have p1:(0:Int)<2147483647:=by decide
  have p2:(0:Int)<2147483629:=by decide
  have p4:(0:Int)<2147483587:=by decide
  refine(λT=>#[-2,a,-1,.inl s1.sq,_,-1,rfl,-1,jK (λca=>#[-1,_,-1,rfl,#[by decide,by decide,by decide],_,-1,rfl,-1,jK (λcb=>?A) (λcb=>T)]) (λca=>jE T)]) ?B
  case A=>
   have cb':(10:Int)^18<=x:=yB cb;have x0:0<=x:=by
     have:(0:Int)<=10^18:=by decide
     lia
   exact#[-1,_,_,x,rfl,x0,k+1,c,upd_same,k1,(),hc]
  case B=>
   refine#[-1,_,-1,rfl,p1,-1,_,-1,rfl,.inl #[by decide,by decide],_,-1,rfl,_,-1,rfl,_,-1,rfl,.inr #[by decide,by decide],_,-1,rfl,p2,?_];generalize(x % 2147483647+31*k+17)*48271=A1;have a1:=wT A1 (show(2147483629:Int)≠0 by decide);have a2:=Ab A1 p2;generalize A1 % 2147483629=A2 at *
   refine#[-2,_,-1,rfl,.inl #[(),()],-1,_,-1,rfl,.inl #[by decide,by decide],_,-1,rfl,-1,_,-1,rfl,_,-1,rfl,p4,?_];refine#[-1,_,-1,rfl,#[by decide,by decide],-1,_,-1,rfl,hm0,?_];exact q _ _ (wT _ ()) (Ab _ hm0) #[#[a,ns,k+1,c,h1,s1,hl,(),hc],k1]
 ·rintro U' H' ⟨v5,v6,c',rfl,hc',k',c0,e',kp,hk',hc0⟩;refine#[-2,_,-1,rfl,zHq hm0 (Int.lt_trans hm1 (by decide)),-1,st,_,_,-1,rfl,e',rfl,?_];refine#[-2,_,-1,rfl,hm0,?_];exact q _ _ (wT _ ()) (Ab _ hm0) #[#[a,ns,k',c' / m,upd_same,(hs.keep hst kp).keep e' qE.upd,hl,hk',Int.ediv_nonneg hc' ()],kp.trans qE.upd]
inductive wJ:Tr->Prop
 |g0:wJ (.mk 1 [0] [])
 |g1:wJ (.mk 1 [1] [])
 |num (a:Int) (h0: -1<=a) (h1:a<=3):wJ (.mk 0 [a] [])
 |two (k a:Int) (k0:8<=k) (k1:k<=14) (h0: -1<=a) (h1:a<=3):wJ (.mk k [] [.mk 0 [a] [],.mk 0 [2] []])
 |sub (a:Int) (h0: -1<=a) (h1:a<=3):wJ (.mk 9 [] [.mk 1 [0] [],.mk 0 [a] []])
 |call:wJ (.mk 6 [1] [.mk 1 [1] []])
inductive Lf (K:a7) (vs:List V) (H:Hp) (Q:VK) (E:XK):Prop
 |mk (st:i4) (h0:vs=[.ref st]) (h1:AF K H st) (h2: ∀l t H',wJ t->Drawn K st H H'->H l=none->H' l=some (.lst ((jR t).map V.int))->Q (.ref l) H'):Lf K vs H Q E
theorem Uj (T:Gk K mg)(F:qT K "_law_part" "_law_part" GJ f fd)(Ca:jY P w K mg base 2 "_law_take" ["_law_state","_law_most"] (Fz K)):vO P w K mg base 3 f fd ["_law_state"] (Lf K):=by
 exists FG;obtain⟨st,rfl,D,q⟩:=h;exists _,(zC (yP 1 FG.nd (yK uM (zH Ca hr rfl (zA (pv 0) (zA zI zB)) zV) zI))
   (zC (yP 2 FG.nd (xF (zA (xF (xU (.int (.int .nil)))) (zA (xF (xU (.int (.int .nil)))) (zA (xF (zA zI (zA (pv 1) zB))) (zA (xF (zA (yK jF zI (zH Ca hr rfl (zA (pv 0) (zA zI zB)) zV)) (zA zI (zA (pv 1) (zA zI (zA zI zB)))))) (zA (xF (zA zI (zA zI (zA zI (zA zI (zA (pv 1) zB)))))) (zA (xF (xU (.int (.int (.int (.int .nil)))))) zB))))))))
   (zL (zT (yZ jB (pv 2) (zH Ca hr rfl (zA (pv 0) (zA zI zB)) zV) (λ_ _=>rfl))))))
 refine#[-1,st,5,rfl,by decide,by decide,D,λx H1 x0 x1 D1=>#[_,-1,rfl,?_]];refine#[sm2,λl1 h1=>#[sm2,λl2 h2=>#[-1,sm2,λl3 h3=>?_]]];have n1:l1≠st:=Ne.symm (D1.draw.ne h1);have Da:=D1.trans (D1.draw.new h1 (.lst ([(1:Int),0].map V.int)));have n2:l2≠st:=Ne.symm (Da.draw.ne h2);have Db:=Da.trans (Da.draw.new h2 (.lst ([(1:Int),1].map V.int)));have n3:l3≠st:=Ne.symm (Db.draw.ne h3);have Dc:=Db.trans (Db.draw.new h3 (.lst ([0,x-1].map V.int)));have e3:upd (upd (upd H1 l1 (.lst ([(1:Int),0].map V.int))) l2 (.lst ([(1:Int),1].map V.int))) l3 (.lst ([0,x-1].map V.int)) l3=some (.lst ([0,x-1].map V.int)):=upd_same;have e2:upd (upd (upd H1 l1 (.lst ([(1:Int),0].map V.int))) l2 (.lst ([(1:Int),1].map V.int))) l3 (.lst ([0,x-1].map V.int)) l2=some (.lst ([(1:Int),1].map V.int)):=zM h3 _ _ _ upd_same;have e1:upd (upd (upd H1 l1 (.lst ([(1:Int),0].map V.int))) l2 (.lst ([(1:Int),1].map V.int))) l3 (.lst ([0,x-1].map V.int)) l1=some (.lst ([(1:Int),0].map V.int)):=zM h3 _ _ _ (zM h2 _ _ _ upd_same);have f1:H l1=none:=D1.free h1;have f2:H l2=none:=Da.free h2;have f3:H l3=none:=Db.free h3;show HK _ _ _ (upd (upd (upd H1 l1 (.lst ([(1:Int),0].map V.int))) l2 (.lst ([(1:Int),1].map V.int))) l3 (.lst ([0,x-1].map V.int))) _;generalize upd (upd (upd H1 l1 (.lst ([(1:Int),0].map V.int))) l2 (.lst ([(1:Int),1].map V.int))) l3 (.lst ([0,x-1].map V.int))=G at Dc e1 e2 e3;refine#[-1,st,7,rfl,by decide,by decide,Dc.draw,λk H5 k0 k1 D5=>#[_,-1,rfl,-1,u5,λl4 h4=>#[-1,u5,λl5 h5=>#[sm4,λl6 h6=>#[small (show 6<=1000 by decide),λl7 h7=>?_]]]]];have Dd:=Dc.trans D5;have f4:H l4=none:=Dd.free h4;have g4:=zM h4 (.lst ([8+k,0,x-1,0,2].map V.int));have n4:l4≠st:=Ne.symm (Dd.draw.ne h4);have f5:H l5=none:=Dd.free (g4.free h5);have g5:=g4.trans (zM h5 (.lst ([9,1,0,0,x-1].map V.int)));have f6:H l6=none:=Dd.free (g5.free h6);have g6:=g5.trans (zM h6 (.lst ([(6:Int),1,1,1].map V.int)));have g7:xJ H5 (upd (upd (upd (upd H5 l4 (.lst ([8+k,0,x-1,0,2].map V.int))) l5 (.lst ([9,1,0,0,x-1].map V.int))) l6 (.lst ([(6:Int),1,1,1].map V.int))) l7 (.lst ([l1,l2,l3,l4,l5,l6].map V.ref))):=g6.trans (zM h7 (.lst ([l1,l2,l3,l4,l5,l6].map V.ref)));have De:Drawn K st H (upd (upd (upd (upd H5 l4 (.lst ([8+k,0,x-1,0,2].map V.int))) l5 (.lst ([9,1,0,0,x-1].map V.int))) l6 (.lst ([(6:Int),1,1,1].map V.int))) l7 (.lst ([l1,l2,l3,l4,l5,l6].map V.ref))):=Dd.trans #[Dd.draw.same g7,qE.same g7];have k1e:=g7 _ _ (D5.keep _ _ n1 e1);have k2e:=g7 _ _ (D5.keep _ _ n2 e2);have k3e:=g7 _ _ (D5.keep _ _ n3 e3);have k4e:upd (upd (upd (upd H5 l4 (.lst ([8+k,0,x-1,0,2].map V.int))) l5 (.lst ([9,1,0,0,x-1].map V.int))) l6 (.lst ([(6:Int),1,1,1].map V.int))) l7 (.lst ([l1,l2,l3,l4,l5,l6].map V.ref)) l4=some (.lst ([8+k,0,x-1,0,2].map V.int)):=zM h7 _ _ _ (zM h6 _ _ _ (zM h5 _ _ _ upd_same));have k5e:upd (upd (upd (upd H5 l4 (.lst ([8+k,0,x-1,0,2].map V.int))) l5 (.lst ([9,1,0,0,x-1].map V.int))) l6 (.lst ([(6:Int),1,1,1].map V.int))) l7 (.lst ([l1,l2,l3,l4,l5,l6].map V.ref)) l5=some (.lst ([9,1,0,0,x-1].map V.int)):=zM h7 _ _ _ (zM h6 _ _ _ upd_same);have k6e:upd (upd (upd (upd H5 l4 (.lst ([8+k,0,x-1,0,2].map V.int))) l5 (.lst ([9,1,0,0,x-1].map V.int))) l6 (.lst ([(6:Int),1,1,1].map V.int))) l7 (.lst ([l1,l2,l3,l4,l5,l6].map V.ref)) l6=some (.lst ([(6:Int),1,1,1].map V.int)):=zM h7 _ _ _ upd_same;have k7e:upd (upd (upd (upd H5 l4 (.lst ([8+k,0,x-1,0,2].map V.int))) l5 (.lst ([9,1,0,0,x-1].map V.int))) l6 (.lst ([(6:Int),1,1,1].map V.int))) l7 (.lst ([l1,l2,l3,l4,l5,l6].map V.ref)) l7=some (.lst ([l1,l2,l3,l4,l5,l6].map V.ref)):=upd_same;have n5:l5≠st:=Ne.symm ((Dd.draw.same g4).ne h5);have n6:l6≠st:=Ne.symm ((Dd.draw.same g5).ne h6);have n7:l7≠st:=Ne.symm ((Dd.draw.same g6).ne h7);show wI 2 (V.ref l7) _ (upd (upd (upd (upd H5 l4 (.lst ([8+k,0,x-1,0,2].map V.int))) l5 (.lst ([9,1,0,0,x-1].map V.int))) l6 (.lst ([(6:Int),1,1,1].map V.int))) l7 (.lst ([l1,l2,l3,l4,l5,l6].map V.ref))) _;generalize upd (upd (upd (upd H5 l4 (.lst ([8+k,0,x-1,0,2].map V.int))) l5 (.lst ([9,1,0,0,x-1].map V.int))) l6 (.lst ([(6:Int),1,1,1].map V.int))) l7 (.lst ([l1,l2,l3,l4,l5,l6].map V.ref))=G7 at De k1e k2e k3e k4e k5e k6e k7e;refine#[-2,st,6,rfl,by decide,by decide,De.draw,λr H9 r0 r1 D9=>?_];have Df:=De.trans D9;have e7:=D9.keep _ _ n7 k7e;have:r=0\/r=1\/r=2\/r=3\/r=4\/r=5:=()
 rcases this with rfl|rfl|rfl|rfl|rfl|rfl
 ·exact#[l7,_,_,-1,rfl,.of e7,rfl,q l1 _ _ .g0 Df f1 (D9.keep _ _ n1 k1e)]
 ·exact#[l7,_,_,-1,rfl,.of e7,rfl,q l2 _ _ .g1 Df f2 (D9.keep _ _ n2 k2e)]
 ·exact#[l7,_,_,-1,rfl,.of e7,rfl,q l3 _ _ (.num (x-1) () ()) Df f3 (D9.keep _ _ n3 k3e)]
 ·exact#[l7,_,_,-1,rfl,.of e7,rfl,q l4 _ _ (.two (8+k) (x-1) () () () ()) Df f4 (D9.keep _ _ n4 k4e)]
 ·exact#[l7,_,_,-1,rfl,.of e7,rfl,q l5 _ _ (.sub (x-1) () ()) Df f5 (D9.keep _ _ n5 k5e)]
 ·exact#[l7,_,_,-1,rfl,.of e7,rfl,q l6 _ _ .call Df f6 (D9.keep _ _ n6 k6e)]
section
variable {st:i4}{I:Hp->Prop}{U:St}{n m:Nat}{PL PM:a6 Int->Prop}{t u:TE}
def vP (K:a7)(st:i4)(I:Hp->Prop)(U:St)(n:Nat)(PL:a6 Int->Prop)(t:TE):Prop:= ∀(H:Hp) (Q:VK),AF K H st->I H->(∀l ns H',PL ns->ns.length<=n->Drawn K st H H'->H' l=some (.lst (ns.map V.int))->l≠st->Q (.ref l) H')->t U H Q
def XE (st:i4)(PL:a6 Int->Prop)(H:Hp)(as:a6 i4):Prop:= ∀a∈as,a≠st/\ ∃ns,PL ns/\H a=some (.lst (ns.map V.int))
def Hf (K:a7)(st:i4)(I:Hp->Prop)(U:St)(PL:a6 Int->Prop)(n:Nat)(t:TA):Prop:= ∀(H:Hp) (Q:a6 V->Hp->Prop),AF K H st->I H->(∀as H',Drawn K st H H'->as.length=n->XE st PL H' as->Q (as.map V.ref) H')->t U H Q
def LB (st:i4)(PL:a6 Int->Prop)(H:Hp)(l:i4)(n:Nat):Prop:=l≠st/\ ∃as:a6 i4,H l=some (.lst (as.map V.ref))/\as.length=n/\XE st PL H as
def Kp (K:a7)(st:i4)(I:Hp->Prop):Prop:= ∀H H',Drawn K st H H'->I H->I H'
theorem XE.keep (h:XE st PL H as)(D:Drawn K st H H'):XE st PL H' as:=λa m=>by
 obtain⟨n,ns,p,e⟩:=h a m;exact#[n,ns,p,D.keep _ _ n e]
theorem LB.keep (h:LB st PL H l n)(D:Drawn K st H H'):LB st PL H' l n:=by
 obtain⟨nl,as,e,el,p⟩:=h;exact#[nl,as,D.keep _ _ nl e,el,p.keep D]
theorem vP.mono (h:vP K st I U n PL t)(f: ∀ns,PL ns->PM ns):vP K st I U n PM t:=λH Q D i q=>h H Q D i λl ns H' p=>q l ns H' (f ns p)
theorem vP.cat (kp:Kp K st I)(h:vP K st I U n PL t)(h':vP K st I U m PM u)(hl:n+m<=1000):vP K st I U (n+m) (λns=> ∃a b,PL a/\PM b/\ns=a++b) (TH JX t u):=λH Q D i q=>
 h H _ D i λl ns H1 p ln D1 e1 n1=>h' H1 _ D1.draw (kp _ _ D1 i) λz ms H2 p2 lm D2 e2 n2=>by
  refine#[l,z,_,-1,rfl,D2.keep _ _ n1 e1,e2,small (by rw[zG,zG];lia),λy hy=>?_];exact q y (ns++ms) _ #[ns,ms,p,p2,rfl] (by rw[zE];lia) ((D1.trans D2).trans (D2.draw.new hy _)) (by rw[upd_same,yV]) (Ne.symm (D2.draw.ne hy))
theorem vP.var (h: ∀(H:Hp) (Q:VK),Q (.ref o) H->t U H Q)(hn:ns.length<=n)(ho: ∀H,I H->H o=some (.lst (ns.map V.int))/\o≠st):vP K st I U n (λz=>z=ns) t:=λH Q D i q=>
 h H Q (q o ns H rfl hn D.refl (ho H i).1 (ho H i).2)
theorem vP.lit (ns:a6 Int)(h: ∀(H:Hp) (Q:VK),(∀p,H p=none->Q (.ref p) (upd H p (.lst (ns.map V.int))))->t U H Q):vP K st I U ns.length (λz=>z=ns) t:=λH Q D _ q=>
 h H Q λp hz=>q p ns _ rfl (zO _) (D.new hz _) upd_same (Ne.symm (D.ne hz))
theorem Hf.nil:Hf K st I U PL 0 Mp:=λH Q D _ q=>q [] H D.refl rfl λa m=>(nomatch m)
theorem Hf.cons (kp:Kp K st I)(h:vP K st I U m PL e)(h':Hf K st I U PL n ta):Hf K st I U PL (n+1) (HK e ta):=λH Q D i q=>
 h H _ D i λl ns H1 p _ D1 e1 n1=>h' H1 _ D1.draw (kp _ _ D1 i) λas H2 D2 l2 p2=>by
  refine q (l::as) H2 (D1.trans D2) (by rw[zK,l2]) λa m=>?_
  rcases List.mem_cons.mp m with rfl|m
  ·exact#[n1,ns,p,D2.keep _ _ n1 e1]
  ·exact p2 a m
theorem Hf.first (h:Hf K st I U PL n ta)(hn:n<=1000)(D:AF K H st)(i:I H)(q: ∀l H',Drawn K st H H'->LB st PL H' l n->Q (.ref l) H'):(TJ ta) U H Q:=
 h H _ D i λas H1 D1 l1 p1=>#[small (by rw[zG,l1];exact hn),λp hp=>q p _ (D1.trans (D1.draw.new hp _)) #[Ne.symm (D1.draw.ne hp),as,upd_same,l1,p1.keep (D1.draw.new hp _)]]
theorem Hf.more (h:Hf K st I U PL m ta)(hn:n+m<=1000)(hv: ∀(H:Hp) (Q:VK),Q (.ref l) H->tv U H Q)(D:AF K H st)(i:I H)(b:LB st PL H l n)(q: ∀l' H',Drawn K st H H'->LB st PL H' l' (n+m)->Q (.ref l') H'):(TH JX tv (TJ ta)) U H Q:=
 hv H _ (h H _ D i λas H1 D1 l1 p1=>#[small (by rw[zG,l1];lia),λp hp=>by
  have D2:=D1.trans (D1.draw.new hp (.lst (as.map V.ref)));obtain⟨nl,bs,eb,lb,pb⟩:=b.keep D2;refine#[l,p,_,-1,rfl,eb,upd_same,small (by rw[zG,zG,lb,l1];exact hn),λz hz=>?_];refine q z _ (D2.trans (D2.draw.new hz _)) #[Ne.symm (D2.draw.ne hz),bs++as,by rw[upd_same,yV],by rw[zE,lb,l1],λa m=>?_]
  rcases List.mem_append.mp m with m|m
  ·exact pb.keep (D2.draw.new hz _) a m
  ·exact(p1.keep (D1.draw.new hp _)).keep (D2.draw.new hz _) a m])
end
inductive Er:Tr->Prop
 |one {t:Tr} (h:wJ t):Er t
 |set {a:Tr} (h:wJ a):Er (.mk 2 [1] [a])
 |all2 {a b:Tr} (h:wJ a) (h':wJ b):Er (.mk 3 [2] [a,b])
 |all3 {a b c:Tr} (h:wJ a) (h':wJ b) (h'':wJ c):Er (.mk 3 [3] [a,b,c])
 |pick {a b c:Tr} (h:wJ a) (h':wJ b) (h'':wJ c):Er (.mk 4 [2] [a,b,c])
 |pickN (n:Int) (n0: -1<=n) (n1:n<=2) {b c:Tr} (h':wJ b) (h'':wJ c):Er (.mk 4 [2] [.mk 0 [n] [],b,c])
 |pick3 {a b c:Tr} (h:wJ a) (h':wJ b) (h'':wJ c):Er (.mk 4 [3] [a,b,b,c])
 |loop {a b:Tr} (h:wJ a) (h':wJ b):Er (.mk 5 [] [a,b])
 |loopS {b:Tr} (h':wJ b):Er (.mk 5 [] [.mk 1 [0] [],.mk 2 [0] [b]])
 |k1 (k:Int) (hk:k=7\/k=18) {a:Tr} (h:wJ a):Er (.mk k [] [a])
 |call {a:Tr} (h:wJ a):Er (.mk 6 [1] [a])
 |k2 (k:Int) (hk:8<=k) (hk':k<=15) {a b:Tr} (h:wJ a) (h':wJ b):Er (.mk k [] [a,b])
 |put {a b c:Tr} (h:wJ a) (h':wJ b) (h'':wJ c):Er (.mk 17 [] [a,b,c])
 |new:Er (.mk 19 [] [])
theorem jV (h:wJ t):(jR t).length<=5:=by
 cases h<;>simp[jR,xX]
def Sr (ns:a6 Int):Prop:= ∃t,Er t/\ns=jR t
theorem HB {H:Hp}{st a:i4}{ns:a6 Int}(d:AF K H st)(e:H a=some (.lst (ns.map V.int))):a≠st:=λz=>by
 obtain⟨b,ms,k,c,es,_⟩:=d;rw[z,es]at e;injection e with e
 injection e with e
 cases ns with
 |nil=>cases e
 |cons x r=>injection e with e _;cases e
inductive Lk (K:a7) (vs:List V) (H:Hp) (Q:VK) (E:XK):Prop
 |mk (st:i4) (h0:vs=[.ref st]) (h1:AF K H st) (h2: ∀l t H',Er t->Drawn K st H H'->l≠st->H' l=some (.lst ((jR t).map V.int))->Q (.ref l) H'):Lk K vs H Q E
theorem Ut (T:Gk K mg)(F:qT K "_law_body" "_law_body" GN f fd)(Ca:jY P w K mg base 2 "_law_take" ["_law_state","_law_most"] (Fz K))(Ca3:jY P w K mg base 3 "_law_part" ["_law_state"] (Lf K)):vO P w K mg base 4 f fd ["_law_state"] (Lk K):=by
 exists vT;obtain⟨st,rfl,D,q⟩:=h;exists _,(zC (yP 1 vT.nd (zH Ca3 hr rfl (zA (pv 0) zB) zV))
   (zC (yP 2 vT.nd (zH Ca3 hr rfl (zA (pv 0) zB) zV))
   (zC (yP 3 vT.nd (zH Ca3 hr rfl (zA (pv 0) zB) zV))
   (zC (yP 4 vT.nd (xF (zA (yK xV (xF (xU (.int (.int .nil)))) (pv 1)) (zA (yK xV (yK xV (xF (xU (.int (.int .nil)))) (pv 1)) (pv 2)) (zA (yK xV (yK xV (yK xV (xF (xU (.int (.int .nil)))) (pv 1)) (pv 2)) (pv 3)) (zA (yK xV (yK xV (yK xV (xF (xU (.int (.int .nil)))) (pv 1)) (pv 2)) (pv 3)) zB))))))
   (zC (yP 4 vT.nd (yK xV (pv 4) (xF (zA (yK xV (yK xV (xF (zA zI (zA zI (zA zI (zA (yK uM (zH Ca hr rfl (zA (pv 0) (zA zI zB)) zV) zI) zB))))) (pv 2)) (pv 3)) (zA (yK xV (yK xV (xF (zA zI zB)) (pv 1)) (pv 2)) (zA (yK xV (xF (zA zI zB)) (pv 1)) (zA (yK xV (xF (xU (.int (.int .nil)))) (pv 1)) zB)))))))
   (zC (yP 4 vT.nd (yK xV (pv 4) (xF (zA (yK xV (yK xV (xF (zA (yK jF zI (zH Ca hr rfl (zA (pv 0) (zA zI zB)) zV)) zB)) (pv 1)) (pv 2)) (zA (yK xV (yK xV (xF (zA zI zB)) (pv 1)) (pv 2)) (zA (yK xV (yK xV (yK xV (xF (zA zI zB)) (pv 1)) (pv 2)) (pv 3)) zB))))))
   (zC (yP 4 vT.nd (yK xV (pv 4) (xF (zA (yK xV (xF (zA zI zB)) (pv 1)) (zA (xF (zA zI zB)) (zA (pv 1) (zA (yK xV (yK xV (yK xV (yK xV (xF (xU (.int (.int .nil)))) (pv 1)) (pv 2)) (pv 2)) (pv 3)) (zA (yK xV (xF (xU (.int (.int (.int (.int (.int .nil))))))) (pv 2)) zB))))))))
   (zL (zT (yZ jB (pv 4) (zH Ca hr rfl (zA (pv 0) (zA zI zB)) zV) (λ_ _=>rfl)))))))))))
 refine#[-1,st,rfl,D,λo1 t1 H1 p1 D1 f1 e1=>#[-1,st,rfl,D1.draw,λo2 t2 H2 p2 D2 f2 e2=>#[-1,st,rfl,D2.draw,λo3 t3 H3 p3 D3 f3 e3=>?_]]];have n1:=HB D1.draw e1;have n2:=HB D2.draw e2;have n3:=HB D3.draw e3;have D0:=(D1.trans D2).trans D3;obtain⟨I,eI⟩: ∃I:Hp->Prop,∀H,I H ↔ (H o1=some (.lst ((jR t1).map V.int))/\H o2=some (.lst ((jR t2).map V.int))/\H o3=some (.lst ((jR t3).map V.int))):=#[_,λ_=>Iff.rfl];have kp:Kp K st I:=λH H' d i=>by
  rw[eI]at i ⊢;exact#[d.keep _ _ n1 i.1,d.keep _ _ n2 i.2.1,d.keep _ _ n3 i.2.2]
 have i3:I H3:=(eI H3).mpr #[D3.keep _ _ n1 (D2.keep _ _ n1 e1),D3.keep _ _ n2 e2,e3];have v1: ∀{U:St} {t:TE},(∀(H:Hp) (Q:VK),Q (.ref o1) H->t U H Q)->vP K st I U 5 (λz=>z=jR t1) t:=λh=>vP.var h (jV p1) λH i=>#[((eI H).mp i).1,n1];have v2: ∀{U:St} {t:TE},(∀(H:Hp) (Q:VK),Q (.ref o2) H->t U H Q)->vP K st I U 5 (λz=>z=jR t2) t:=λh=>vP.var h (jV p2) λH i=>#[((eI H).mp i).2.1,n2];have v3: ∀{U:St} {t:TE},(∀(H:Hp) (Q:VK),Q (.ref o3) H->t U H Q)->vP K st I U 5 (λz=>z=jR t3) t:=λh=>vP.var h (jV p3) λH i=>#[((eI H).mp i).2.2,n3];clear eI e1 e2 e3;have c1: ∀{U:St} {n:Nat} {b:a6 Int} {t u:TE},vP K st I U n (λz=>z=b) t->(∀(H:Hp) (Q:VK),Q (.ref o1) H->u U H Q)->n<=900->vP K st I U (n+5) (λz=>z=b++jR t1) (TH JX t u):=λh g l=>(vP.cat kp h (v1 g) ()).mono λns h=>by obtain⟨_,_,rfl,rfl,e⟩:=h;exact e
 have c2: ∀{U:St} {n:Nat} {b:a6 Int} {t u:TE},vP K st I U n (λz=>z=b) t->(∀(H:Hp) (Q:VK),Q (.ref o2) H->u U H Q)->n<=900->vP K st I U (n+5) (λz=>z=b++jR t2) (TH JX t u):=λh g l=>(vP.cat kp h (v2 g) ()).mono λns h=>by obtain⟨_,_,rfl,rfl,e⟩:=h;exact e
 have c3: ∀{U:St} {n:Nat} {b:a6 Int} {t u:TE},vP K st I U n (λz=>z=b) t->(∀(H:Hp) (Q:VK),Q (.ref o3) H->u U H Q)->n<=900->vP K st I U (n+5) (λz=>z=b++jR t3) (TH JX t u):=λh g l=>(vP.cat kp h (v3 g) ()).mono λns h=>by obtain⟨_,_,rfl,rfl,e⟩:=h;exact e
 have fin: ∀{U:St} {n:Nat} {b:a6 Int} {t:TE} {x:Tr},vP K st I U n (λz=>z=b) t->Er x->b=jR x->vP K st I U n Sr t:=λh hx e=>h.mono λns z=>#[_,hx,z.trans e];dsimp only[wI,XQ,TL];refine Hf.first (PL:=Sr) (I:=I) (n:=4) ?_ (by decide) D3.draw i3 λl4 H4 D4 B4=>?_
 ·refine .cons kp (fin (c1 (.lit [2,1] λH Q h=>#[sm2,h]) (λ_ _ q=>#[-1,q]) (by decide)) (.set p1) (by simp[jR,xX])) ?_;refine .cons kp (fin (c2 (c1 (.lit [3,2] λH Q h=>#[sm2,h]) (λ_ _ q=>#[-1,q]) (by decide)) (λ_ _ q=>#[-1,q]) (by decide)) (.all2 p1 p2) (by simp[jR,xX])) ?_;refine .cons kp (fin (c3 (c2 (c1 (.lit [3,3] λH Q h=>#[sm2,h]) (λ_ _ q=>#[-1,q]) (by decide)) (λ_ _ q=>#[-1,q]) (by decide)) (λ_ _ q=>#[-1,q]) (by decide)) (.all3 p1 p2 p3) (by simp[jR,xX])) ?_;exact .cons kp (fin (c3 (c2 (c1 (.lit [4,2] λH Q h=>#[sm2,h]) (λ_ _ q=>#[-1,q]) (by decide)) (λ_ _ q=>#[-1,q]) (by decide)) (λ_ _ q=>#[-1,q]) (by decide)) (.pick p1 p2 p3) (by simp[jR,xX])) .nil
 have k4: ∀{G:Hp},Drawn K st H3 G->I G:=λd=>kp _ _ d i3;refine Hf.more (PL:=Sr) (I:=I) (n:=4) (m:=4) ?_ (by decide) (λ_ _ q=>#[-1,q]) D4.draw (k4 D4) B4 λl5 H5 D5 B5=>?_
 ·have tk: ∀{U:St} {b c:a6 Int} {t u:TE},(∀(H:Hp) (Q:VK),Q (.ref o2) H->t U H Q)->(∀(H:Hp) (Q:VK),Q (.ref o3) H->u U H Q)-> ∀{e:TE},vP K st I U 4 (λz=> ∃n:Int,-1<=n/\n<=2/\z=[4,2,0,n]) e->vP K st I U (4+5+5) Sr (TH JX (TH JX e t) u):=λg2 g3 e h=>
   (vP.cat kp (vP.cat kp h (v2 g2) (by decide)) (v3 g3) (by decide)).mono λns h=>by obtain⟨_,_,⟨_,_,⟨n,a0,a1,rfl⟩,rfl,rfl⟩,rfl,e⟩:=h;exact#[_,.pickN n a0 a1 p2 p3,by rw[e];simp[jR,xX]]
  refine .cons kp (tk (b:=[]) (c:=[]) (λ_ _ q=>#[-1,q]) (λ_ _ q=>#[-1,q]) (λH Q D i q=>#[-1,st,4,rfl,by decide,by decide,D,λx G x0 x1 DG=>#[_,-1,rfl,sm4,λp hp=>q p [4,2,0,x-1] _ #[x-1,(),(),rfl] (zO _) (DG.trans (DG.draw.new hp _)) upd_same (Ne.symm (DG.draw.ne hp))]])) ?_;refine .cons kp (fin (c2 (c1 (.lit [5] λH Q h=>#[sm1,h]) (λ_ _ q=>#[-1,q]) (by decide)) (λ_ _ q=>#[-1,q]) (by decide)) (.loop p1 p2) (by simp[jR,xX])) ?_;refine .cons kp (fin (c1 (.lit [7] λH Q h=>#[sm1,h]) (λ_ _ q=>#[-1,q]) (by decide)) (.k1 7 (.inl rfl) p1) (by simp[jR,xX])) ?_;exact .cons kp (fin (c1 (.lit [6,1] λH Q h=>#[sm2,h]) (λ_ _ q=>#[-1,q]) (by decide)) (.call p1) (by simp[jR,xX])) .nil
 have D45:=D4.trans D5
 try dsimp only
 refine Hf.more (PL:=Sr) (I:=I) (n:=8) (m:=3) ?_ (by decide) (λ_ _ q=>#[-1,q]) D5.draw (k4 D45) B5 λl6 H6 D6 B6=>?_
 ·have tk: ∀{U:St} {t u:TE},(∀(H:Hp) (Q:VK),Q (.ref o1) H->t U H Q)->(∀(H:Hp) (Q:VK),Q (.ref o2) H->u U H Q)-> ∀{e:TE},vP K st I U 1 (λz=> ∃n:Int,8<=n/\n<=15/\z=[n]) e->vP K st I U (1+5+5) Sr (TH JX (TH JX e t) u):=λg2 g3 e h=>
   (vP.cat kp (vP.cat kp h (v1 g2) (by decide)) (v2 g3) (by decide)).mono λns h=>by obtain⟨_,_,⟨_,_,⟨n,a0,a1,rfl⟩,rfl,rfl⟩,rfl,e⟩:=h;exact#[_,.k2 n a0 a1 p1 p2,by rw[e];simp[jR,xX]]
  refine .cons kp (tk (λ_ _ q=>#[-1,q]) (λ_ _ q=>#[-1,q]) (λH Q D i q=>#[-1,st,7,rfl,by decide,by decide,D,λx G x0 x1 DG=>#[_,-1,rfl,sm1,λp hp=>q p [8+x] _ #[8+x,(),(),rfl] (zO _) (DG.trans (DG.draw.new hp _)) upd_same (Ne.symm (DG.draw.ne hp))]])) ?_;refine .cons kp (fin (c2 (c1 (.lit [15] λH Q h=>#[sm1,h]) (λ_ _ q=>#[-1,q]) (by decide)) (λ_ _ q=>#[-1,q]) (by decide)) (.k2 15 (by decide) (by decide) p1 p2) (by simp[jR,xX])) ?_;exact .cons kp (fin (c3 (c2 (c1 (.lit [17] λH Q h=>#[sm1,h]) (λ_ _ q=>#[-1,q]) (by decide)) (λ_ _ q=>#[-1,q]) (by decide)) (λ_ _ q=>#[-1,q]) (by decide)) (.put p1 p2 p3) (by simp[jR,xX])) .nil
 have D46:=D45.trans D6
 try dsimp only
 refine Hf.more (PL:=Sr) (I:=I) (n:=11) (m:=5) ?_ (by decide) (λ_ _ q=>#[-1,q]) D6.draw (k4 D46) B6 λl7 H7 D7 B7=>?_
 ·refine .cons kp (fin (c1 (.lit [18] λH Q h=>#[sm1,h]) (λ_ _ q=>#[-1,q]) (by decide)) (.k1 18 (.inr rfl) p1) (by simp[jR,xX])) ?_;refine .cons kp (fin (.lit [19] λH Q h=>#[sm1,h]) .new (by simp[jR,xX])) ?_;refine .cons kp (fin (v1 (λ_ _ q=>#[-1,q])) (.one p1) rfl) ?_;refine .cons kp (fin (c3 (c2 (c2 (c1 (.lit [4,3] λH Q h=>#[sm2,h]) (λ_ _ q=>#[-1,q]) (by decide)) (λ_ _ q=>#[-1,q]) (by decide)) (λ_ _ q=>#[-1,q]) (by decide)) (λ_ _ q=>#[-1,q]) (by decide)) (.pick3 p1 p2 p3) (by simp[jR,xX])) ?_;exact .cons kp (fin (c2 (.lit [5,1,0,2,0] λH Q h=>#[u5,h]) (λ_ _ q=>#[-1,q]) (by decide)) (.loopS p2) (by simp[jR,xX])) .nil
 have DD:=(D0.trans D46).trans D7;refine#[-2,st,16,rfl,by decide,by decide,DD.draw,λr H9 r0 r1 D9=>?_];obtain⟨n7,as,e7,la,pa⟩:=B7.keep D9;have hr:r.toNat<as.length:=()
 obtain⟨na,ns,⟨t,bt,rfl⟩,ea⟩:=pa as[r.toNat] (wH hr);exact#[l7,_,_,.ref as[r.toNat],rfl,rfl,.of e7,Xr r0 (by rw[zW,zF hr];rfl),q _ t _ bt (DD.trans D9) na ea]
def HP (t:Tr):Prop:=t=.mk 1 [0] []\/t=.mk 1 [1] []\/ ∃a:Int,-1<=a/\a<=3/\t=.mk 0 [a] []
theorem Qf (h:HP t):(jR t).length =2:=by
 rcases h with rfl|rfl|⟨a,_,_,rfl⟩<;>simp[jR,xX]
theorem MZ: ∀(xs:a6 Tr) (t:Tr),xX (xs++[t])=xX xs++jR t
 |[],t=>by simp[xX]
 |a::r,t=>by rw[xN,xX,xX,MZ r t,yN]
theorem BX: ∀{ts:a6 Tr},(∀t∈ts,HP t)->(xX ts).length =2*ts.length
 |[],_=>by simp[xX]
 |a::r,h=>by
  rw[xX,zE,Qf (h a (yA ..)),BX λt m=>h t (yC _ m),zK];lia
inductive KI (K:a7) (vs:List V) (H:Hp) (Q:VK) (E:XK):Prop
 |mk (st:i4) (n:Nat) (h0:vs=[.ref st,.int (n:Int)]) (h1:AF K H st) (h2:n<=20) (h3: ∀l ts H',(∀t∈ts,HP t)->ts.length=n->Drawn K st H H'->l≠st->H' l=some (.lst ((xX ts).map V.int))->Q (.ref l) H'):KI K vs H Q E
theorem Wm (T:Gk K mg)(F:qT K "_law_few" "_law_few" Im f fd)(Ca:jY P w K mg base 2 "_law_take" ["_law_state","_law_most"] (Fz K)):vO P w K mg base 3 f fd ["_law_state","_law_many"] (KI K):=by
 exists ED;obtain⟨st,n,rfl,D,hn,q⟩:=h;exists _,(zC (yP 2 ED.nd (xF zB))
   (zC (qS yY rfl (Aj rfl T.n_range (zA (pv 1) zB)) (zY 3 ED.nd) (zL (yP 2 ED.nd (yK xV (pv 2) (yZ jB (xF (zA (xF (xU (.int (.int .nil)))) (zA (xF (xU (.int (.int .nil)))) (zA (xF (zA zI (zA (yK uM (zH Ca hr rfl (zA (pv 0) (zA zI zB)) zV) zI) zB))) zB)))) (zH Ca hr rfl (zA (pv 0) (zA zI zB)) zV) (λ_ _=>rfl))))))
   (zL (zT (pv 2)))))
 refine#[zz0,λl0 h0=>?_];refine#[-2,(),(),AN (lo:=0) (n:=n) (λi U' H'=> ∃(l:i4) (ts:a6 Tr) (v3:i5 V),U'=[some (.ref st),some (.int (n:Int)),some (.ref l),v3]/\Drawn K st H H'/\l≠st/\(∀t∈ts,HP t)/\ts.length=i/\H' l=some (.lst ((xX ts).map V.int))) #[l0,[],-1,D.new h0 _,Ne.symm (D.ne h0),λt m=>(nomatch m),rfl,upd_same] ?_ ?_]
 rotate_left
 ·rintro U' H' ⟨l,ts,v3,rfl,D',nl,lf,lt,e⟩;exact#[-1,q l ts H' lf lt D' nl e]
 rintro i U' H' hi ⟨l,ts,v3,rfl,D',nl,lf,lt,e⟩;dsimp only[wI,TL,List.set];refine#[-1,?_];refine Hf.first (PL:=λns=> ∃t,HP t/\ns=jR t) (I:=λ_=>True) (n:=3) ?_ (by decide) D'.draw trivial λl3 H3 D3 B3=>?_
 ·refine .cons (λ_ _ _ _=>trivial) ((vP.lit [1,0] λH Q h=>#[sm2,h]).mono λns z=>#[_,.inl rfl,z.trans (by simp[jR,xX])]) ?_;refine .cons (λ_ _ _ _=>trivial) ((vP.lit [1,1] λH Q h=>#[sm2,h]).mono λns z=>#[_,.inr (.inl rfl),z.trans (by simp[jR,xX])]) ?_;exact .cons (m:=2) (λ_ _ _ _=>trivial) (λH Q D i q=>#[-1,st,5,rfl,by decide,by decide,D,λx G x0 x1 DG=>#[_,-1,rfl,sm2,λp hp=>q p [0,x-1] _ #[_,.inr (.inr #[x-1,(),(),rfl]),by simp[jR,xX]] (zO _) (DG.trans (DG.draw.new hp _)) upd_same (Ne.symm (DG.draw.ne hp))]]) .nil
 refine#[-1,st,3,rfl,by decide,by decide,D3.draw,λr H4 r0 r1 D4=>?_];obtain⟨n3,as,e3,la,pa⟩:=B3.keep D4;have hr:r.toNat<as.length:=()
 obtain⟨na,ns,⟨t,ht,rfl⟩,ea⟩:=pa as[r.toNat] (wH hr);have D34:=D3.trans D4;have ll:=BX lf;have lt1:=Qf ht;refine#[l3,_,_,.ref as[r.toNat],rfl,rfl,.of e3,Xr r0 (by rw[zW,zF hr];rfl),l,as[r.toNat],_,-1,rfl,D34.keep _ _ nl e,ea,small (by rw[zG,zG,ll,lt1];lia),λz hz=>?_];refine#[z,ts++[t],-1,(D'.trans D34).trans (D34.draw.new hz _),Ne.symm (D34.draw.ne hz),λy my=>?_,by rw[zE,lt];rfl,by rw[upd_same,MZ,yV]]
 rcases List.mem_append.mp my with m|m
 ·exact lf y m
 ·rw[List.mem_singleton.mp m];exact ht
noncomputable def BT (pm:Int)(t:Tr):a6 Fn:=[((0,2),t),((pm,pm),.mk 1 [0] [])]
theorem Hi (pm:Int)(t:Tr):wr (BT pm t)=[2,0,2,pm,pm]++jR t++[1,0]:=by
 unfold BT wr
 simp[jR,xX,WT,Tt]
inductive Kh:Int->Tr->Prop
 |body {t:Tr} (h:Er t):Kh 1 t
 |set {t:Tr} (h:Er t):Kh 1 (.mk 2 [0] [t])
 |all {t:Tr} (h:Er t):Kh 1 (.mk 3 [2] [t,.mk 1 [1] []])
 |pick (n:Int) (n0:4<=n) (n1:n<=6) {ts:List Tr} (h: ∀t∈ts,HP t) (hl:(ts.length:Int)=n+1):Kh 1 (.mk 4 [n] ts)
 |many (n:Int) (n0:4<=n) (n1:n<=6) {ts:List Tr} (h: ∀t∈ts,HP t) (hl:(ts.length:Int)=n):Kh 1 (.mk 3 [n] ts)
 |call {ts:List Tr} (h: ∀t∈ts,HP t) (hl:ts.length=4):Kh 4 (.mk 6 [1] ts)
inductive IN (K:a7) (vs:List V) (H:Hp) (Q:VK) (E:XK):Prop
 |mk (st:i4) (h0:vs=[.ref st]) (h1:AF K H st) (h2: ∀l pm t H',Kh pm t->Drawn K st H H'->l≠st->H' l=some (.lst ((wr (BT pm t)).map V.int))->Q (.ref l) H'):IN K vs H Q E
theorem Ue (T:Gk K mg)(F:qT K "_law_wide" "_law_wide" GH f fd)(Ca:jY P w K mg base 2 "_law_take" ["_law_state","_law_most"] (Fz K))(Ca6:jY P w K mg base 3 "_law_few" ["_law_state","_law_many"] (KI K)):vO P w K mg base 4 f fd ["_law_state"] (IN K):=by
 exists FF;obtain⟨st,rfl,D,q⟩:=h;exists _,(zC (yP 1 FF.nd (zH Ca hr rfl (zA (pv 0) (zA zI zB)) zV))
   (zC (yP 2 FF.nd (yK jF zI (zH Ca hr rfl (zA (pv 0) (zA zI zB)) zV)))
   (zC (xD (zX jM (pv 1) zI (yG _)) (zL (zT (yK xV (yK xV (xF (zA zI (zA zI (zA zI (zA zI (zA zI (zA zI (zA (pv 2) zB)))))))) (zH Ca6 hr rfl (zA (pv 0) (zA (yK jF (pv 2) zI) zB)) zV)) (xF (xU (.int (.int .nil))))))) yD)
   (zC (xD (zX jM (pv 1) zI (yG _)) (zL (zT (yK xV (yK xV (xF (zA zI (zA zI (zA zI (zA zI (zA zI (zA zI (zA (pv 2) zB)))))))) (zH Ca6 hr rfl (zA (pv 0) (zA (pv 2) zB)) zV)) (xF (xU (.int (.int .nil))))))) yD)
   (zL (zT (yK xV (yK xV (xF (xU (.int (.int (.int (.int (.int (.int (.int .nil))))))))) (zH Ca6 hr rfl (zA (pv 0) (zA zI zB)) zV)) (xF (xU (.int (.int .nil)))))))))))
 refine#[-1,st,3,rfl,by decide,by decide,D,λw0 H1 a0 a1 D1=>?_];refine#[-1,st,3,rfl,by decide,by decide,D1.draw,λx H2 x0 x1 D2=>#[_,-1,rfl,?_]];obtain⟨x,rfl⟩:=Int.eq_ofNat_of_zero_le x0;have D12:=D1.trans D2;have kp:Kp K st (λ_=>True):=λ_ _ _ _=>trivial;have few: ∀{U:St} {t:TE} (n:Nat),n<=20->(∀(H:Hp) (Q:VK),KI K [.ref st,.int (n:Int)] H Q E0->t U H Q)->vP K st (λ_=>True) U 40 (λns=> ∃ts,(∀t∈ts,HP t)/\ts.length=n/\ns=xX ts) t:=λn hn h H Q D _ q'=>
  h H Q #[st,n,rfl,D,hn,λl ts H' lf lt D' nl e=>q' l (xX ts) H' #[ts,lf,lt,rfl] (by rw[BX lf];lia) D' e nl]
 have go: ∀{U:St} {t:TE} {G:Hp} (k:Nat),vP K st (λ_=>True) U k (λns=> ∃pm t,Kh pm t/\ns=wr (BT pm t)) t->Drawn K st H G->t U G Q:=λk h d=>h _ _ d.draw trivial λl ns H' ⟨pm,t,ht,e⟩ _ D' el nl=>q l pm t H' ht (d.trans D') nl (by rw[<-e];exact el);refine#[-1,rfl,-1,jK (λ_=>?_) (λ_=>?_)]
 ·refine go _ ((vP.cat kp (vP.cat kp (.lit [2,0,2,1,1,4,4+(x:Int)] λH Q h=>#[-1,u7,h]) (few (4+x+1) () λH Q h=>#[-2,_,-1,rfl,h]) (by simp)) (.lit [1,0] λH Q h=>#[sm2,h]) (by simp)).mono λns h=>?_) D12;obtain⟨_,_,⟨_,_,rfl,⟨ts,lf,lt,rfl⟩,rfl⟩,rfl,e⟩:=h;refine#[1,_,.pick (4+(x:Int)) () () lf (),?_];rw[e,Hi]
  simp[jR]
 refine#[-1,rfl,-1,jK (λ_=>?_) (λ_=>?_)]
 ·refine go _ ((vP.cat kp (vP.cat kp (.lit [2,0,2,1,1,3,4+(x:Int)] λH Q h=>#[-1,u7,h]) (few (4+x) () λH Q h=>#[-2,h]) (by simp)) (.lit [1,0] λH Q h=>#[sm2,h]) (by simp)).mono λns h=>?_) D12;obtain⟨_,_,⟨_,_,rfl,⟨ts,lf,lt,rfl⟩,rfl⟩,rfl,e⟩:=h;refine#[1,_,.many (4+(x:Int)) () () lf (),?_];rw[e,Hi]
  simp[jR]
 ·dsimp only[Zd,Vo];refine go _ ((vP.cat kp (vP.cat kp (.lit [2,0,2,4,4,6,1] λH Q h=>#[u7,h]) (few 4 () λH Q h=>#[-1,h]) (by simp)) (.lit [1,0] λH Q h=>#[sm2,h]) (by simp)).mono λns h=>?_) D12;obtain⟨_,_,⟨_,_,rfl,⟨ts,lf,lt,rfl⟩,rfl⟩,rfl,e⟩:=h;refine#[4,_,.call lf lt,?_];rw[e,Hi]
  simp[jR]
theorem KW (h:Er t):(jR t).length<=30:=by
 cases h with
 |one h=>have:=jV h;lia
 |set h=>have:=jV h;simp[jR,xX];lia
 |all2 h h'=>have:=jV h;have:=jV h';simp[jR,xX];lia
 |all3 h h' h''=>have:=jV h;have:=jV h';have:=jV h'';simp[jR,xX];lia
 |pick h h' h''=>have:=jV h;have:=jV h';have:=jV h'';simp[jR,xX];lia
 |pickN n _ _ h' h''=>have:=jV h';have:=jV h'';simp[jR,xX];lia
 |pick3 h h' h''=>have:=jV h;have:=jV h';have:=jV h'';simp[jR,xX];lia
 |loop h h'=>have:=jV h;have:=jV h';simp[jR,xX];lia
 |loopS h'=>have:=jV h';simp[jR,xX];lia
 |k1 k _ h=>have:=jV h;simp[jR,xX];lia
 |call h=>have:=jV h;simp[jR,xX];lia
 |k2 k _ _ h h'=>have:=jV h;have:=jV h';simp[jR,xX];lia
 |put h h' h''=>have:=jV h;have:=jV h';have:=jV h'';simp[jR,xX];lia
 |new=>simp[jR,xX]
theorem Rn (T:Gk K mg)(F:qT K "_law_sheet" "_law_sheet" FR f fd)(Ca:jY P w K mg base 2 "_law_take" ["_law_state","_law_most"] (Fz K))(Cd6:jY P w K mg base 4 "_law_wide" ["_law_state"] (IN K))(Cd9:jY P w K mg base 4 "_law_body" ["_law_state"] (Lk K)):vO P w K mg base 5 f fd ["_law_state"] (IN K):=by
 exists AZ;obtain⟨st,rfl,D,q⟩:=h;exists _,(zC (xD (zX jM (zH Ca hr rfl (zA (pv 0) (zA zI zB)) zV) zI (yG _)) (zL (zT (zH Cd6 hr rfl (zA (pv 0) zB) zV))) yD)
   (zC (yP 1 AZ.nd (zH Cd9 hr rfl (zA (pv 0) zB) zV))
   (zC (yP 2 AZ.nd (zH Ca hr rfl (zA (pv 0) (zA zI zB)) zV))
   (zC (DB (xD (zX jM (pv 2) zI (yG _)) (zL (yP 1 AZ.nd (yK xV (xF (xU (.int (.int .nil)))) (pv 1)))) yD))
   (zC (DB (xD (zX jM (pv 2) zI (yG _)) (zL (yP 1 AZ.nd (yK xV (yK xV (xF (xU (.int (.int .nil)))) (pv 1)) (xF (xU (.int (.int .nil))))))) yD))
   (zL (zT (yK xV (yK xV (xF (xU (.int (.int (.int (.int (.int .nil))))))) (pv 1)) (xF (xU (.int (.int .nil))))))))))))
 refine#[-1,st,6,rfl,by decide,by decide,D,λw0 H1 a0 a1 D1=>#[rfl,-1,jK (λ_=>?_) (λ_=>?_)]]
 ·exact#[-1,st,rfl,D1.draw,λl pm t H2 ht D2 nl e=>q l pm t H2 ht (D1.trans D2) nl e]
 refine#[-1,st,rfl,D1.draw,λl t H2 bt D2 nl e=>?_];refine#[-1,st,6,rfl,by decide,by decide,D2.draw,λx H3 x0 x1 D3=>?_];have D13:=(D1.trans D2).trans D3;have e3:=D3.keep _ _ nl e;have bl:=KW bt;refine#[λU' H'=> ∃(l':i4) (t':Tr),U'=[some (.ref st),some (.ref l'),some (.int x)]/\Drawn K st H H'/\l'≠st/\H' l'=some (.lst ((jR t').map V.int))/\(jR t').length<=40/\Kh 1 t'/\(x≠0->Er t'),?_,?_]
 ·refine#[-1,rfl,-1,jK (λc=>?_) (λc=>?_)]
  ·have cx:x=0:=by have:=yB c;injection this
   refine#[sm2,λp hp=>#[-1,p,l,_,-1,rfl,upd_same,zM hp _ _ _ e3,small (by rw[zG];show 2+_<=_;lia),λz hz=>?_]];have g:=(zM hp (.lst ([(2:Int),0].map V.int))).trans (zM hz (.lst ([(2:Int),0].map V.int++(jR t).map V.int)));exact#[z,.mk 2 [0] [t],rfl,D13.trans #[D3.draw.same g,qE.same g],Ne.symm ((D3.draw.same (zM hp _)).ne hz),by refine upd_same.trans ?_;simp[jR,xX],by simp[jR,xX];lia,.set bt,λh=>absurd cx h]
  ·exact#[l,t,rfl,D13,nl,e3,(),.body bt,λ_=>bt]
 rintro _ H4 ⟨l',t',rfl,D4,nl',e4,bl',sh4,b4⟩;have kp:Kp K st (λH=>H l'=some (.lst ((jR t').map V.int))):=λ_ _ d i=>d.keep _ _ nl' i;refine#[λU' H'=> ∃(l2:i4) (t2:Tr),U'=[some (.ref st),some (.ref l2),some (.int x)]/\Drawn K st H H'/\l2≠st/\H' l2=some (.lst ((jR t2).map V.int))/\(jR t2).length<=60/\Kh 1 t2,?_,?_]
 ·refine#[-1,rfl,-1,jK (λc=>?_) (λc=>?_)]
  ·have cx:x=1:=by have:=yB c;injection this
   have b4:=b4 ();dsimp only[TL];refine(vP.cat kp (vP.cat (m:=40) kp (.lit [3,2] λH Q h=>#[sm2,h]) (.var (o:=l') (λH Q h=>#[-1,h]) bl' λH i=>#[i,nl']) (by decide)) (.lit [1,1] λH Q h=>#[sm2,h]) (by decide)) _ _ D4.draw e4 ?_;rintro z ns H5 ⟨_,_,⟨_,_,rfl,rfl,rfl⟩,rfl,rfl⟩ lz D5 ez nz;refine#[z,.mk 3 [2] [t',.mk 1 [1] []],rfl,D4.trans D5,nz,?_,?_,.all b4]
   ·rw[ez];simp[jR,xX]
   ·simp[jR,xX];lia
  ·exact#[l',t',rfl,D4,nl',e4,(),sh4]
 rintro _ H6 ⟨l2,t2,rfl,D6,nl2,e6,bl2,sh6⟩;have kp2:Kp K st (λH=>H l2=some (.lst ((jR t2).map V.int))):=λ_ _ d i=>d.keep _ _ nl2 i;dsimp only[Vo,XQ];refine(vP.cat kp2 (vP.cat (m:=60) kp2 (.lit [2,0,2,1,1] λH Q h=>#[u5,h]) (.var (o:=l2) (λH Q h=>#[-1,h]) bl2 λH i=>#[i,nl2]) (by decide)) (.lit [1,0] λH Q h=>#[sm2,h]) (by decide)) _ _ D6.draw e6 ?_;rintro z ns H7 ⟨_,_,⟨_,_,rfl,rfl,rfl⟩,rfl,rfl⟩ lz D7 ez nz;refine q z 1 t2 H7 sh6 (D6.trans D7) nz ?_;rw[ez,Hi]
noncomputable def Zw (rs:vX)(a:Int):Int:=if 0<=a then(match DM rs (some a.toNat)with|some l=>(l:Int)|none=> -1)else-1
inductive Bw (vs:List V) (H:Hp) (Q:VK) (E:XK):Prop
 |mk (r:i4) (rs:vX) (a:Int) (h0:vs=[.ref r,.int a]) (h1:qU H r (JZ rs)) (h2:ON rs) (h3:rs.length<=1000) (h4:Q (.int (Zw rs a)) H):Bw vs H Q E
theorem Up (T:Gk K mg)(F:qT K "_law_goal" "_law_goal" GL f fd):vO P w K mg base 1 f fd ["_law_rows_here","_law_at"] Bw:=by
 exists FH;obtain⟨r,rs,a,rfl,⟨rv,er,pr⟩,jo,hl,q⟩:=h;exists _,(zC (qS yY rfl (Aj rfl T.n_range (zA (yK jF (xK xA rfl T.n_len kO (zA (pv 0) zB)) zI) zB)) (zY 2 FH.nd) (zC (xD (PW.pt (qY (zX Aw (pv 1) zI (yG _)) (kW (zX HL (pv 1) (xK xA rfl T.n_len kO (zA (pv 0) zB)) (yG _))))) (zL (zT (Kn Gn zI))) yD)
   (zC (xD (zX Gf (yZ xL (yZ jB (pv 0) (pv 1) (λ_ _=>rfl)) zI (λ_ _=>rfl)) zI (yG _)) (zL (zT (pv 1))) yD)
   (zL (yP 1 FH.nd (yZ xL (yZ jB (pv 0) (pv 1) (λ_ _=>rfl)) zI (λ_ _=>rfl)))))))
   (zL (zT (Kn Gn zI))))
 have ll:rv.length=rs.length:=by
  rw[Paired.len pr];unfold JZ;rw[zG]
 by_cases c:0<=a/\a.toNat<rs.length
 ·obtain⟨c0,c1⟩:=c;have eg: ∀{o:i5 Nat},ME rs a.toNat=o->Zw rs a=(match o with|some l=>(l:Int)|none=> -1):=λe=>by
   unfold Zw;rw[zQ c0];have:DM rs (some a.toNat)=ME rs a.toNat:=zQ c1;rw[this,e]
  refine#[-1,r,-1,.inl (.of er),_,-1,rfl,-1,(),(),AN (λi U' H'=>H'=H/\(∃v2,U'=[some (.ref r),some (.int (its rs i a.toNat:Int)),v2])/\its rs i a.toNat<rs.length/\ ∀j,j<i->OL rs (its rs j a.toNat)) #[rfl,#[_,by show[_,some (V.int a),_]=_;rw[show((its rs 0 a.toNat:Nat):Int)=a from jZ c0]],c1,λj hj=>absurd hj (Bj _)] ?_ ?_]
  ·rintro i U' H' hi ⟨rfl,⟨v2,rfl⟩,o5,hj⟩;have hr:its rs i a.toNat<rv.length:=()
   refine#[-1,_,-1,rfl,-1,?_];rw[show decide ((its rs i a.toNat:Int)<0)=false from zR ()];refine jE #[-2,r,-1,.inl (.of er),_,-1,rfl,-1,?_];rw[show decide ((rv.length:Int)<=(its rs i a.toNat:Int))=false from zR ()];have ep:rs[its rs i a.toNat]? =some rs[its rs i a.toNat]:=zF o5;obtain⟨t,ev,et⟩:=Paired.get pr _ _ _ (zF hr) (by unfold JZ;rw[zW,ep];rfl);generalize rs[its rs i a.toNat]=x at ep et;obtain⟨op,n⟩:=x;have av:IF rv (its rs i a.toNat:Int)=some (.ref t):=kK (by rw[zF hr,ev]);refine jE #[-2,r,_,_,-1,rfl,.of er,av,t,_,_,-1,rfl,.of et,rfl,rfl,-1,?_]
   by_cases c4:op=4
   ·subst c4;have jm:OL rs (its rs i a.toNat):=#[n,ep];rw[show decide (V.int (4:Int)=V.int 4)=true from zP rfl];refine jE #[-2,r,_,_,-1,rfl,.of er,av,t,_,_,-1,rfl,.of et,rfl,rfl,#[some (.int (0+(i:Int))),?_],QN jo jm,λj hj'=>?_]
    ·rw[<-QM jo ep];rfl
    ·by_cases z:j<i
     ·exact hj j z
     ·have:j=i:=()
      rw[this];exact jm
   ·rw[show decide (V.int op=V.int 4)=false from zR λz=>c4 (by injection z)];have nj: ¬OL rs (its rs i a.toNat):=fun⟨m,e⟩=>by rw[ep]at e;injection e with e;injection e with e _;exact c4 e
    refine jI #[-1,?_];have e:=eg ((Ka () nj).trans (zQ o5));rw[e]at q;exact q
  ·rintro U' H' ⟨rfl,⟨v2,rfl⟩,o5,hj⟩;refine#[-1,?_];rw[eg (Ji jo (λj hj'=>hj j ()) ())]at q;exact q
 ·have eg:Zw rs a= -1:=by
   unfold Zw
   by_cases z:0<=a
   ·rw[zQ z];have:DM rs (some a.toNat)=none:=zN λy=>c #[z,y];rw[this]
   ·rw[zN z]
  rw[eg]at q;refine#[-1,r,-1,.inl (.of er),_,-1,rfl,-1,(),(),AN (λi U' H'=>H'=H/\i=0/\ ∃v2,U'=[some (.ref r),some (.int a),v2]) #[rfl,rfl,-1] ?_ ?_]
  ·rintro i U' H' hi ⟨rfl,rfl,v2,rfl⟩;refine#[-1,_,-1,rfl,-1,?_]
   by_cases z:a<0
   ·rw[zP z];exact jI #[-1,q]
   ·rw[zR z];refine jE #[-2,r,-1,.inl (.of er),_,-1,rfl,-1,?_];rw[show decide ((rv.length:Int)<=a)=true from zP ()];exact jI #[-1,q]
  ·rintro U' H' ⟨_,z,_⟩;exact absurd z ()
noncomputable def LN (a:Int):i5 Nat:=if 0<=a then some a.toNat else none
theorem Kd (rs:vX)(a:Int):Zw rs a=match DM rs (LN a)with|some l=>(l:Int)|none=> -1:=by
 unfold Zw LN
 by_cases z:0<=a
 ·rw[zQ z,zQ z]<;>cases DM rs (some a.toNat)<;>rfl
 ·rw[zN z,zN z];rfl
noncomputable def Eu (rs:vX)(a:Int):Int×Int:=match DM rs (LN a)with
 |some l=>(rs[l]?).getD (-1,0)
 |none=>(-1,0)
inductive DY (vs:List V) (H:Hp) (Q:VK) (E:XK):Prop
 |mk (r:i4) (rs:vX) (a b:Int) (h0:vs=[.ref r,.int a,.int b]) (h1:qU H r (JZ rs)) (h2:ON rs) (h3:rs.length<=1000) (h4:Q (.bl (xS rs (LN a) (LN b))) H):DY vs H Q E
theorem Ul (T:Gk K mg)(F:qT K "_law_meet" "_law_meet" GK f fd)(Cb:jY P w K mg base 1 "_law_goal" ["_law_rows_here","_law_at"] Bw):vO P w K mg base 2 f fd ["_law_rows_here","_law_one","_law_other"] DY:=by
 exists NT;obtain⟨r,rs,a,b,rfl,g,jo,hl,q⟩:=h;exists _,(zL (zT (An (uW HL (zH Cb hr rfl (zA (pv 0) (zA (pv 1) zB)) zV) zI (yG _)) (BE (uW jM (zH Cb hr rfl (zA (pv 0) (zA (pv 1) zB)) zV) (zH Cb hr rfl (zA (pv 0) (zA (pv 2) zB)) zV) (yG _))))))
 refine#[-2,r,rs,a,rfl,g,jo,hl,_,-1,rfl,-1,?_];unfold xS at q;rw[Kd];cases ea:DM rs (LN a)with
 |none=>
  rw[ea]at q;exact jE q
 |some l=>
  rw[ea]at q;rw[show decide ((0:Int)<=(match some l with|some l=>(l:Int)|none=> -1))=true from zP (Int.natCast_nonneg l)];refine jI #[-2,r,rs,a,rfl,g,jo,hl,-2,r,rs,b,rfl,g,jo,hl,rfl,?_];rw[Kd,Kd,ea];have e:decide (V.int (match some l with|some l=>(l:Int)|none=> -1)=V.int (match DM rs (LN b)with|some l=>(l:Int)|none=> -1))=decide (some l=DM rs (LN b)):=by
   apply decide_eq_decide.mpr;cases DM rs (LN b)with
   |none=>exact#[λz=>by injection z with z;exact absurd z (by show ¬(l:Int)= -1;lia),λz=>nomatch z]
   |some m=>exact#[λz=>by injection z with z;exact qZ some (Int.ofNat.inj z),λz=>by injection z with z;rw[z]]
  rw[e];exact q
inductive EA (vs:List V) (H:Hp) (Q:VK) (E:XK):Prop
 |mk (r:i4) (rs:vX) (a:Int) (h0:vs=[.ref r,.int a]) (h1:qU H r (JZ rs)) (h2:ON rs) (h3:rs.length<=1000) (h4: ∀p H',xJ H H'->H' p=some (.tup [.int (Eu rs a).1,.int (Eu rs a).2])->Q (.ref p) H'):EA vs H Q E
theorem Wb (T:Gk K mg)(F:qT K "_law_row" "_law_row" Il f fd)(Cb:jY P w K mg base 1 "_law_goal" ["_law_rows_here","_law_at"] Bw):vO P w K mg base 2 f fd ["_law_rows_here","_law_at"] EA:=by
 exists Km;obtain⟨r,rs,a,rfl,g,jo,hl,q⟩:=h;exists _,(zC (yP 2 Km.nd (zH Cb hr rfl (zA (pv 0) (zA (pv 1) zB)) zV))
   (zC (xD (zX Aw (pv 2) zI (yG _)) (zL (zT (xO (zA (Kn Gn zI) (zA zI zB))))) yD)
   (zL (zT (yZ jB (pv 0) (pv 2) (λ_ _=>rfl))))))
 refine#[-2,r,rs,a,rfl,g,jo,hl,?_];refine#[-1,_,-1,rfl,-1,?_];rw[Kd];unfold Eu at q;cases ea:DM rs (LN a)with
 |none=>
  rw[ea]at q;exact jI #[-1,sm2,λp hp=>q p _ (zM hp _) upd_same]
 |some l=>
  rw[ea]at q;have o5:=LA ea;obtain⟨rv,er,pr⟩:=g;have ll:rv.length=rs.length:=by
   rw[Paired.len pr];unfold JZ;rw[zG]
  have ep:rs[l]? =some rs[l]:=zF o5;obtain⟨t,ev,et⟩:=Paired.get pr _ _ _ (zF (show l<rv.length by lia)) (by unfold JZ;rw[zW,ep];rfl);dsimp only at q;rw[ep]at q;rw[show decide (((match some l with|some l=>(l:Int)|none=> -1):Int)<(0:Int))=false from zR (by show ¬(l:Int)<0;lia)];refine jE #[-2,r,_,_,-1,rfl,.of er,kK (by rw[zF (show l<rv.length by lia),ev]),q t H (xJ.refl H) et]
inductive Hk (vs:List V) (H:Hp) (Q:VK) (E:XK):Prop
 |mk (c:i4) (cs:List Int) (rs:vX) (n:Nat) (h0:vs=[.ref c]) (h1:H c=some (.lst (cs.map V.int))) (h2:cs[0]? =some (n:Int)) (h3:n<=100) (h4:cs.length=1+3*n+2*rs.length) (h5:(∀(i:Nat) (x:Int×Int),rs[i]? =some x->cs[1+3*n+2*i]? =some x.1/\cs[1+3*n+2*i+1]? =some x.2)) (h6:rs.length<=1000) (h7: ∀l H',xJ H H'->qU H' l (JZ rs)->Q (.ref l) H'):Hk vs H Q E
theorem Uh (T:Gk K mg)(F:qT K "_law_rows" "_law_rows" EJ f fd):vO P w K mg base 1 f fd ["_law_code"] Hk:=by
 exists IS;obtain⟨c,cs,rs,n,rfl,hc,e0,hn,hl,hrs,hr1,q⟩:=h;exists _,(zC (yP 1 IS.nd (yK jF zI (yK AC zI (yZ jB (pv 0) zI (λ_ _=>rfl)))))
   (zL (zT (vB (own:=["_law_k"]) (ys:=["_law_code"]) rfl (Hw rfl T.n_range (zA (pv 1) (zA (xK xA rfl T.n_len kO (zA (pv 0) zB)) (zA zI zB)))) (kJ (sc:=zS EJ) rfl (by decide+kernel)) (.cons (j:=0) rfl .nil) (λ_ _ _ _ _=>(zY 0 (show List.Nodup [("_law_k":Str),("_law_code":Str)]from(by decide+kernel)))) (λ_ _ _ _ _=>wN) (λ_ _ _ _ _=>(xO (zA (yZ (Jo K rfl) (pv 1) (pv 0) (λ_ _=>rfl)) (zA (yZ (Jo K rfl) (pv 1) (yK jF (pv 0) zI) (λ_ _=>rfl)) zB))))))))
 have hz:(cs.map V.int).length =cs.length:=zG ..;have a0:IF (cs.map V.int) 0=some (.int (n:Int)):=kK (j:=0) (by rw[zW,e0];rfl);refine#[-1,c,_,_,-1,rfl,kN.of hc,a0,_,-1,rfl,.inl #[by decide,by decide],_,-1,rfl,?_];refine#[-2,c,-1,.inl (kN.of hc),_,_,_,rs.length,rfl,#[(),(),(),()],.inl rfl,?_,λp hp=>?_]
 ·rw[hz,hl];unfold Builtin.Range.rangeSize
  simp
  lia
 have hcp:c≠p:=yQ hc hp;refine Fm (λi U' H'=> ∃ys,H' p=some (.lst ys)/\i<=rs.length/\xJ H H'/\Paired (BS H') ys ((JZ rs).take i)/\ ∃x,U'=[x,some (.ref c)]) #[[],upd_same,xE _,zM hp _,.nil,-1] ?_ ?_
 ·rintro i U' H' hi ⟨ys,hy,_,sm,pr,x,rfl⟩;obtain⟨z1,z2⟩:=hrs i rs[i] (zF hi);have er:rs[i]? =some rs[i]:=zF hi;generalize rs[i]=y at *
  have ea:(1:Int)+3*(n:Int)+(i:Int)*2=((1+3*n+2*i:Nat):Int):=()
  have eb:(1:Int)+3*(n:Int)+(i:Int)*2+1=((1+3*n+2*i+1:Nat):Int):=()
  have A1:IF (cs.map V.int) ((1:Int)+3*(n:Int)+(i:Int)*2)=some (.int y.1):=by rw[ea];exact kK (by rw[zW,z1];rfl)
  have A2:IF (cs.map V.int) ((1:Int)+3*(n:Int)+(i:Int)*2+1)=some (.int y.2):=by rw[eb];exact kK (by rw[zW,z2];rfl)
  dsimp only[wI,QL];have hc':=sm _ _ hc;refine jI #[-2,c,_,_,-1,rfl,kN.of hc',A1,-2,_,-1,rfl,c,_,_,-1,rfl,kN.of hc',A2,sm2,λt ht=>?_];have s1:=zM ht (.tup [.int y.1,.int y.2]);have hy':=s1 _ _ hy;have yl:ys.length<=1000:=by
   have e1:=Paired.len pr;have e2:=List.length_take_le i (JZ rs);lia
  refine#[ys,hy',xR yl (by decide),CW.next hi #[_,upd_same,hi,(sm.trans s1).fresh hp,?_,-1]];rw[vH,show(JZ rs)[i]? =some [y.1,y.2]by unfold JZ;rw[zW,er];rfl];refine Paired.append (Paired.imp (λ_ _ x=>(x.same s1).upd hy') pr) (.cons ?_ .nil);exact BS.upd #[t,rfl,upd_same] hy'
 ·rintro U' H' ⟨ys,hy,_,sm,pr,_⟩;rw[xW (by unfold JZ;rw[zG];exact zO _)]at pr;exact q p H' sm #[ys,hy,pr]
def OH:Nat->Tr->Prop
 |0,_=>False
 |d+1,.mk k own ps=>(k=0-> ∃n,own=[n]/\n.natAbs<=1000)/\(8<=k->k<=14->ps.length=2)/\(∀p∈ps,OH d p)/\(∀v,kM (.mk k own ps)=some v->v.natAbs<=1000000)/\(8<=k->k<=10-> ∀a b,Gm ps=[some a,some b]->(kM (.mk k own ps)).isSome =true)
theorem MM: ∀{d:Nat} {t:Tr} {v:Int},OH d t->kM t=some v->v.natAbs<=1000000
 |0,_,_,h,_=>h.elim
 |d+1,.mk k own ps,v,h,e=>h.2.2.2.1 v e
inductive CP (d:Nat) (vs:List V) (H:Hp) (Q:VK) (E:XK):Prop
 |mk (v:V) (t:Tr) (h0:vs=[v]) (h1:Kg H d v t) (h2:OH d t) (h3: ∀H',xJ H H'->Q (oZ (kM t)) H'):CP d vs H Q E
theorem Nz {c d:i8}{X Y Z:Prop}(hz:(if d=true then X else Y)->Z)(h:c=true->d=true->X)(h':c=false\/d=false->Y):if c=true then Z else(if false=true then X else Y):=by
 cases c with
 |false=>exact jE (jE (h' (.inl rfl)))
 |true=>
  refine jI (hz ?_);cases d with
  |true=>exact jI (h rfl rfl)
  |false=>exact jE (h' (.inr rfl))
theorem Uc (d:Nat)(T:Gk K mg)(F:qT K "_law_worth" "_law_worth" DR f fd)(Cs:jY P w K mg base (1+d) "_law_worth" ["_law_node"] (CP d)):vO P w K mg base (1+d+1) f fd ["_law_node"] (CP (d+1)):=by
 exists uD;obtain⟨v,⟨k,own,ps⟩,rfl,⟨tn,pl,o,pq,us,rfl,e1,e2,e3,pr⟩,⟨s0,s2,sp,sv,sn⟩,q⟩:=h;exists _,(zC (wS (pv 0) (qO rfl (yF (zY 1 uD.nd) (yF (zY 2 uD.nd) (yF (zY 3 uD.nd) (yF (zY 4 uD.nd) jS))))))
   (zC (xD (zX jM (pv 1) zI (yG _)) (zL (zT (yZ xL (pv 3) zI (λ_ _=>rfl)))) yD)
   (zC (xD (PW.pt (qY (zX Aw (pv 1) zI (yG _)) (kW (zX Kr (pv 1) zI (yG _))))) (zL (zT qH)) yD)
   (zC (yP 5 uD.nd (zH Cs hr rfl (zA (yZ xL (pv 4) zI (λ_ _=>rfl)) zB) zV))
   (zC (yP 6 uD.nd (zH Cs hr rfl (zA (yZ xL (pv 4) zI (λ_ _=>rfl)) zB) zV))
   (zC (xD (PW.pt (qY (zX FV (pv 5) qH (yG _)) (qY (zX FV (pv 6) qH (yG _)) (kW (PW.pt (JY (zX Ff (pv 1) (xO (xU (.int (.int .nil)))) rfl) (Hs (zX jM (pv 6) zI (yG _))))))))) (zL (zT qH)) yD)
   (zC (xD (zX Aw (pv 1) zI (yG _)) (zL (zT (yZ jB (xF (zA (yK jF (pv 5) (pv 6)) (zA (yK uM (pv 5) (pv 6)) (zA (yK AC (pv 5) (pv 6)) zB)))) (yK uM (pv 1) zI) (λ_ _=>rfl)))) yD)
   (zC (xD (zX Aw (pv 1) zI (yG _)) (zL (zT (yZ jB (xF (zA (yK LK (pv 5) (pv 6)) (zA (yK uM (pv 5) (yK AC (yK LK (pv 5) (pv 6)) (pv 6))) zB))) (yK uM (pv 1) zI) (λ_ _=>rfl)))) yD)
   (zL (zT (Fe UN rfl T.n_int Sa (zA (yZ jB (xF (zA (uW Aw (pv 5) (pv 6) (yG _)) (zA (uW jM (pv 5) (pv 6) (yG _)) zB))) (yK uM (pv 1) zI) (λ_ _=>rfl)) zB))))))))))))
 refine#[-1,tn,-1,.of e1,rfl,_,-1,_,-1,_,-1,_,-1,rfl,?_];refine#[-1,rfl,-1,jK (λc=>?_) (λc=>?_)]
 ·have ck:k=0:=by have:=yB c;injection this
  obtain⟨n,rfl,_⟩:=s0 ck;have:kM (.mk k [n] ps)=some n:=by rw[kM,zQ ck];rfl
  rw[this]at q;exact#[-1,o,_,_,-1,rfl,.of e2,rfl,q H (xJ.refl H)]
 have k0:k≠0:=λz=>by rw[z]at c;exact c (zP rfl)
 refine#[-1,_,-1,rfl,-1,?_]
 by_cases c8:k<8
 ·rw[zP c8];have:kM (.mk k own ps)=none:=by rw[kM,zN k0,zQ (.inl c8)]
  rw[this]at q;exact jI (q H (xJ.refl H))
 rw[zR c8];refine jE #[-1,_,-1,rfl,-1,?_]
 by_cases c14:(14:Int)<k
 ·rw[zP c14];have:kM (.mk k own ps)=none:=by rw[kM,zN k0,zQ (.inr c14)]
  rw[this]at q;exact jI (q H (xJ.refl H))
 rw[zR c14];have ev:kM (.mk k own ps)=match Gm ps with|[some a,some b]=>rk k a b|_=>none:=by rw[kM,zN k0,zN (λz=>z.elim c8 c14)]<;>rfl
 obtain⟨x0,x1,rfl⟩: ∃x0 x1,ps=[x0,x1]:=by
  have:=s2 () ()
  match ps,this with
  |[x0,x1],_=>exact#[x0,x1,rfl]
 cases pr with
 |cons r0 pr=>
 cases pr with
 |cons r1 pr=>
 cases pr;rename_i u0 u1;have es:Gm [x0,x1]=[kM x0,kM x1]:=by simp[Gm]
 rw[es]at ev sn;refine jE #[-1,pq,_,_,-1,rfl,.of e3,rfl,u0,x0,rfl,r0,sp x0 (by simp),λH1 g1=>?_];refine#[-1,pq,_,_,-1,rfl,.of (g1 _ _ e3),rfl,u1,x1,rfl,r1.tups (λb xs e=>g1 _ _ e),sp x1 (by simp),λH2 g2=>?_];have g:=g1.trans g2;refine#[-1,rfl,-1,?_];cases va:kM x0 with
 |none=>
  rw[va]at ev;rw[ev]at q;exact jI (q H2 g)
 |some a=>
 rw[va]at ev sn;refine jE #[-1,rfl,-1,?_];cases vb:kM x1 with
 |none=>
  rw[vb]at ev;rw[ev]at q;exact jI (q H2 g)
 |some b=>
 rw[vb]at ev sn;have ev:kM (.mk k own [x0,x1])=rk k a b:=ev;refine jE #[-1,sm2,λt3 ht3=>#[t3,-1,.inr (.of upd_same),rfl,rfl,-1,?_]];have g3:=g.trans (zM ht3 (.tup [.int 11,.int 12]));generalize upd H2 t3 (.tup [.int 11,.int 12])=H3 at g3;have hk:k=8\/k=9\/k=10\/k=11\/k=12\/k=13\/k=14:=()
 refine Nz (λz=>#[-1,rfl,-1,z]) (λh1 h2=>?_) (λhno=>?_)
 ·have b0:b=0:=by have:=yB h2;injection this
  have:rk k a b=none:=by
   rcases hk with rfl|rfl|rfl|rfl|rfl|rfl|rfl
   ·exact absurd h1 (by decide)
   ·exact absurd h1 (by decide)
   ·exact absurd h1 (by decide)
   ·unfold rk;rw[b0];rfl
   ·unfold rk;rw[b0];rfl
   ·exact absurd h1 (by decide)
   ·exact absurd h1 (by decide)
  rw[ev,this]at q;exact q H3 g3
 have A:=MM (sp x0 (by simp)) va;have B:=MM (sp x1 (by simp)) vb;refine#[-1,_,-1,rfl,-1,?_];have few: ∀v:Int,(if HE v then some v else none:i5 Int).isSome =true->(if HE v then some v else none:i5 Int)=some v:=λv h=>by
  by_cases z:HE v
  ·exact zQ z
  ·rw[zN z]at h;cases h
 by_cases c11:k<11
 ·rw[zP c11];have sn:=sn () ();rw[ev]at sn;refine jI #[-2,_,-1,rfl,-2,_,-1,rfl,-2,_,-1,rfl,.inl #[(),()],sm3,λl hl=>#[-1,_,-1,rfl,l,_,_,.int (match k with|8=>a+b|9=>a-b|_=>a*b),rfl,rfl,.of upd_same,?_,?_]]
  ·have:k=8\/k=9\/k=10:=()
   rcases this with rfl|rfl|rfl<;>rfl
  ·have e:rk k a b=some (match k with|8=>a+b|9=>a-b|_=>a*b):=by
    have sn:=sn a b rfl;have:k=8\/k=9\/k=10:=()
    rcases this with rfl|rfl|rfl
    ·exact few _ sn
    ·exact few _ sn
    ·exact few _ sn
   rw[ev,e]at q;exact q _ (g3.trans (zM hl _))
 rw[zR c11];refine jE #[-1,_,-1,rfl,-1,?_]
 by_cases c13:k<13
 ·rw[zP c13];have hk:k=11\/k=12:=()
  have b0:b≠0:=λz=>by
   rcases hno with h|h
   ·rcases hk with rfl|rfl<;>exact absurd h (by decide)
   ·rw[z]at h;exact absurd h (by decide)
  have cd:ZG a b:=#[b0,xR B (by decide)];refine jI #[-2,_,-1,rfl,cd,-3,_,-1,rfl,cd,-1,_,-1,rfl,.inr #[(),()],_,-1,rfl,sm2,λl hl=>#[-1,_,-1,rfl,l,_,_,.int (if k=11 then a.fdiv b else a.fmod b),rfl,rfl,.of upd_same,?_,?_]]
  ·rcases hk with rfl|rfl
   ·rfl
   ·have:a.fmod b=a-a.fdiv b*b:=by rw[Int.fmod_def,Int.mul_comm]
    rw[zN (by decide),this];rfl
  ·have e:rk k a b=some (if k=11 then a.fdiv b else a.fmod b):=by
    unfold rk
    rcases hk with rfl|rfl
    ·simp[b0]
    ·simp[b0]
   rw[ev,e]at q;exact q _ (g3.trans (zM hl _))
 rw[zR c13];have hk:k=13\/k=14:=()
 refine jE #[-2,_,-1,rfl,-2,rfl,sm2,λl hl=>#[-1,_,-1,rfl,l,_,_,.bl (if k=13 then decide (a<b)else decide (V.int a=V.int b)),rfl,rfl,.of upd_same,?_,.inr #[-1,?_]]]
 ·rcases hk with rfl|rfl<;>rfl
 ·have e:rk k a b=some (if(if k=13 then decide (a<b)else decide (V.int a=V.int b))=true then 1 else 0):=by
   rcases hk with rfl|rfl
   ·show some (if a<b then 1 else 0)=_
    by_cases z:a<b
    ·simp[z]
    ·simp[z]
   ·show some (if a=b then 1 else 0)=_
    by_cases z:a=b
    ·simp[z]
    ·have:decide (V.int a=V.int b)=false:=zR λy=>z (by injection y);show some (if a=b then 1 else 0)=some (if decide (V.int a=V.int b)=true then 1 else 0);rw[zN z,this];rfl
  rw[ev,e]at q;exact q _ (g3.trans (zM hl _))
theorem Vd (h:v.natAbs<=1000):Vb v:=by
 unfold Vb;lia
noncomputable abbrev RU (pm:Int):Ev:=[(0,2),(pm,pm)]
theorem Nn: ∀{ps:a6 Tr},(∀p∈ps,wW hs b d p)->qV hs b d ps
 |[],_=>by unfold qV;trivial
 |a::r,h=>by
  unfold qV;exact#[h a (yA ..),Nn λp m=>h p (yC _ m)]
theorem Di (k0:0<=k)(k1:k<=19)(of:Bn hs b k own)(hl:ps.length=(Fk hs k own).toNat)(hv: ∀v∈own,v.natAbs<=1000)(hp: ∀p∈ps,wW hs b d p):wW hs b (d+1) (.mk k own ps):=by
 unfold wW;exact#[k0,k1,of,hl,λv m=>Vd (hv v m),Nn hp]
theorem Jt (h:a.natAbs<=1000):wW hs b (d+1) (.mk 0 [a] []):=
 Di (by decide) (by decide) (.inl #[rfl,a,rfl]) rfl (λv m=>by rw[List.mem_singleton.mp m];exact h) λp m=>(nomatch m)
theorem KR (h0:0<=a)(h1:a<=1):wW hs 2 (d+1) (.mk 1 [a] []):=
 Di (by decide) (by decide) (.inr (.inl #[.inl rfl,a,rfl,h0,()])) rfl (λv m=>by rw[List.mem_singleton.mp m];lia) λp m=>(nomatch m)
theorem VU (h:wJ t):wW (RU 1) 2 (d+2) t:=by
 cases h with
 |g0=>exact KR (by decide) (by decide)
 |g1=>exact KR (by decide) (by decide)
 |num a h0 h1=>exact Jt ()
 |two k a k0 k1 h0 h1=>
  refine Di () () (.inr (.inr (.inr (.inr (.inr #[.inr (),rfl]))))) ?_ (λv m=>(nomatch m)) λp m=>?_
  ·have:k=8\/k=9\/k=10\/k=11\/k=12\/k=13\/k=14:=()
   rcases this with rfl|rfl|rfl|rfl|rfl|rfl|rfl<;>rfl
  ·rcases List.mem_cons.mp m with rfl|m
   ·exact Jt ()
   ·rw[List.mem_singleton.mp m];exact Jt (by decide)
 |sub a h0 h1=>
  refine Di (by decide) (by decide) (.inr (.inr (.inr (.inr (.inr #[.inr (by decide),rfl]))))) rfl (λv m=>(nomatch m)) λp m=>?_
  rcases List.mem_cons.mp m with rfl|m
  ·exact KR (by decide) (by decide)
  ·rw[List.mem_singleton.mp m];exact Jt ()
 |call=>
  refine Di (by decide) (by decide) (.inr (.inr (.inr (.inr (.inl #[rfl,1,rfl,by decide,by decide]))))) rfl (λv m=>by rw[List.mem_singleton.mp m];decide) λp m=>?_;rw[List.mem_singleton.mp m];exact KR (by decide) (by decide)
section
variable {rs:vX}{L:Int->i5 (Nat×Nat)}
theorem Ov: ∀k,its rs (k+1) i=its rs k (Sy rs i)
 |0=>rfl
 |k+1=>qZ (Sy rs) (Ov k)
theorem BC (e:rs[i]? =some (op,n))(h:op≠4):DM rs (some i)=some i:=by
 have hl:=(List.getElem?_eq_some_iff.mp e).1;show(if i<rs.length then ME rs i else none)=_;rw[zQ hl,Ka (k:=0) (xE _) (fun⟨m,z⟩=>by rw[show its rs 0 i=i from rfl,e]at z;cases z;exact h rfl)];exact zQ hl
theorem IV (jo:ON rs){i s:Nat}(e:rs[i]? =some (4,(s:Int))):DM rs (some i)=DM rs (some s):=by
 have hl:=(List.getElem?_eq_some_iff.mp e).1;have hs:=jo _ _ e;have es:Sy rs i=s:=Int.ofNat.inj (QM jo e);show(if i<rs.length then ME rs i else none)=if s<rs.length then ME rs s else none;rw[zQ hl,zQ ()]
 by_cases c: ∀j,j<rs.length->OL rs (its rs j i)
 ·rw[Ji jo c (),Ji jo (λj hj=>?_) ()]
  by_cases z:j+1<rs.length
  ·have:=c (j+1) z
   rwa [Ov,es]at this
  ·have:=zCq jo c ()
   rwa [show rs.length=j+1 by lia,Ov,es]at this
 ·obtain⟨j,c⟩:=Classical.not_forall.mp c;obtain⟨hj,nj⟩:=Classical.not_imp.mp c;cases j with
  |zero=>exact absurd #[_,e] nj
  |succ j=>
   rw[Ka () nj];rw[Ov,es]at nj ⊢;rw[Ka () nj]
theorem El (h:(DM rs a).isSome =true)(e:DM rs a=DM rs b):xS rs a b=true:=by
 unfold xS;rw[h,zP e];rfl
theorem Hd (e:rs[i]? =some (op,n))(h:op≠4):qP rs (some i) op n=some (i+1):=by
 unfold qP;rw[BC e h];exact zQ e
def OG (rs:vX)(b:Nat)(g:a6 (a6 Int)):Prop:= ∀i x,g[i]? =some x->(JZ rs)[b+i]? =some x
theorem OG.left (s:OG rs b (g++h)):OG rs b g:=λi x e=>s i x (by rw[AT (List.getElem?_eq_some_iff.mp e).1];exact e)
theorem OG.right (s:OG rs b (g++h))(e:g.length=n):OG rs (b+n) h:=λi x z=>by
 have:=s (n+i) x (by rw[vI (),<-e,Bt];exact z)
 rwa [<-HR]at this
theorem OG.head (s:OG rs b ([op,n]::g)):rs[b]? =some (op,n):=by
 have:=s 0 _ rfl;unfold JZ at this;rw[zW,Nat.add_zero]at this;obtain⟨⟨x,y⟩,e,z⟩:=Option.map_eq_some_iff.mp this;rw[e];injection z with z1 z
 injection z with z2 _
 rw[<-z1,<-z2]
theorem OG.tail (s:OG rs b (x::g)):OG rs (b+1) g:=OG.right (g:=[x]) s rfl
def UP (L:Int->i5 (Nat×Nat))(ls:a6 Ln):Prop:= ∀x∈ls,L x.1=some (x.2.1.toNat,x.2.2.toNat)
theorem UP.left (h:UP L (a++b)):UP L a:=λx m=>h x (uC _ m)
theorem UP.right (h:UP L (a++b)):UP L b:=λx m=>h x (jA _ m)
def Rgt (rs:vX)(L:Int->i5 (Nat×Nat))(b:Nat)(nd:Nd):Prop:=CV rs L nd=true/\xT L nd=(b,b+rl (bare nd))/\DM rs (some b)=some b
theorem NZ (ln:UP L (QF b (.mk k p own ps)))(hs:DM rs (some b)=some b)(ha:(wR rs L ps).all id=true)(hp:QE rs (b,b+rl (.mk k own (zU ps))) k own (ps.map (xT L))=true):Rgt rs L b (.mk k p own ps):=by
 have e:L (p:Int)=some (b,b+rl (.mk k own (zU ps))):=ln _ (yA ..);refine#[?_,?_,hs]
 ·rw[CV,e];dsimp only;rw[ha,hp]
  simp
 ·show(L (p:Int)).getD (0,0)=_;rw[e];rfl
theorem GP: ∀{ps:a6 Nd},(∀x∈ps,CV rs L x=true)->(wR rs L ps).all id=true
 |[],_=>by rw[wR];rfl
 |a::r,h=>by
  rw[wR,kH,GP λx m=>h x (yC _ m),h a (yA ..)];rfl
theorem nx3 (m i b:Nat)(t:Tr):KL 3 m i b t=b+rl t+1:=by unfold KL;rw[zQ (.inl rfl)]
theorem nx5 (m i b:Nat)(t:Tr):KL 5 m i b t=b+rl t+1:=by unfold KL;rw[zQ (.inr rfl)]
theorem zHe (m b:Nat)(t:Tr):KL 4 m 0 b t=b+rl t+(m+2):=by unfold KL;rw[zN (by decide),zQ rfl,zQ rfl]
theorem zDd (m i b:Nat)(t:Tr):KL 4 m (i+1) b t=b+rl t+1:=by unfold KL;rw[zN (by decide),zQ rfl,zN ()]
theorem nxk (h3:k≠3)(h4:k≠4)(h5:k≠5)(m i b:Nat)(t:Tr):KL k m i b t=b+rl t:=by unfold KL;rw[zN (),zN h4];rfl
theorem Yo (k:Int)(own:a6 Int)(h4:k≠4): ∃op n,Ek k own=[op,n]/\op≠4:=by
 unfold Ek;split
 ·exact#[_,-1,h4]
 split
 ·exact#[_,-1,by decide]
 split
 ·exact#[_,-1,by decide]
 ·exact#[_,-1,by decide]
theorem uX (a:Nd)(r:a6 Nd):zU (a::r)=bare a::zU r:=by rw[zU]
theorem Wu (k:Int)(p:Nat)(own:a6 Int)(ps:a6 Nd):HM (.mk k p own ps)=1+Gg ps:=by rw[HM]
theorem YC: ∀nd:Nd,0<HM nd
 | .mk k p own ps=>by rw[Wu];lia
theorem Wt: ∀{ps:a6 Nd} {x:Nd},x∈ps->HM x<=Gg ps
 |a::r,x,m=>by
  rw[Ad]
  rcases List.mem_cons.mp m with rfl|m
  ·lia
  ·have:=Wt m;lia
def MdI (rs:vX)(L:Int->i5 (Nat×Nat))(nd:Nd):Prop:= ∀b:Nat,KY (bare nd)->OG rs b (CO b (bare nd))->UP L (QF b nd)->(DM rs (some (b+rl (bare nd)))).isSome =true->Rgt rs L b nd
theorem mdS (jo:ON rs)(c3:k≠3)(c4:k≠4)(c5:k≠5): ∀(ps:a6 Nd) (m i b:Nat),(∀x∈ps,MdI rs L x)->Bv (zU ps)->OG rs b (KM b (zU ps))->UP L (Kb k m i b ps)->(DM rs (some (b+kA (zU ps)))).isSome =true->(∀x∈ps,CV rs L x=true)/\AB rs b (ps.map (xT L))=some (b+kA (zU ps))/\(ps≠[]->DM rs (some b)=some b)
 |[],m,i,b,_,_,_,_,_=>#[λx m=>(nomatch m),by unfold zU kA;rfl,λh=>absurd rfl h]
 |a::r,m,i,b,ih,gd,st,ln,en=>by
  unfold zU at gd st en ⊢;rw[kS]at en ⊢;rw[uN]at gd;rw[KM]at st;rw[Kb,nxk c3 c4 c5]at ln;rw[<-HR]at en ⊢;obtain⟨al,ow,hs⟩:=mdS jo c3 c4 c5 r m (i+1) (b+rl (bare a)) (λx z=>ih x (yC _ z)) gd.2 (st.right (wO _ _ gd.1)) ln.right en;have ra:=ih a (yA ..) b gd.1 st.left ln.left (by
   cases r with
   |nil=>
    unfold zU at en;unfold kA at en;exact en
   |cons c r=>rw[hs (by simp)];rfl)
  refine#[λx m=>?_,?_,λ_=>ra.2.2]
  ·rcases List.mem_cons.mp m with rfl|m
   ·exact ra.1
   ·exact al x m
  ·rw[yM,AB,ra.2.1,zQ (El (by rw[ra.2.2];rfl) rfl)];exact ow
theorem mdA (jo:ON rs): ∀(r:a6 Nd) (a:Nd) (m i s:Nat),(∀x∈a::r,MdI rs L x)->KY (bare a)->Bv (zU r)->OG rs s (CO s (bare a)++IE (s+rl (bare a)) false (zU r))->UP L (QF s a++Kb 3 m (i+1) (s+rl (bare a)+1) r)->(DM rs (some (s+rl (bare a)+kA (zU r)+(zU r).length))).isSome =true->Rgt rs L s a/\(∀x∈r,CV rs L x=true)/\UY rs ((a::r).map (xT L))=true/\(∃z,((a::r).map (xT L)).getLast? =some z/\z.2=s+rl (bare a)+kA (zU r)+(zU r).length)/\(DM rs (some (s+rl (bare a)+kA (zU r)+(zU r).length))).isSome =true
 |[],a,m,i,s,ih,gd,_,st,ln,en=>by
  have e1:s+rl (bare a)+kA (zU [])+(zU []).length =s+rl (bare a):=by unfold zU kA;rfl
  rw[e1]at en ⊢;have ra:=ih a (yA ..) s gd st.left ln.left en;refine#[ra,λx m=>(nomatch m),rfl,#[xT L a,rfl,by rw[ra.2.1]],en]
 |c::r,a,m,i,s,ih,gd,gs,st,ln,en=>by
  unfold zU at gs st en ⊢;rw[uN]at gs;rw[zK,kS]at en ⊢;have s1:=st.right (wO _ _ gd);rw[IE,zN (by decide)]at s1;have h3:=s1.head;have l2:=ln.right;rw[Kb,nx3]at l2;have ra:=ih a (yA ..) s gd st.left ln.left (by rw[BC h3 (by decide)];rfl);have e1:s+rl (bare a)+(rl (bare c)+kA (zU r))+((zU r).length +1)=s+rl (bare a)+1+rl (bare c)+kA (zU r)+(zU r).length:=()
  rw[e1]at en ⊢;obtain⟨rc,al,ch,⟨z,ez,e2⟩,_⟩:=mdA jo r c m (i+1) (s+rl (bare a)+1) (λx z=>ih x (yC _ z)) gs.1 gs.2 s1.tail l2 en;refine#[ra,λx m=>?_,?_,#[z,?_,e2],en]
  ·rcases List.mem_cons.mp m with rfl|m
   ·exact rc.1
   ·exact al x m
  ·show(xS rs (qP rs (some (xT L a).2) 3 0) (some (xT L c).1)&&UY rs ((c::r).map (xT L)))=true;rw[ch,ra.2.1,rc.2.1,Hd h3 (by decide),El (by rw[rc.2.2];rfl) rfl];rfl
  ·rw[yM,yM,Fw,<-yM];exact ez
theorem mdP (jo:ON rs): ∀(r:a6 Nd) (a:Nd) (m i s la e en b0:Nat),(∀x∈a::r,MdI rs L x)->KY (bare a)->Bv (zU r)->OG rs s (CO s (bare a)++Iv (s+rl (bare a)) la false (zU r))->OG rs en ((s::Iq (s+rl (bare a)) false (zU r)).map (λs:Nat=>[4,(s:Int)]))->UP L (QF s a++Kb 4 m (i+2) (s+rl (bare a)+1) r)->rs[la]? =some (4,(e:Int))->e=s+rl (bare a)+kA (zU r)+(zU r).length->(DM rs (some e)).isSome =true->(∀x∈a::r,CV rs L x=true)/\Ge rs (b0,e) en ((a::r).map (xT L))=true
 |[],a,m,i,s,la,e,en,b0,ih,gd,_,st,sj,ln,hla,he,hs=>by
  have e1:s+rl (bare a)+kA (zU [])+(zU []).length =s+rl (bare a):=by unfold zU kA;rfl
  rw[e1]at he;subst he;have ra:=ih a (yA ..) s gd st.left ln.left hs;have hj:=sj.head;refine#[λx m=>by rw[List.mem_singleton.mp m];exact ra.1,?_];show(xS rs (some en) (some (xT L a).1)&&(xS rs (some (xT L a).2) (some (s+rl (bare a)))&&true))=true;have ej:=IV jo hj;rw[ra.2.1,El (by rw[ej,ra.2.2];rfl) ej,El hs rfl];rfl
 |c::r,a,m,i,s,la,e,en,b0,ih,gd,gs,st,sj,ln,hla,he,hs=>by
  unfold zU at gs st he sj;rw[uN]at gs;rw[zK,kS]at he;have s1:=st.right (wO _ _ gd);rw[Iv,zN (by decide)]at s1;have h4:=s1.head;have l2:=ln.right;rw[Kb,zDd]at l2;rw[Iq,zN (by decide),yM]at sj;have em:DM rs (some (s+rl (bare a)))=DM rs (some e):=(IV jo h4).trans (IV jo hla);have ra:=ih a (yA ..) s gd st.left ln.left (by rw[em];exact hs);obtain⟨al,pk⟩:=mdP jo r c m (i+1) (s+rl (bare a)+1) la e (en+1) b0 (λx z=>ih x (yC _ z)) gs.1 gs.2 s1.tail sj.tail l2 hla () hs;have ej:=IV jo sj.head;refine#[λx m=>?_,?_]
  ·rcases List.mem_cons.mp m with rfl|m
   ·exact ra.1
   ·exact al x m
  ·show(xS rs (some en) (some (xT L a).1)&&(xS rs (some (xT L a).2) (some e)&&Ge rs (b0,e) (en+1) ((c::r).map (xT L))))=true;rw[pk,ra.2.1,El (by rw[ej,ra.2.2];rfl) ej,El (by rw[em];exact hs) em];rfl
theorem mdN (jo:ON rs): ∀nd:Nd,MdI rs L nd
 | .mk k p own ps=>by
  have ih: ∀x∈ps,MdI rs L x:=λx m=>mdN jo x;intro b gd st ln en;have st:OG rs b (CO b (.mk k own (zU ps))):=st;have en:(DM rs (some (b+rl (.mk k own (zU ps))))).isSome =true:=en;have gd:KY (.mk k own (zU ps)):=gd;have ls:UP L (Kb k (ps.length-1) 0 (b+if k=5 then 1 else 0) ps):=λx m=>ln x (by rw[QF];exact yC _ m);unfold KY at gd;obtain⟨g3,g4,g5,gp⟩:=gd;have er:rl (.mk k own (zU ps))=if k=3 then kA (zU ps)+((zU ps).length -1)else if k=4 then kA (zU ps)+2*((zU ps).length -1)+1 else if k=5 then kA (zU ps)+5 else kA (zU ps)+1:=by rw[rl]
  rw[CO]at st
  by_cases c3:k=3
  ·subst c3;rw[zQ rfl]at st er;rw[zN (by decide)]at ls
   match ps,g3 rfl with
   |a::r,_=>
   unfold zU at st gp er;rw[IE,zQ rfl]at st;rw[Kb,nx3]at ls;rw[uN]at gp;rw[zK,kS]at er;obtain⟨ra,al,ch,hz,hs⟩:=mdA jo r a _ 0 b ih gp.1 gp.2 st ls (by rw[show b+rl (bare a)+kA (zU r)+(zU r).length =b+rl (.mk 3 own (zU (a::r)))by rw[uX,er];lia];exact en);refine NZ ln ra.2.2 ?_ ?_
   ·exact GP λx m=>by
     rcases List.mem_cons.mp m with rfl|m
     ·exact ra.1
     ·exact al x m
   ·unfold QE;rw[zQ rfl];unfold Xt;obtain⟨z,ez,e2⟩:=hz;rw[ch,ez,yM,List.head?_cons,ra.2.1];show(xS rs (some b) (some b)&&xS rs (some z.2) (some _))=true;rw[El (by rw[ra.2.2];rfl) rfl,e2,uX,er,show b+(rl (bare a)+kA (zU r)+((zU r).length +1-1))=b+rl (bare a)+kA (zU r)+(zU r).length by lia,El hs rfl];rfl
  rw[zN c3]at st er
  by_cases c4:k=4
  ·subst c4;rw[zQ rfl]at st er;rw[zN (by decide)]at ls
   match ps,g4 rfl with
   |a::c::r,_=>
   unfold zU at st gp er;rw[YF]at st;rw[Kb,zHe]at ls;rw[uN]at gp;rw[zK,kS]at er;have hb:(zU (c::r)).length =(c::r).length:=qB _;rw[hb]at st er;have s1:=st.right (wO _ _ gp.1);have h11:=s1.head;have ra:=ih a (yA ..) b gp.1 st.left ls.left (by rw[BC h11 (by decide)];rfl);have s2:=s1.tail;have s3:=s2.right (n:=(c::r).length) (by rw[zG,Hv,hb]);have s4:=s3.tail;have hj:=s3.head;have n8:(a::c::r).length -1=(c::r).length:=rfl;rw[n8]at ls;unfold zU at s2 s4;rw[Iq,zQ rfl]at s2;rw[Iv,zQ rfl]at s4;have l2:=ls.right;rw[Kb,zDd]at l2;have gp2:=gp.2;unfold zU at gp2;rw[uN]at gp2;have eb:kA (zU (c::r))=rl (bare c)+kA (zU r):=by rw[uX,kS]
   have hl:(zU r).length =r.length:=qB _;have lc:(c::r).length =r.length+1:=rfl;rw[eb,lc]at er;rw[lc]at s2 s4 hj h11 l2 st;rw[eb]at hj;have es:b+rl (bare a)+(r.length+1)+2=b+rl (bare a)+(r.length+1+2):=()
   rw[show b+rl (bare a)+1+(r.length+1)+1=b+rl (bare a)+(r.length+1+2)by lia,es,show b+rl (bare a)+(r.length+1)+1=b+rl (bare a)+1+(r.length+1)by lia]at s4;rw[es]at s2;have ee:b+rl (bare a)+(r.length+1)+2+(rl (bare c)+kA (zU r))+(r.length+1-1)=b+rl (.mk 4 own (zU (a::c::r))):=by rw[uX,er];lia
   rw[ee]at hj;obtain⟨al,pk⟩:=mdP jo r c _ 0 _ _ _ (b+rl (bare a)+1) b (λx z=>ih x (yC _ z)) gp2.1 gp2.2 s4 s2.left l2 hj (by rw[uX,er];lia) en;refine NZ ln ra.2.2 ?_ ?_
   ·exact GP λx m=>by
     rcases List.mem_cons.mp m with rfl|m
     ·exact ra.1
     ·exact al x m
   ·unfold QE;rw[zN (by decide),zQ rfl,yM];dsimp only;unfold UV;rw[ra.2.1,zG,lc,Hd h11 (by decide)];dsimp only;rw[El (by rw[ra.2.2];rfl) rfl,pk];rfl
  rw[zN c4]at st er
  by_cases c5:k=5
  ·subst c5;rw[zQ rfl]at st er;rw[zQ rfl]at ls;have g5:=g5 rfl;rw[qB]at g5
   match ps,g5 with
   |[x,y],_=>
   unfold zU at st gp er;unfold zU at st gp er;unfold zU at st gp er;rw[XG]at st;rw[Kb,nx5,Kb]at ls;rw[uN,uN]at gp;rw[kS,kS]at er;have e0:kA []=0:=by unfold kA;rfl
   rw[kS,e0]at st;rw[e0]at er;rw[KM,KM,xI]at st;have h9:=st.head;have s1:=st.tail;have s2:=s1.right (wO _ _ gp.1);have h5:=s2.head;have s3:=s2.tail;rw[show b+1+rl (bare x)+1=b+rl (bare x)+2 by lia]at s3 ls;have s4:=s3.right (wO _ _ gp.2.1);have h3:=s4.head;have h4:=s4.tail.head;have h0:=s4.tail.tail.head;have rx:=ih x (by simp) (b+1) gp.1 s1.left ls.left (by rw[BC h5 (by decide)];rfl);have ry:=ih y (by simp) _ gp.2.1 s3.left ls.right.left (by rw[BC h3 (by decide)];rfl);refine NZ ln (BC h9 (by decide)) ?_ ?_
   ·exact GP λz m=>by
     rcases List.mem_cons.mp m with rfl|m
     ·exact rx.1
     ·rw[List.mem_singleton.mp m];exact ry.1
   ·unfold QE;rw[zN (by decide),zN (by decide),zQ rfl];show UW rs _ (xT L x) (xT L y)=true;have lf:Bc rs (some (b+1+rl (bare x)))=some (b+rl (bare x)+(rl (bare y)+0)+4):=by
     unfold Bc;rw[BC h5 (by decide)];show(match rs[b+1+rl (bare x)]? with|some (5,n)=>some n.toNat|_=>none)=_;rw[h5];rfl
    unfold UW;rw[rx.2.1,ry.2.1];dsimp only;rw[lf,Hd h9 (by decide),Hd h3 (by decide)];have eo:b+rl (bare x)+(rl (bare y)+0)+4=b+rl (bare x)+2+rl (bare y)+1+1:=()
    show(xS rs (some (b+1)) (some (b+1))&&(xS rs (qP rs (some (b+1+rl (bare x))) 5 ((b+rl (bare x)+(rl (bare y)+0)+4:Nat):Int)) (some (b+rl (bare x)+2))&&(xS rs (some (b+rl (bare x)+2+rl (bare y)+1)) (some b)&&xS rs (qP rs (some (b+rl (bare x)+(rl (bare y)+0)+4)) 0 0) (some (b+rl (.mk 5 own _))))))=true;rw[Hd h5 (by decide),eo,Hd h0 (by decide)];rw[El (by rw[rx.2.2];rfl) rfl,show b+1+rl (bare x)+1=b+rl (bare x)+2 by lia,El (by rw[ry.2.2];rfl) rfl];have ej:=IV jo h4;rw[El (by rw[ej,BC h9 (by decide)];rfl) ej];unfold zU;unfold zU;unfold zU;have en':=en;unfold zU at en';unfold zU at en';unfold zU at en';rw[er]at en' ⊢;rw[show b+(rl (bare x)+(rl (bare y)+0)+5)=b+rl (bare x)+2+rl (bare y)+1+1+1 by lia]at en' ⊢;rw[El en' rfl];rfl
  rw[zN c5]at st er ls;obtain⟨op,n,eo,h4⟩:=Yo k own c4;have ho:=(st.right (Hy _ _ gp));rw[eo]at ho;have ho:=ho.head;obtain⟨al,ow,hs⟩:=mdS jo c3 c4 c5 ps (ps.length-1) 0 b ih gp st.left ls (by rw[BC ho h4];rfl);have hb:DM rs (some b)=some b:=by
   cases ps with
   |nil=>
    have:kA (zU [])=0:=by unfold zU kA;rfl
    rw[this]at ho;exact BC ho h4
   |cons a r=>exact hs (by simp)
  refine NZ ln hb (GP al) ?_;unfold QE;rw[zN c3,zN c4,zN c5];unfold Je;dsimp only;rw[ow,eo];dsimp only[List.headD,List.getD];have eb:qP rs (some (b+kA (zU ps))) op n=some (b+kA (zU ps)+1):=Hd ho h4;show(if k=7 then(qP rs (some (b+kA (zU ps))) op n).isSome else xS rs (qP rs (some (b+kA (zU ps))) op n) (some (b+rl (.mk k own (zU ps)))))=true;rw[eb];split
  ·rfl
  ·rw[er]at en ⊢;exact El en rfl
termination_by nd=>HM nd
decreasing_by (have:=Wt m;rw[Wu];lia)
end
def UQ (H:Hp)(lk r d:i4)(rs:vX)(L:Int->i5 (Nat×Nat)):Prop:=H lk=some (.tup [.ref r,.ref d])/\qU H r (JZ rs)/\ ∃kvs:a6 (AQ×V),H d=some (.dK kvs)/\ ∀p:Int,XM H (Ak kvs (.inl p)) (L p)
theorem UQ.same (s:xJ H H'):UQ H lk r d rs L->UQ H' lk r d rs L:=fun⟨e,⟨vs,e1,e2⟩,kv,e3,e4⟩=>#[s _ _ e,#[vs,s _ _ e1,Paired.imp (λ_ _ ⟨t,a,b⟩=>#[t,a,s _ _ b]) e2],kv,s _ _ e3,λp=>(e4 p).same s]
theorem UQ.line (h:UQ H lk r d rs L)(hp:L p=some be): ∃t,Ew H d (.int p) (some (.ref t))/\H t=some (.tup [.int (be.1:Nat),.int (be.2:Nat)]):=by
 obtain⟨_,_,kv,e1,e2⟩:=h;have z:=e2 p;rw[hp]at z;cases w:Ak kv (.inl p)with
 |none=>rw[w]at z;exact z.elim
 |some v=>
  rw[w]at z;obtain⟨t,rfl,et⟩:=z;exact#[t,w▸Ew.k (k:=.inl p) e1,et]
theorem UQ.has (h:UQ H lk r d rs L)(p:Int): ∃o,Ew H d (.int p) o/\o.isSome=(L p).isSome:=by
 obtain⟨_,_,kv,e1,e2⟩:=h;refine#[Ak kv (.inl p),Ew.k (k:=.inl p) e1,?_];have z:=e2 p;cases w:Ak kv (.inl p)<;>cases y:L p<;>rw[w,y]at z<;>first|rfl|exact z.elim
structure RsO (rs:vX):Prop where
 jo:ON rs
 uo:UOk rs
 rl:rs.length<=1000
def ZC (d:Nat)(nd:Nd):Prop:=(∃hs bx,wW hs bx d (bare nd))/\OH d (bare nd)
inductive Gr (d:Nat) (vs:List V) (H:Hp) (Q:VK) (E:XK):Prop
 |mk (lk r dd:i4) (rs:vX) (L:Int->Option (Nat×Nat)) (v:V) (nd:Nd) (h0:vs=[.ref lk,v]) (h1:UQ H lk r dd rs L) (h2:RsO rs) (h3:jW H d v nd) (h4:ZC d nd) (h5: ∀H',xJ H H'->Q (.bl (CV rs L nd)) H'):Gr d vs H Q E
noncomputable def IM (rs:vX)(L:Int->i5 (Nat×Nat))(nd:Nd)(n:Nat):i8:=CV rs L nd&&xS rs (some (xT L nd).1) (some n)
inductive BV (d:Nat) (vs:List V) (H:Hp) (Q:VK) (E:XK):Prop
 |mk (lk r dd:i4) (rs:vX) (L:Int->Option (Nat×Nat)) (v:V) (nd:Nd) (n:Nat) (h0:vs=[.ref lk,v,.int (n:Int)]) (h1:UQ H lk r dd rs L) (h2:RsO rs) (h3:jW H d v nd) (h4:ZC d nd) (h5: ∀H',xJ H H'->Q (.bl (IM rs L nd n)) H'):BV d vs H Q E
theorem qQ (n:Nat):LN (n:Int)=some n:=zQ (Int.natCast_nonneg n)
theorem BD: ∀{nd:Nd},CV rs L nd=true->L (Av nd)=some (xT L nd)
 | .mk k p own ps,h=>by
  rw[CV]at h;show L (p:Int)=some ((L (p:Int)).getD (0,0));cases z:L (p:Int)with
  |none=>rw[z]at h;cases h
  |some be=>rfl
theorem CZ: ∀{d:Nat} {v:V} {nd:Nd},jW H d v nd-> ∃t k x y,v=.ref t/\H t=some (.tup [.int k,.int (Av nd),x,y])
 |0,_,_,h=>h.elim
 |d+1,_,.mk k p own ps,⟨t,o,q,vs,e,h,_⟩=>#[t,k,_,_,e,h]
theorem Ks (d:Nat)(T:Gk K mg)(F:qT K "_law_stands" "_law_stands" CH f fd)(Cc8:jY P w K mg base (3+3*d) "_law_right" ["_law_look","_law_node"] (Gr d))(Cj:jY P w K mg base 2 "_law_meet" ["_law_rows_here","_law_one","_law_other"] DY):vO P w K mg base (3+3*d+1) f fd ["_law_look","_law_node","_law_at"] (BV d):=by
 exists Ef;obtain⟨lk,r,dd,rs,L,v,nd,n,rfl,lo,ro,na,nk,q⟩:=h;exists _,(zC (wS (pv 0) (qO rfl (yF (zY 3 Ef.nd) (yF (zY 4 Ef.nd) jS))))
   (zL (zT (An (zH Cc8 hr rfl (zA (pv 0) (zA (pv 1) zB)) zV) (BE (zH Cj hr rfl (zA (pv 3) (zA (yZ xL (uV (AS hr) (pv 4) (yZ xL (pv 1) zI (λ_ _=>rfl)) (λ_ _=>rfl)) zI (λ_ _=>rfl)) (zA (pv 2) zB))) zV))))))
 refine#[-1,lk,-1,.of lo.1,rfl,_,-1,_,-1,rfl,?_];refine#[-2,lk,r,dd,rs,L,v,nd,rfl,lo,ro,na,nk,λH1 g1=>?_];unfold IM at q;cases z:CV rs L nd with
 |false=>
  rw[z]at q;exact#[-1,jE (q H1 g1)]
 |true=>
  rw[z]at q;obtain⟨t,k,x,y,rfl,et⟩:=CZ na;have lo1:=lo.same g1;obtain⟨tl,dg,etl⟩:=lo1.line (BD z);refine#[-1,jI #[-3,t,_,_,-1,rfl,.of (g1 _ _ et),rfl,dd,-1,dg,tl,_,_,-1,rfl,.of etl,rfl,-1,r,rs,_,-1,lo1.2.1,ro.jo,ro.rl,?_]];rw[qQ,qQ];exact q H1 g1
theorem UX (x:Int×Int)(k n:Int):(x.1==k&&Ha (.int x.2) (.int n))=decide (x=(k,n)):=by
 obtain⟨a,b⟩:=x;rw[jN,Dt,jD];show(a==k)=true/\(b==n)=true ↔ _;rw[Bp,Bp];exact#[fun⟨h1,h2⟩=>by rw[h1,h2],λh=>by cases h;exact#[rfl,rfl]]
theorem DT {rs:vX}{a:Nat}{op n:Int}(h:Eu rs a=(op,n))(h0:op≠ -1): ∃l:Nat,DM rs (some a)=some l/\rs[l]? =some (op,n)/\Zw rs a=(l:Int)/\qP rs (some a) op n=some (l+1):=by
 unfold Eu at h;rw[qQ]at h;have g:=Kd rs a;rw[qQ]at g;cases e:DM rs (some a)with
 |none=>
  rw[e]at h;cases h;exact absurd rfl h0
 |some l=>
  rw[e]at h g;have er:rs[l]? =some (op,n):=by
   have h:(rs[l]?).getD (-1,0)=(op,n):=h;rw[zF (LA e)]at h ⊢;exact qZ some h
  refine#[l,rfl,er,g,?_];unfold qP;rw[e];exact zQ er
theorem FS {rs:vX}{a:Nat}{op n:Int}(h:Eu rs a≠(op,n)):qP rs (some a) op n=none:=by
 unfold Eu at h;rw[qQ]at h;unfold qP;cases e:DM rs (some a)with
 |none=>rfl
 |some l=>
  rw[e]at h;exact zN λz=>h (by show(rs[l]?).getD (-1,0)=_;rw[z];rfl)
theorem DW (b:i5 Nat):xS rs none b=false:=rfl
theorem Br (a b:i5 Nat):xS rs a b=xS rs b a:=by
 unfold xS;rw[jN,Dt,Dt,jD,jD];exact#[fun⟨h,e⟩=>#[by rw[<-e];exact h,e.symm],fun⟨h,e⟩=>#[by rw[<-e];exact h,e.symm]]
section
variable {X:Cx}
inductive Zo (K:a7) (x:V) (y:V) (H:Hp) (Q:VK):Prop
 |mk (a b:i4) (i j k:Int) (z:V) (h0:x=.ref a) (h1:y=.ref b) (h2:Ax K H a [.int i,.int j]) (h3:Ax K H b [.int k,z]) (h4:GZ z=true) (h5:Q (.bl (i==k&&Ha (.int j) z)) H):Zo K x y H Q
theorem KK (hr:Ao k X.A):HC X (compareOp .Eq) (Zo X.K):=by
 intro j9 s U H x y v u Q I rx ry h;obtain⟨a,b,i,j,k',z,rfl,rfl,ha,hb,fz,q⟩:=h;cases rx;cases ry;have hu:=hr.un;obtain⟨us,r,pa,_⟩:=I.tuple ha;obtain⟨vs,q',pb,_⟩:=I.tuple hb;obtain⟨u1,u2,rfl,r1,r2⟩:=r.two;obtain⟨w1,w2,rfl,t1,t2⟩:=q'.two;have:=SeqAt.RcAt.tuples (A:=X.A) (s:=s) (e:=λn=>if n=0 then Ha (.int i) (.int k')else Ha (.int j) z) pa pb () (λn h1 h2=>by
  have h1:n<2:=h1
  rcases(by lia:n=0\/n=1)with rfl|rfl
  ·exact Iw r1 t1 rfl rfl
  ·exact Iw r2 t2 rfl fz)
 have e:((List.range (min 2 2)).all (λn=>if n=0 then Ha (.int i) (.int k')else Ha (.int j) z)&&(2==2))=(i==k'&&Ha (.int j) z):=by
  show((Ha (.int i) (.int k')&&(Ha (.int j) z&&true))&&true)=_;rw[uF,uF];rfl
 have this:SeqAt.RcAt X.A s (Value.ref a) (Value.ref b) (i==k'&&Ha (.int j) z):=e▸this;exact this _ _ _ _ #[.bl _,H,I,rfl,q]
end
inductive JF (d:Nat) (vs:List V) (H:Hp) (Q:VK) (E:XK):Prop
 |mk (lk r dd pt:i4) (rs:vX) (L:Int->Option (Nat×Nat)) (v1 v2:V) (n1 n2:Nd) (b e:Nat) (h0:vs=[.ref lk,.ref pt,.int (b:Int),.int (e:Int)]) (h1:UQ H lk r dd rs L) (h2:RsO rs) (h3:H pt=some (.tup [v1,v2])) (h4:jW H d v1 n1) (h5:ZC d n1) (h6:jW H d v2 n2) (h7:ZC d n2) (h8: ∀H',xJ H H'->Q (.bl (CV rs L n1&&(CV rs L n2&&UW rs (b,e) (xT L n1) (xT L n2)))) H'):JF d vs H Q E
theorem Py (d:Nat)(T:Gk K mg)(F:qT K "_law_looped" "_law_looped" CJ f fd)(Cf:jY P w K mg base (3+3*d+1) "_law_stands" ["_law_look","_law_node","_law_at"] (BV d))(Cb:jY P w K mg base 1 "_law_goal" ["_law_rows_here","_law_at"] Bw)(Ci:jY P w K mg base 2 "_law_row" ["_law_rows_here","_law_at"] EA)(Cj:jY P w K mg base 2 "_law_meet" ["_law_rows_here","_law_one","_law_other"] DY):vO P w K mg base (3+3*d+2) f fd ["_law_look","_law_parts","_law_begin","_law_end"] (JF d):=by
 exists uL;obtain⟨lk,r,dd,pt,rs,L,v1,v2,n1,n2,b,e,rfl,lo,ro,hp,na1,nk1,na2,nk2,q⟩:=h;exists _,(zC (wS (pv 0) (qO rfl (yF (zY 4 uL.nd) (yF (zY 5 uL.nd) jS))))
   (zC (xD (PW.pt (qY (zX (Hx hr) (zH Ci hr rfl (zA (pv 4) (zA (pv 2) zB)) zV) (xO (xU (.int (.int .nil)))) (yG _)) (kW (qN (kR (zH Cf hr rfl (zA (pv 0) (zA (yZ xL (pv 1) zI (λ_ _=>rfl)) (zA (yK jF (zH Cb hr rfl (zA (pv 4) (zA (pv 2) zB)) zV) zI) zB))) zV)))))) (zL (zT qI)) yD)
   (zC (yP 6 uL.nd (zH Cb hr rfl (zA (pv 4) (zA (yZ xL (uV (AS hr) (pv 5) (yZ xL (yZ xL (pv 1) zI (λ_ _=>rfl)) zI (λ_ _=>rfl)) (λ_ _=>rfl)) zI (λ_ _=>rfl)) zB)) zV))
   (zC (xD (PW.pt (qY (zX Aw (pv 6) zI (yG _)) (qY (zX Gf (yZ xL (yZ jB (pv 4) (pv 6) (λ_ _=>rfl)) zI (λ_ _=>rfl)) zI (yG _)) (kW (qN (kR (zH Cf hr rfl (zA (pv 0) (zA (yZ xL (pv 1) zI (λ_ _=>rfl)) (zA (yK jF (pv 6) zI) zB))) zV))))))) (zL (zT qI)) yD)
   (zC (yP 7 uL.nd (yZ xL (uV (AS hr) (pv 5) (yZ xL (yZ xL (pv 1) zI (λ_ _=>rfl)) zI (λ_ _=>rfl)) (λ_ _=>rfl)) zI (λ_ _=>rfl)))
   (zC (yP 8 uL.nd (yZ xL (yZ jB (pv 4) (pv 6) (λ_ _=>rfl)) zI (λ_ _=>rfl)))
   (zC (xD (PW.pt (qY (zX (Hx hr) (zH Ci hr rfl (zA (pv 4) (zA (pv 7) zB)) zV) (xO (xU (.int (.int .nil)))) (yG _)) (kW (qN (kR (zH Cj hr rfl (zA (pv 4) (zA (yK jF (zH Cb hr rfl (zA (pv 4) (zA (pv 7) zB)) zV) zI) (zA (pv 2) zB))) zV)))))) (zL (zT qI)) yD)
   (zL (zT (An (uW (KK hr) (zH Ci hr rfl (zA (pv 4) (zA (pv 8) zB)) zV) (xO (xU (.int (.int .nil)))) (yG _)) (BE (zH Cj hr rfl (zA (pv 4) (zA (yK jF (zH Cb hr rfl (zA (pv 4) (zA (pv 8) zB)) zV) zI) (zA (pv 3) zB))) zV))))))))))))
 have no: ∀H',xJ H H'->(CV rs L n1&&(CV rs L n2&&UW rs (b,e) (xT L n1) (xT L n2)))=false->Q (.bl false) H':=λH' s z=>by have:=q H' s;rwa [z]at this
 refine#[-1,lk,-1,.of lo.1,rfl,_,-1,_,-1,rfl,?_];refine#[-2,r,rs,-1,lo.2.1,ro.jo,ro.rl,λp1 H1 g1 e1=>?_];refine#[sm2,λt2 ht2=>?_];have s2:=g1.trans (zM ht2 (.tup [.int 9,.int 0]));have e1:=zM ht2 (.tup [.int 9,.int 0]) _ _ e1;generalize eH2:upd H1 t2 (.tup [.int 9,.int 0])=H2 at *
 have et2:H2 t2=some (.tup [.int 9,.int 0]):=by rw[<-eH2];exact upd_same
 refine#[p1,t2,_,_,_,-1,rfl,.of e1,.of et2,rfl,-1,?_];rw[UX]
 by_cases c9: ¬Eu rs b=(9,0)
 ·rw[zR c9];refine jI (no H2 s2 ?_);unfold UW;rw[FS c9,DW,qM,wA,wA]
 have c9:=Classical.not_not.mp c9;rw[zP c9];obtain⟨l9,r9,_,g9,b9⟩:=DT c9 (by decide);have lo2:=lo.same s2;refine jE #[-2,pt,_,_,-1,rfl,.of (s2 _ _ hp),rfl,-2,r,rs,-1,lo2.2.1,ro.jo,ro.rl,?_];rw[g9];refine#[_,-1,rfl,lk,r,dd,rs,L,v1,n1,l9+1,rfl,lo2,ro,na1.tups (vN.same s2),nk1,λH3 g3=>?_];have s3:=s2.trans g3;have lo3:=lo.same s3;refine#[-1,?_];unfold UW at no q;rw[b9]at no q;cases c1:IM rs L n1 (l9+1)with
 |false=>
  refine jI (no H3 s3 ?_);rw[Br];unfold IM at c1;dsimp only at c1 ⊢;cases z:CV rs L n1 with
  |false=>rfl
  |true=>rw[z,xC]at c1;rw[c1];simp
 |true=>
 obtain⟨z1,m1⟩:=Bool.and_eq_true_iff.mp c1;rw[z1,Br (some (l9+1)),m1,xC,xC]at no q;obtain⟨t1,k1,x1,y1,rfl,et1⟩:=CZ na1;obtain⟨tl1,dg1,etl1⟩:=lo3.line (BD z1);refine jE #[-3,pt,_,_,-1,rfl,.of (s3 _ _ hp),rfl,t1,_,_,-1,rfl,.of (s3 _ _ et1),rfl,dd,-1,dg1,tl1,_,_,-1,rfl,.of etl1,rfl,r,rs,-1,lo3.2.1,ro.jo,ro.rl,?_];have eg:=Kd rs ((xT L n1).2:Int);rw[qQ]at eg;refine#[-1,_,-1,rfl,-1,?_];cases er:DM rs (some (xT L n1).2)with
 |none=>
  rw[er]at eg;rw[eg];refine jI (no H3 s3 ?_);have:Bc rs (some (xT L n1).2)=none:=by unfold Bc;rw[er];rfl
  rw[this];show(CV rs L n2&&(xS rs none _&&_))=false;rw[DW,qM,wA]
 |some l5=>
 rw[er]at eg;rw[eg];rw[show decide ((l5:Int)<0)=false from zR ()];have hl5:=LA er;obtain⟨rv,erv,prv⟩:=lo3.2.1;obtain⟨t5,op,n5,ev5,ep5,et5⟩:=Oe prv hl5;refine jE #[-2,r,_,_,-1,rfl,.of erv,kK ev5,t5,_,_,-1,rfl,.of et5,rfl,rfl,-1,?_]
 by_cases c5: ¬op=5
 ·rw[show decide (V.int op=V.int 5)=false from zR λz=>c5 (by injection z)];refine jI (no H3 s3 ?_);have:Bc rs (some (xT L n1).2)=none:=by
   unfold Bc;rw[er];show(match rs[l5]? with|some (5,n)=>some n.toNat|_=>none)=none;rw[ep5];split
   ·rename_i z;injection z with z
    injection z with z _
    exact absurd z c5
   ·rfl
  rw[this];show(CV rs L n2&&(xS rs none _&&_))=false;rw[DW,qM,wA]
 have c5:=Classical.not_not.mp c5;subst c5;have n50:=ro.uo _ _ ep5;have lf:Bc rs (some (xT L n1).2)=some n5.toNat:=by
  unfold Bc;rw[er];show(match rs[l5]? with|some (5,n)=>some n.toNat|_=>none)=_;rw[ep5]<;>rfl
 have bh:OB rs (some (xT L n1).2) 5 ((Bc rs (some (xT L n1).2)).map Int.ofNat)=some (l5+1):=by
  rw[lf];show qP rs (some (xT L n1).2) 5 ((n5.toNat:Nat):Int)=_;rw[jZ n50];unfold qP;rw[er];exact zQ ep5
 rw[bh,lf]at no q;rw[show decide (V.int (5:Int)=V.int 5)=true from zP rfl];refine jE #[-2,pt,_,_,-1,rfl,.of (s3 _ _ hp),rfl,-1,_,-1,rfl,lk,r,dd,rs,L,v2,n2,l5+1,rfl,lo3,ro,na2.tups (vN.same s3),nk2,λH4 g4=>?_];have s4:=s3.trans g4;have lo4:=lo.same s4;refine#[-1,?_];cases c2:IM rs L n2 (l5+1)with
 |false=>
  refine jI (no H4 s4 ?_);rw[Br];unfold IM at c2;dsimp only at c2 ⊢;cases z:CV rs L n2 with
  |false=>rfl
  |true=>rw[z,xC]at c2;rw[c2];simp
 |true=>
 obtain⟨z2,m2⟩:=Bool.and_eq_true_iff.mp c2;rw[z2,Br (some (l5+1)),m2,xC,xC]at no q;obtain⟨t2',k2,x2,y2,rfl,et2'⟩:=CZ na2;obtain⟨tl2,dg2,etl2⟩:=lo4.line (BD z2);refine jE #[-2,pt,_,_,-1,rfl,.of (s4 _ _ hp),rfl,t2',_,_,-1,rfl,.of (s4 _ _ et2'),rfl,dd,-1,dg2,tl2,_,_,-1,rfl,.of etl2,rfl,?_];refine#[-2,r,_,_,-1,rfl,.of (g4 _ _ erv),kK ev5,t5,_,_,-1,rfl,.of (g4 _ _ et5),rfl,?_];refine#[-2,r,rs,-1,lo4.2.1,ro.jo,ro.rl,λp5 H5 g5 e5=>?_];refine#[sm2,λt6 ht6=>?_];have s6:=(s4.trans g5).trans (zM ht6 (.tup [.int 3,.int 0]));have e5:=zM ht6 (.tup [.int 3,.int 0]) _ _ e5;generalize eH6:upd H5 t6 (.tup [.int 3,.int 0])=H6 at *
 have et6:H6 t6=some (.tup [.int 3,.int 0]):=by rw[<-eH6];exact upd_same
 refine#[p5,t6,_,_,_,-1,rfl,.of e5,.of et6,rfl,-1,?_];rw[UX]
 by_cases c3: ¬Eu rs (xT L n2).2=(3,0)
 ·rw[zR c3];refine jI (no H6 s6 ?_);rw[FS c3,DW,qM]
 have c3:=Classical.not_not.mp c3;rw[zP c3];obtain⟨l3,_,_,g3',b3⟩:=DT c3 (by decide);rw[b3]at no q;have lo6:=lo.same s6;refine jE #[-3,r,rs,-1,lo6.2.1,ro.jo,ro.rl,?_];rw[g3'];refine#[_,-1,rfl,-1,r,rs,((l3+1:Nat):Int),-1,lo6.2.1,ro.jo,ro.rl,?_];rw[qQ,qQ];refine#[-1,?_];cases c4:xS rs (some (l3+1)) (some b)with
 |false=>
  refine jI (no H6 s6 ?_);rw[c4,qM]
 |true=>
 rw[c4,xC]at no q;refine jE #[-2,r,rs,-1,lo6.2.1,ro.jo,ro.rl,λp7 H7 g7 e7=>?_];refine#[sm2,λt8 ht8=>?_];have s8:=(s6.trans g7).trans (zM ht8 (.tup [.int 0,.int 0]));have e7:=zM ht8 (.tup [.int 0,.int 0]) _ _ e7;generalize eH8:upd H7 t8 (.tup [.int 0,.int 0])=H8 at *
 have et8:H8 t8=some (.tup [.int 0,.int 0]):=by rw[<-eH8];exact upd_same
 refine#[p7,t8,_,_,_,-1,rfl,.of e7,.of et8,rfl,-1,?_];rw[UX];have en:n5=((n5.toNat:Nat):Int):=(jZ n50).symm
 by_cases c0: ¬Eu rs n5=(0,0)
 ·rw[zR c0];rw[en]at c0;refine jE (no H8 s8 ?_);rw[FS c0,DW]
 have c0:=Classical.not_not.mp c0;rw[zP c0];rw[en]at c0;obtain⟨l0,_,_,g0,b0⟩:=DT c0 (by decide);rw[b0]at q;rw[<-en]at g0;have lo8:=lo.same s8;refine jI #[-3,r,rs,-1,lo8.2.1,ro.jo,ro.rl,?_];rw[g0];refine#[_,-1,rfl,-1,r,rs,((l0+1:Nat):Int),-1,lo8.2.1,ro.jo,ro.rl,?_];rw[qQ,qQ];exact q H8 s8
noncomputable def Kw (rs:vX)(L:Int->i5 (Nat×Nat))(dr:i8):i8->Nat->a6 Nd->i5 Nat
 |_,a,[]=>some a
 |fi,a,p::r=>match(if fi=false/\dr=true then qP rs (some a) 3 0 else some a)with
  |none=>none
  |some c=>if IM rs L p c=true then Kw rs L dr false (xT L p).2 r else none
noncomputable def oM (o:i5 Nat):Int:=match o with
 |some a=>(a:Int)
 |none=> -1
inductive JL (d:Nat) (vs:List V) (H:Hp) (Q:VK) (E:XK):Prop
 |mk (lk r dd pt:i4) (rs:vX) (L:Int->Option (Nat×Nat)) (m7:List V) (ps:List Nd) (b:Nat) (dr:i8) (h0:vs=[.ref lk,.ref pt,.int (b:Int),.bl dr]) (h1:UQ H lk r dd rs L) (h2:RsO rs) (h3:H pt=some (.tup m7)) (h4:Paired (jW H d) m7 ps) (h5:(∀x∈ps,ZC d x)) (h6: ∀H',xJ H H'->Q (.int (oM (Kw rs L dr true b ps))) H'):JL d vs H Q E
theorem PH (d:Nat)(T:Gk K mg)(F:qT K "_law_behind_parts" "_law_behind_parts" uI f fd)(Cf:jY P w K mg base (3+3*d+1) "_law_stands" ["_law_look","_law_node","_law_at"] (BV d))(Cb:jY P w K mg base 1 "_law_goal" ["_law_rows_here","_law_at"] Bw)(Ci:jY P w K mg base 2 "_law_row" ["_law_rows_here","_law_at"] EA):vO P w K mg base (3+3*d+2) f fd ["_law_look","_law_parts","_law_begin","_law_drops"] (JL d):=by
 exists kI;obtain⟨lk,r,dd,pt,rs,L,m7,ps,b,dr,rfl,lo,ro,hp,pr,nk,q⟩:=h;exists _,(zC (wS (pv 0) (qO rfl (yF (zY 4 kI.nd) (yF (zY 5 kI.nd) jS))))
   (zC (yP 6 kI.nd (pv 2))
   (zC (qS yY rfl (Ja rfl T.n_enumerate (zA (pv 1) zB)) (qO rfl (yF (zY 7 kI.nd) (yF (zY 8 kI.nd) jS))) (zC (DB (xD (PW.pt (JY (zX Kr (pv 7) zI (yG _)) (Hs (kR (pv 3))))) (zC (xD (zX (Hx hr) (zH Ci hr rfl (zA (pv 4) (zA (pv 6) zB)) zV) (xO (xU (.int (.int .nil)))) (yG _)) (zL (zT (Kn Gn zI))) yD)
   (zL (yP 6 kI.nd (yK jF (zH Cb hr rfl (zA (pv 4) (zA (pv 6) zB)) zV) zI)))) yD))
   (zC (xD (qN (kR (zH Cf hr rfl (zA (pv 0) (zA (pv 8) (zA (pv 6) zB))) zV))) (zL (zT (Kn Gn zI))) yD)
   (zL (yP 6 kI.nd (yZ xL (uV (AS hr) (pv 5) (yZ xL (pv 8) zI (λ_ _=>rfl)) (λ_ _=>rfl)) zI (λ_ _=>rfl)))))))
   (zL (zT (pv 6))))))
 have lp:=Paired.len pr;refine#[-1,lk,-1,.of lo.1,rfl,_,-1,_,-1,rfl,?_];refine#[-1,?_];refine#[-1,pt,-1,.of hp,HA (xs:=m7) (λi U' H'=>xJ H H'/\ ∃(a:Nat) (v7 v8:i5 V),U'=[some (.ref lk),some (.ref pt),some (.int (b:Int)),some (.bl dr),some (.ref r),some (.ref dd),some (.int (a:Int)),v7,v8]/\Kw rs L dr true b ps=Kw rs L dr (decide (i=0)) a (ps.drop i)) #[xJ.refl _,b,_,-1,rfl] (λi U' H' _ ⟨z,_⟩=>.of (z _ _ hp)) ?_ ?_]
 rotate_left
 ·rintro U' H' ⟨z,a,v7,v8,rfl,e⟩;rw[lp,uQ]at e;have e:Kw rs L dr true b ps=some a:=e.trans (by cases decide (ps.length=0)<;>rfl);rw[e]at q;exact#[-1,q H' z]
 rintro i v U' H1 t hv ⟨z,a,v7,v8,rfl,e⟩ ht;obtain⟨nd,hnd,na⟩:=Paired.yonder pr hv;have zt:=z.trans (zM ht (.tup [.int (i:Nat),v]));have et:upd H1 t (.tup [.int (i:Nat),v]) t=some (.tup [.int (i:Nat),v]):=upd_same;generalize upd H1 t (.tup [.int (i:Nat),v])=H2 at *
 have ed:ps.drop i=nd::ps.drop (i+1):=by
  obtain⟨hi,ei⟩:=List.getElem?_eq_some_iff.mp hnd;rw[yS hi,ei]
 rw[ed]at e;have e:Kw rs L dr true b ps=match(if decide (i=0)=false/\dr=true then qP rs (some a) 3 0 else some a)with|none=>none|some c=>if IM rs L nd c=true then Kw rs L dr false (xT L nd).2 (ps.drop (i+1))else none:=e
 refine#[t,-1,.of et,rfl,_,-1,_,-1,rfl,?_];refine#[λU' H'=>xJ H H'/\ ∃c:Nat,U'=[some (.ref lk),some (.ref pt),some (.int (b:Int)),some (.bl dr),some (.ref r),some (.ref dd),some (.int (c:Int)),some (.int (i:Int)),some v]/\Kw rs L dr true b ps=if IM rs L nd c=true then Kw rs L dr false (xT L nd).2 (ps.drop (i+1))else none,?_,?_]
 ·refine#[-1,_,-1,rfl,-1,Nz (λy=>#[-2,y]) (λc1 c2=>?_) (λc1=>?_)]
  ·have i0:decide (i=0)=false:=zR λy=>by rw[y]at c1;exact absurd c1 (by decide)
   rw[zQ #[i0,c2]]at e;have lo2:=lo.same zt;refine#[-2,r,rs,-1,lo2.2.1,ro.jo,ro.rl,λp1 H3 g3 e3=>#[sm2,λt4 ht4=>?_]];have s4:=(zt.trans g3).trans (zM ht4 (.tup [.int 3,.int 0]));have e3:=zM ht4 (.tup [.int 3,.int 0]) _ _ e3;generalize eH4:upd H3 t4 (.tup [.int 3,.int 0])=H4 at *
   have et4:H4 t4=some (.tup [.int 3,.int 0]):=by rw[<-eH4];exact upd_same
   refine#[p1,t4,_,_,_,-1,rfl,.of e3,.of et4,rfl,-1,?_];rw[UX]
   by_cases c3: ¬Eu rs a=(3,0)
   ·rw[zR c3];rw[FS c3]at e;rw[e]at q;exact jI #[-1,q H4 s4]
   have c3:=Classical.not_not.mp c3;rw[zP c3];obtain⟨l3,_,_,g3',b3⟩:=DT c3 (by decide);rw[b3]at e;have lo4:=lo.same s4;refine jE #[-2,r,rs,-1,lo4.2.1,ro.jo,ro.rl,?_];rw[g3'];exact#[_,-1,rfl,s4,l3+1,rfl,e]
  ·rw[zN (λy=>by
    rcases c1 with c1|c1
    ·have: ¬i=0:=wF y.1;exact absurd (wF c1) ()
    ·rw[y.2]at c1;cases c1)]at e
   exact#[zt,a,rfl,e]
 rintro _ H3 ⟨s3,c,rfl,e⟩;have lo3:=lo.same s3;refine#[-3,lk,r,dd,rs,L,v,nd,c,rfl,lo3,ro,na.tups (vN.same s3),nk nd (xB hnd),λH4 g4=>#[-1,?_]];have s4:=s3.trans g4;cases c4:IM rs L nd c with
 |false=>
  rw[c4]at e;rw[show Kw rs L dr true b ps=none from e]at q;exact jI #[-1,q H4 s4]
 |true=>
 rw[c4,zQ rfl]at e;obtain⟨z1,m1⟩:=Bool.and_eq_true_iff.mp c4;obtain⟨t1,k1,x1,y1,rfl,et1⟩:=CZ na;obtain⟨tl1,dg1,etl1⟩:=(lo.same s4).line (BD z1);exact jE #[-2,t1,_,_,-1,rfl,.of (s4 _ _ et1),rfl,dd,-1,dg1,tl1,_,_,-1,rfl,.of etl1,rfl,s4,_,_,-1,e]
theorem Pa: ∀{ps:a6 Nd},wR rs L ps=ps.map (CV rs L)
 |[]=>by rw[wR];rfl
 |a::r=>by rw[wR,Pa (ps:=r)];rfl
noncomputable def plM (rs:vX)(L:Int->i5 (Nat×Nat))(e:Nat):Nat->a6 Nd->i8
 |_,[]=>true
 |en,p::r=>IM rs L p en&&(xS rs (some (xT L p).2) (some e)&&plM rs L e (en+1) r)
theorem Zp: ∀{ps:a6 Nd} {en:Nat},((wR rs L ps).all id&&Ge rs (b,e) en (ps.map (xT L)))=plM rs L e en ps
 |[],en=>by rw[wR];rfl
 |a::r,en=>by
  have ih:=Zp (rs:=rs) (L:=L) (b:=b) (e:=e) (ps:=r) (en:=en+1);rw[wR,kH,yM];unfold Ge plM IM;rw[<-ih,Br (some en)];dsimp only[id];cases CV rs L a<;>cases xS rs (some (xT L a).1) (some en)<;>cases xS rs (some (xT L a).2) (some e)<;>cases(wR rs L r).all id<;>rfl
inductive JC (d:Nat) (vs:List V) (H:Hp) (Q:VK) (E:XK):Prop
 |mk (lk r dd pt:i4) (rs:vX) (L:Int->Option (Nat×Nat)) (v0:V) (m7:List V) (n0:Nd) (ps:List Nd) (b e:Nat) (h0:vs=[.ref lk,.int (ps.length:Int),.ref pt,.int (b:Int),.int (e:Int)]) (h1:UQ H lk r dd rs L) (h2:RsO rs) (h3:H pt=some (.tup (v0::m7))) (h4:Paired (jW H d) (v0::m7) (n0::ps)) (h5:(∀x∈n0::ps,ZC d x)) (h6:0<ps.length) (h7: ∀H',xJ H H'->Q (.bl (Sc rs (b,e) ((wR rs L (n0::ps)).zip ((n0::ps).map (xT L))) (XI (n0::ps)) || ((wR rs L (n0::ps)).all id&&UV rs (b,e) (xT L n0) (ps.map (xT L))))) H'):JC d vs H Q E
theorem Ps (d:Nat)(T:Gk K mg)(F:qT K "_law_picked" "_law_picked" CI f fd)(Cf:jY P w K mg base (3+3*d+1) "_law_stands" ["_law_look","_law_node","_law_at"] (BV d))(Cs:jY P w K mg base (1+d) "_law_worth" ["_law_node"] (CP d))(Cb:jY P w K mg base 1 "_law_goal" ["_law_rows_here","_law_at"] Bw)(Ci:jY P w K mg base 2 "_law_row" ["_law_rows_here","_law_at"] EA)(Cj:jY P w K mg base 2 "_law_meet" ["_law_rows_here","_law_one","_law_other"] DY):vO P w K mg base (3+3*d+2) f fd ["_law_look","_law_many","_law_parts","_law_begin","_law_end"] (JC d):=by
 exists qW;obtain⟨lk,r,dd,pt,rs,L,v0,m7,n0,ps,b,e,rfl,lo,ro,hp,pr,nk,hl0,q⟩:=h;exists _,(zC (wS (pv 0) (qO rfl (yF (zY 5 qW.nd) (yF (zY 6 qW.nd) jS))))
   (zC (yP 7 qW.nd (zH Cs hr rfl (zA (yZ xL (pv 2) zI (λ_ _=>rfl)) zB) zV))
   (zC (DB (xD (zX Jf (pv 7) qH (yG _)) (zC (yP 8 qW.nd (yZ xL (pv 2) (Kn Gn zI) (λ_ _=>rfl)))
   (zC (DB (xD (VE DN Aw zI (pv 7) (pv 1)) (zL (yP 8 qW.nd (yZ xL (pv 2) (yK jF (pv 7) zI) (λ_ _=>rfl)))) yD))
   (zL (xD (PW.pt (JY (kR (zH Cf hr rfl (zA (pv 0) (zA (pv 8) (zA (pv 3) zB))) zV)) (Hs (kR (zH Cj hr rfl (zA (pv 5) (zA (yZ xL (uV (AS hr) (pv 6) (yZ xL (pv 8) zI (λ_ _=>rfl)) (λ_ _=>rfl)) zI (λ_ _=>rfl)) (zA (pv 4) zB))) zV))))) (zL (zT qI)) yD)))) yD))
   (zC (xD (PW.pt (qY (qN (kR (zH Cf hr rfl (zA (pv 0) (zA (yZ xL (pv 2) zI (λ_ _=>rfl)) (zA (pv 3) zB))) zV))) (kW (zX (Hx hr) (zH Ci hr rfl (zA (pv 5) (zA (yZ xL (uV (AS hr) (pv 6) (yZ xL (yZ xL (pv 2) zI (λ_ _=>rfl)) zI (λ_ _=>rfl)) (λ_ _=>rfl)) zI (λ_ _=>rfl)) zB)) zV) (xO (zA zI (zA (pv 1) zB))) (yG _))))) (zL (zT qI)) yD)
   (zC (yP 9 qW.nd (zH Cb hr rfl (zA (pv 5) (zA (yZ xL (uV (AS hr) (pv 6) (yZ xL (yZ xL (pv 2) zI (λ_ _=>rfl)) zI (λ_ _=>rfl)) (λ_ _=>rfl)) zI (λ_ _=>rfl)) zB)) zV))
   (zC (qS yY rfl (Ja rfl T.n_enumerate (zA (wD Lp (pv 2) (wC zI) Au) zB)) (qO rfl (yF (zY 10 qW.nd) (yF (zY 11 qW.nd) jS))) (zL (xD (PW.pt (qY (qN (kR (zH Cf hr rfl (zA (pv 0) (zA (pv 11) (zA (yK jF (yK jF (pv 9) zI) (pv 10)) zB))) zV))) (kW (qN (kR (zH Cj hr rfl (zA (pv 5) (zA (yZ xL (uV (AS hr) (pv 6) (yZ xL (pv 11) zI (λ_ _=>rfl)) (λ_ _=>rfl)) zI (λ_ _=>rfl)) (zA (pv 4) zB))) zV)))))) (zL (zT qI)) yD)))
   (zL (zT qI))))))))
 have lp:=Paired.len pr;rw[zK,zK]at lp;obtain _|⟨na0,pr'⟩:=id pr
 refine#[-1,lk,-1,.of lo.1,rfl,_,-1,_,-1,rfl,?_];refine#[-1,pt,_,_,-1,rfl,.of hp,Ny,v0,bare n0,rfl,Jg na0,(nk n0 (yA ..)).2,λH1 g1=>?_];refine#[λU' H'=>xJ H H'/\(∃v8,U'=[some (.ref lk),some (.int (ps.length:Int)),some (.ref pt),some (.int (b:Int)),some (.int (e:Int)),some (.ref r),some (.ref dd),some (oZ (kM (bare n0))),v8,none,none,none])/\Sc rs (b,e) ((wR rs L (n0::ps)).zip ((n0::ps).map (xT L))) (XI (n0::ps))=false,?_,?_]
 ·have ehd:XI (n0::ps)=kM (bare n0):=rfl;rw[ehd]at q ⊢;cases ev:kM (bare n0)with
  |none=>exact#[-1,rfl,-1,jE #[g1,#[-1],rfl]]
  |some f0=>
  rw[ev]at q;have o5:=VM (v:=f0) (Nat.succ_pos ps.length);obtain⟨vx,hvx⟩: ∃vx,(v0::m7)[Pm f0 (ps.length+1)]? =some vx:=#[_,zF (by rw[zK,lp];exact o5)];obtain⟨x,hx,nax⟩:=Paired.yonder pr hvx;have eah:Sc rs (b,e) ((wR rs L (n0::ps)).zip ((n0::ps).map (xT L))) (some f0)=(CV rs L x&&(xS rs (some (xT L x).1) (some b)&&xS rs (some (xT L x).2) (some e))):=by
   rw[Pa,List.zip_map'];show(match((n0::ps).map λa=>(CV rs L a,xT L a))[Pm f0 ((n0::ps).map λa=>(CV rs L a,xT L a)).length]? with|some i=>i.1&&(xS rs (some i.2.1) (some b)&&xS rs (some i.2.2) (some e))|none=>false)=_;rw[zG,zW,zK,hx];rfl
  rw[eah]at q ⊢;obtain⟨vl,hvl⟩: ∃vl,(v0::m7)[m7.length]? =some vl:=#[_,zF (AR _)];refine#[-1,rfl,-1,jI #[-2,pt,_,_,vl,rfl,rfl,.of (g1 _ _ hp),(QA (xs:=v0::m7) (Nat.succ_pos _)).trans hvl,?_]];refine#[λU' H'=>H'=H1/\U'=[some (.ref lk),some (.int (ps.length:Int)),some (.ref pt),some (.int (b:Int)),some (.int (e:Int)),some (.ref r),some (.ref dd),some (.int f0),some vx,none,none,none],?_,?_]
  ·have h1:0<=f0->f0<(ps.length:Int)->Pm f0 (ps.length+1)=1+f0.toNat:=λc0 c1=>by unfold Pm;rw[zN ()]
   have h2: ¬(0<=f0/\f0<(ps.length:Int))->vl=vx:=λc=>by
    have:Pm f0 (ps.length+1)=m7.length:=by unfold Pm;rw[zQ ()];lia
    rw[this,hvl]at hvx;injection hvx
   refine#[-1,_,-1,rfl,-1,?_]
   by_cases c0:0<=f0
   ·rw[zP c0];refine jI #[-1,_,-1,rfl,-1,?_]
    by_cases c1:f0<(ps.length:Int)
    ·rw[zP c1];refine jI #[-2,_,-1,rfl,pt,_,_,vx,rfl,rfl,.of (g1 _ _ hp),?_,rfl,rfl];rw[h1 c0 c1]at hvx;rw[show f0+1=((1+f0.toNat:Nat):Int)by lia];exact kK hvx
    ·rw[zR c1];exact jE #[rfl,by rw[h2 (λz=>c1 z.2)];rfl]
   ·rw[zR c0];exact jE #[-1,jE #[rfl,by rw[h2 (λz=>c0 z.1)];rfl]]
  ·rintro _ _ ⟨rfl,rfl⟩;have lo1:=lo.same g1;refine#[-3,lk,r,dd,rs,L,vx,x,b,rfl,lo1,ro,nax.tups (vN.same g1),nk x (xB hx),λH2 g2=>#[-1,?_]];have s2:=g1.trans g2;cases cs:IM rs L x b with
   |false=>
    refine jE (jE #[s2,#[-1],?_]);unfold IM at cs;cases z:CV rs L x with
    |false=>rfl
    |true=>rw[z,xC]at cs;rw[cs];rfl
   |true=>
    obtain⟨z1,m1⟩:=Bool.and_eq_true_iff.mp cs;rw[z1,m1,xC,xC]at q ⊢;obtain⟨t1,k1,x1,y1,rfl,et1⟩:=CZ nax;have lo2:=lo.same s2;obtain⟨tl1,dg1,etl1⟩:=lo2.line (BD z1);refine jI #[-3,t1,_,_,-1,rfl,.of (s2 _ _ et1),rfl,dd,-1,dg1,tl1,_,_,-1,rfl,.of etl1,rfl,-1,r,rs,_,-1,lo2.2.1,ro.jo,ro.rl,-1,?_];rw[qQ,qQ];cases m2:xS rs (some (xT L x).2) (some e)with
    |false=>exact jE #[s2,#[-1],rfl]
    |true=>
     rw[m2]at q;exact jI (q H2 s2)
 rintro _ H2 ⟨s2,⟨v8,rfl⟩,ea⟩;rw[ea,Bool.false_or]at q;have lo2:=lo.same s2;have nk0:=nk n0 (yA ..);refine#[-2,pt,_,_,-1,rfl,.of (s2 _ _ hp),Ny,-1,lk,r,dd,rs,L,v0,n0,b,rfl,lo2,ro,na0.tups (vN.same s2),nk0,λH3 g3=>#[-1,?_]];have s3:=s2.trans g3;have lo3:=lo.same s3;have eall:(wR rs L (n0::ps)).all id=(CV rs L n0&&(wR rs L ps).all id):=by rw[wR,kH];rfl
 rw[eall]at q;unfold UV at q;rw[zG]at q;cases cs:IM rs L n0 b with
 |false=>
  unfold IM at cs;refine jI ?_;have:=q H3 s3
  suffices z:(CV rs L n0&&(wR rs L ps).all id&&match qP rs (some (xT L n0).2) 11 (ps.length:Int)with|none=>false|some en=>xS rs (some (xT L n0).1) (some (b,e).1)&&Ge rs (b,e) en (ps.map (xT L)))=false from z▸this
  cases z:CV rs L n0 with
  |false=>rfl
  |true=>
   rw[z,xC]at cs;cases qP rs (some (xT L n0).2) 11 (ps.length:Int)with
   |none=>exact wA _
   |some en=>rw[cs];exact wA _
 |true=>
 obtain⟨z1,m1⟩:=Bool.and_eq_true_iff.mp cs;rw[z1,xC]at q;obtain⟨t0,k0,x0,y0,rfl,et0⟩:=CZ na0;obtain⟨tl0,dg0,etl0⟩:=lo3.line (BD z1);refine jE #[-3,pt,_,_,-1,rfl,.of (s3 _ _ hp),Ny,t0,_,_,-1,rfl,.of (s3 _ _ et0),rfl,dd,-1,dg0,tl0,_,_,-1,rfl,.of etl0,rfl,r,rs,-1,lo3.2.1,ro.jo,ro.rl,λp4 H4 g4 e4=>?_];refine#[-1,sm2,λt5 ht5=>?_];have s5:=(s3.trans g4).trans (zM ht5 (.tup [.int 11,.int (ps.length:Int)]));have e4:=zM ht5 (.tup [.int 11,.int (ps.length:Int)]) _ _ e4;have g35:=g4.trans (zM ht5 (.tup [.int 11,.int (ps.length:Int)]));generalize eH5:upd H4 t5 (.tup [.int 11,.int (ps.length:Int)])=H5 at *
 have et5:H5 t5=some (.tup [.int 11,.int (ps.length:Int)]):=by rw[<-eH5];exact upd_same
 refine#[p4,t5,_,_,_,-1,rfl,.of e4,.of et5,rfl,-1,?_];rw[UX]
 by_cases c11: ¬Eu rs (xT L n0).2=(11,(ps.length:Int))
 ·rw[zR c11];rw[FS c11,wA]at q;exact jI (q H5 s5)
 have c11:=Classical.not_not.mp c11;rw[zP c11];obtain⟨l1,_,_,gl,bl⟩:=DT c11 (by decide);rw[bl]at q;dsimp only at q;rw[m1,xC,Zp]at q;have lo5:=lo.same s5;obtain⟨tl5,dg5,etl5⟩:=lo5.line (BD z1);refine jE #[-3,pt,_,_,-1,rfl,.of (s5 _ _ hp),Ny,t0,_,_,-1,rfl,.of (s5 _ _ et0),rfl,dd,-1,dg5,tl5,_,_,-1,rfl,.of etl5,rfl,r,rs,-1,lo5.2.1,ro.jo,ro.rl,?_];rw[gl];refine#[-2,pt,-1,.of (s5 _ _ hp),?_,λcx hcx=>?_]
 ·rintro⟨z,_⟩;have:HT.sIx (V.ref t0::m7).length 0 (some (1:Int))=min 1 (V.ref t0::m7).length:=HT.sIx_nat _ _ 1;rw[this,zK]at z;lia
 have ec:Bu (V.ref t0::m7) (some (1:Int)) none=m7:=Fl 1;rw[ec];have s6:=s5.trans (zM hcx (.tup m7));have ecx:upd H5 cx (.tup m7) cx=some (.tup m7):=upd_same;generalize upd H5 cx (.tup m7)=H6 at *
 refine#[cx,-1,.of ecx,HA (xs:=m7) (λi U' H'=>xJ H6 H'/\(∃v10 v11:i5 V,U'=[some (.ref lk),some (.int (ps.length:Int)),some (.ref pt),some (.int (b:Int)),some (.int (e:Int)),some (.ref r),some (.ref dd),some (oZ (kM (bare n0))),v8,some (.int (l1:Int)),v10,v11])/\plM rs L e (l1+1) ps=plM rs L e (l1+1+i) (ps.drop i)) #[xJ.refl _,#[_,-1],rfl] (λi U' H' _ ⟨z,_⟩=>.of (z _ _ ecx)) ?_ ?_]
 rotate_left
 ·rintro U' H7 ⟨g7,⟨v10,v11,rfl⟩,e7⟩;rw[show m7.length=ps.length by lia,uQ]at e7;rw[e7]at q;exact q H7 (s6.trans g7)
 rintro i v U' H7 t hv ⟨g7,⟨v10,v11,rfl⟩,e7⟩ ht;obtain⟨nd,hnd,na⟩:=Paired.yonder pr' hv;have g8:=g7.trans (zM ht (.tup [.int (i:Nat),v]));have et:upd H7 t (.tup [.int (i:Nat),v]) t=some (.tup [.int (i:Nat),v]):=upd_same;generalize upd H7 t (.tup [.int (i:Nat),v])=H8 at *
 have s8:=s6.trans g8;have ed:ps.drop i=nd::ps.drop (i+1):=by
  obtain⟨hi,ei⟩:=List.getElem?_eq_some_iff.mp hnd;rw[yS hi,ei]
 rw[ed]at e7;have e7:plM rs L e (l1+1) ps=(IM rs L nd (l1+1+i)&&(xS rs (some (xT L nd).2) (some e)&&plM rs L e (l1+1+(i+1)) (ps.drop (i+1)))):=e7;rw[e7]at q;refine#[t,-1,.of et,rfl,_,-1,_,-1,rfl,?_];have lo8:=lo.same s8;refine#[-3,_,-1,rfl,-1,_,-1,rfl,lk,r,dd,rs,L,v,nd,l1+1+i,rfl,lo8,ro,na.tups (vN.same s8),nk nd (yC _ (xB hnd)),λH9 g9=>#[-1,?_]];have s9:=s8.trans g9;cases cst:IM rs L nd (l1+1+i)with
 |false=>
  rw[cst]at q;exact jI (q H9 s9)
 |true=>
 rw[cst,xC]at q e7;obtain⟨z2,m2⟩:=Bool.and_eq_true_iff.mp cst;obtain⟨t1,k1,x1,y1,rfl,et1⟩:=CZ na;have lo9:=lo.same s9;obtain⟨tl1,dg1,etl1⟩:=lo9.line (BD z2);refine jE #[-3,t1,_,_,-1,rfl,.of (s9 _ _ et1),rfl,dd,-1,dg1,tl1,_,_,-1,rfl,.of etl1,rfl,-1,r,rs,_,-1,lo9.2.1,ro.jo,ro.rl,-1,?_];rw[qQ,qQ];cases m3:xS rs (some (xT L nd).2) (some e)with
 |false=>
  rw[m3]at q;exact jI (q H9 s9)
 |true=>
 rw[m3,xC]at e7;exact jE #[g8.trans g9,#[_,-1],e7]
theorem Xq: ∀{ps:a6 Nd} {fi:i8} {a:Nat},Kw rs L false fi a ps=if(wR rs L ps).all id=true then AB rs a (ps.map (xT L))else none
 |[],fi,a=>by rw[wR];cases fi<;>rfl
 |p::r,fi,a=>by
  have ih:=Xq (rs:=rs) (L:=L) (ps:=r) (fi:=false) (a:=(xT L p).2);rw[wR,kH,yM];have e:Kw rs L false fi a (p::r)=if IM rs L p a=true then Kw rs L false false (xT L p).2 r else none:=by
   rw[Kw,zN (λz=>by cases z.2)]<;>rfl
  rw[e,ih];unfold IM;rw[Br];dsimp only[id,AB];cases CV rs L p<;>cases xS rs (some a) (some (xT L p).1)<;>cases(wR rs L r).all id<;>rfl
noncomputable def YS (rs:vX)(e:Nat)(o:i5 Nat):i8:=match o with
 |some a=>xS rs (some a) (some e)
 |none=>false
theorem Ts: ∀{r:a6 Nd} {p:Nd},YS rs e (Kw rs L true false (xT L p).2 r)=((wR rs L r).all id&&(UY rs ((p::r).map (xT L))&&match((p::r).map (xT L)).getLast? with|some z=>xS rs (some z.2) (some e)|none=>false))
 |[],p=>by rw[wR];rfl
 |c::r,p=>by
  have ih:=Ts (rs:=rs) (L:=L) (e:=e) (r:=r) (p:=c);rw[wR,kH];have e1:Kw rs L true false (xT L p).2 (c::r)=match qP rs (some (xT L p).2) 3 0 with|none=>none|some x=>if IM rs L c x=true then Kw rs L true false (xT L c).2 r else none:=by
   rw[Kw,zQ #[rfl,rfl]]<;>rfl
  have e2:UY rs ((p::c::r).map (xT L))=(xS rs (qP rs (some (xT L p).2) 3 0) (some (xT L c).1)&&UY rs ((c::r).map (xT L))):=rfl;have e3:((p::c::r).map (xT L)).getLast? =((c::r).map (xT L)).getLast?:=by rw[yM,yM,Fw,<-yM]
  rw[e1,e2,e3];cases qP rs (some (xT L p).2) 3 0 with
  |none=>rw[DW,qM,qM,wA];rfl
  |some x=>
   dsimp only;unfold IM;rw[Br];cases CV rs L c with
   |false=>rfl
   |true=>
    cases xS rs (some x) (some (xT L c).1)with
    |false=>rw[qM,qM];cases(wR rs L r).all id<;>rfl
    |true=>
     show YS rs e (Kw rs L true false (xT L c).2 r)=_;rw[ih];rfl
theorem zBi:YS rs e (Kw rs L true true b (p::r))=((wR rs L (p::r)).all id&&Xt rs (b,e) ((p::r).map (xT L))):=by
 have e1:Kw rs L true true b (p::r)=if IM rs L p b=true then Kw rs L true false (xT L p).2 r else none:=by
  rw[Kw,zN (λz=>by cases z.1)]<;>rfl
 have h:=Ts (rs:=rs) (L:=L) (e:=e) (r:=r) (p:=p);rw[e1,wR,kH];unfold IM Xt;have e2:((p::r).map (xT L)).head? =some (xT L p):=rfl;rw[e2];cases el:((p::r).map (xT L)).getLast? with
 |none=>rw[yM]at el;cases r<;>simp at el
 |some z=>
  rw[el]at h;dsimp only[id]at h ⊢;cases CV rs L p with
  |false=>rfl
  |true=>
   cases xS rs (some (xT L p).1) (some b)with
   |false=>show false=_;simp
   |true=>
    show YS rs e (Kw rs L true false (xT L p).2 r)=_;rw[h,xC,xC]
theorem Pb (hl:L (p:Int)=some be)(hv:SL rs be (kM (.mk k own (zU ps)))=false)(h4:k≠4):CV rs L (.mk k p own ps)=((wR rs L ps).all id&&QE rs be k own (ps.map (xT L))):=by
 rw[CV,hl];dsimp only;rw[hv,zN (by decide),zN (λz=>h4 z.1)];cases(wR rs L ps).all id<;>rfl
theorem Vy (hl:L (p:Int)=some be)(hv:SL rs be (kM (.mk 4 own (zU (n0::ps))))=false):CV rs L (.mk 4 p own (n0::ps))=(Sc rs be ((wR rs L (n0::ps)).zip ((n0::ps).map (xT L))) (XI (n0::ps)) || ((wR rs L (n0::ps)).all id&&UV rs be (xT L n0) (ps.map (xT L)))):=by
 rw[CV,hl];dsimp only;rw[hv,zN (by decide)];have e:QE rs be 4 own ((n0::ps).map (xT L))=UV rs be (xT L n0) (ps.map (xT L)):=rfl;rw[e];cases Sc rs be ((wR rs L (n0::ps)).zip ((n0::ps).map (xT L))) (XI (n0::ps))<;>cases(wR rs L (n0::ps)).all id<;>simp
theorem Nw: ∀{ps:a6 Nd} {x:Nd},x∈ps->bare x∈zU ps
 |a::r,x,m=>by
  rw[uX]
  rcases List.mem_cons.mp m with rfl|m
  ·exact yA ..
  ·exact yC _ (Nw m)
theorem Mb: ∀{ps:a6 Tr} {t:Tr},qV hs bx d ps->t∈ps->wW hs bx d t
 |a::r,t,h,m=>by
  unfold qV at h
  rcases List.mem_cons.mp m with rfl|m
  ·exact h.1
  ·exact Mb h.2 m
theorem Rr (d:Nat)(T:Gk K mg)(F:qT K "_law_right" "_law_right" DS f fd)(Cs:jY P w K mg base (1+d+1) "_law_worth" ["_law_node"] (CP (d+1)))(Cb:jY P w K mg base 1 "_law_goal" ["_law_rows_here","_law_at"] Bw)(Ci:jY P w K mg base 2 "_law_row" ["_law_rows_here","_law_at"] EA)(Cj:jY P w K mg base 2 "_law_meet" ["_law_rows_here","_law_one","_law_other"] DY)(Cc5:jY P w K mg base (3+3*d+2) "_law_picked" ["_law_look","_law_many","_law_parts","_law_begin","_law_end"] (JC d))(Cc7:jY P w K mg base (3+3*d+2) "_law_looped" ["_law_look","_law_parts","_law_begin","_law_end"] (JF d))(Ca9:jY P w K mg base (3+3*d+2) "_law_behind_parts" ["_law_look","_law_parts","_law_begin","_law_drops"] (JL d)):vO P w K mg base (3+3*d+3) f fd ["_law_look","_law_node"] (Gr (d+1)):=by
 exists kQ;obtain⟨lk,r,dd,rs,L,v,⟨k,p,own,ps⟩,rfl,lo,ro,na,nk,q⟩:=h;exists _,(zC (wS (pv 0) (qO rfl (yF (zY 2 kQ.nd) (yF (zY 3 kQ.nd) jS))))
   (zC (wS (pv 1) (qO rfl (yF (zY 4 kQ.nd) (yF (zY 5 kQ.nd) (yF (zY 6 kQ.nd) (yF (zY 7 kQ.nd) jS))))))
   (zC (xD (Rg (MX (AS hr) (pv 5) (pv 3))) (zL (zT qI)) yD)
   (zC (wS (uV (AS hr) (pv 3) (pv 5) (λ_ _=>rfl)) (qO rfl (yF (zY 8 kQ.nd) (yF (zY 9 kQ.nd) jS))))
   (zC (yP 10 kQ.nd (zH Cs hr rfl (zA (pv 1) zB) zV))
   (zC (DB (xD (PW.pt (JY (zX Jf (pv 10) qH (yG _)) (Hs (zX (KK hr) (zH Ci hr rfl (zA (pv 2) (zA (pv 8) zB)) zV) (xO (zA zI (zA (pv 10) zB))) (yG _))))) (zL (xD (kR (zH Cj hr rfl (zA (pv 2) (zA (yK jF (zH Cb hr rfl (zA (pv 2) (zA (pv 8) zB)) zV) zI) (zA (pv 9) zB))) zV)) (zL (zT qI)) yD)) yD))
   (zC (xD (zX jM (pv 4) zI (yG _)) (zL (zT qI)) yD)
   (zC (xD (zX jM (pv 4) zI (yG _)) (zL (zT (zH Cc5 hr rfl (zA (pv 0) (zA (yZ xL (pv 6) zI (λ_ _=>rfl)) (zA (pv 7) (zA (pv 8) (zA (pv 9) zB))))) zV))) yD)
   (zC (xD (zX jM (pv 4) zI (yG _)) (zL (zT (zH Cc7 hr rfl (zA (pv 0) (zA (pv 7) (zA (pv 8) (zA (pv 9) zB)))) zV))) yD)
   (zC (yP 11 kQ.nd (zH Ca9 hr rfl (zA (pv 0) (zA (pv 7) (zA (pv 8) (zA (uW jM (pv 4) zI (yG _)) zB)))) zV))
   (zC (xD (zX Aw (pv 11) zI (yG _)) (zL (zT qI)) yD)
   (zC (xD (zX jM (pv 4) zI (yG _)) (zL (zT (zH Cj hr rfl (zA (pv 2) (zA (pv 11) (zA (pv 9) zB))) zV))) yD)
   (zC (yP 12 kQ.nd (xO (zA zI (zA (pv 4) zB))))
   (zC (DB (xD (zX Ff (pv 4) (xO (xU (.int (.int (.int .nil))))) rfl) (zL (yP 12 kQ.nd (xO (zA (pv 4) (zA (yZ xL (pv 6) zI (λ_ _=>rfl)) zB))))) yD))
   (zC (xD (zX jM (pv 4) zI (yG _)) (zL (zT (uW (KK hr) (zH Ci hr rfl (zA (pv 2) (zA (pv 11) zB)) zV) (xO (xU (.int (.int .nil)))) (yG _)))) yD)
   (zL (zT (An (uW (KK hr) (zH Ci hr rfl (zA (pv 2) (zA (pv 11) zB)) zV) (pv 12) (yG _)) (BE (zH Cj hr rfl (zA (pv 2) (zA (yK jF (zH Cb hr rfl (zA (pv 2) (zA (pv 11) zB)) zV) zI) (zA (pv 9) zB))) zV))))))))))))))))))))
 have tr:=Jg na;obtain⟨tn,o,pq,us,rfl,e1,e2,e3,pr⟩:=na;obtain⟨⟨hs,bx,ft⟩,sm⟩:=nk;have ft0:wW hs bx (d+1) (.mk k own (zU ps)):=ft;unfold wW at ft0;obtain⟨k0,k19,ow,lps,_,fts⟩:=ft0;rw[qB]at lps;have sm0:OH (d+1) (.mk k own (zU ps)):=sm;have nks: ∀x∈ps,ZC d x:=λx m=>by
  have mb:bare x∈zU ps:=Nw m;exact#[#[hs,bx,Mb fts mb],sm0.2.2.1 _ mb]
 refine#[-1,lk,-1,.of lo.1,rfl,_,-1,_,-1,rfl,?_];refine#[-1,tn,-1,.of e1,rfl,_,-1,_,-1,_,-1,_,-1,rfl,?_];obtain⟨od,dgd,eod⟩:=lo.has (p:Int);refine#[-2,dd,od,rfl,dgd,-1,?_];cases hl:L (p:Int)with
 |none=>
  rw[hl]at eod;rw[show od.isSome=false from eod];have:CV rs L (.mk k p own ps)=false:=by rw[CV,hl]
  rw[this]at q;exact jI (q H (xJ.refl H))
 |some be=>
 obtain⟨b,e⟩:=be;rw[hl]at eod;rw[show od.isSome=true from eod];obtain⟨tl,dg,etl⟩:=lo.line hl;refine jE #[-2,dd,-1,dg,tl,-1,.of etl,rfl,_,-1,_,-1,rfl,?_];refine#[-1,_,-1,tr,sm,λH1 g1=>?_];have ebare:bare (.mk k p own ps)=.mk k own (zU ps):=rfl;rw[ebare];generalize hv:kM (.mk k own (zU ps))=ov;have lo1:=lo.same g1;refine#[λU' H'=>xJ H H'/\U'=[some (.ref lk),some (.ref tn),some (.ref r),some (.ref dd),some (.int k),some (.int (p:Int)),some (.ref o),some (.ref pq),some (.int (b:Int)),some (.int (e:Int)),some (oZ ov),none,none]/\SL rs (b,e) ov=false,?_,?_]
 ·cases ov with
  |none=>exact#[-1,rfl,-1,jE (jE #[g1,rfl,rfl])]
  |some n=>
   have yes:Ht rs (b,e) n=true-> ∀H',xJ H H'->Q (.bl true) H':=λz H' s=>by
    have t:CV rs L (.mk k p own ps)=true:=by
     rw[CV,hl];dsimp only;rw[hv,zQ (show SL rs (b,e) (some n)=true from z)]
    have:=q H' s
    rwa [t]at this
   refine#[-1,rfl,-1,jI #[-2,r,rs,-1,lo1.2.1,ro.jo,ro.rl,λp2 H2 g2 e2'=>#[-1,sm2,λt3 ht3=>?_]]];have s3:=(g1.trans g2).trans (zM ht3 (.tup [.int 0,oZ (some n)]));have e2':=zM ht3 (.tup [.int 0,oZ (some n)]) _ _ e2';generalize eH3:upd H2 t3 (.tup [.int 0,oZ (some n)])=H3 at *
   have et3:H3 t3=some (.tup [.int 0,.int n]):=by rw[<-eH3];exact upd_same
   refine#[p2,t3,_,_,_,-1,rfl,.of e2',.of et3,rfl,-1,?_];rw[UX]
   by_cases c0: ¬Eu rs b=(0,n)
   ·rw[zR c0];refine jE #[s3,rfl,?_];show Ht rs (b,e) n=false;unfold Ht;rw[FS c0];rfl
   have c0:=Classical.not_not.mp c0;rw[zP c0];obtain⟨l0,_,_,gl,bl⟩:=DT c0 (by decide);have lo3:=lo.same s3;refine jI #[-3,r,rs,-1,lo3.2.1,ro.jo,ro.rl,?_];rw[gl];refine#[_,-1,rfl,-1,r,rs,((l0+1:Nat):Int),-1,lo3.2.1,ro.jo,ro.rl,-1,?_];rw[qQ,qQ];have ep:Ht rs (b,e) n=xS rs (some (l0+1)) (some e):=by unfold Ht;rw[bl]
   cases m:xS rs (some (l0+1)) (some e)with
   |true=>
    rw[m]at ep;exact jI (yes ep H3 s3)
   |false=>
    rw[m]at ep;exact jE #[s3,rfl,ep]
 rintro _ H2 ⟨s2,rfl,pvf⟩;have lo2:=lo.same s2;have pvf':SL rs (b,e) (kM (.mk k own (zU ps)))=false:=by rw[hv];exact pvf
 refine#[-1,rfl,-1,jK (λc=>?_) (λc=>?_)]
 ·have ck:k=0:=by have:=yB c;injection this
  subst ck;rw[Pb hl pvf' (by decide)]at q;obtain⟨n,rfl⟩: ∃n,own=[n]:=by
   rcases ow with⟨_,n,rfl⟩|⟨z,_⟩|⟨z,_⟩|⟨z,_⟩|⟨z,_⟩|⟨z,_⟩
   ·exact#[n,rfl]
   all_goals exact absurd z (by decide)
  obtain rfl:ps=[]:=List.eq_nil_of_length_eq_zero lps;have:((wR rs L []).all id&&QE rs (b,e) 0 [n] (List.map (xT L) []))=SL rs (b,e) (kM (.mk 0 [n] (zU []))):=by
   rw[wR,kM,zQ rfl];rfl
  rw[this,pvf']at q;exact q H2 s2
 have k0':k≠0:=λz=>by rw[z]at c;exact c (zP rfl)
 refine#[-1,rfl,-1,jK (λc=>?_) (λc=>?_)]
 ·have ck:k=4:=by have:=yB c;injection this
  subst ck;obtain⟨n,rfl,n2,n12⟩: ∃n,own=[n]/\2<=n/\n<=12:=by
   rcases ow with⟨z,_⟩|⟨z,_⟩|⟨z,_⟩|⟨_,n,rfl,a,b⟩|⟨z,_⟩|⟨z,_⟩
   ·exact absurd z (by decide)
   ·exact absurd z (by decide)
   ·exact absurd z (by decide)
   ·exact#[n,rfl,a,b]
   ·exact absurd z (by decide)
   ·exact absurd z (by decide)
  have lps:ps.length=(1+n).toNat:=lps;obtain⟨n0,ps,rfl⟩: ∃n0 ps',ps=n0::ps':=by
   cases ps with
   |nil=>exact absurd lps (by show ¬0=_;lia)
   |cons a r=>exact#[a,r,rfl]
  obtain⟨v0,us,rfl⟩: ∃v0 us',us=v0::us':=by
   cases pr with
   |cons _ _=>exact#[_,-1]
  rw[zK]at lps;have en:n=(ps.length:Int):=()
  rw[Vy hl pvf']at q;subst en;exact#[-2,o,_,_,-1,rfl,.of (s2 _ _ e2),rfl,-3,lk,r,dd,pq,rs,L,v0,us,n0,ps,b,e,rfl,lo2,ro,s2 _ _ e3,Paired.imp (λ_ _ z=>z.tups (vN.same s2)) pr,nks,(),λH' s'=>q H' (s2.trans s')]
 have k4:k≠4:=λz=>by rw[z]at c;exact c (zP rfl)
 rw[Pb hl pvf' k4]at q;refine#[-1,rfl,-1,jK (λc=>?_) (λc=>?_)]
 ·have ck:k=5:=by have:=yB c;injection this
  subst ck;have lps:ps.length=2:=lps;obtain⟨n1,n2,rfl⟩: ∃n1 n2,ps=[n1,n2]:=by
   match ps,lps with
   |[a,b],_=>exact#[a,b,rfl]
  obtain⟨v1,v2,rfl,na1,na2⟩: ∃v1 v2,us=[v1,v2]/\jW H d v1 n1/\jW H d v2 n2:=by
   cases pr with
   |cons a pr=>
   cases pr with
   |cons b pr=>
   cases pr;exact#[_,-1,a,b]
  have:((wR rs L [n1,n2]).all id&&QE rs (b,e) 5 own ([n1,n2].map (xT L)))=(CV rs L n1&&(CV rs L n2&&UW rs (b,e) (xT L n1) (xT L n2))):=by
   rw[wR,wR,wR];show((CV rs L n1&&(CV rs L n2&&true))&&UW rs (b,e) (xT L n1) (xT L n2))=_;rw[uF,Bool.and_assoc]
  rw[this]at q;exact#[-4,lk,r,dd,pq,rs,L,v1,v2,n1,n2,b,e,rfl,lo2,ro,s2 _ _ e3,na1.tups (vN.same s2),nks n1 (by simp),na2.tups (vN.same s2),nks n2 (by simp),λH' s'=>q H' (s2.trans s')]
 have k5:k≠5:=λz=>by rw[z]at c;exact c (zP rfl)
 refine#[-4,rfl,lk,r,dd,pq,rs,L,us,ps,b,decide (V.int k=V.int 3),rfl,lo2,ro,s2 _ _ e3,Paired.imp (λ_ _ z=>z.tups (vN.same s2)) pr,nks,λH3 g3=>?_];have s3:=s2.trans g3;have lo3:=lo.same s3;refine#[-1,_,-1,rfl,-1,?_]
 by_cases c3:k=3
 ·subst c3;rw[show decide (V.int (3:Int)=V.int 3)=true from zP rfl];obtain⟨n,rfl,n1,n12⟩: ∃n,own=[n]/\1<=n/\n<=12:=by
   rcases ow with⟨z,_⟩|⟨z,_⟩|⟨_,n,rfl,a,b⟩|⟨z,_⟩|⟨z,_⟩|⟨z,_⟩
   ·exact absurd z (by decide)
   ·exact absurd z (by decide)
   ·exact#[n,rfl,a,b]
   ·exact absurd z (by decide)
   ·exact absurd z (by decide)
   ·exact absurd z (by decide)
  have lps:ps.length=n.toNat:=lps;obtain⟨n0,ps,rfl⟩: ∃n0 ps',ps=n0::ps':=by
   cases ps with
   |nil=>exact absurd lps (by show ¬0=_;lia)
   |cons a r=>exact#[a,r,rfl]
  have er:QE rs (b,e) 3 [n] ((n0::ps).map (xT L))=Xt rs (b,e) ((n0::ps).map (xT L)):=rfl;rw[er,<-zBi]at q;cases eb:Kw rs L true true b (n0::ps)with
  |none=>
   rw[eb]at q;exact jI (q H3 s3)
  |some a=>
   rw[eb]at q;rw[show decide (oM (some a)<0)=false from zR (by show ¬((a:Nat):Int)<0;lia)];refine jE #[-1,rfl,-1,?_];rw[show decide (V.int (3:Int)=V.int 3)=true from zP rfl];refine jI #[-3,r,rs,((a:Nat):Int),-1,lo3.2.1,ro.jo,ro.rl,?_];rw[qQ,qQ];exact q H3 s3
 rw[show decide (V.int k=V.int 3)=false from zR λz=>c3 (by injection z)];have er:QE rs (b,e) k own (ps.map (xT L))=Je rs (b,e) (ps.map (xT L)) k (Ek k own):=by
  unfold QE;rw[zN c3,zN k4,zN k5]
 rw[er]at q;have eb:=Xq (rs:=rs) (L:=L) (ps:=ps) (fi:=true) (a:=b);cases ea:Kw rs L false true b ps with
 |none=>
  rw[ea]at eb;have:((wR rs L ps).all id&&Je rs (b,e) (ps.map (xT L)) k (Ek k own))=false:=by
   cases al:(wR rs L ps).all id with
   |false=>rfl
   |true=>
    rw[al,zQ rfl]at eb;unfold Je;dsimp only;rw[<-eb];show(if k=7 then false else false)=false;split<;>rfl
  rw[this]at q;exact jI (q H3 s3)
 |some a=>
 rw[ea]at eb;cases al:(wR rs L ps).all id with
 |false=>rw[al]at eb;cases eb
 |true=>
 rw[al,zQ rfl]at eb;rw[al,xC]at q;unfold Je at q;dsimp only at q;rw[<-eb]at q;rw[show decide (oM (some a)<0)=false from zR (by show ¬((a:Nat):Int)<0;lia)];refine jE #[-1,rfl,-1,?_];rw[show decide (V.int k=V.int 3)=false from zR λz=>c3 (by injection z)];refine jE #[-1,sm2,λt4 ht4=>?_];have s4:=s3.trans (zM ht4 (.tup [.int 10,.int k]));have et4:upd H3 t4 (.tup [.int 10,.int k]) t4=some (.tup [.int 10,.int k]):=upd_same;generalize upd H3 t4 (.tup [.int 10,.int k])=H4 at *
 refine#[λU' H'=>xJ H H'/\ ∃(tr:i4) (g0 g1:Int),U'=[some (.ref lk),some (.ref tn),some (.ref r),some (.ref dd),some (.int k),some (.int (p:Int)),some (.ref o),some (.ref pq),some (.int (b:Int)),some (.int (e:Int)),some (oZ ov),some (.int (a:Int)),some (.ref tr)]/\H' tr=some (.tup [.int g0,.int g1])/\(k≠7->Ek k own=[g0,g1]),?_,?_]
 ·refine#[-1,sm3,λt5 ht5=>#[t5,-1,.inr (.of upd_same),rfl,rfl,-1,?_]];have s5:=s4.trans (zM ht5 (.tup [.int 1,.int 2,.int 6]));have et4:=zM ht5 (.tup [.int 1,.int 2,.int 6]) _ _ et4;generalize upd H4 t5 (.tup [.int 1,.int 2,.int 6])=H5 at *
  have ei:(if false=true then !Zs (.int k) ([1,2,6].map V.int)else Zs (.int k) ([1,2,6].map V.int))=decide (k∈[(1:Int),2,6]):=LW k [1,2,6];refine jK (λc=>?_) (λc=>?_)
  ·have hk:k=1\/k=2\/k=6:=by have:=yB (ei.symm.trans c);simpa using this
   obtain⟨n,rfl⟩: ∃n,own=[n]:=by
    rcases ow with⟨z,_⟩|⟨_,n,rfl,_⟩|⟨z,_⟩|⟨z,_⟩|⟨_,n,rfl,_⟩|⟨z,_⟩
    ·exact absurd z k0'
    ·exact#[n,rfl]
    ·exact absurd z c3
    ·exact absurd z k4
    ·exact#[n,rfl]
    ·lia
   refine#[-2,o,_,_,-1,rfl,.of (s5 _ _ e2),rfl,sm2,λt6 ht6=>#[s5.trans (zM ht6 _),t6,k,n,rfl,upd_same,λ_=>?_]]
   rcases hk with rfl|rfl|rfl<;>rfl
  ·have hk: ¬(k=1\/k=2\/k=6):=λz=>c (ei.trans (zP (by simpa using z)));refine#[s5,t4,10,k,rfl,et4,λh7=>?_];unfold Ek;rw[zN (),zN (),zN h7]
 rintro _ H5 ⟨s5,tr5,g0,g1,rfl,etr,eo⟩;have lo5:=lo.same s5;refine#[-1,rfl,-1,jK (λc=>?_) (λc=>?_)]
 ·have ck:k=7:=by have:=yB c;injection this
  subst ck;rw[zQ rfl]at q;refine#[-2,r,rs,((a:Nat):Int),rfl,lo5.2.1,ro.jo,ro.rl,λp6 H6 g6 e6=>#[sm2,λt7 ht7=>?_]];refine#[p6,t7,_,_,_,-1,rfl,.of (zM ht7 _ _ _ e6),.of upd_same,rfl,?_];rw[UX];have:(qP rs (some a) 8 0).isSome =decide (Eu rs a=(8,0)):=by
   by_cases c8:Eu rs a=(8,0)
   ·obtain⟨l8,_,_,_,b8⟩:=DT c8 (by decide);rw[b8,zP c8];rfl
   ·rw[FS c8,zR c8];rfl
  rw[<-this];exact q _ ((s5.trans g6).trans (zM ht7 _))
 have k7:k≠7:=λz=>by rw[z]at c;exact c (zP rfl)
 rw[zN k7,eo k7]at q;dsimp only[List.headD,List.getD]at q;have q: ∀H',xJ H H'->Q (.bl (xS rs (qP rs (some a) g0 g1) (some e))) H':=q;have hg:g0≠ -1:=λz=>by
  have:=eo k7;unfold Ek at this;rw[z]at this;split at this
  ·injection this with this;lia
  split at this
  ·injection this with this;lia
  injection this with this
  lia
 refine#[-2,r,rs,((a:Nat):Int),rfl,lo5.2.1,ro.jo,ro.rl,λp6 H6 g6 e6=>?_];have s6:=s5.trans g6;refine#[-1,p6,tr5,_,_,_,-1,rfl,.of e6,.of (g6 _ _ etr),rfl,-1,?_];rw[UX]
 by_cases c8: ¬Eu rs a=(g0,g1)
 ·rw[zR c8];rw[FS c8]at q;exact jE (q H6 s6)
 have c8:=Classical.not_not.mp c8;rw[zP c8];obtain⟨l8,_,_,gl,b8⟩:=DT c8 hg;rw[b8]at q;have lo6:=lo.same s6;refine jI #[-3,r,rs,((a:Nat):Int),rfl,lo6.2.1,ro.jo,ro.rl,?_];rw[gl];refine#[_,-1,rfl,-1,r,rs,((l8+1:Nat):Int),-1,lo6.2.1,ro.jo,ro.rl,?_];rw[qQ,qQ];exact q H6 s6
structure Cd (cs:List Int)(hs:Gh)(rs:vX):Prop where
 co:Ep cs
 hd:Gj 3 (headNums cs)=hs.map λh=>[h.1,h.2.1,h.2.2]
 rw_:Gj 2 (rowNums cs)=JZ rs
 ro:RsO rs
 r0:0<rs.length
 h1:hs.length<=16
 h0: ∀h∈hs,0<=h.1
 c0:cs[0]? =some (hs.length:Int)
 cl:cs.length=1+3*hs.length+2*rs.length
 ca: ∀(i:Nat) (h:Int×Int×Int),hs[i]? =some h->cs[1+3*i]? =some h.1/\cs[2+3*i]? =some h.2.1/\cs[3+3*i]? =some h.2.2
 ra: ∀(i:Nat) (x:Int×Int),rs[i]? =some x->cs[1+3*hs.length+2*i]? =some x.1/\cs[1+3*hs.length+2*i+1]? =some x.2
theorem Nm {l:a6 Int}{i:Nat}(h:i<l.length):l[i]? =some (l.getD i 0):=by rw[yU,zF h];rfl
theorem Ql {l:a6 Int}{i:Nat}(h:i<l.length):l.getD i 0=l[i]:=by rw[yU,zF h];rfl
theorem zHs {l:a6 Int}{j:Nat}(h:j+3<=l.length):(l.drop j).take 3=[l.getD j 0,l.getD (j+1) 0,l.getD (j+2) 0]:=by
 rw[yS (),yS (),yS (),Ql (),Ql (),Ql ()];rfl
theorem zHt {l:a6 Int}{j:Nat}(h:j+2<=l.length):(l.drop j).take 2=[l.getD j 0,l.getD (j+1) 0]:=by
 rw[yS (),yS (),Ql (),Ql ()];rfl
theorem Qw {cs:a6 Int}(ok:Ep cs)(hl:cs.length<=1000): ∃hs rs,Cd cs hs rs:=by
 obtain⟨n,ms,e,n1,n16,ln,l2⟩:=ok.big;obtain⟨m,rfl⟩: ∃m:Nat,n=(m:Int):=#[n.toNat,()];have ec:cs.headD 0=(m:Int):=by rw[e];rfl
 have lc:cs.length=ms.length+1:=by rw[e];rfl
 have c0:cs[0]? =some (m:Int):=by rw[e];rfl
 rw[xY]at l2;have n8:(headNums cs).length =3*m:=by
  unfold headNums;rw[ec,xY,xM,qR];lia
 have hget: ∀i,i<3*m->(headNums cs).getD i 0=cs.getD (1+i) 0:=λi hi=>by
  unfold headNums;rw[ec,xY,yU,EZ hi,List.getElem?_drop,yU]
 have rlen:(rowNums cs).length =ms.length-3*m:=by
  unfold rowNums;rw[ec,xY,qR];lia
 have rget: ∀i,(rowNums cs).getD i 0=cs.getD (1+3*m+i) 0:=λi=>by
  unfold rowNums;rw[ec,xY,yU,List.getElem?_drop,yU]
 have N:(ms.length-3*m+1) / 2=(ms.length-3*m) / 2:=()
 have gh:Gj 3 (headNums cs)=((List.range m).map λi=>(cs.getD (1+3*i) 0,cs.getD (2+3*i) 0,cs.getD (3+3*i) 0)).map λh:Int×Int×Int=>[h.1,h.2.1,h.2.2]:=by
  unfold Gj;rw[n8,show(3*m+(3-1)) / 3=m by lia,Aa];refine wB λi hi=>?_;have hi:=List.mem_range.mp hi;rw[zHs (),hget _ (),hget _ (),hget _ ()];show _=[cs.getD (1+3*i) 0,cs.getD (2+3*i) 0,cs.getD (3+3*i) 0];rw[show 1+i*3=1+3*i by lia,show 1+(i*3+1)=2+3*i by lia,show 1+(i*3+2)=3+3*i by lia]
 have gr:Gj 2 (rowNums cs)=JZ ((List.range ((ms.length-3*m) / 2)).map λi=>(cs.getD (1+3*m+2*i) 0,cs.getD (1+3*m+2*i+1) 0)):=by
  unfold Gj JZ;rw[rlen,show(ms.length-3*m+(2-1)) / 2=(ms.length-3*m) / 2 from N,Aa];refine wB λi hi=>?_;have hi:=List.mem_range.mp hi;rw[zHt (),rget,rget];show _=[cs.getD (1+3*m+2*i) 0,cs.getD (1+3*m+2*i+1) 0];rw[show 1+3*m+i*2=1+3*m+2*i by lia,show 1+3*m+(i*2+1)=1+3*m+2*i+1 by lia]
 have rows:=ok.rows;rw[gr,rlen,ec,xY]at rows;have heads:=ok.heads;rw[gh,rlen]at heads;generalize erl:(List.range ((ms.length-3*m) / 2)).map (λi=>(cs.getD (1+3*m+2*i) 0,cs.getD (1+3*m+2*i+1) 0))=rs at *
 generalize ehl:(List.range m).map (λi=>(cs.getD (1+3*i) 0,cs.getD (2+3*i) 0,cs.getD (3+3*i) 0))=hs at *
 have lrs:rs.length=(ms.length-3*m) / 2:=by rw[<-erl,zG,wQ]
 have lhs:hs.length=m:=by rw[<-ehl,zG,wQ]
 have rok: ∀(i:Nat) (op n:Int),rs[i]? =some (op,n)->AE op n m ((ms.length-3*m) / 2:Nat):=λi op n e=>by
  obtain⟨a,b,z,h⟩:=rows [op,n] (List.mem_map.mpr #[(op,n),xB e,rfl]);injection z with z1 z
  injection z with z2 _
  rw[z1,z2];exact h
 refine#[hs,rs,ok,gh,gr,#[λi n e=>?_,λi n e=>?_,()],(),(),λh hh=>?_,by rw[lhs];exact c0,(),λi h e=>?_,λi x e=>?_]
 ·have:=rok i 4 n e;unfold AE at this;lia
 ·have:=rok i 5 n e;unfold AE at this;lia
 ·obtain⟨i,hi⟩:=List.mem_iff_getElem?.mp hh;obtain⟨a,b,c,z,w⟩:=heads i [h.1,h.2.1,h.2.2] (by rw[zW,hi];rfl);injection z with z1 z
  rw[z1];exact w.1
 ·rw[<-ehl,zW]at e;have hi:i<m:=by
   have:=(List.getElem?_eq_some_iff.mp (show hs[i]? =some h by rw[<-ehl,zW];exact e)).1;lia
  rw[wY hi]at e;cases e;exact#[Nm (),Nm (),Nm ()]
 ·have hi:i<rs.length:=(List.getElem?_eq_some_iff.mp e).1;rw[<-erl,zW,wY ()]at e;cases e;rw[lhs];exact#[Nm (),Nm ()]
noncomputable def Zy (rs:vX)(L:Int->i5 (Nat×Nat))(x:(Int×Int×Int)×((Int×Int)×Nd)):i8:=decide (x.1.2.1=x.2.1.1)&&(decide (x.1.2.2=x.2.1.2)&&(IM rs L x.2.2 x.1.1.toNat&&decide (Eu rs ((xT L x.2.2).2:Nat)=(7,0))))
noncomputable def Ke (rs:vX)(hs:Gh)(fs:a6 ((Int×Int)×Nd))(ls:Gh):i8:=decide (hs.length=fs.length)&&(ls.all (λl=>decide (l.2.2<=(rs.length:Int)))&&(hs.zip fs).all (Zy rs (FX ls)))
inductive NK (vs:List V) (H:Hp) (Q:VK) (E:XK):Prop
 |mk (tl c pa:i4) (r:Ev×List Nd) (cs:List Int) (hs:Gh) (rs:vX) (rv:List V) (ls:Gh) (h0:vs=[.ref tl,.ref c,.ref pa]) (h1:Jx H tl r) (h2:H c=some (.lst (cs.map V.int))) (h3:Cd cs hs rs) (h4:H pa=some (.lst rv)) (h5:Paired (QC H) rv ls) (h6:(∀l∈ls,0<=l.2.1/\0<=l.2.2)) (h7:ls.length<=1000) (h8:r.1.length<=1000) (h9:(∀nd∈r.2,ZC 10 nd)) (h10: ∀H',xJ H H'->Q (.bl (Ke rs hs (r.1.zip r.2) ls)) H'):NK vs H Q E
def KvL (H:Hp)(kv:AQ×V)(l:Int×Int×Int):Prop:=kv.1=.inl l.1/\ ∃t,kv.2=.ref t/\H t=some (.tup [.int l.2.1,.int l.2.2])
theorem SW {kvs:a6 (AQ×V)}{ls:Gh}(h:Paired (KvL H) kvs ls):(∀l∈ls,0<=l.2.1/\0<=l.2.2)-> ∀(acc:a6 (AQ×V)) (M:Int->i5 (Nat×Nat)),(∀p:Int,XM H (Ak acc (.inl p)) (M p))-> ∀p:Int,XM H (Ak (kvs.foldl (λacc x=>Dy acc x.1 x.2) acc) (.inl p)) (lkF M ls p):=by
 induction h with
 |nil=>intro _ acc M h p;exact h p
 |cons h0 r ih=>
 rename_i x l kvs ls;intro nn acc M h p;obtain⟨k,v⟩:=x;obtain⟨e1,t,e2,et⟩:=h0;have e1:k=.inl l.1:=e1;have e2:v=.ref t:=e2;subst e1 e2;refine ih (λx m=>nn x (yC _ m)) (Dy acc (.inl l.1) (.ref t)) (λp=>if p=l.1 then some (l.2.1.toNat,l.2.2.toNat)else M p) (λy=>?_) p;rw[IJ];have n0:=nn l (yA ..)
 by_cases z:y=l.1
 ·rw[zQ (by rw[z]),zQ z];exact#[t,rfl,by rw[et,jZ n0.1,jZ n0.2]]
 ·rw[zN (λw=>z (EK w)),zN z];exact h y
theorem Wn (T:BJ K mg CK)(F:qT K "_law_due" "_law_due" Ej f fd)(Ca1:jY P w K mg base 1 "_law_rows" ["_law_code"] Hk)(Ci:jY P w K mg base 2 "_law_row" ["_law_rows_here","_law_at"] EA)(Cf:jY P w K mg base (3+3*10+1) "_law_stands" ["_law_look","_law_node","_law_at"] (BV 10)):vO P w K mg base (3+3*10+2) f fd ["_law_told","_law_code","_law_paper"] NK:=by
 exists uR;obtain⟨tl,c,pa,r,cs,hs,rs,rv,ls,rfl,fa,hc,cd,hp,pp,nn,l1,r1,nk,q⟩:=h;exists _,(zC (yP 3 uR.nd (zH Ca1 hr rfl (zA (pv 1) zB) zV) rfl (Or.inr rfl))
   (zC (yP 4 uR.nd (xO (zA (pv 3) (zA (Fe (Mi rfl) rfl T.n_dict Tp (zA (vB (own:=["_law_place","_law_begin","_law_end"]) (ys:=[]) rfl (vK (pv 2)) (kJ (sc:=zS Ej) rfl (by decide+kernel)) .nil (λ_ _ _ _ _=>(Jb (n:=3) K rfl rfl (yF (zY 0 (show List.Nodup [("_law_place":Str),("_law_begin":Str),("_law_end":Str)]from(by decide+kernel))) (yF (zY 1 (show List.Nodup [("_law_place":Str),("_law_begin":Str),("_law_end":Str)]from(by decide+kernel))) (yF (zY 2 (show List.Nodup [("_law_place":Str),("_law_begin":Str),("_law_end":Str)]from(by decide+kernel))) jS))))) (λ_ _ _ _ _=>wN) (λ_ _ _ _ _=>(xO (zA (pv 0) (zA (xO (zA (pv 1) (zA (pv 2) zB))) zB))))) zB)) zB))))
   (zC (xD (PW.pt (qY (zX Gf (yZ jB (pv 1) zI (λ_ _=>rfl)) (xK xA rfl T.n_len kO (zA (pv 0) zB)) (yG _)) (kW (zX (VY hr) (vB (own:=["_law_line"]) (ys:=["_law_rows_here"]) rfl (vK (pv 2)) (kJ (sc:=zS Ej) rfl (by decide+kernel)) (.cons (j:=3) rfl .nil) (λ_ _ _ _ _=>(zY 0 (show List.Nodup [("_law_line":Str),("_law_rows_here":Str)]from(by decide+kernel)))) (λ_ _ _ _ _=>SM (zX Kr (yZ (Jn K rfl) (pv 0) zI (λ_ _=>rfl)) (xK (MF K rfl) rfl T.n_len kO (zA (pv 1) zB)) (yG _))) (λ_ _ _ _ _=>(pv 0))) (xF zB) (yG _))))) (zL (zT qI)) yD)
   (zC (qS yY rfl (SO rfl T.n_enumerate (zA (pv 0) zB)) (qO rfl (yF (zY 5 uR.nd) (yF (zY 6 uR.nd) jS))) (zC (wS (pv 6) (qO rfl (yF (zY 7 uR.nd) (yF (zY 8 uR.nd) (yF (zY 9 uR.nd) jS)))))
   (zC (xD (PW.pt (qY (zX Gf (yZ jB (pv 1) (yK jF zI (yK AC zI (pv 5))) (λ_ _=>rfl)) (pv 7) (yG _)) (qY (zX Gf (yZ jB (pv 1) (yK jF zI (yK AC zI (pv 5))) (λ_ _=>rfl)) (pv 8) (yG _)) (kW (qN (kR (zH Cf hr rfl (zA (pv 4) (zA (pv 9) (zA (yZ jB (pv 1) (yK jF zI (yK AC zI (pv 5))) (λ_ _=>rfl)) zB))) zV))))))) (zL (zT qI)) yD)
   (zL (xD (zX (Hx hr) (zH Ci hr rfl (zA (pv 3) (zA (yZ xL (uV (AS hr) (yZ xL (pv 4) zI (λ_ _=>rfl)) (yZ xL (pv 9) zI (λ_ _=>rfl)) (λ_ _=>rfl)) zI (λ_ _=>rfl)) zB)) zV) (xO (xU (.int (.int .nil)))) (yG _)) (zL (zT qI)) yD)))))
   (zL (zT qI))))))
 have ro:=cd.ro;have sl:sizeLine=16777216:=jX;refine#[-1,c,cs,rs,hs.length,rfl,hc,cd.c0,by have:=cd.h1;lia,cd.cl,cd.ra,ro.rl,λrl H1 g1 gr=>?_];have lp:=Paired.len pp;refine#[-2,pa,rfl,#[_,kN.of (g1 _ _ hp)],λu hu=>?_];refine AD (xs:=rv) (λi U' H'=>xJ H1 H'/\(∃a b c,U'=[a,b,c])/\ ∃(as:a6 i4) (kvs:a6 (AQ×V)),H' u=some (.lst (as.map V.ref))/\Paired (λa kv=>H' a=some (.tup [kV kv.1,kv.2])) as kvs/\Paired (KvL H') kvs (ls.take i)) #[zM hu _,#[_,_,-1],[],[],upd_same,.nil,.nil] ?_ ?_ ?_
 ·rintro i U' H' _ ⟨g,_⟩;exact kN.of (g _ _ (g1 _ _ hp))
 ·rintro i x U' H' hi hx ⟨g,⟨a',b',c',rfl⟩,as,kvs,eu,pa1,pk⟩;obtain⟨l,hl,t,rfl,et⟩:=Paired.yonder pp hx;have tk:ls.take (i+1)=ls.take i++[l]:=by rw[jU,hl]<;>rfl
  have la:=Paired.len pa1;have lk:=Paired.len pk;rw[xM]at lk;refine#[t,-1,Ax.of (g _ _ (g1 _ _ et)),rfl,_,-1,_,-1,_,-1,rfl,?_];refine HS #[-3,sm2,λt2 h2=>#[sm2,λa1 h1=>#[_,zM h1 _ _ _ (zM h2 _ _ _ eu),by rw[zG];lia,CW.next hi ?_]]];have gg:=(zM h2 (.tup [.int l.2.1,.int l.2.2])).trans (zM h1 (.tup [.int l.1,.ref t2]));have e2:=zM h1 (.tup [.int l.1,.ref t2]) _ _ (upd_same (H:=H') (a:=t2) (o:=.tup [.int l.2.1,.int l.2.2]));have e1:upd (upd H' t2 (.tup [.int l.2.1,.int l.2.2])) a1 (.tup [.int l.1,.ref t2]) a1=some (.tup [.int l.1,.ref t2]):=upd_same;generalize upd (upd H' t2 (.tup [.int l.2.1,.int l.2.2])) a1 (.tup [.int l.1,.ref t2])=H2 at *
  have eu2:=gg _ _ eu;have tu: ∀{b:i4} {xs:a6 V},H2 b=some (.tup xs)->upd H2 u (.lst (as.map V.ref++[.ref a1])) b=some (.tup xs):=fun{b xs} e=>by
   rw[yJ (λz=>by rw[z,eu2]at e;cases e)];exact e
  refine#[λb o e=>?_,#[_,_,-1],as++[a1],kvs++[(.inl l.1,.ref t2)],by rw[upd_same,yV];rfl,?_,?_]
  ·rw[yJ (yQ e hu)];exact gg _ _ (g _ _ e)
  ·exact Paired.append (Paired.imp (λ_ _ e=>tu (gg _ _ e)) pa1) (.cons (tu e1) .nil)
  ·rw[tk];exact Paired.append (Paired.imp (λ_ _ ⟨z1,t,z2,z3⟩=>#[z1,t,z2,tu (gg _ _ z3)]) pk) (.cons #[rfl,t2,rfl,tu e2] .nil)
 rintro U' H2 ⟨g2,_,as,kvs,eu,pa1,pk⟩;rw[lp,jL]at pk;refine#[u,as,kvs,rfl,eu,pa1,λd hd=>?_];refine#[sm2,λlk hlk=>?_];have lo:UQ (upd (upd H2 d (.dK (DA kvs))) lk (.tup [.ref rl,.ref d])) lk rl d rs (FX ls):=by
  have z:=(zM hd (.dK (DA kvs))).trans (zM hlk (.tup [.ref rl,.ref d]));refine#[upd_same,gr.same (g2.trans z),_,zM hlk _ _ _ upd_same,λp=>?_];exact(SW pk nn [] (λ_=>none) (λp=>trivial) p).same z
 have s3:=(g1.trans g2).trans ((zM hd (.dK (DA kvs))).trans (zM hlk (.tup [.ref rl,.ref d])));generalize upd (upd H2 d (.dK (DA kvs))) lk (.tup [.ref rl,.ref d])=H3 at *
 clear pk pa1 eu hd hlk g2 hu;obtain⟨vp,ep,ln,pf⟩:=fa;have lf:=Paired.len pf;have a0:IF (cs.map V.int) 0=some (.int (hs.length:Int)):=kK (j:=0) (by rw[zW,cd.c0];rfl);refine#[-1,c,_,_,-1,rfl,kN.of (s3 _ _ hc),a0,?_];refine#[-1,tl,-1,.inl (kN.of (s3 _ _ ep)),rfl,-1,?_];have no:Ke rs hs (r.1.zip r.2) ls=false-> ∀H',xJ H H'->Q (.bl false) H':=λz H' s=>by have:=q H' s;rwa [z]at this
 have e1:(decide (V.int (hs.length:Int)=V.int (vp.length:Int)))=decide (hs.length=(r.1.zip r.2).length):=by
  rw[<-lf];exact decide_eq_decide.mpr #[λz=>by injection z with z;lia,λz=>by rw[z]]
 rw[e1]
 by_cases c1: ¬hs.length=(r.1.zip r.2).length
 ·rw[zR c1];exact jI (no (by unfold Ke;rw[zR c1];rfl) _ s3)
 have c1:=Classical.not_not.mp c1;rw[zP c1];refine jE ?_;obtain⟨vr,erl,prr⟩:=id lo.2.1;have lvr:vr.length=rs.length:=(Paired.len prr).trans (zG ..);refine#[-1,pa,rfl,#[_,kN.of (s3 _ _ hp)],λu hu=>?_];refine AD (xs:=rv) (λi U' H'=>xJ H3 H'/\(∃a,U'=[a,some (.ref rl)])/\ ∃zs,H' u=some (.lst zs)/\zs.isEmpty=(ls.take i).all (λl=>decide (l.2.2<=(rs.length:Int)))/\zs.length<=i) #[zM hu _,#[-1],[],upd_same,rfl,zO _] ?_ ?_ ?_
 ·rintro i U' H' _ ⟨g,_⟩;exact kN.of (g _ _ (s3 _ _ hp))
 ·rintro i x U' H' hi hx ⟨g,⟨a',rfl⟩,zs,eu,ez,lz⟩;obtain⟨l,hl,t,rfl,et⟩:=Paired.yonder pp hx;have tk:ls.take (i+1)=ls.take i++[l]:=by rw[jU,hl]<;>rfl
  have kp: ∀b o,H3 b=some o-> ∀y,upd H' u y b=some o:=λb o e y=>by
   rw[yJ (yQ e hu)];exact g _ _ e
  dsimp only[wI];refine#[-1,t,_,_,-1,rfl,.of (g _ _ (s3 _ _ et)),rfl,-1,rl,-1,.inl (kN.of (g _ _ erl)),_,-1,rfl,-1,jK (λc=>?_) (λc=>?_)]
  ·rw[lvr]at c;have c:=yB c;refine#[-1,zs,eu,(),CW.next hi #[λb o e=>kp b o e _,#[-1],_,upd_same,?_,by rw[zE];exact CA lz]];rw[tk,List.all_append,kH,zR (show ¬l.2.2<=(rs.length:Int)by lia)];cases zs<;>simp
  ·rw[lvr]at c;have c:l.2.2<=(rs.length:Int):=by
    have:=wF (Bool.not_eq_true _▸c);lia
   refine CW.next hi #[g,#[-1],zs,eu,?_,()];rw[tk,List.all_append,kH,zP c,ez]
   simp
 rintro U' H4 ⟨g4,_,zs,eu,ez,_⟩;rw[lp,jL]at ez;refine#[zz0,λn0 hn0=>#[u,n0,zs,rfl,rfl,.of (zM hn0 _ _ _ eu),.of upd_same,-1,?_]];have s5:=(s3.trans g4).trans (zM hn0 (.lst []));have g5:=g4.trans (zM hn0 (.lst []));generalize upd H4 n0 (.lst [])=H5 at *
 rw[ez];cases c2:ls.all (λl=>decide (l.2.2<=(rs.length:Int)))with
 |false=>exact jI (no (by unfold Ke;rw[zP c1,c2];rfl) _ s5)
 |true=>
 refine jE ?_;have ed:Ke rs hs (r.1.zip r.2) ls=(hs.zip (r.1.zip r.2)).all (Zy rs (FX ls)):=by unfold Ke;rw[zP c1,c2];rfl
 rw[ed]at q no;clear eu ez c2 hn0 g4 hu e1;refine#[-1,tl,-1,kN.of (s5 _ _ ep),Qm (xs:=vp) (λi U' H'=>xJ H5 H'/\(∃v5 v6 v7 v8 v9:i5 V,U'=[some (.ref tl),some (.ref c),some (.ref pa),some (.ref rl),some (.ref lk),v5,v6,v7,v8,v9])/\(hs.zip (r.1.zip r.2)).all (Zy rs (FX ls))=((hs.zip (r.1.zip r.2)).drop i).all (Zy rs (FX ls))) #[xJ.refl _,#[_,_,_,_,-1],rfl] (λi U' H' _ ⟨z,_⟩=>kN.of (z _ _ (s5 _ _ ep))) ?_ ?_]
 rotate_left
 ·rintro U' H' ⟨z,_,e⟩;rw[kL (by rw[kD];lia)]at e;rw[e]at q;exact q H' (s5.trans z)
 rintro i v U' H6 t hv ⟨z,⟨v5,v6,v7,v8,v9,rfl⟩,e⟩ ht;obtain⟨⟨hd2,nd⟩,hnd,t2,bd,rfl,et2,na⟩:=Paired.yonder pf hv;have hi:i<(hs.zip (r.1.zip r.2)).length:=by
  have:=(List.getElem?_eq_some_iff.mp hnd).1;rw[kD];lia
 obtain⟨h,hh⟩: ∃h,hs[i]? =some h:=#[_,zF (show i<hs.length by rw[kD]at hi;lia)];have ez:(hs.zip (r.1.zip r.2)).drop i=(h,hd2,nd)::(hs.zip (r.1.zip r.2)).drop (i+1):=by
  have:=Ex (z:=(h,hd2,nd)).mpr #[hh,hnd];rw[yS hi,(List.getElem?_eq_some_iff.mp this).2]
 rw[ez,kH]at e;have zt:=z.trans (zM ht (.tup [.int (i:Nat),.ref t2]));have et:upd H6 t (.tup [.int (i:Nat),.ref t2]) t=some (.tup [.int (i:Nat),.ref t2]):=upd_same;generalize upd H6 t (.tup [.int (i:Nat),.ref t2])=H7 at *
 have s7:=s5.trans zt;have lo7:=lo.same (g5.trans zt);obtain⟨c2,c3,c4⟩:=cd.ca i h hh;have nn0:=cd.h0 h (xB hh);have ix: ∀{j:Nat} {x:Int},cs[j]? =some x-> ∀{k:Int},k=(j:Int)->IF (cs.map V.int) k=some (.int x):=λh _ hk=>by rw[hk];exact kK (by rw[zW,h];rfl)
 refine#[t,-1,.of et,rfl,_,-1,_,-1,rfl,?_];refine#[-1,t2,-1,.of (s7 _ _ et2),rfl,_,-1,_,-1,_,-1,rfl,?_];have i16:i<16:=by have:=cd.h1;rw[kD]at hi;lia
 refine#[-2,_,-1,rfl,.inl #[by decide,()],_,-1,rfl,c,_,_,-1,rfl,kN.of (s7 _ _ hc),ix c3 (),-1,rfl,-1,?_];have nof:Zy rs (FX ls) (h,hd2,nd)=false->(hs.zip (r.1.zip r.2)).all (Zy rs (FX ls))=false:=λz=>by rw[e,z];rfl
 have ei: ∀{x y:Int},decide (V.int x=V.int y)=decide (x=y):=fun{x y}=>decide_eq_decide.mpr #[λz=>by injection z,λz=>by rw[z]];have ef:Zy rs (FX ls) (h,hd2,nd)=(decide (h.2.1=hd2.1)&&(decide (h.2.2=hd2.2)&&(IM rs (FX ls) nd h.1.toNat&&decide (Eu rs ((xT (FX ls) nd).2:Nat)=(7,0))))):=rfl;rw[ef]at e nof;dsimp only;rw[ei]
 by_cases k1: ¬h.2.1=hd2.1
 ·rw[zR k1]at nof ⊢;exact jI (no (nof rfl) _ s7)
 have k1:=Classical.not_not.mp k1;rw[zP k1]at nof ⊢;refine jE ?_;refine#[-2,_,-1,rfl,.inl #[by decide,()],_,-1,rfl,c,_,_,-1,rfl,kN.of (s7 _ _ hc),ix c4 (),-1,rfl,-1,?_];rw[ei]
 by_cases k2: ¬h.2.2=hd2.2
 ·rw[zR k2]at nof ⊢;exact jI (no (nof rfl) _ s7)
 have k2:=Classical.not_not.mp k2;rw[zP k2]at nof ⊢;refine jE ?_;have nk0:=nk nd (xB (List.getElem?_zip_eq_some.mp hnd).2);rw[<-jZ nn0]at c2;refine#[-4,_,-1,rfl,.inl #[by decide,()],_,-1,rfl,c,_,_,-1,rfl,kN.of (s7 _ _ hc),ix c2 (),lk,rl,d,rs,_,bd,nd,h.1.toNat,rfl,lo7,ro,na.tups (vN.same s7),nk0,λH8 g8=>#[-1,?_]];have s8:=s7.trans g8;cases k3:IM rs (FX ls) nd h.1.toNat with
 |false=>
  rw[k3]at nof;exact jI (no (nof rfl) _ s8)
 |true=>
 rw[k3]at nof;refine jE ?_;obtain⟨tn,k,x,y,rfl,etn⟩:=CZ (na.tups (vN.same s8));have lo8:=lo7.same g8;obtain⟨tl8,dg,etl⟩:=lo8.line (BD (Bool.and_eq_true_iff.mp k3).1);refine#[-2,lk,_,_,-1,rfl,.of lo8.1,rfl,-1,tn,_,_,-1,rfl,.of etn,rfl,d,-1,dg,tl8,_,_,-1,rfl,.of etl,rfl,rl,rs,-1,lo8.2.1,ro.jo,ro.rl,λp1 H9 g9 e9=>#[sm2,λt9 h9=>?_]];have e9:=zM h9 (.tup [.int 7,.int 0]) _ _ e9;refine#[p1,t9,_,_,_,-1,rfl,.of e9,.of upd_same,rfl,-1,?_];have s10:=s8.trans (g9.trans (zM h9 (.tup [.int 7,.int 0])));rw[UX]
 by_cases k4: ¬Eu rs ((xT (FX ls) nd).2:Nat)=(7,0)
 ·rw[zR k4]at nof ⊢;exact jI (no (nof rfl) _ s10)
 have k4:=Classical.not_not.mp k4;rw[zP k4];refine jE #[zt.trans (g8.trans (g9.trans (zM h9 (.tup [.int 7,.int 0])))),#[_,_,_,_,-1],?_];rw[e,zP k1,zP k2,k3,zP k4];rfl
theorem IX (h2:2<=m)(h9:m<=900)(ha:a.natAbs<=m)(hb:b.natAbs<=m):(∀v,rk k a b=some v->v.natAbs<=m*m)/\(8<=k->k<=10->(rk k a b).isSome =true):=by
 have hm:(a*b).natAbs<=m*m:=by rw[Int.natAbs_mul];exact Nat.mul_le_mul ha hb
 have m1:m*m<=810000:=Nat.mul_le_mul h9 h9
 have m2:m+m<=m*m:=by rw[<-Nat.two_mul];exact Nat.mul_le_mul_right m h2
 have f: ∀u:Int,u.natAbs<=m*m->HE u:=λu h=>by have:=xH h m1;unfold HE Mn;lia
 have h1:(a+b).natAbs<=m*m:=xH (Int.natAbs_add_le a b) (xH (Nat.add_le_add ha hb) m2)
 have h3:(a-b).natAbs<=m*m:=xH (Int.natAbs_sub_le a b) (xH (Nat.add_le_add ha hb) m2)
 have mm:m<=m*m:=xH (Nat.le_add_right m m) m2
 have m0:1<=m*m:=xH (xH (by decide) h2) mm
 refine#[λv e=>?_,λh8 h10=>?_]
 ·unfold rk at e;rw[zQ (f _ h1),zQ (f _ h3),zQ (f _ hm)]at e;split at e
  ·cases e;exact h1
  split at e
  ·cases e;exact h3
  split at e
  ·cases e;exact hm
  split at e
  ·cases e;split<;>first|exact m0|exact xE _
  split at e
  ·cases e;split<;>first|exact m0|exact xE _
  split at e
  ·cases e
  rename_i b0;split at e
  ·cases e;exact xH (Ey a b) (xH ha mm)
  ·cases e;refine xH ?_ (xH hb mm)
   rcases Int.lt_or_gt_of_ne b0 with h|h
   ·have h1:=wT a b0;have h2:=Int.emod_lt_of_neg a h;rw[Int.fmod_eq_emod];clear m1 m2 hm f h3 mm m0 ha hb;split<;>omega
   ·have h1:=Int.fmod_nonneg_of_pos a h;have h2:=Int.fmod_lt_of_pos a h;clear m1 m2 hm f h3 mm m0 ha hb;omega
 ·unfold rk;rw[zQ (f _ h1),zQ (f _ h3),zQ (f _ hm)]
  rcases(by lia:k=8\/k=9\/k=10)with rfl|rfl|rfl<;>rfl
def SmN (d n:Nat)(t:Tr):Prop:=OH d t/\ ∀v,kM t=some v->v.natAbs<=n
theorem Lm (h:a.natAbs<=n)(hn:n<=900):SmN (d+1) n (.mk 0 [a] []):=by
 have e:kM (.mk 0 [a] [])=some a:=by unfold kM;rfl
 refine#[?_,λv z=>by rw[e]at z;cases z;exact h];unfold OH;exact#[λ_=>#[a,rfl,()],λz=>(),λp m=>(by cases m),λv z=>by rw[e]at z;cases z;lia,λz=>()]
theorem JM (hk:k≠0)(h:k<8\/14<k)(hp: ∀p∈ps,OH d p):SmN (d+1) n (.mk k own ps):=by
 have e:kM (.mk k own ps)=none:=by unfold kM;rw[zN hk,zQ h]
 refine#[?_,λv z=>by rw[e]at z;cases z];unfold OH;exact#[λz=>absurd z hk,λz z'=>(),hp,λv z=>(by rw[e]at z;cases z),λz z'=>()]
theorem QX (h0:8<=k)(h1:k<=14)(hp:SmN d 900 p)(hq:SmN d 900 q)(n:Nat)(hn: ∀a b v,kM p=some a->kM q=some b->rk k a b=some v->v.natAbs<=n):SmN (d+1) n (.mk k own [p,q]):=by
 have e: ∀v,kM (.mk k own [p,q])=some v-> ∃a b,kM p=some a/\kM q=some b/\rk k a b=some v:=λv z=>by
  unfold kM at z;rw[zN (),zN ()]at z;simp only[Gm]at z;split at z
  ·rename_i a b y;injection y with y1 y
   injection y with y2 _
   exact#[a,b,y1,y2,z]
  ·cases z
 refine#[?_,λv z=>by obtain⟨a,b,e1,e2,e3⟩:=e v z;exact hn a b v e1 e2 e3];unfold OH;refine#[λz=>(),λ_ _=>rfl,λx m=>?_,λv z=>?_,λz1 z2 a b y=>?_]
 ·rcases List.mem_cons.mp m with rfl|m
  ·exact hp.1
  ·rw[List.mem_singleton.mp m];exact hq.1
 ·obtain⟨a,b,e1,e2,e3⟩:=e v z;have:=(IX (k:=k) (by decide) (zO 900) (hp.2 a e1) (hq.2 b e2)).1 v e3;lia
 ·simp only[Gm]at y;injection y with y1 y
  injection y with y2 _
  unfold kM;rw[zN (),zN ()];simp only[Gm];rw[y1,y2];exact(IX (k:=k) (by decide) (zO 900) (hp.2 a y1) (hq.2 b y2)).2 z1 z2
theorem Jd (h:wJ t):SmN (d+2) 900 t:=by
 cases h with
 |g0=>exact JM (by decide) (.inl (by decide)) λp m=>(by cases m)
 |g1=>exact JM (by decide) (.inl (by decide)) λp m=>(by cases m)
 |num a h0 h1=>exact Lm () (by decide)
 |two k a k0 k1 h0 h1=>
  refine QX k0 k1 (Lm () (by decide)) (Lm (by decide) (by decide)) 900 λx y v e1 e2 e3=>?_;have e1:x=a:=by unfold kM at e1;injection e1 with e1;exact e1.symm
  have e2:y=2:=by unfold kM at e2;injection e2 with e2;exact e2.symm
  subst e1 e2;have:=(IX (k:=k) (m:=3) (by decide) (by decide) () (by decide)).1 v e3;lia
 |sub a h0 h1=>
  refine QX (by decide) (by decide) (JM (by decide) (.inl (by decide)) λp m=>(by cases m)) (Lm () (by decide)) 900 λx y v e1 e2 e3=>?_;unfold kM at e1;cases e1
 |call=>exact JM (by decide) (.inl (by decide)) λp m=>by rw[List.mem_singleton.mp m];exact(JM (n:=0) (by decide) (.inl (by decide)) λp m=>(by cases m)).1
theorem OH.more: ∀{d:Nat} {t:Tr},OH d t->OH (d+1) t
 |0,_,h=>h.elim
 |d+1,.mk k own ps,h=>by
  unfold OH at h ⊢;exact#[h.1,h.2.1,λp m=>(h.2.2.1 p m).more,h.2.2.2]
theorem Qp (h: ∀t,wW hs b n t->wW hs b (n+1) t): ∀{ts:a6 Tr},qV hs b n ts->qV hs b (n+1) ts
 |[],_=>by unfold qV;trivial
 |a::r,f=>by
  unfold qV at f ⊢;exact#[h a f.1,Qp h f.2]
theorem No: ∀(n:Nat) (t:Tr),wW hs b n t->wW hs b (n+1) t
 |0,t,f=>by unfold wW at f;exact f.elim
 |n+1,.mk k own ps,f=>by
  unfold wW at f ⊢;exact#[f.1,f.2.1,f.2.2.1,f.2.2.2.1,f.2.2.2.2.1,Qp (No n) f.2.2.2.2.2]
def Hg (pm:Int)(d:Nat)(t:Tr):Prop:=wW (RU pm) 2 d t/\OH d t
theorem Hg.more (h:Hg pm d t):Hg pm (d+1) t:=#[No _ _ h.1,h.2.more]
theorem uO (hk:(k<8\/14<k)/\0<k/\k<=19)(of:Bn (RU pm) 2 k own)(hl:ps.length=(Fk (RU pm) k own).toNat)(hv: ∀v∈own,v.natAbs<=1000)(hp: ∀p∈ps,Hg pm d p):Hg pm (d+1) (.mk k own ps):=
 #[Di () hk.2.2 of hl hv λp m=>(hp p m).1,(JM (n:=0) () hk.1 λp m=>(hp p m).2).1]
theorem HG {P:Tr->Prop}{a:Tr}(h:P a): ∀p∈[a],P p:=λp m=>by rw[List.mem_singleton.mp m];exact h
theorem GY {P:Tr->Prop}{a:Tr}{r:a6 Tr}(h:P a)(h': ∀p∈r,P p): ∀p∈a::r,P p:=λp m=>by
 rcases List.mem_cons.mp m with rfl|m
 ·exact h
 ·exact h' p m
theorem Yp (h:(k=1\/k=2)/\0<=n/\n<=1):Bn hs 2 k [n]:=.inr (.inl #[h.1,n,rfl,h.2.1,()])
theorem Po (h:(k=3\/k=4)/\2<=n/\n<=12):Bn hs 2 k [n]:=by
 rcases h.1 with rfl|rfl
 ·exact .inr (.inr (.inl #[rfl,n,rfl,(),h.2.2]))
 ·exact .inr (.inr (.inr (.inl #[rfl,n,rfl,h.2])))
theorem Rl (h:k=5\/7<=k):Bn hs 2 k []:=.inr (.inr (.inr (.inr (.inr #[h,rfl]))))
theorem zCy:Bn (RU pm) 2 6 [1]:=.inr (.inr (.inr (.inr (.inl #[rfl,1,rfl,by decide,by show(1:Int)<=2-1;decide]))))
theorem Iy {n:Int}(h:n.natAbs<=1000): ∀v∈[n],v.natAbs<=1000:=λv m=>by rw[List.mem_singleton.mp m];exact h
theorem Se: ∀v∈([]:a6 Int),v.natAbs<=1000:=λv m=>(nomatch m)
theorem Ma (h:0<=a/\a<=1):Hg pm (d+1) (.mk 1 [a] []):=uO (by decide) (Yp #[.inl rfl,h]) rfl (Iy ()) λp m=>(nomatch m)
theorem WZ (h:a.natAbs<=900):Hg pm (d+1) (.mk 0 [a] []):=#[Jt (),(Lm h (zO _)).1]
theorem Sb {t:Tr}(h:Er t){d:Nat}:Hg 1 (d+4) t:=by
 have sm: ∀{d:Nat} {t:Tr},wJ t->Hg 1 (d+2) t:=λh=>#[VU h,(Jd h).1];cases h with
 |one h=>exact sm h
 |set h=>exact uO (by decide) (Yp (by decide)) rfl (Iy (by decide)) (HG (sm h))
 |all2 h h'=>exact uO (by decide) (Po (by decide)) rfl (Iy (by decide)) (GY (sm h) (HG (sm h')))
 |all3 h h' h''=>exact uO (by decide) (Po (by decide)) rfl (Iy (by decide)) (GY (sm h) (GY (sm h') (HG (sm h''))))
 |pick h h' h''=>exact uO (by decide) (Po (by decide)) rfl (Iy (by decide)) (GY (sm h) (GY (sm h') (HG (sm h''))))
 |pickN n n0 n1 h' h''=>exact uO (by decide) (Po (by decide)) rfl (Iy (by decide)) (GY (WZ ()) (GY (sm h') (HG (sm h''))))
 |pick3 h h' h''=>exact uO (by decide) (Po (by decide)) rfl (Iy (by decide)) (GY (sm h) (GY (sm h') (GY (sm h') (HG (sm h'')))))
 |loop h h'=>exact uO (by decide) (Rl (by decide)) rfl Se (GY (sm h) (HG (sm h')))
 |loopS h'=>exact uO (by decide) (Rl (by decide)) rfl Se (GY (Ma (by decide)) (HG (uO (by decide) (Yp (by decide)) rfl (Iy (by decide)) (HG (sm h')))))
 |k1 k hk h=>exact uO () (Rl ()) (by rcases hk with rfl|rfl<;>rfl) Se (HG (sm h))
 |call h=>exact uO (by decide) zCy rfl (Iy (by decide)) (HG (sm h))
 |k2 k k0 k1 h h'=>
  have hl:(2:Nat)=(Fk (RU 1) k []).toNat:=by
   rcases(by lia:k=8\/k=9\/k=10\/k=11\/k=12\/k=13\/k=14\/k=15)with rfl|rfl|rfl|rfl|rfl|rfl|rfl|rfl<;>rfl
  by_cases c:k=15
  ·exact uO () (Rl ()) hl Se (GY (sm h) (HG (sm h')))
  ·refine#[Di () () (Rl ()) hl Se (GY (sm h).1 (HG (sm h').1)),(QX k0 () (Jd h) (Jd h') 810000 λa b v e1 e2 e3=>(IX (k:=k) (by decide) (zO 900) ((Jd (d:=0) h).2 a e1) ((Jd (d:=0) h').2 b e2)).1 v e3).1]
 |put h h' h''=>exact uO (by decide) (Rl (by decide)) rfl Se (GY (sm h) (GY (sm h') (HG (sm h''))))
 |new=>exact uO (by decide) (Rl (by decide)) rfl Se λp m=>(nomatch m)
theorem ZT {pm:Int}{t:Tr}(h:Kh pm t):Hg pm 10 t/\1<=pm/\pm<=4:=by
 have lf: ∀{pm:Int} {ts:a6 Tr},(∀t∈ts,HP t)-> ∀t∈ts,Hg pm 9 t:=λh t m=>by
  rcases h t m with rfl|rfl|⟨a,_,_,rfl⟩
  ·exact Ma (by decide)
  ·exact Ma (by decide)
  ·exact WZ ()
 cases h with
 |body h=>exact#[Sb h,by decide]
 |set h=>exact#[uO (by decide) (Yp (by decide)) rfl (Iy (by decide)) (HG (Sb h)),by decide]
 |all h=>exact#[uO (by decide) (Po (by decide)) rfl (Iy (by decide)) (GY (Sb h) (HG (Ma (by decide)))),by decide]
 |pick n n0 n1 h hl=>exact#[uO (by decide) (Po ()) (by show _=(1+n).toNat;lia) (Iy ()) (lf h),by decide]
 |many n n0 n1 h hl=>exact#[uO (by decide) (Po ()) (by show _=n.toNat;lia) (Iy ()) (lf h),by decide]
 |call h hl=>exact#[uO (by decide) zCy hl (Iy (by decide)) (lf h),by decide]
theorem XV (h:Kh pm t):(jR t).length<=40:=by
 cases h with
 |body h=>have:=KW h;lia
 |set h=>have:=KW h;simp[jR,xX];lia
 |all h=>have:=KW h;simp[jR,xX];lia
 |pick n n0 n1 h hl=>have:=BX h;simp[jR];lia
 |many n n0 n1 h hl=>have:=BX h;simp[jR];lia
 |call h hl=>have:=BX h;simp[jR];lia
mutual
theorem Sx: ∀t:Tr,UT t<=(jR t).length
 | .mk k own ps=>by
  have:=OQ ps;rw[UT,jR]
  simp
  lia
theorem OQ: ∀ps:a6 Tr,HF ps<=(xX ps).length
 |[]=>by rw[HF];exact xE _
 |a::r=>by
  have:=Sx a;have:=OQ r;rw[HF,xX,zE];lia
end
section
variable {rs:vX}{L:Int->i5 (Nat×Nat)}
theorem zHu:(qP rs (some a) 7 0).isSome =decide (Eu rs (a:Nat)=(7,0)):=by
 by_cases c:Eu rs (a:Nat)=(7,0)
 ·obtain⟨l,_,_,_,b⟩:=DT c (by decide);rw[b,zP c];rfl
 ·rw[FS c,zR c];rfl
theorem zCr:SJ rs n (CV rs L nd) (xT L nd)=(IM rs L nd n&&decide (Eu rs ((xT L nd).2:Nat)=(7,0))):=by
 unfold SJ IM;rw[zHu,Br,Bool.and_assoc]
theorem b6: ∀a b s r D Z:i8,((a&&(b&&(s&&r)))&&(D&&Z))=(((a&&b)&&D)&&((s&&r)&&Z)):=by decide
theorem OO: ∀{hs:Gh} {h1:Ev} {ns:a6 Nd},hs.length=h1.length->h1.length=ns.length->(hs.zip (h1.zip ns)).all (Zy rs L)=(decide (h1=hs.map λh=>(h.2.1,h.2.2))&&(hs.zip ns).all λx=>SJ rs x.1.1.toNat (CV rs L x.2) (xT L x.2))
 |[],[],[],_,_=>rfl
 |h::hs,(g1,g2)::h1,n::ns,e1,e2=>by
  have ih:=OO (hs:=hs) (h1:=h1) (ns:=ns) (Nat.succ.inj e1) (Nat.succ.inj e2);rw[kX,kX,kX,kH,kH,ih,yM,zCr];have ed:decide ((g1,g2)::h1=(h.2.1,h.2.2)::hs.map λh=>(h.2.1,h.2.2))=((decide (h.2.1=g1)&&decide (h.2.2=g2))&&decide (h1=hs.map λh=>(h.2.1,h.2.2))):=by
   rw[jN];simp only[decide_eq_true_eq,qC,List.cons.injEq,Prod.mk.injEq];exact#[fun⟨⟨a,b⟩,c⟩=>#[#[a.symm,b.symm],c],fun⟨⟨a,b⟩,c⟩=>#[#[a.symm,b.symm],c]]
  rw[ed,<-b6];rfl
structure XL (D:Int->i8)(m:Nat)(ls:Gh):Prop where
 nd:(ls.map (·.1)).Nodup
 ok: ∀l∈ls,D l.1=true/\0<=l.2.1/\l.2.1<(m:Int)/\0<=l.2.2
structure PpW (D:Int->i8)(m:Nat)(ls:Gh):Prop where
 nd:(ls.map (·.1)).Nodup
 ok: ∀l∈ls,D l.1=true/\0<=l.2.1/\(l.2.1<(m:Int)\/l.2.1<l.2.2)/\0<=l.2.2
theorem XL.wk (h:XL D m ls):PpW D m ls:=#[h.nd,λl z=>#[(h.ok l z).1,(h.ok l z).2.1,.inl (h.ok l z).2.2.1,(h.ok l z).2.2.2]]
theorem VG: ∀{ls:Gh} {S:Int->i8},(∀l∈ls,S l.1=false)->PpW D m ls->TY D m S ls=ls.all λl=>decide (l.2.2<=(m:Int))
 |[],_,_,_=>rfl
 |l::ls,S,hs,po=>by
  have o:=po.ok l (yA ..);have nd:=po.nd;rw[yM,List.nodup_cons]at nd;have ih:=VG (D:=D) (m:=m) (ls:=ls) (S:=λx=>decide (x=l.1) || S x) (λx mx=>by
   have:x.1≠l.1:=λz=>nd.1 (z▸AX mx);rw[hs x (yC _ mx),zR this];rfl) #[nd.2,λx mx=>po.ok x (yC _ mx)]
  show(Zr D m l.1 l.2.1 l.2.2&&(!S l.1&&TY D m (λx=>decide (x=l.1) || S x) ls))=_;have e:(decide (0<=l.2.1/\l.2.1<(m:Int))&&decide (0<=l.2.2/\l.2.2<=(m:Int)))=decide (l.2.2<=(m:Int)):=by
   rw[jN,qC,jD,jD,jD];lia
  unfold Zr;rw[ih,hs l (yA ..),kH,o.1,e];rfl
theorem zAu (hr:r.1.length=r.2.length)(nod:((jO r.2).map Av).Nodup)(po:PpW (Rj (jO r.2)) rs.length ls):lsM rs hs r ls=Ke rs hs (r.1.zip r.2) ls:=by
 have kd:=Jm r.2 [] trivial;rw[xI]at kd;have eb:lbM rs (FX ls) hs r.2=(hs.zip r.2).all λx=>SJ rs x.1.1.toNat (CV rs (FX ls) x.2) (xT (FX ls) x.2):=by
  unfold lbM;rw[jN,vE,vE];refine forall_congr' λx=>forall_congr' λm=>?_;rw[Zm kd nod x.2 (GW (DI m).2)];rfl
 unfold lsM Ke;rw[eb,VG (λ_ _=>rfl) po,kD,<-hr,Nat.min_self]
 by_cases c:hs.length=r.1.length
 ·rw[OO c hr,zP c,xC];exact Bool.and_left_comm ..
 ·rw[zR c,zR λz=>c (by rw[z,zG])];rfl
theorem WG: ∀{ls:Gh} {M:Int->i5 (Nat×Nat)} {p:Int},(∀l∈ls,l.1≠p)->lkF M ls p=M p
 |[],_,_,_=>rfl
 |l::ls,M,p,h=>by
  refine(WG (ls:=ls) (M:=λp=>if p=l.1 then some (l.2.1.toNat,l.2.2.toNat)else M p) λx m=>h x (yC _ m)).trans ?_;exact zN λz=>h l (yA ..) z.symm
theorem SX: ∀{ls:Gh} {M:Int->i5 (Nat×Nat)},(ls.map (·.1)).Nodup-> ∀l∈ls,lkF M ls l.1=some (l.2.1.toNat,l.2.2.toNat)
 |x::ls,M,nd,l,m=>by
  rw[yM,List.nodup_cons]at nd
  rcases List.mem_cons.mp m with rfl|m
  ·exact(WG (ls:=ls) (M:=λp=>if p=l.1 then some (l.2.1.toNat,l.2.2.toNat)else M p) (p:=l.1) λy my z=>nd.1 (by rw[<-z];exact AX my)).trans (zQ rfl)
  ·exact SX nd.2 l m
mutual
theorem Zq: ∀(nd:Nd) (b:Nat),(QF b nd).map (·.1)=(pre nd).map Av
 | .mk k p own ps,b=>by
  rw[QF,pre,yM,yM,Wz];rfl
theorem Wz: ∀(ps:a6 Nd) (k:Int) (m i b:Nat),(Kb k m i b ps).map (·.1)=(jO ps).map Av
 |[],k,m,i,b=>by rw[Kb,jO];rfl
 |a::r,k,m,i,b=>by rw[Kb,jO,yV,yV,Zq,Wz]
end
theorem WE: ∀(fs:a6 IG) (b:Nat),(LS b fs).map (·.1)=(jO (fs.map (·.2))).map Av
 |[],b=>by show _=(jO []).map Av;rw[LS,jO];rfl
 |f::r,b=>by rw[LS,yM,jO,yV,yV,Zq,WE]
def InL (b e:Nat)(ls:a6 Ln):Prop:= ∀x∈ls,(b:Int)<=x.2.1/\x.2.1<x.2.2/\x.2.2<=(e:Int)
noncomputable def exS (k:Int)(m i n:Nat):Nat:=if n<=1 then 0 else if k=3\/k=5 then n-1 else if k=4 then(if i=0 then m+2 else 1)+(n-2)else 0
theorem zDr:(if k=3\/k=5 then 1 else if k=4 then(if i=0 then m+2 else 1)else 0)+exS k m (i+1) (n+1)<=exS k m i (n+2):=by
 unfold exS;rw[zN (show ¬n+2<=1 by lia),zN (show ¬i+1=0 by lia)];split
 ·split<;>lia
 split
 ·split<;>split<;>lia
 ·split<;>lia
mutual
theorem WD: ∀(nd:Nd) (b:Nat),KY (bare nd)->0<rl (bare nd)/\InL b (b+rl (bare nd)) (QF b nd)
 | .mk k p own ps,b,gd=>by
  have er:rl (bare (.mk k p own ps))=rl (.mk k own (zU ps)):=rfl;have gd:KY (.mk k own (zU ps)):=gd;have e:rl (.mk k own (zU ps))=if k=3 then kA (zU ps)+(ps.length-1)else if k=4 then kA (zU ps)+2*(ps.length-1)+1 else if k=5 then kA (zU ps)+5 else kA (zU ps)+1:=by rw[rl,qB]
  unfold KY at gd;obtain⟨g3,g4,g5,gp⟩:=gd;have h4:=g4;have h5:=g5;rw[qB]at h4 h5;obtain⟨hp,hi⟩:=WC ps k (ps.length-1) 0 (b+if k=5 then 1 else 0) (b+rl (.mk k own (zU ps))) gp (by
   rw[e];unfold exS
   (repeat' split)<;>lia)
  have pos:0<rl (.mk k own (zU ps)):=by
   rw[e];split
   ·rename_i c3;have:=hp λz=>g3 c3 (by rw[z];rfl);lia
   split
   ·lia
   split<;>lia
  rw[er];refine#[pos,λx m=>?_];rw[QF]at m
  rcases List.mem_cons.mp m with rfl|m
  ·dsimp only;lia
  ·have:=hi x m;split at this<;>lia
theorem WC: ∀(ps:a6 Nd) (k:Int) (m i b e:Nat),Bv (zU ps)->b+kA (zU ps)+exS k m i ps.length<=e->(ps≠[]->0<kA (zU ps))/\InL b e (Kb k m i b ps)
 |[],k,m,i,b,e,_,_=>#[λz=>absurd rfl z,λx mx=>by rw[Kb]at mx;cases mx]
 |a::r,k,m,i,b,e,gd,h=>by
  rw[uX,uN]at gd;rw[uX,kS]at h ⊢;obtain⟨p1,i1⟩:=WD a b gd.1;refine#[λ_=>(),λx mx=>?_];rw[Kb]at mx
  rcases List.mem_append.mp mx with mx|mx
  ·have:=i1 x mx;lia
  ·match r,gd.2,h,mx with
   |c::r,gd2,h,mx=>
   have le:=zDr (k:=k) (m:=m) (i:=i) (n:=r.length);have:=(WC (c::r) k m (i+1) (KL k m i b (bare a)) e gd2 (by
    unfold KL;have:(c::r).length =r.length+1:=rfl;have:(a::c::r).length =r.length+2:=rfl;rw[‹(c::r).length =_›];rw[‹(a::c::r).length =_›]at h;lia)).2 x mx
   unfold KL at this;split at this<;>lia
   |[],_,_,mx=>rw[Kb]at mx;cases mx
end
theorem WF: ∀(fs:a6 IG) (b:Nat),(∀f∈fs,KY (bare f.2))->InL b (b+Fa fs) (LS b fs)
 |[],b,_,x,m=>by rw[LS]at m;cases m
 |f::r,b,gd,x,m=>by
  have e:Fa (f::r)=rl (bare f.2)+1+Fa r:=rfl;rw[LS]at m;rw[e]
  rcases List.mem_append.mp m with m|m
  ·have:=(WD f.2 b (gd f (yA ..))).2 x m;lia
  ·have:=WF r _ (λg mg=>gd g (yC _ mg)) x m;lia
theorem mdF (jo:ON rs): ∀(fs:a6 IG) (b:Nat) (hs:Gh),(∀f∈fs,KY (bare f.2))->OG rs b (Nc b fs)->UP L (LS b fs)->hs.map (λh=>[h.1,h.2.1,h.2.2])=Nk b fs->fs.map (·.1)=hs.map (λh=>(h.2.1,h.2.2))/\((hs.zip (fs.map (·.2))).all λx=>SJ rs x.1.1.toNat (CV rs L x.2) (xT L x.2))=true
 |[],b,[],_,_,_,_=>#[rfl,rfl]
 |f::r,b,h::hs,gd,st,ln,e=>by
  have e:[h.1,h.2.1,h.2.2]::hs.map (λh=>[h.1,h.2.1,h.2.2])=[(b:Int),f.1.1,f.1.2]::Nk (b+rl (bare f.2)+1) r:=e;injection e with e1 e2
  injection e1 with a1 e1
  injection e1 with a2 e1
  injection e1 with a3 _
  have g0:=gd f (yA ..);rw[Nc]at st;rw[LS]at ln;have s1:=st.right (wO _ _ g0);have h7:=s1.head;obtain⟨i1,i2⟩:=mdF jo r _ hs (λg mg=>gd g (yC _ mg)) s1.tail ln.right e2;have rg:=mdN jo f.2 b g0 st.left ln.left (by rw[BC h7 (by decide)];rfl);refine#[by rw[yM,yM,i1,a2,a3],?_];rw[yM,kX,kH,i2,uF];unfold SJ;rw[rg.1,rg.2.1,a1,xY,El (by rw[rg.2.2];rfl) rfl,Hd h7 (by decide)];rfl
end
theorem Xc {lo c:Int}{n:Nat}{g:TG}{tb:TS}{D:Fp}{U:St}{H:Hp}(Pv:Nat->St->Hp->Prop)(h0:Pv 0 U H)
  (hs: ∀i U H,i<n->Pv i U H->g (.int (lo+(i:Nat)*c)) U H λU2 H2=>tb {D with nx:=Pv (i+1),ct:=Pv (i+1),bk:=D.nx} U2 H2) (hd: ∀U H,Pv n U H->D.nx U H):
  ∃W:Nat->Nat->St->Hp->Prop,(∃m,W 0 m U H)/\ ∀i m U H,W i m U H->
   ((Itp lo c n).stop i H/\D.nx U H)\/((Itp lo c n).go i H/\ ∃N:St->Hp->Prop,(∀U' H',N U' H'-> ∃m',m'<m/\W (i+1) m' U' H')/\ ∀x H',(Itp lo c n).yld i H x H'->g x U H' λU2 H2=>tb {D with nx:=N,ct:=N,bk:=D.nx} U2 H2):=by
 refine#[λi m U H=>m=n-i/\i<=n/\Pv i U H,#[n,by simp,xE _,h0],?_];rintro i m U H ⟨rfl,hi,p⟩
 by_cases o5:i<n
 ·refine .inr #[o5,Pv (i+1),λU' H' p'=>#[n-(i+1),(),rfl,o5,p'],λx H' y=>?_];obtain⟨e,y⟩:=y;subst e y;exact hs i U _ o5 p
 ·have e:i=n:=()
  subst e;exact .inl #[zO _,hd U H p]
theorem Xp (Pv:Nat->St->Hp->Prop)(h0:Pv 0 U0 H0)
  (hs: ∀i U H,i<n->Pv i U H->g (.int (lo+(i:Nat))) U H λU3 H3=>tt U3 H3 λb H4=>
   if b=true then te U3 H4 λv H5=> ∃ys,H5 p=some (.lst ys)/\ys.length<sizeLine/\ ∃m',m'<n-i/\CW n Pv (i+1) m' U3 (upd H5 p (.lst (ys++[v])))
   else ∃m',m'<n-i/\CW n Pv (i+1) m' U3 H4)
  (hd: ∀U H,Pv n U H->R H):IC (ZE lo n) p U0 H0 g tt te R:=by
 refine#[CW n Pv,#[_,xE _,rfl,h0],λi m U' H' w=>?_];obtain⟨hi,rfl,hp⟩:=w
 by_cases o5:i<n
 ·refine .inr #[o5,λx H2 y=>?_];obtain⟨e,y⟩:=y;subst e y;exact hs i U' _ o5 hp
 ·have e:i=n:=()
  subst e;exact .inl #[zO _,hd U' H' hp]
theorem UI (xs:a6 Int)(lo hi:i5 Int): ∃ys:a6 Int,Bu (xs.map V.int) lo hi=ys.map V.int/\ys.length<=xs.length:=by
 unfold Bu;rw[<-List.map_drop,<-List.map_take];exact#[-1,by rw[xM,qR];lia]
section
variable {st:i4}{I:Hp->Prop}{U:St}{n m:Nat}{PL PM:a6 Int->Prop}{t u e1 e2:TE}{tl th:TO}
theorem vP.fin (h:vP K st I U n PL t)(f: ∀ns,PL ns->ns.length<=n->PM ns):vP K st I U n PM t:=λH Q D i q=>h H Q D i λl ns H' p ln=>q l ns H' (f ns p ln) ln
theorem vP.cut (h:vP K st I U n PL t)(hl: ∀(H:Hp) (Q:i5 Int->Hp->Prop),(∀i,Q i H)->tl U H Q)(hh: ∀(H:Hp) (Q:i5 Int->Hp->Prop),(∀i,Q i H)->th U H Q):vP K st I U n (λ_=>True) (tSl (VB K) t tl th):=λH Q D i q=>
 h H _ D i λl ns H1 _ ln D1 e1 n1=>hl H1 _ λa=>hh H1 _ λb=>by
  obtain⟨ys,ey,ly⟩:=UI ns a b;refine#[l,ns.map V.int,rfl,.of e1,λp hp=>?_];rw[ey];exact q p ys _ trivial () (D1.trans (D1.draw.new hp _)) upd_same (Ne.symm (D1.draw.ne hp))
def Xy (K:a7)(st:i4)(I:Hp->Prop)(U:St)(t:TE):Prop:= ∀(H:Hp) (Q:VK),AF K H st->I H->(∀x H',Drawn K st H H'->Q (.int x) H')->t U H Q
theorem Xy.same (h: ∀(H:Hp) (Q:VK),I H->Q (.int x) H->t U H Q):Xy K st I U t:=λH Q D i q=>h H Q i (q x H D.refl)
theorem vP.two (kp:Kp K st I)(h1:Xy K st I U e1)(h2:Xy K st I U e2):vP K st I U 2 (λns=>ns.length=2) (TJ (HK e1 (HK e2 Mp))):=λH Q D i q=>
 h1 H _ D i λx H1 D1=>h2 H1 _ D1.draw (kp _ _ D1 i) λy H2 D2=>#[sm2,λp hp=>q p [x,y] _ rfl (zO _) ((D1.trans D2).trans (D2.draw.new hp _)) upd_same (Ne.symm (D2.draw.ne hp))]
theorem vP.row (a b:Int):vP K st I U 2 (λns=>ns.length=2) (TJ λ_ H Q=>Q [.int a,.int b] H):=λH Q D _ q=>
 #[sm2,λp hp=>q p [a,b] _ rfl (zO _) (D.new hp _) upd_same (Ne.symm (D.ne hp))]
theorem LB.cat (D:AF K H st)(h:LB st PL H l n)(h':LB st PL H l' m)(hn:n+m<=10000000)(q: ∀z H',Drawn K st H H'->LB st PL H' z (n+m)->Q (.ref z) H'):JX (.ref l) (.ref l') H Q:=by
 obtain⟨nl,as,e,el,p⟩:=h;obtain⟨nl',bs,e',el',p'⟩:=h';refine#[l,l',_,-1,rfl,e,e',by rw[zG,zG,jX];lia,λz hz=>?_];have dz:=D.new hz (.lst (as.map V.ref++bs.map V.ref));refine q z _ dz #[Ne.symm (D.ne hz),as++bs,by rw[upd_same,yV],by rw[zE,el,el'],λa m=>?_]
 rcases List.mem_append.mp m with m|m
 ·exact p.keep dz a m
 ·exact p'.keep dz a m
theorem LB.push (b:LB st PL H p n)(ne:ns≠[])(pn:PL ns)(nl:l≠st)(el:H l=some (.lst (ns.map V.int))): ∃ys,H p=some (.lst ys)/\ys.length=n/\LB st PL (upd H p (.lst (ys++[.ref l]))) p (n+1):=by
 obtain⟨np,as,e,la,ap⟩:=b;have un: ∀{a:i4} {ms:a6 Int},(as≠[]\/ms≠[])->H a=some (.lst (ms.map V.int))->a≠p:=fun{a ms} h z y=>by
  rw[y,e]at z;injection z with z
  injection z with z
  cases as with
  |nil=>cases ms with
   |nil=>rcases h with h|h<;>exact h rfl
   |cons=>cases z
  |cons=>cases ms with
   |nil=>cases z
   |cons=>injection z with z;cases z
 refine#[_,e,by rw[zG,la],np,as++[l],by rw[upd_same,yV];rfl,by rw[zE,la];rfl,λa ma=>?_]
 rcases List.mem_append.mp ma with ma|ma
 ·obtain⟨z1,ms,z2,z3⟩:=ap a ma;exact#[z1,ms,z2,by rw[yJ (un (.inl λy=>by rw[y]at ma;cases ma) z3)];exact z3]
 ·rw[List.mem_singleton.mp ma];exact#[nl,ns,pn,by rw[yJ (un (.inr ne) el)];exact el]
def Xw (K:a7)(st:i4)(H0:Hp)(p:i4)(PL:a6 Int->Prop)(Sg:St->Prop)(i:Nat)(U:St)(H:Hp):Prop:=Sg U/\Drawn K st H0 H/\LB st PL H p i
theorem Ot (kp:Kp K st I)(i0:I H0)(h:vP K st I U m PL t)(ne: ∀ns,PL ns->ns≠[])(hp:H0 p=none)(b:Xw K st H0 p PL Sg i U H)(sg:Sg U)(hi:i<n)(hn:n<=10000000):
  t U H λv H5=> ∃ys,H5 p=some (.lst ys)/\ys.length<sizeLine/\ ∃m',m'<n-i/\CW n (Xw K st H0 p PL Sg) (i+1) m' U (upd H5 p (.lst (ys++[v]))):=by
 obtain⟨_,D,b⟩:=b;refine h H _ D.draw (kp _ _ D i0) λl ns H5 pn _ D5 el nl=>?_;have b5:=b.keep D5;obtain⟨ys,e,ly,b6⟩:=b5.push (ne ns pn) pn nl el;refine#[_,e,by rw[ly,jX];lia,CW.next hi #[sg,#[D5.draw.put e b5.1,λb o nb z=>?_],b6]];rw[yJ (λy=>by rw[y,hp]at z;cases z)];exact D5.keep _ _ nb (D.keep _ _ nb z)
theorem SU {H:Hp}{p:i4}{as:a6 i4}(D:AF K H st)(e:H p=some (.lst (as.map V.ref))):p≠st:=λz=>by
 obtain⟨a,ms,k,c,es,_⟩:=D;rw[z,es]at e;injection e with e
 injection e with e
 match as,e with
 |_::_::_,e=>injection e with _ e;injection e with e;cases e
 |[_],e=>injection e with _ e;cases e
theorem Wr (D:AF K H st)(e:H p=some (.tup xs)):p≠st:=λz=>by
 obtain⟨a,ms,k,c,es,_⟩:=D;rw[z,es]at e;cases e
end
def TB (H:Hp)(p:i4)(n:Nat):Prop:= ∃as:a6 i4,H p=some (.lst (as.map V.ref))/\as.length=n/\ ∀a∈as,∃x y:Int,H a=some (.tup [.int x,.int y])
theorem TB.same (h:TB H p n)(s:xJ H H'):TB H' p n:=by
 obtain⟨as,e,l,f⟩:=h;exact#[as,s _ _ e,l,λa m=>by obtain⟨x,y,z⟩:=f a m;exact#[x,y,s _ _ z]]
theorem Vl {H:Hp}{p:i4}{as:a6 i4}{n:Nat}(l:as.length=n)(f: ∀a∈as,∃x y:Int,H a=some (.tup [.int x,.int y]))(hp:H p=none\/ ∃xs,H p=some (.lst xs)):TB (upd H p (.lst (as.map V.ref))) p n:=by
 refine#[as,upd_same,l,λa m=>?_];obtain⟨x,y,z⟩:=f a m;refine#[x,y,?_];rw[yJ (λw=>?_)]
 ·exact z
 ·rw[w]at z
  rcases hp with hp|⟨xs,hp⟩<;>(rw[hp]at z;cases z)
theorem Lz (a b:Int): ∃n:Nat,Builtin.Range.rangeSize a b 3=(n:Int)/\(0<=a->(n:Int)<=max b 0)/\ ∀i:Nat,i<n->a+(i:Int)*3<b:=by
 unfold Builtin.Range.rangeSize
 by_cases h:a<b
 ·exact#[((b-a-1) / 3+1).toNat,by simp[h];lia,λz=>(),λi hi=>()]
 ·exact#[0,by simp;lia,λz=>(),λi hi=>()]
def NeL (ns:a6 Int):Prop:=ns≠[]/\ns.length<=1000
inductive JK (K:a7) (vs:List V) (H:Hp) (Q:VK) (E:XK):Prop
 |mk (st c:i4) (cs:List Int) (hs:Gh) (rs:vX) (h0:vs=[.ref st,.ref c]) (h1:AF K H st) (h2:c≠st) (h3:H c=some (.lst (cs.map V.int))) (h4:Cd cs hs rs) (h5:cs.length<=400) (h6:rs.length<=150) (h7: ∀l n H',Drawn K st H H'->LB st (λns=>Ep ns/\ns.length<=1000) H' l n->Q (.ref l) H'):JK K vs H Q E
theorem Rz (T:BJ K mg CK)(F:qT K "_law_codes" "_law_codes" vV f fd)(Ca:jY P w K mg base 2 "_law_take" ["_law_state","_law_most"] (Fz K))(Cv:jY P w K mg base 3 "is_code" ["thing"] Fb):vO P w K mg base 4 f fd ["_law_state","_law_code"] (JK K):=by
 exists jQ;obtain⟨st,c,cs,hs,rs,rfl,D,nc,hc,cd,c4,r2,q⟩:=h;exists _,(zC (yP 2 jQ.nd (yK jF zI (yK AC zI (yZ jB (pv 1) zI (λ_ _=>rfl)))))
   (zC (yP 3 jQ.nd (yK GS (yK uM (xK xA rfl T.n_len kO (zA (pv 1) zB)) (pv 2)) zI))
   (zC (yP 4 jQ.nd (xF zB))
   (zC (qS yY rfl (Hw rfl T.n_range (zA (pv 2) (zA (xK xA rfl T.n_len kO (zA (pv 1) zB)) (zA zI zB)))) (zY 5 jQ.nd rfl (Or.inr rfl)) (zC (yP 6 jQ.nd (xF (zA (xF (xU (.int (.int .nil)))) (zA (xF (xU (.int (.int .nil)))) (zA (xF (zA zI (zA (zH Ca hr rfl (zA (pv 0) (zA (pv 3) zB)) zV) zB))) (zA (xF (zA (yZ jB (pv 1) (pv 5) (λ_ _=>rfl)) (zA (yK jF (yZ jB (pv 1) (yK jF (pv 5) zI) (λ_ _=>rfl)) zI) zB))) (zA (xF (zA (yZ jB (pv 1) (pv 5) (λ_ _=>rfl)) (zA (yK uM (yZ jB (pv 1) (yK jF (pv 5) zI) (λ_ _=>rfl)) zI) zB))) zB)))))))
   (zC (yP 6 jQ.nd (yK xV (pv 6) (xF (zA (xF (zA (zH Ca hr rfl (zA (pv 0) (zA zI zB)) zV) (zA (yZ jB (pv 1) (yK jF (pv 5) zI) (λ_ _=>rfl)) zB))) (zA (xF (xU (.int (.int .nil)))) (zA (xF (zA zI (zA (zH Ca hr rfl (zA (pv 0) (zA zI zB)) zV) zB))) zB))))))
   (zC (DB (xD (zX Ff (yZ jB (pv 1) (pv 5) (λ_ _=>rfl)) (xO (xU (.int (.int .nil)))) rfl) (zL (yP 6 jQ.nd (yK xV (pv 6) (vB (own:=["_law_goal_here"]) (ys:=["_law_code","_law_at"]) rfl (Aj rfl T.n_range (zA (pv 3) zB)) (kJ (sc:=zS vV) rfl (by decide+kernel)) (.cons (j:=1) rfl (.cons (j:=5) rfl .nil)) (λ_ _ _ _ _=>(zY 0 (show List.Nodup [("_law_goal_here":Str),("_law_code":Str),("_law_at":Str)]from(by decide+kernel)))) (λ_ _ _ _ _=>wN) (λ_ _ _ _ _=>(xF (zA (yZ (Jo K rfl) (pv 1) (pv 2) (λ_ _=>rfl)) (zA (pv 0) zB)))))))) yD))
   (zL (yP 4 jQ.nd (yK xV (pv 4) (vB (own:=["_law_row_here"]) (ys:=["_law_code","_law_at"]) rfl (vK (pv 6)) (kJ (sc:=zS vV) rfl (by decide+kernel)) (.cons (j:=1) rfl (.cons (j:=5) rfl .nil)) (λ_ _ _ _ _=>(zY 0 (show List.Nodup [("_law_row_here":Str),("_law_code":Str),("_law_at":Str)]from(by decide+kernel)))) (λ_ _ _ _ _=>wN) (λ_ _ _ _ _=>(yK xV (yK xV (wD (Eb K rfl) (pv 1) Au (wC (pv 2))) (pv 0)) (wD (Eb K rfl) (pv 1) (wC (yK jF (pv 2) zI)) Au)))))))))))
   (zC (yP 7 jQ.nd (zH Ca hr rfl (zA (pv 0) (zA zI zB)) zV))
   (zC (qS yY rfl (Aj rfl T.n_range (zA (yZ jB (pv 1) zI (λ_ _=>rfl)) zB)) (zY 8 jQ.nd rfl (Or.inr rfl)) (zC (Ip (i:=9) jQ.nd rfl rfl (own:=["_law_goal_here"]) (ys:=["_law_k"]) rfl (Hw rfl T.n_range (zA (pv 7) (zA (pv 3) (zA zI zB)))) (kJ (sc:=zS vV) rfl (by decide+kernel)) (.cons (j:=8) rfl .nil) (λ_ _ _ _ _=>(zY 0 (show List.Nodup [("_law_goal_here":Str),("_law_k":Str)]from(by decide+kernel)))) (λ_ _ _ _ _=>wN) (λ_ _ _ _ _=>(xO (zA (yK jF zI (yK AC zI (pv 1))) (zA (pv 0) zB)))))
   (zC (qS yY rfl (Ir (xO (zA (yK jF zI (yK AC zI (pv 8))) (zA (yK jF zI (yK AC zI (pv 8))) zB)))) (zY 10 jQ.nd) (zL (yP 9 jQ.nd (yK xV (pv 9) (xF (zA (xO (zA (pv 10) (zA (yK jF (yZ jB (pv 1) (pv 10) (λ_ _=>rfl)) zI) zB))) (zA (xO (zA (pv 10) (zA (yK uM (yZ jB (pv 1) (pv 10) (λ_ _=>rfl)) zI) zB))) zB)))))))
   (zL (yP 4 jQ.nd (yK xV (pv 4) (vB (own:=["_law_j","_law_number"]) (ys:=["_law_code"]) rfl (vK (pv 9)) (kJ (sc:=zS vV) rfl (by decide+kernel)) (.cons (j:=1) rfl .nil) (λ_ _ _ _ _=>(Jb (n:=2) K rfl rfl (yF (zY 0 (show List.Nodup [("_law_j":Str),("_law_number":Str),("_law_code":Str)]from(by decide+kernel))) (yF (zY 1 (show List.Nodup [("_law_j":Str),("_law_number":Str),("_law_code":Str)]from(by decide+kernel))) jS)))) (λ_ _ _ _ _=>wN) (λ_ _ _ _ _=>(yK xV (yK xV (wD (Eb K rfl) (pv 2) Au (wC (pv 0))) (xF (zA (pv 1) zB))) (wD (Eb K rfl) (pv 2) (wC (yK jF (pv 0) zI)) Au))))))))))
   (zC (yP 4 jQ.nd (yK xV (pv 4) (xF (zA (yK xV (yK xV (yK xV (xF (zA zI zB)) (wD FC (pv 1) (wC zI) (wC (pv 2)))) (xF (xU (.int (.int (.int .nil)))))) (wD FC (pv 1) (wC (pv 2)) Au)) (zA (yK xV (yK xV (xF (zA zI zB)) (wD FC (pv 1) (wC zI) (wC zI))) (wD FC (pv 1) (wC (pv 2)) Au)) zB)))))
   (zL (zT (vB (own:=["_law_one"]) (ys:=[]) rfl (vK (pv 4)) (kJ (sc:=zS vV) rfl (by decide+kernel)) .nil (λ_ _ _ _ _=>(zY 0 (show List.Nodup [("_law_one":Str)]from(by decide+kernel)))) (λ_ _ _ _ _=>SM (kR (zH Cv hr rfl (zA (pv 0) zB) zV))) (λ_ _ _ _ _=>(pv 0))))))))))))
 have a0:IF (cs.map V.int) 0=some (.int (hs.length:Int)):=kK (j:=0) (by rw[zW,cd.c0];rfl);have h16:=cd.h1;have cl:=cd.cl;have r0:=cd.r0;have lc:(cs.map V.int).length =cs.length:=zG ..;have ix: ∀{j:Nat} {k:Int},j<cs.length->k=(j:Int)->IF (cs.map V.int) k=some (.int (cs.getD j 0)):=λh hk=>by rw[hk];exact kK (by rw[zW,Nm h];rfl)
 have kp:Kp K st (λH=>H c=some (.lst (cs.map V.int))):=λ_ _ d i=>d.keep _ _ nc i;refine#[-1,c,_,_,-1,rfl,kN.of hc,a0,_,-1,rfl,.inl #[by decide,()],_,-1,rfl,?_];refine#[-1,c,-1,.inl (kN.of hc),?_];refine#[-1,_,-1,rfl,_,-1,rfl,#[by decide,by decide],?_];have em:(((cs.map V.int).length:Int)-(1+3*(hs.length:Int))) / 2=(rs.length:Int):=by rw[lc];lia
 dsimp only;rw[em];refine#[zz0,λf0 hf0=>?_];have D0:=D.new hf0 (.lst []);have B0:LB st NeL (upd H f0 (.lst [])) f0 0:=#[Ne.symm (D.ne hf0),[],upd_same,rfl,λa m=>(nomatch m)];have hc0:=D0.keep _ _ nc hc;generalize upd H f0 (.lst [])=H0 at *
 refine#[-2,c,-1,.inl (kN.of hc0),_,_,_,rs.length,rfl,#[(),(),by rw[lc];lia,by rw[lc];lia],.inl rfl,?_,?_]
 ·rw[lc];unfold Builtin.Range.rangeSize
  simp
  lia
 refine Xc (λi U' H'=>Drawn K st H H'/\ ∃(l:i4) (v5 v6:i5 V) (n:Nat),U'=[some (.ref st),some (.ref c),some (.int (1+3*(hs.length:Int))),some (.int (rs.length:Int)),some (.ref l),v5,v6,none,none,none,none]/\LB st NeL H' l n/\n<=200*i) #[D0,f0,_,_,0,rfl,B0,xE _] ?_ ?_
 ·rintro i U' H1 hi ⟨D1,l,v5,v6,n,rfl,B1,hn⟩;have hc1:=D1.keep _ _ nc hc;obtain⟨j,ej⟩: ∃j:Nat,j=1+3*hs.length+i*2:=#[-1];have ej':1+3*(hs.length:Int)+(i:Int)*2=(j:Int):=()
  have j1:j+1<cs.length:=()
  rw[ej'];dsimp only[wI,XQ,TL,List.set];have nl: ∀{U:St} (x:Int),Xy K st (λH=>H c=some (.lst (cs.map V.int))) U (tC (.int x)):=λx=>.same λH Q _ q=>q;refine Hf.first (PL:=λns=>ns.length=2) (I:=λH=>H c=some (.lst (cs.map V.int))) (n:=5) ?_ (by decide) D1.draw hc1 λl5 H5 D5 B5=>?_
  ·refine .cons kp (vP.row 3 0) (.cons kp (vP.row 7 0) (.cons kp (vP.two kp (nl 4) λH Q D i q=>#[-2,st,-1,(),(),D,λx G x0 x1 DG=>q x G DG]) (.cons kp (vP.two kp (λH Q D i q=>?_) (λH Q D i q=>?_)) (.cons kp (vP.two kp (λH Q D i q=>?_) (λH Q D i q=>?_)) .nil))))
   ·exact#[-2,c,_,_,-1,rfl,kN.of i,ix (BN j1) rfl,q _ _ D.refl]
   ·exact#[-2,_,-1,rfl,c,_,_,-1,rfl,kN.of i,ix j1 rfl,_,-1,rfl,q _ _ D.refl]
   ·exact#[-2,c,_,_,-1,rfl,kN.of i,ix (BN j1) rfl,q _ _ D.refl]
   ·exact#[-2,_,-1,rfl,c,_,_,-1,rfl,kN.of i,ix j1 rfl,_,-1,rfl,q _ _ D.refl]
  refine Hf.more (PL:=λns=>ns.length=2) (I:=λH=>H c=some (.lst (cs.map V.int))) (n:=5) (m:=3) ?_ (by decide) (λ_ _ q=>#[-1,q]) D5.draw (D5.keep _ _ nc hc1) B5 λl6 H6 D6 B6=>?_
  ·refine .cons kp (vP.two kp (λH Q D i q=>?_) (λH Q D i q=>?_)) (.cons kp (vP.row 9 0) (.cons kp (vP.two kp (nl 0) λH Q D i q=>?_) .nil))
   ·exact#[-1,st,12,rfl,by decide,by decide,D,λx G x0 x1 DG=>q x G DG]
   ·exact#[-2,_,-1,rfl,c,_,_,-1,rfl,kN.of i,ix j1 rfl,q _ _ D.refl]
   ·exact#[-1,st,3,rfl,by decide,by decide,D,λx G x0 x1 DG=>q x G DG]
  have D16:=D5.trans D6;have hc6:=D16.keep _ _ nc hc1;refine#[λU' H'=>Drawn K st H1 H'/\ ∃(l7:i4) (m:Nat),U'=[some (.ref st),some (.ref c),some (.int (1+3*(hs.length:Int))),some (.int (rs.length:Int)),some (.ref l),some (.int (j:Int)),some (.ref l7),none,none,none,none]/\LB st (λns=>ns.length=2) H' l7 m/\m<=160,?_,?_]
  ·refine#[-2,c,_,_,-1,rfl,kN.of hc6,ix (BN j1) rfl,sm2,λtt htt=>#[tt,-1,.inr (.of upd_same),rfl,rfl,-1,?_]];have D7:=D16.trans (D6.draw.new htt (.tup [.int 4,.int 5]));have B7:=B6.keep (D6.draw.new htt (.tup [.int 4,.int 5]));have hc7:=D7.keep _ _ nc hc1;generalize upd H6 tt (.tup [.int 4,.int 5])=H7 at *
   refine jK (λ_=>?_) (λ_=>#[D7,l6,8,rfl,B7,by decide]);refine#[-3,(),(),λu hu=>?_];refine Xp (lo:=0) (n:=rs.length) (Xw K st H7 u (λns=>ns.length=2) (λU'=> ∃v,U'=[v,some (.ref c),some (.int (j:Int))])) #[#[-1],D7.draw.new hu _,Ne.symm (D7.draw.ne hu),[],upd_same,rfl,λa m=>(nomatch m)] ?_ ?_
   ·rintro k U' G hk ⟨⟨v,rfl⟩,DG,BG⟩;dsimp only[wI];refine HS (Ot kp hc7 (vP.two kp (λH Q D i q=>?_) (λH Q D i q=>?_)) (λns z y=>by rw[y]at z;cases z) hu #[#[-1],DG,BG] #[-1] hk ())
    ·exact#[-2,c,_,_,-1,rfl,kN.of i,ix (BN j1) rfl,q _ _ D.refl]
    ·exact#[-1,q _ _ D.refl]
   ·rintro U' G ⟨_,DG,BG⟩;exact LB.cat DG.draw (B7.keep DG) BG () λz H' Dz Bz=>#[D7.trans (DG.trans Dz),z,-1,Bz,()]
  rintro _ H8 ⟨D8,l7,m,rfl,B8,m8⟩;have D9:=D1.trans D8;have hc9:=D9.keep _ _ nc hc;obtain⟨n7,as,e7,la,ap⟩:=id B8;refine#[-2,l7,rfl,#[_,kN.of e7],λu hu=>?_];refine AD (xs:=as.map V.ref) (Xw K st H8 u NeL (λU'=> ∃v,U'=[v,some (.ref c),some (.int (j:Int))])) #[#[-1],D9.draw.new hu _,Ne.symm (D9.draw.ne hu),[],upd_same,rfl,λa m=>(nomatch m)] (λk U' G _ ⟨_,DG,_⟩=>kN.of (DG.keep _ _ n7 e7)) ?_ ?_
  ·rintro k x U' G hk hx ⟨⟨v,rfl⟩,DG,BG⟩;rw[zW]at hx;obtain⟨a,ha,rfl⟩:=Option.map_eq_some_iff.mp hx;obtain⟨na,ns,ln,ea⟩:=ap a (xB ha);have kp2:Kp K st (λH=>H c=some (.lst (cs.map V.int))/\H a=some (.lst (ns.map V.int))):=λ_ _ d i=>#[d.keep _ _ nc i.1,d.keep _ _ na i.2];dsimp only[wI];refine HS (Ot (m:=802) kp2 #[hc9,ea] (vP.fin (n:=802) (vP.cat kp2 (vP.cat kp2 (vP.cut (.var (o:=c) (n:=400) (λH Q q=>#[-1,q]) c4 λH i=>#[i.1,nc]) (λH Q q=>q none) (λH Q q=>#[-2,q _])) (.var (o:=a) (n:=2) (λH Q q=>#[-1,q]) (DV ln) λH i=>#[i.2,na]) (by decide)) (vP.cut (.var (o:=c) (n:=400) (λH Q q=>#[-1,q]) c4 λH i=>#[i.1,nc]) (λH Q q=>#[-1,_,-1,rfl,-1,q _]) (λH Q q=>q none)) (by decide)) ?_) (λns z=>z.1) hu #[#[-1],DG,BG] #[-1] hk (by rw[zG,la];lia));rintro zs ⟨_,_,⟨x1,_,_,rfl,rfl⟩,_,rfl⟩ lz;refine#[λz=>?_,()];have:=qZ List.length z;rw[zE,zE,ln]at this
   simp at this
  ·rintro U' G ⟨_,DG,BG⟩;rw[zG,la]at BG;exact LB.cat DG.draw ((B1.keep D8).keep DG) BG () λz H' Dz Bz=>#[D9.trans (DG.trans Dz),z,_,_,-1,Bz,()]
 rintro U' H1 ⟨D1,l,v5,v6,n,rfl,B1,hn⟩;have hc1:=D1.keep _ _ nc hc;refine#[-1,st,3,rfl,by decide,by decide,D1.draw,λx3 H2 x0 x1 D2=>?_];have D12:=D1.trans D2;have hc2:=D2.keep _ _ nc hc1;refine#[-1,c,_,_,-1,rfl,kN.of hc2,a0,-1,(),(),AN (lo:=0) (n:=hs.length) (λk U' H'=>Drawn K st H H'/\ ∃(l:i4) (n:Nat) (v8 v9 v10:i5 V),U'=[some (.ref st),some (.ref c),some (.int (1+3*(hs.length:Int))),some (.int (rs.length:Int)),some (.ref l),v5,v6,some (.int x3),v8,v9,v10]/\LB st NeL H' l n/\n<=30000+160*k) #[D12,l,n,_,_,-1,B1.keep D2,()] ?_ ?_]
 ·rintro k U' H3 hk ⟨D3,l3,n3,v8,v9,v10,rfl,B3,hn3⟩;have hc3:=D3.keep _ _ nc hc;rw[Int.zero_add];dsimp only[wI,List.set];obtain⟨cn,ec,lcn,_⟩:=Lz x3 (rs.length:Int);have lcn:=lcn x0;refine#[-2,_,_,_,cn,rfl,#[(),(),(),()],.inr rfl,ec,λu hu=>?_];refine Fm (λi U' H'=>(∃v,U'=[v,some (.int (k:Int))])/\xJ H3 H'/\TB H' u i) #[#[-1],zM hu _,[],upd_same,rfl,λa m=>(nomatch m)] ?_ ?_
  ·rintro i U' G hi ⟨⟨v,rfl⟩,sG,as,eu,la,fa⟩;dsimp only[wI];refine HS #[-1,_,-1,rfl,.inl #[by decide,()],_,-1,rfl,-1,sm2,λa1 h1=>#[_,zM h1 _ _ _ eu,by rw[zG,la,jX];lia,CW.next hi #[#[-1],λb o e=>?_,?_]]]
   ·rw[yJ (yQ e hu)];exact zM h1 _ _ _ (sG _ _ e)
   ·have:=Vl (H:=upd G a1 (.tup [.int (1+3*(k:Int)),.int (x3+(i:Nat)*3)])) (p:=u) (as:=as++[a1]) (n:=i+1) (by rw[zE,la];rfl) (λa m=>?_) (.inr #[_,zM h1 _ _ _ eu])
    ·rw[yV]at this;exact this
    ·rcases List.mem_append.mp m with m|m
     ·obtain⟨x,y,z⟩:=fa a m;exact#[x,y,zM h1 _ _ _ z]
     ·rw[List.mem_singleton.mp m];exact#[_,_,upd_same]
  rintro U' H4 ⟨_,s4,T4⟩;dsimp only[List.set];refine#[-1,_,-1,rfl,.inl #[by decide,()],_,-1,rfl,-1,_,-1,rfl,.inl #[by decide,()],_,-1,rfl,sm2,λtj htj=>?_];have etj:upd H4 tj (.tup [.int (2+3*(k:Int)),.int (3+3*(k:Int))]) tj=some (.tup [.int (2+3*(k:Int)),.int (3+3*(k:Int))]):=upd_same;have s5:=s4.trans (zM htj (.tup [.int (2+3*(k:Int)),.int (3+3*(k:Int))]));have T5:=T4.same (zM htj (.tup [.int (2+3*(k:Int)),.int (3+3*(k:Int))]));generalize upd H4 tj (.tup [.int (2+3*(k:Int)),.int (3+3*(k:Int))])=H5 at *
  refine#[tj,rfl,#[_,.of etj],Jr (xs:=[.int (2+3*(k:Int)),.int (3+3*(k:Int))]) (λi U' H'=>xJ H5 H'/\ ∃(u':i4) (v10:i5 V),U'=[some (.ref st),some (.ref c),some (.int (1+3*(hs.length:Int))),some (.int (rs.length:Int)),some (.ref l3),v5,v6,some (.int x3),some (.int (k:Int)),some (.ref u'),v10]/\TB H' u' (cn+2*i)) #[xJ.refl _,u,-1,T5] (λi U' H' _ ⟨z,_⟩=>.of (z _ _ etj)) ?_ ?_]
  ·rintro i x U' H6 hx ⟨s6,u',v10',rfl,as,eu,la,fa⟩;obtain⟨jj,rfl,hj⟩: ∃jj:Nat,x=.int (jj:Int)/\jj<cs.length:=by
    match i,hx with
    |0,hx=>exact#[2+3*k,by cases hx;rw[Int.natCast_add,Int.natCast_mul]<;>rfl,()]
    |1,hx=>exact#[3+3*k,by cases hx;rw[Int.natCast_add,Int.natCast_mul]<;>rfl,()]
   have hi2:i<2:=(List.getElem?_eq_some_iff.mp hx).1;have hc6:=s6 _ _ (s5 _ _ hc3);dsimp only[wI,List.set];refine#[-4,c,_,_,-1,rfl,kN.of hc6,ix hj rfl,_,-1,rfl,sm2,λa1 h1=>?_];refine#[-3,c,_,_,-1,rfl,kN.of (zM h1 _ _ _ hc6),ix hj rfl,_,-1,rfl,sm2,λa2 h2=>#[sm2,λa3 h3=>?_]];have s8:=((zM h1 (.tup [.int (jj:Int),.int (cs.getD jj 0+1)])).trans (zM h2 (.tup [.int (jj:Int),.int (cs.getD jj 0-1)]))).trans (zM h3 (.lst [.ref a1,.ref a2]));have e1:=zM h3 (.lst [.ref a1,.ref a2]) _ _ (zM h2 (.tup [.int (jj:Int),.int (cs.getD jj 0-1)]) _ _ (upd_same (H:=H6) (a:=a1) (o:=.tup [.int (jj:Int),.int (cs.getD jj 0+1)])));have e2:=zM h3 (.lst [.ref a1,.ref a2]) _ _ (upd_same (H:=upd H6 a1 (.tup [.int (jj:Int),.int (cs.getD jj 0+1)])) (a:=a2) (o:=.tup [.int (jj:Int),.int (cs.getD jj 0-1)]));refine#[u',a3,_,-1,rfl,s8 _ _ eu,upd_same,by rw[zG,la,jX];show _+2<=_;lia,λz hz=>#[(s6.trans s8).trans (zM hz _),z,-1,?_]];have:=Vl (as:=as++[a1,a2]) (n:=cn+2*(i+1)) (p:=z) (by rw[zE,la];rfl) (λa m=>?_) (.inl hz)
   ·rw[yV]at this;exact this
   ·rcases List.mem_append.mp m with m|m
    ·obtain⟨x,y,z⟩:=fa a m;exact#[x,y,s8 _ _ z]
    ·rcases List.mem_cons.mp m with rfl|m
     ·exact#[_,_,e1]
     ·rw[List.mem_singleton.mp m];exact#[_,_,e2]
  rintro U' H6 ⟨s6,u',v10',rfl,as,eu,la,fa⟩;have s36:=s5.trans s6;have D36:Drawn K st H3 H6:=#[D3.draw.same s36,qE.same s36];have hc6:=s36 _ _ hc3;have nu:=SU D36.draw eu;have la:as.length=cn+4:=la;refine#[-2,u',rfl,#[_,kN.of eu],λp hp=>?_];refine AD (xs:=as.map V.ref) (Xw K st H6 p NeL (λU'=> ∃v v',U'=[v,v',some (.ref c)])) #[#[_,-1],D36.draw.new hp _,Ne.symm (D36.draw.ne hp),[],upd_same,rfl,λa m=>(nomatch m)] (λk U' G _ ⟨_,DG,_⟩=>kN.of (DG.keep _ _ nu eu)) ?_ ?_
  ·rintro i x U' G hi hx ⟨⟨v,v',rfl⟩,DG,BG⟩;rw[zW]at hx;obtain⟨a,ha,rfl⟩:=Option.map_eq_some_iff.mp hx;obtain⟨jx,y,ea⟩:=fa a (xB ha);have na:=Wr D36.draw ea;refine#[a,-1,.of (DG.keep _ _ na ea),rfl,_,-1,_,-1,rfl,?_];refine HS (Ot (m:=801) kp hc6 (vP.fin (n:=801) (vP.cat kp (vP.cat kp (vP.cut (.var (o:=c) (n:=400) (λH Q q=>#[-1,q]) c4 λH i=>#[i,nc]) (λH Q q=>q none) (λH Q q=>#[-2,q _])) (.lit [y] λH Q h=>#[-1,sm1,h]) (show 400+1<=1000 by decide)) (vP.cut (.var (o:=c) (n:=400) (λH Q q=>#[-1,q]) c4 λH i=>#[i,nc]) (λH Q q=>#[-1,_,-1,rfl,-1,q _]) (λH Q q=>q none)) (show 400+1+400<=1000 by decide)) ?_) (λns z=>z.1) hp #[#[_,-1],DG,BG] #[_,-1] hi (by rw[zG,la];lia));rintro zs ⟨_,_,⟨x1,_,_,rfl,rfl⟩,_,rfl⟩ lz;exact#[by simp,()]
  ·rintro U' G ⟨_,DG,BG⟩;rw[zG,la]at BG;exact LB.cat DG.draw ((B3.keep D36).keep DG) BG () λz H' Dz Bz=>#[(D3.trans D36).trans (DG.trans Dz),z,_,_,_,-1,Bz,()]
 rintro U' H3 ⟨D3,l3,n3,v8,v9,v10,rfl,B3,hn3⟩;have hc3:=D3.keep _ _ nc hc;refine#[-1,Hf.first (PL:=NeL) (I:=λH=>H c=some (.lst (cs.map V.int))) (n:=2) ?_ (by decide) D3.draw hc3 λl4 H4 D4 B4=>LB.cat D4.draw (B3.keep D4) B4 () λz H5 D5 B5=>?_]
 ·have cv: ∀{U:St} {t:TE} {tl th:TO},(∀(H:Hp) (Q:VK),Q (.ref c) H->t U H Q)->(∀(H:Hp) (Q:i5 Int->Hp->Prop),(∀i,Q i H)->tl U H Q)->(∀(H:Hp) (Q:i5 Int->Hp->Prop),(∀i,Q i H)->th U H Q)->vP K st (λH=>H c=some (.lst (cs.map V.int))) U 400 (λ_=>True) (tSl (VB K) t tl th):=λh h1 h2=>vP.cut (.var (o:=c) (n:=400) h c4 λH i=>#[i,nc]) h1 h2;refine .cons (m:=804) kp (vP.fin (vP.cat kp (vP.cat kp (vP.cat kp (.lit [3] λH Q h=>#[sm1,h]) (cv (λH Q q=>#[-1,q]) (λH Q q=>#[-1,q _]) (λH Q q=>#[-2,q _])) (by decide)) (.lit [0,1,1] λH Q h=>#[sm3,h]) (by decide)) (cv (λH Q q=>#[-1,q]) (λH Q q=>#[-2,q _]) (λH Q q=>q none)) (by decide)) ?_) (.cons (m:=801) kp (vP.fin (vP.cat kp (vP.cat kp (.lit [1] λH Q h=>#[sm1,h]) (cv (λH Q q=>#[-1,q]) (λH Q q=>#[-1,q _]) (λH Q q=>#[-1,q _])) (by decide)) (cv (λH Q q=>#[-1,q]) (λH Q q=>#[-2,q _]) (λH Q q=>q none)) (by decide)) ?_) .nil)
  ·rintro zs ⟨_,_,⟨_,_,⟨_,_,rfl,_,rfl⟩,rfl,rfl⟩,_,rfl⟩ lz;exact#[by simp,xH lz (by decide)]
  ·rintro zs ⟨_,_,⟨_,_,rfl,_,rfl⟩,_,rfl⟩ lz;exact#[by simp,xH lz (by decide)]
 have D5':=(D3.trans D4).trans D5;obtain⟨nz,as,ez,la,ap⟩:=id B5;refine#[-1,z,rfl,#[_,kN.of ez],λp hp=>?_];refine AD (xs:=as.map V.ref) (λi U' H'=>(∃v,U'=[v])/\xJ H5 H'/\ ∃m,LB st (λns=>Ep ns/\ns.length<=1000) H' p m/\m<=i) #[#[-1],zM hp _,0,#[Ne.symm (D5'.draw.ne hp),[],upd_same,rfl,λa m=>(nomatch m)],zO _] (λi U' G _ ⟨_,g,_⟩=>kN.of (g _ _ ez)) ?_ ?_
 ·rintro i x U' G hi hx ⟨⟨v,rfl⟩,sG,m,BG,lm⟩;rw[zW]at hx;obtain⟨a,ha,rfl⟩:=Option.map_eq_some_iff.mp hx;obtain⟨na,ns,nn,ea⟩:=ap a (xB ha);dsimp only[wI];refine#[-1,a,ns,rfl,sG _ _ ea,by have:=nn.2;lia,λr G2 g2 ir=>#[-1,?_]];have DG2:Drawn K st G G2:=#[(D5'.draw.same sG).same g2,qE.same g2];have sG2:=sG.trans g2;refine jK (λc=>?_) (λc=>CW.next hi #[#[-1],sG2,m,BG.keep DG2,()]);obtain⟨ys,e,ly,b6⟩:=(BG.keep DG2).push nn.1 #[ir.mp c,nn.2] na (sG2 _ _ ea);rw[zG,la]at hi;refine#[-1,ys,e,by rw[ly,jX];lia,CW.next (by rw[zG,la];exact hi) #[#[-1],λb o y=>?_,_,b6,()]];rw[yJ (yQ y hp)];exact sG2 _ _ y
 ·rintro U' G ⟨_,sG,m,BG,_⟩;exact q p m G (D5'.trans #[D5'.draw.same sG,qE.same sG]) BG
theorem zBe {xs:a6 V}{k:Nat}(h:k<=xs.length):Bu xs none (some (k:Int))=xs.take k:=by
 unfold Bu;rw[HT.sIx_nat,HT.sIx_none,BP,Nat.sub_zero,Ae h]
theorem YU {xs:a6 V}{k:Nat}(h:k<=xs.length):Bu xs (some (k:Int)) none=xs.drop k:=by
 unfold Bu;rw[HT.sIx_nat,HT.sIx_none,Ae h,xW (by simp)]
def OJ (H:Hp)(a:i4)(ms:Gh):Prop:= ∃rv,H a=some (.lst rv)/\Paired (QC H) rv ms
theorem OJ.same (h:OJ H a ms)(s:xJ H H'):OJ H' a ms:=by
 obtain⟨rv,e,p⟩:=h;exact#[rv,s _ _ e,Paired.imp (λ_ _ ⟨t,e1,e2⟩=>#[t,e1,s _ _ e2]) p]
theorem OJ.put (h:OJ H a ms)(n:a≠p)(e:H p=some (.lst ys)):OJ (upd H p (.lst zs)) a ms:=by
 obtain⟨rv,e0,pr⟩:=h;refine#[rv,by rw[yJ n];exact e0,Paired.imp (λ_ _ ⟨t,e1,e2⟩=>#[t,e1,?_]) pr];rw[yJ (λz=>by rw[z,e]at e2;cases e2)];exact e2
def OI (H:Hp)(p:i4)(n:Nat)(G:Gh->Prop):Prop:= ∃as:a6 i4,H p=some (.lst (as.map V.ref))/\as.length=n/\ ∀a∈as,a≠p/\ ∃ms,G ms/\OJ H a ms
theorem OI.same (h:OI H p n G)(s:xJ H H'):OI H' p n G:=by
 obtain⟨as,e,l,f⟩:=h;exact#[as,s _ _ e,l,λa m=>by obtain⟨n,ms,g,z⟩:=f a m;exact#[n,ms,g,z.same s]]
theorem OI.nil (e:H p=some (.lst [])):OI H p 0 G:=#[[],e,rfl,λa m=>(nomatch m)]
theorem OI.push (b:OI H p n G)(g:G ms)(nl:l≠p)(el:OJ H l ms): ∃ys,H p=some (.lst ys)/\ys.length=n/\OI (upd H p (.lst (ys++[.ref l]))) p (n+1) G:=by
 obtain⟨as,e,la,f⟩:=b;refine#[_,e,by rw[zG,la],as++[l],by rw[upd_same,yV];rfl,by rw[zE,la];rfl,λa m=>?_]
 rcases List.mem_append.mp m with m|m
 ·obtain⟨na,ms,g,z⟩:=f a m;exact#[na,ms,g,z.put na e]
 ·rw[List.mem_singleton.mp m];exact#[nl,ms,g,el.put nl e]
theorem OI.cat (h:OI H l n G)(h':OI H l' m G)(hn:n+m<=10000000)(q: ∀z H',xJ H H'->OI H' z (n+m) G->Q (.ref z) H'):JX (.ref l) (.ref l') H Q:=by
 obtain⟨as,e,el,p⟩:=h;obtain⟨bs,e',el',p'⟩:=h';refine#[l,l',_,-1,rfl,e,e',by rw[zG,zG,jX];lia,λz hz=>?_];have s:=zM hz (.lst (as.map V.ref++bs.map V.ref));have nz: ∀{a:i4} {ms:Gh},OJ H a ms->a≠z:=fun{a ms} ⟨rv,y,_⟩ w=>by rw[w,hz]at y;cases y
 refine q z _ s #[as++bs,by rw[upd_same,yV],by rw[zE,el,el'],λa m=>?_]
 rcases List.mem_append.mp m with m|m
 ·obtain⟨_,ms,g,y⟩:=p a m;exact#[nz y,ms,g,y.same s]
 ·obtain⟨_,ms,g,y⟩:=p' a m;exact#[nz y,ms,g,y.same s]
def MkP (H0:Hp)(U:St)(G:Gh->Prop)(t:TE):Prop:= ∀(H:Hp) (Q:VK),xJ H0 H->(∀l ms H',xJ H H'->H l=none->OJ H' l ms->G ms->Q (.ref l) H')->t U H Q
def Xv (H0:Hp)(p:i4)(G:Gh->Prop)(Sg:St->Prop)(i:Nat)(U:St)(H:Hp):Prop:=Sg U/\xJ H0 H/\OI H p i G
theorem Os (h:MkP H0 U G t)(hp:H0 p=none)(b:Xv H0 p G Sg i U H)(sg:Sg U)(hi:i<n)(hn:n<=10000000):
  t U H λv H5=> ∃ys,H5 p=some (.lst ys)/\ys.length<sizeLine/\ ∃m',m'<n-i/\CW n (Xv H0 p G Sg) (i+1) m' U (upd H5 p (.lst (ys++[v]))):=by
 obtain⟨_,s0,b⟩:=b;refine h H _ s0 λl ms H5 s5 hl el g=>?_;have np:l≠p:=λz=>by
  obtain⟨as,e,_⟩:=b;rw[z,e]at hl;cases hl
 obtain⟨ys,e,ly,b6⟩:=(b.same s5).push g np el;refine#[_,e,by rw[ly,jX];lia,CW.next hi #[sg,λb o z=>?_,b6]];rw[yJ (yQ z hp)];exact s5 _ _ (s0 _ _ z)
theorem MkP.one (a b c:Int)(h1: ∀(H:Hp) (Q:VK),Q (.int a) H->e1 U H Q)(h2: ∀(H:Hp) (Q:VK),Q (.int b) H->e2 U H Q)(h3: ∀(H:Hp) (Q:VK),Q (.int c) H->e3 U H Q)(g:G [(a,b,c)]):MkP H0 U G (TJ (HK (zCd (HK e1 (HK e2 (HK e3 Mp)))) Mp)):=λH Q _ q=>
 h1 _ _ (h2 _ _ (h3 _ _ #[sm3,λt ht=>#[sm1,λl hl=>q l [(a,b,c)] _ ((zM ht _).trans (zM hl _)) ((zM ht _).free hl) #[[.ref t],upd_same,.cons #[t,rfl,zM hl _ _ _ upd_same] .nil] g]]))
theorem Yf (po:XL D m ls)(hl:ls[k]? =some l)(g:ms=[]\/ ∃b e,ms=[(l.1,b,e)]/\0<=b/\b<(m:Int)/\0<=e):XL D m (ls.take k++ms++ls.drop (k+1)):=by
 have es:ls=ls.take k++[l]++ls.drop (k+1):=by
  obtain⟨hk,e⟩:=List.getElem?_eq_some_iff.mp hl;rw[yN,<-e,List.singleton_append,List.getElem_cons_drop,qF]
 have nd:=po.nd;have ok:=po.ok;rw[es]at nd ok;generalize ls.take k=xs at *
 generalize ls.drop (k+1)=ys at *
 rcases g with rfl|⟨b,e,rfl,b0,b1,e0⟩
 ·refine#[List.Nodup.sublist ?_ nd,λx mx=>ok x ?_]
  ·rw[xI,yV,yV,yV];exact(List.sublist_append_left ..).append (List.Sublist.refl _)
  ·rw[xI]at mx
   rcases List.mem_append.mp mx with z|z<;>simp[z]
 ·refine#[by rw[yV,yV]at nd ⊢;exact nd,λx mx=>?_];rw[yN]at mx
  rcases List.mem_append.mp mx with z|z
  ·exact ok x (by simp[z])
  rcases List.mem_cons.mp z with rfl|z
  ·exact#[(ok l (by simp)).1,b0,b1,e0]
  ·have z:x∈ys:=z;exact ok x (by simp[z])
inductive HV (vs:List V) (H:Hp) (Q:VK) (E:XK):Prop
 |mk (pa:i4) (x:Int) (m:Nat) (ls:Gh) (D:Int->i8) (h0:vs=[.int x,.int (m:Int),.ref pa]) (h1:OJ H pa ls) (h2:XL D m ls) (h3:0<=x) (h4:m<=1000) (h5:ls.length<=100) (h6:x<=3) (h7: ∀l n H',xJ H H'->OI H' l n (λms=>XL D m ms/\ms.length<=1000)->Q (.ref l) H'):HV vs H Q E
theorem Pt (T:BJ K mg CK)(F:qT K "_law_papers" "_law_papers" Ai f fd):vO P w K mg base 1 f fd ["_law_third","_law_many","_law_paper"] HV:=by
 exists qX;obtain⟨pa,x,m,ls,D,rfl,lp,po,x0,m1,l1,x1,q⟩:=h;exists _,(zC (yP 3 qX.nd (xF zB))
   (zC (qS yY rfl (Aj rfl T.n_range (zA (xK xA rfl T.n_len kO (zA (pv 2) zB)) zB)) (zY 4 qX.nd rfl (Or.inr rfl)) (zC (wS (yZ jB (pv 2) (pv 4) (λ_ _=>rfl)) (qO rfl (yF (zY 5 qX.nd rfl (Or.inr rfl)) (yF (zY 6 qX.nd rfl (Or.inr rfl)) (yF (zY 7 qX.nd rfl (Or.inr rfl)) jS)))))
   (zC (yP 8 qX.nd (yK xV (vB (own:=["_law_goal_here"]) (ys:=["_law_place","_law_end"]) rfl (Hw rfl T.n_range (zA (pv 0) (zA (pv 1) (zA zI zB)))) (kJ (sc:=zS Ai) rfl (by decide+kernel)) (.cons (j:=5) rfl (.cons (j:=7) rfl .nil)) (λ_ _ _ _ _=>(zY 0 (show List.Nodup [("_law_goal_here":Str),("_law_place":Str),("_law_end":Str)]from(by decide+kernel)))) (λ_ _ _ _ _=>wN) (λ_ _ _ _ _=>(xF (zA (xO (zA (pv 1) (zA (pv 0) (zA (pv 2) zB)))) zB)))) (xF (zA (xF zB) (zA (xF (zA (xO (zA (pv 5) (zA (pv 6) (zA (yK jF (pv 7) zI) zB)))) zB)) zB)))))
   (zC (yP 8 qX.nd (yK xV (pv 8) (vB (own:=["_law_goal_here"]) (ys:=["_law_place","_law_begin"]) rfl (Hw rfl T.n_range (zA (pv 0) (zA (yK jF (pv 1) zI) (zA zI zB)))) (kJ (sc:=zS Ai) rfl (by decide+kernel)) (.cons (j:=5) rfl (.cons (j:=6) rfl .nil)) (λ_ _ _ _ _=>(zY 0 (show List.Nodup [("_law_goal_here":Str),("_law_place":Str),("_law_begin":Str)]from(by decide+kernel)))) (λ_ _ _ _ _=>wN) (λ_ _ _ _ _=>(xF (zA (xO (zA (pv 1) (zA (pv 2) (zA (pv 0) zB)))) zB))))))
   (zL (yP 3 qX.nd (yK xV (pv 3) (vB (own:=["_law_some"]) (ys:=["_law_paper","_law_k"]) rfl (vK (pv 8)) (kJ (sc:=zS Ai) rfl (by decide+kernel)) (.cons (j:=2) rfl (.cons (j:=4) rfl .nil)) (λ_ _ _ _ _=>(zY 0 (show List.Nodup [("_law_some":Str),("_law_paper":Str),("_law_k":Str)]from(by decide+kernel)))) (λ_ _ _ _ _=>wN) (λ_ _ _ _ _=>(yK xV (yK xV (wD (Eb K rfl) (pv 1) Au (wC (pv 2))) (pv 0)) (wD (Eb K rfl) (pv 1) (wC (yK jF (pv 2) zI)) Au)))))))))))
   (zL (zT (pv 3)))))
 obtain⟨rv,er,pr⟩:=id lp;have lr:=Paired.len pr;refine#[zz0,λf0 hf0=>?_];refine#[-1,pa,-1,.inl (kN.of (zM hf0 _ _ _ er)),-1,(),(),AN (lo:=0) (n:=rv.length) (λk U' H'=>xJ H H'/\ ∃(l:i4) (v4 v5 v6 v7 v8:i5 V) (n:Nat),U'=[some (.int x),some (.int (m:Int)),some (.ref pa),some (.ref l),v4,v5,v6,v7,v8]/\OI H' l n (λms=>XL D m ms/\ms.length<=1000)/\n<=2100*k) #[zM hf0 _,f0,_,_,_,_,_,0,rfl,.nil upd_same,xE _] ?_ ?_]
 rotate_left
 ·rintro U' H' ⟨s,l,v4,v5,v6,v7,v8,n,rfl,b,_⟩;exact#[-1,q l n H' s b]
 rintro k U' H1 hk ⟨s1,l,v4,v5,v6,v7,v8,n,rfl,b1,n1⟩;rw[Int.zero_add];have hv:rv[k]? =some rv[k]:=zF hk;obtain⟨⟨pl,bg,en⟩,hl,t,ev,et⟩:=Paired.yonder pr hv;have o:=po.ok _ (xB hl);dsimp only[wI,List.set];refine#[-2,pa,_,_,-1,rfl,kN.of (s1 _ _ er),kK (by rw[hv,ev]),t,-1,.of (s1 _ _ et),rfl,_,-1,_,-1,_,-1,rfl,?_];obtain⟨G1,eG⟩: ∃G1:Gh->Prop,∀ms,G1 ms ↔ (ms=[]\/ ∃b e,ms=[(pl,b,e)]/\0<=b/\b<(m:Int)/\0<=e):=#[_,λ_=>Iff.rfl];obtain⟨cn,ec,lcn,icn⟩:=Lz x (m:Int);have lcn:=lcn x0;dsimp only[List.set];refine#[-2,_,_,_,cn,rfl,#[(),(),(),()],.inr rfl,ec,λu hu=>?_];refine Fm (Xv H1 u G1 (λU'=> ∃v,U'=[v,some (.int pl),some (.int en)])) #[#[-1],zM hu _,.nil upd_same] ?_ ?_
 ·rintro i U' G hi ⟨⟨v,rfl⟩,sG,BG⟩;dsimp only[wI];refine HS (Os (MkP.one pl (x+(i:Nat)*3) en (λH Q q=>#[-1,q]) (λH Q q=>#[-1,q]) (λH Q q=>#[-1,q]) ((eG _).mpr (.inr #[_,-1,(),icn i hi,o.2.2.2]))) hu #[#[-1],sG,BG] #[-1] hi ())
 rintro U' H2 ⟨_,s2,b2⟩;refine#[zz0,λa1 h1=>?_];have s3:=s2.trans (zM h1 (.lst []));refine MkP.one (H0:=H1) (G:=G1) pl bg (en+1) (λH Q q=>#[-1,q]) (λH Q q=>#[-1,q]) (λH Q q=>#[-1,_,-1,rfl,q]) ((eG _).mpr (.inr #[_,-1,o.2.1,o.2.2.1,by have:0<=en:=o.2.2.2;lia])) _ _ s3 λl3 ms3 H3 g3 f3 e3 q3=>#[sm2,λa4 h4=>?_];have s4:=zM h4 (.lst [.ref a1,.ref l3]);have e1:OJ H3 a1 []:=#[[],g3 _ _ upd_same,.nil];have b4:OI (upd H3 a4 (.lst [.ref a1,.ref l3])) a4 2 G1:=by
  have nz: ∀{a:i4} {ms:Gh},OJ H3 a ms->a≠a4:=fun{a ms} ⟨rv,y,_⟩ w=>by rw[w,h4]at y;cases y
  refine#[[a1,l3],upd_same,rfl,λa m=>?_]
  rcases List.mem_cons.mp m with rfl|m
  ·exact#[nz e1,[],(eG _).mpr (.inl rfl),e1.same s4]
  ·rw[List.mem_singleton.mp m];exact#[nz e3,ms3,q3,e3.same s4]
 have s14:=(s3.trans g3).trans s4;have b2:=b2.same (((zM h1 (.lst [])).trans g3).trans s4);generalize upd H3 a4 (.lst [.ref a1,.ref l3])=H4 at *
 clear e1 s4 h4 h1 g3 f3 e3 s3;refine OI.cat b2 b4 () λl5 H5 s5 b5=>?_;obtain⟨cn2,ec2,lcn2,icn2⟩:=Lz x ((m:Int)+1);have lcn2:=lcn2 x0;dsimp only[wI,List.set];refine#[-3,_,-1,rfl,_,_,_,cn2,rfl,#[(),(),(),()],.inr rfl,ec2,λu2 hu2=>?_];have s15:=s14.trans s5;refine Fm (Xv H5 u2 G1 (λU'=> ∃v,U'=[v,some (.int pl),some (.int bg)])) #[#[-1],zM hu2 _,.nil upd_same] ?_ ?_
 ·rintro i U' G hi ⟨⟨v,rfl⟩,sG,BG⟩;dsimp only[wI];exact HS (Os (MkP.one pl bg (x+(i:Nat)*3) (λH Q q=>#[-1,q]) (λH Q q=>#[-1,q]) (λH Q q=>#[-1,q]) ((eG _).mpr (.inr #[_,-1,o.2.1,o.2.2.1,()]))) hu2 #[#[-1],sG,BG] #[-1] hi ())
 rintro U' H6 ⟨_,s6,b6⟩;refine OI.cat (b5.same s6) b6 () λl7 H7 s7 b7=>?_;have s17:=s15.trans (s6.trans s7);have s07:=s1.trans s17;obtain⟨as,e7,la,f7⟩:=id b7;dsimp only[wI,List.set];refine#[-2,l7,rfl,#[_,kN.of e7],λp hp=>?_];refine AD (xs:=as.map V.ref) (Xv H7 p (λms=>XL D m ms/\ms.length<=1000) (λU'=> ∃v,U'=[v,some (.ref pa),some (.int (k:Int))])) #[#[-1],zM hp _,.nil upd_same] (λi U' G _ ⟨_,g,_⟩=>kN.of (g _ _ e7)) ?_ ?_
 ·rintro i v U' G hi hx ⟨⟨v',rfl⟩,sG,BG⟩;rw[zW]at hx;obtain⟨a,ha,rfl⟩:=Option.map_eq_some_iff.mp hx;obtain⟨_,ms,gm,rm,em,pm⟩:=f7 a (xB ha);have gm:=(eG _).mp gm;have lm:rm.length<=1:=by
   rw[Paired.len pm]
   rcases gm with rfl|⟨_,_,rfl,_⟩<;>simp
  have po2:=Yf po hl gm;dsimp only[wI];refine HS (Os (λH' Q' s' q'=>?_) hp #[#[-1],sG,BG] #[-1] hi (by rw[zG,la];lia));have s08:=s07.trans s';have sl:sizeLine=16777216:=jX;refine#[-3,pa,-1,kN.of (s08 _ _ er),λp1 h1=>#[-1,p1,a,_,-1,rfl,upd_same,zM h1 _ _ _ (s' _ _ em),?_,λp2 h2=>#[-2,_,-1,rfl,-1,pa,-1,kN.of (zM h2 _ _ _ (zM h1 _ _ _ (s08 _ _ er))),λp3 h3=>#[p2,p3,_,-1,rfl,zM h3 _ _ _ upd_same,upd_same,?_,λp4 h4=>?_]]]]
  ·have:=Dj rv none (some (k:Int));lia
  ·have:=Dj rv none (some (k:Int));have:=Dj rv (some ((k:Int)+1)) none;rw[zE];lia
  ·have ss:=((zM h1 (.lst (Bu rv none (some (k:Int))))).trans (zM h2 (.lst (Bu rv none (some (k:Int))++rm)))).trans ((zM h3 (.lst (Bu rv (some ((k:Int)+1)) none))).trans (zM h4 (.lst (Bu rv none (some (k:Int))++rm++Bu rv (some ((k:Int)+1)) none))));refine q' p4 (ls.take k++ms++ls.drop (k+1)) _ ss (((zM h1 _).trans ((zM h2 _).trans (zM h3 _))).free h4) #[_,upd_same,?_] #[po2,?_]
   ·generalize upd (upd (upd (upd H' p1 _) p2 _) p3 _) p4 _=Hz at ss ⊢;have up: ∀{v:V} {l:Int×Int×Int} {G:Hp},xJ G H'->QC G v l->QC Hz v l:=λg ⟨t,e1,e2⟩=>#[t,e1,ss _ _ (g _ _ e2)];rw[zBe (),show(k:Int)+1=((k+1:Nat):Int)from rfl,YU ()];exact Paired.append (Paired.append (Paired.imp (λ_ _=>up s08) (Ko pr k)) (Paired.imp (λ_ _=>up s') pm)) (Paired.imp (λ_ _=>up s08) (Kq pr (k+1)))
   ·have:=Paired.len pm;rw[zE,zE,xM,qR];lia
 ·rintro U' G ⟨_,sG,BG⟩;rw[zG,la]at BG;exact OI.cat ((b1.same s17).same sG) BG () λz H' sz Bz=>#[(s07.trans sG).trans sz,z,_,_,_,_,_,-1,Bz,()]
mutual
theorem Zk: ∀t:Tr,KY t->rl t+2<=3*UT t
 | .mk k own ps,h=>by
  unfold KY at h;obtain⟨_,_,h5,hp⟩:=h;have ih:=Vx ps hp;rw[UT,rl];split
  ·lia
  ·split
   ·lia
   ·split
    ·rename_i c;have:=h5 c;lia
    ·lia
theorem Vx: ∀ps:a6 Tr,Bv ps->kA ps+2*ps.length<=3*HF ps
 |[],_=>by unfold kA HF;exact zO _
 |t::r,h=>by
  rw[uN]at h;have h1:=Zk t h.1;have h2:=Vx r h.2;rw[kS,HF,zK];lia
end
mutual
theorem PU: ∀nd:Nd,HM nd=UT (bare nd)
 | .mk k p own ps=>by
  show HM (.mk k p own ps)=UT (.mk k own (zU ps));rw[HM,UT,Ws ps]
theorem Ws: ∀ps:a6 Nd,Gg ps=HF (zU ps)
 |[]=>by
  show Gg []=HF [];unfold Gg HF;rfl
 |t::r=>by
  show Gg (t::r)=HF (bare t::zU r);rw[Gg,HF,PU t,Ws r]
end
mutual
theorem zAa: ∀(nd:Nd) (d:Nat),Hg pm d (bare nd)->HM nd<=1000-> ∀x∈pre nd,Hg pm d (bare x)/\(RO x).length<=1000
 | .mk k p own ps,0,h,_,x,m=>by
  obtain⟨h,_⟩:=h;unfold wW at h;exact h.elim
 | .mk k p own ps,d+1,h,l,x,m=>by
  rw[pre]at m;rw[HM]at l
  rcases List.mem_cons.mp m with rfl|m
  ·exact#[h,xH (SV ps) ()]
  ·have h1:wW (RU pm) 2 (d+1) (.mk k own (zU ps)):=h.1;have h2:OH (d+1) (.mk k own (zU ps)):=h.2;unfold wW at h1;unfold OH at h2;have z:=Od ps d (λt mt=>#[Mb h1.2.2.2.2.2 mt,h2.2.2.1 t mt]) () x m;exact#[z.1.more,z.2]
theorem Od: ∀(ps:a6 Nd) (d:Nat),(∀t∈zU ps,Hg pm d t)->Gg ps<=1000-> ∀x∈jO ps,Hg pm d (bare x)/\(RO x).length<=1000
 |[],d,_,_,x,m=>by rw[jO]at m;cases m
 |a::r,d,h,l,x,m=>by
  rw[jO]at m;rw[Gg]at l;rw[uX]at h
  rcases List.mem_append.mp m with m|m
  ·exact zAa a d (h _ (yA ..)) () x m
  ·exact Od r d (λt mt=>h t (yC _ mt)) () x m
theorem SV: ∀ps:a6 Nd,ps.length<=Gg ps
 |[]=>xE _
 |a::r=>by
  have:=SV r;have:=YC a;rw[Gg,zK];lia
end
theorem Zi: ∀{d:Nat} {t:Tr},OH d t->OK d t
 |0,_,h=>h.elim
 |d+1,.mk k own ps,h=>by
  unfold OH at h;unfold OK;exact#[λz=>by obtain⟨n,e,l⟩:=h.1 z;exact#[n,e,by unfold HE Mn;lia],h.2.1,λp m=>Zi (h.2.2.1 p m)]
structure Whl (ns:List Int)(r:Ev×List Nd)(cs:List Int)(hs:Gh)(rs:vX)(ls:Gh):Prop where
 fn:Shr ns r
 mk_:Xz ns (r.1.zip r.2)
 n64:Na (r.1.zip r.2)<64
 ec:cs=Dk (Nk 0 (r.1.zip r.2)) (Nc 0 (r.1.zip r.2))
 el:ls=LS 0 (r.1.zip r.2)
 cd:Cd cs hs rs
 c4:cs.length<=400
 r1:rs.length<=150
 po:XL (Rj (jO r.2)) rs.length ls
 pw: ∀m,PpW (Rj (jO r.2)) m ls
 l1:ls.length<=100
 ok:Ke rs hs (r.1.zip r.2) ls=true
 ln:r.1.length=r.2.length
 f1:r.1.length<=16
 nod:((jO r.2).map Av).Nodup
 p1:(jO r.2).length<=1000
 gd: ∀nd∈jO r.2,∃pm,Hg pm 10 (bare nd)/\(RO nd).length<=1000
 n1:ns.length<=1000
theorem Whl.lt (W:Whl ns r cs hs rs ls)(c:Cd cs' hs' rs')(l:cs'.length<=1000)(l':ls'.length<=1000):LtP r cs' hs' rs' ls':=
 #[(),c.co,c.hd,c.rw_,c.ro.jo,c.ro.uo,c.r0,c.ro.rl,by have:=c.h1;lia,c.h0,l',by have:=W.f1;lia,W.p1,λnd m=>by
  obtain⟨pm,g,k⟩:=W.gd nd m;exact#[#[_,_,g.1],Zi g.2,k]]
theorem XU (h:Kh pm t): ∃r cs hs rs ls,Whl (wr (BT pm t)) r cs hs rs ls:=by
 obtain⟨gd,p0,p4⟩:=ZT h;have g1:Hg pm 10 (.mk 1 [0] []):=Ma (by decide);have hl:=XV h;have hz:=Sx t;have hg:HD ((BT pm t).map Prod.fst):=#[by show 1<=2;decide,by show 2<=16;decide,λi h e=>by
  match i,e with
  |0,e=>cases e;show(0:Int)<=0/\(0:Int)<=4/\(0:Int)<=2/\(2:Int)<=12/\((0:Nat)=0->(0:Int)=0);decide
  |1,e=>cases e;exact#[by show 0<=pm;lia,p4,Int.le_refl _,by show pm<=12;lia,λz=>()]]
 have ff: ∀f∈BT pm t,wW ((BT pm t).map Prod.fst) f.1.2 10 f.2:=λf m=>by
  rcases List.mem_cons.mp m with rfl|m
  ·exact gd.1
  ·rw[List.mem_singleton.mp m];exact Di (by decide) (by decide) (.inr (.inl #[.inl rfl,0,rfl,by decide,by show 0<=pm-1;lia])) rfl (Iy (by decide)) λp m=>(nomatch m)
 obtain⟨n0,en0⟩: ∃n0,n0=SN 5 t:=#[-1];obtain⟨n1,en1⟩: ∃n1,n1=SN (5+(jR t).length) (.mk 1 [0] []):=#[-1];have e0:bare n0=t:=by rw[en0];exact OC ..
 have e1:bare n1=.mk 1 [0] []:=by rw[en1];exact OC ..
 have epl:[n0,n1]=Jz 5 [t,.mk 1 [0] []]:=by rw[Jz,Jz,Jz,en0,en1]
 have ew:wr (BT pm t)=[2,0,2,pm,pm]++xX [t,.mk 1 [0] []]:=by rw[Hi];simp[jR,xX]
 have e:Shr (wr (BT pm t)) ((BT pm t).map Prod.fst,[n0,n1]):=#[[t,.mk 1 [0] []],by
  rw[ew];refine#[rfl,λi h z=>?_,Sub.behind _ [2,0,2,pm,pm],rfl,by rw[zE];rfl,hg,λi h z y w=>?_]
  ·match i,z with
   |0,z=>cases z;exact#[rfl,rfl]
   |1,z=>cases z;exact#[rfl,rfl]
  ·match i,y,w with
   |0,y,w=>cases y;cases w;exact ff _ (yA ..)
   |1,y,w=>cases y;cases w;exact ff ((pm,pm),.mk 1 [0] []) (by simp[BT]),epl]
 obtain⟨fs,efs⟩: ∃fs:a6 IG,fs=[((0,2),n0),((pm,pm),n1)]:=#[-1];have ez:((BT pm t).map Prod.fst).zip [n0,n1]=fs:=efs.symm;have e2:fs.map (·.2)=[n0,n1]:=by rw[efs];rfl
 have em:fs.map (·.1)=(BT pm t).map Prod.fst:=by rw[efs];rfl
 have ft: ∀f∈fs,wW ((BT pm t).map Prod.fst) f.1.2 10 (bare f.2):=λf m=>by
  rw[efs]at m
  rcases List.mem_cons.mp m with rfl|m
  ·show wW _ _ 10 (bare n0);rw[e0];exact ff _ (yA ..)
  ·rw[List.mem_singleton.mp m];show wW _ _ 10 (bare n1);rw[e1];exact ff ((pm,pm),.mk 1 [0] []) (by simp[BT])
 have gt: ∀f∈fs,KY (bare f.2):=λf m=>DC _ _ (ft f m);have rz:=Zk t (DC _ _ gd.1);have rF:Fa fs=rl t+1+(1+1+0):=by rw[efs];show rl (bare n0)+1+(rl (bare n1)+1+0)=_;rw[e0,e1];simp[rl,kA]
 have nF:Na fs=UT t+(1+0):=by rw[efs];show HM n0+(HM n1+0)=_;rw[PU,PU,e0,e1];simp[UT,HF]
 have cp:=Np em hg ft ();have mlen:=Jk fs 0 gt;have l3:=EQ cp.h3;have l2:=EQ cp.r2;have n8:(Nk 0 fs).length =2:=by rw[FZ,efs];rfl
 have clen:(Dk (Nk 0 fs) (Nc 0 fs)).length =7+2*Fa fs:=by
  unfold Dk;rw[zK,zE,l3,l2,n8,mlen];lia
 obtain⟨hs,rs,cd⟩:=Qw cp.ok ();have h1:=cd.hd;have h2:=cd.rw_;rw[cp.headNums,GX (.inr rfl) cp.h3]at h1;rw[cp.rowNums,GX (.inl rfl) cp.r2]at h2;have rlen:rs.length=Fa fs:=by rw[<-mlen,h2];unfold JZ;rw[zG]
 obtain⟨_,_,ri⟩:=LR fs 0 _ _ (e2.trans epl);have nd:((LS 0 fs).map (·.1)).Nodup:=List.pairwise_map.mpr (ri.1.imp fun{x y} z=>());have npl:=WE fs 0;have ll:(LS 0 fs).length =Na fs:=by
  have:=(Rh 0 fs).length_eq;rw[KJ,zG]at this;exact this.symm
 have lpre:(jO [n0,n1]).length =Na fs:=by
  rw[<-ll,<-e2,<-zG (f:=Av),<-npl,zG]
 have inl:=WF fs 0 gt;have okp: ∀l∈LS 0 fs,Rj (jO [n0,n1]) l.1=true:=λl m=>by
  have:l.1∈(jO [n0,n1]).map Av:=by rw[<-e2,<-npl];exact AX m
  obtain⟨x,mx,ex⟩:=List.mem_map.mp this;exact List.any_eq_true.mpr #[x,mx,zP ex]
 obtain⟨z1,z2⟩:=mdF (L:=FX (LS 0 fs)) cd.ro.jo fs 0 hs gt (λi x e=>by rw[Gb,<-h2];exact e) (λl m=>SX nd l m) h1.symm;have dl:Ke rs hs fs (LS 0 fs)=true:=by
  have lh:hs.length=2:=by rw[<-n8,h1,zG]
  have za:=OO (rs:=rs) (L:=FX (LS 0 fs)) (hs:=hs) (h1:=(BT pm t).map Prod.fst) (ns:=[n0,n1]) (by rw[lh];rfl) rfl;rw[ez,<-e2,z2,<-em,zP z1]at za;unfold Ke;rw[zP (show hs.length=fs.length by rw[lh,efs];rfl),List.all_eq_true.mpr (λl m=>zP (by have:=inl l m;lia)),za];rfl
 have po:XL (Rj (jO [n0,n1])) rs.length (LS 0 fs):=#[nd,λl m=>by have:=inl l m;exact#[okp l m,(),(),()]];have pw: ∀m,PpW (Rj (jO [n0,n1])) m (LS 0 fs):=λ_=>#[nd,λl m=>by have:=inl l m;exact#[okp l m,(),.inr this.2.1,()]];refine#[_,_,hs,rs,_,#[e,by rw[ez];exact#[_,e,ez,em,hg,ft,(),()],by rw[ez];lia,rfl,rfl,by rw[ez];exact cd,by rw[ez];lia,(),by rw[ez];exact po,λm=>by rw[ez];exact pw m,by rw[ez];lia,by rw[ez];exact dl,rfl,by show 2<=16;decide,?_,by show(jO [n0,n1]).length<=_;lia,?_,?_]]
 ·show((jO [n0,n1]).map Av).Nodup;rw[<-e2,<-npl];exact nd
 ·intro x m;have m:x∈jO [n0,n1]:=m;refine#[pm,Od [n0,n1] 10 (λt' m'=>?_) ?_ x m]
  ·rcases List.mem_cons.mp m' with rfl|m'
   ·rw[e0];exact gd
   ·have m':t'∈[bare n1]:=m';rw[List.mem_singleton.mp m',e1];exact g1
  ·simp only[Gg];rw[PU,PU,e0,e1]
   simp[UT,HF]
   lia
 ·rw[Hi]
  simp
  lia
theorem Vk {as:a6 i4}{ls:Gh}(h:Paired (KD H) as ls):Paired (QC H) (as.map V.ref) ls:=by
 induction h with
 |nil=>exact .nil
 |cons h r ih=>exact .cons #[-1,h] ih
theorem HJ (h:AF K H st)(D:Drawn K st H H'):vN H H':=λb xs e=>D.keep _ _ (Wr h e) e
theorem OJ.keep (d:AF K H st)(D:Drawn K st H H')(n:a≠st)(h:OJ H a ms):OJ H' a ms:=by
 obtain⟨rv,e,p⟩:=h;exact#[rv,D.keep _ _ n e,Paired.imp (λ_ _ ⟨t,e1,e2⟩=>#[t,e1,HJ d D _ _ e2]) p]
theorem Qo (d:AF K H st)(D:Drawn K st H H')(n:a≠st)(h:Jx H a r):Jx H' a r:=by
 obtain⟨rv,e,l,p⟩:=h;have T:=HJ d D;exact#[rv,D.keep _ _ n e,l,Paired.imp (λ_ _ ⟨t,b,e1,e2,z⟩=>#[t,b,e1,T _ _ e2,z.tups T]) p]
theorem Whl.lets (W:Whl ns r cs hs rs ls)(es:G sh=some (.lst (ns.map V.int)))(ec:G c=some (.lst (cs'.map V.int)))(C:Cd cs' hs' rs')(l:cs'.length<=1000)(el:OJ G pa ls')(l':ls'.length<=1000)(pw:PpW (Rj (jO r.2)) rs'.length ls')(q: ∀H',xJ G H'->Q (.bl (Ke rs' hs' (r.1.zip r.2) ls')) H'):NG [.ref sh,.ref c,.ref pa] G Q E:=by
 obtain⟨rv,e,p⟩:=el;exact#[sh,c,pa,ns,cs',rv,ls',hs',rs',r,rfl,es,by have:=W.n1;lia,W.fn,ec,W.lt C l l',e,p,λH' g=>by rw[zAu W.ln W.nod pw];exact q H' g]
theorem Whl.due (W:Whl ns r cs hs rs ls)(fa:Jx G tl r)(ec:G c=some (.lst (cs'.map V.int)))(C:Cd cs' hs' rs')(el:OJ G pa ls')(l':ls'.length<=1000)(pw:PpW (Rj (jO r.2)) rs'.length ls')(q: ∀H',xJ G H'->Q (.bl (Ke rs' hs' (r.1.zip r.2) ls')) H'):NK [.ref tl,.ref c,.ref pa] G Q E:=by
 obtain⟨rv,e,p⟩:=el;refine#[tl,c,pa,r,cs',hs',rs',rv,ls',rfl,fa,ec,C,e,p,λl m=>#[(pw.ok l m).2.1,(pw.ok l m).2.2.2],l',by have:=W.f1;lia,λnd m=>?_,q];obtain⟨pm,g,_⟩:=W.gd nd (GW m);exact#[#[_,_,g.1],g.2]
theorem Wf (T:BJ K mg CK)(F:qT K "law" "law" Vw f fd)(Ca:jY P w K mg base 2 "_law_take" ["_law_state","_law_most"] (Fz K))(Cc9:jY P w K mg base 5 "_law_sheet" ["_law_state"] (IN K))(Co:jY P w K mg base 17 "functions" ["sheet"] HW)(Cg0:jY P w K mg base 23 "made" ["sheet"] QT)(Cd0:jY P w K mg base 23 "made_paper" ["sheet"] Gu)(Cb6:jY P w K mg base 19 "lets_by" ["sheet","code","paper"] NG)(Ca7:jY P w K mg base (3+3*10+2) "_law_due" ["_law_told","_law_code","_law_paper"] NK)(Cd3:jY P w K mg base 4 "_law_codes" ["_law_state","_law_code"] (JK K))(Cc6:jY P w K mg base 1 "_law_papers" ["_law_third","_law_many","_law_paper"] HV)(Ca1:jY P w K mg base 1 "_law_rows" ["_law_code"] Hk):vO P w K mg base 36 f fd ["_law_script"] (OS K):=by
 exists Gx;obtain⟨a,ns,rfl,hs0,hl0,q⟩:=h;exists _,(zC (yP 1 Gx.nd (xF (zA (pv 0) (zA zI (zA zI zB)))))
   (zC (yP 2 Gx.nd (zH Cc9 hr rfl (zA (pv 1) zB) zV))
   (zC (yP 3 Gx.nd (zH Co hr rfl (zA (pv 2) zB) zV))
   (zC (yP 4 Gx.nd (zH Cg0 hr rfl (zA (pv 2) zB) zV))
   (zC (yP 5 Gx.nd (zH Cd0 hr rfl (zA (pv 2) zB) zV))
   (zC (xD (PW.pt (qY (zX Yq (zH Cb6 hr rfl (zA (pv 2) (zA (pv 4) (zA (pv 5) zB))) zV) qI (yG _)) (kW (qN (kR (zH Ca7 hr rfl (zA (pv 3) (zA (pv 4) (zA (pv 5) zB))) zV)))))) (zL (zT qI)) yD)
   (zC (qS yY rfl (vK (zH Cd3 hr rfl (zA (pv 1) (zA (pv 4) zB)) zV)) (zY 6 Gx.nd) (zL (xD (zX Gf (zH Cb6 hr rfl (zA (pv 2) (zA (pv 6) (zA (pv 5) zB))) zV) (zH Ca7 hr rfl (zA (pv 3) (zA (pv 6) (zA (pv 5) zB))) zV) (yG _)) (zL (zT qI)) yD)))
   (zC (qS yY rfl (vK (zH Cc6 hr rfl (zA (zH Ca hr rfl (zA (pv 1) (zA zI zB)) zV) (zA (xK xA rfl T.n_len kO (zA (zH Ca1 hr rfl (zA (pv 4) zB) zV) zB)) (zA (pv 5) zB))) zV)) (zY 7 Gx.nd) (zL (xD (zX Gf (zH Cb6 hr rfl (zA (pv 2) (zA (pv 4) (zA (pv 7) zB))) zV) (zH Ca7 hr rfl (zA (pv 3) (zA (pv 4) (zA (pv 7) zB))) zV) (yG _)) (zL (zT qI)) yD)))
   (zL (zT qI))))))))))
 refine#[-1,sm3,λst hst=>?_];have D0:AF K (upd H st (.lst [.ref a,.int 0,.int 0])) st:=#[a,ns,0,0,upd_same,hs0.imp (fun⟨o,z⟩=>#[o,zM hst _ _ _ z]) id,hl0,by decide,by decide];generalize upd H st (.lst [.ref a,.int 0,.int 0])=H0 at *
 refine#[-1,st,rfl,D0,λsh pm t H1 ht D1 nsh esh=>?_];obtain⟨r,cs,hs,rs,ls,W⟩:=XU ht;generalize wr (BT pm t)=wn at *
 have wl:=W.n1;refine#[-1,sh,wn,r,rfl,esh,W.fn,λtl H2 s2 htl fa=>?_];refine#[-1,sh,wn,-1,s2 _ _ esh,W.mk_,λc H3 s3 hc0 ec=>?_];rw[<-W.ec]at ec;refine#[-1,sh,wn,-1,s3 _ _ (s2 _ _ esh),W.mk_,W.n64,λpa as H4 s4 hp0 ep tr=>?_];rw[<-W.el]at tr;have s14:=(s2.trans s3).trans s4;have D4:AF K H4 st:=D1.draw.same s14;have fa4:=fa.same (s3.trans s4);have ec4:=s4 _ _ ec;have es4:=s14 _ _ esh;have nc:=HB D4 ec4;have npa:=SU D4 ep;have ntl:tl≠st:=Ne.symm (D1.draw.ne htl);have el4:OJ H4 pa ls:=#[_,ep,Vk tr];have l1:=W.l1;have c4:=W.c4;dsimp only[wI,List.set];refine#[-3,W.lets es4 ec4 W.cd () el4 () (W.pw _) λH5 s5=>?_];rw[W.ok];refine#[_,-1,rfl,-1,jE #[-3,W.due (fa4.same s5) (s5 _ _ ec4) W.cd (el4.same s5) () (W.pw _) λH6 s6=>?_]];rw[W.ok];refine#[-1,jE ?_];have Zj:=s5.trans s6;have D6:AF K H6 st:=D4.same Zj;have fa6:=fa4.same Zj;have el6:=el4.same Zj;refine#[-2,st,c,cs,hs,rs,rfl,D6,nc,Zj _ _ ec4,W.cd,c4,W.r1,λbl n H7 D7 B7=>?_];obtain⟨nb,as,e7,la,ap⟩:=B7;have fa7:=Qo D6 D7 ntl fa6;have el7:=el6.keep D6 D7 npa;have es7:=D7.keep _ _ nsh (Zj _ _ es4);have ec7:=D7.keep _ _ nc (Zj _ _ ec4);refine#[bl,rfl,#[_,kN.of e7],Dh (xs:=as.map V.ref) (λi U' H'=>xJ H7 H'/\ ∃v6:i5 V,U'=[some (.ref a),some (.ref st),some (.ref sh),some (.ref tl),some (.ref c),some (.ref pa),v6,none]) #[xJ.refl _,-1] (λi U' G _ ⟨g,_⟩=>kN.of (g _ _ e7)) ?_ ?_]
 ·rintro i x U' G hx ⟨g,v6,rfl⟩;rw[zW]at hx;obtain⟨b,hb,rfl⟩:=Option.map_eq_some_iff.mp hx;obtain⟨_,ms,⟨ok,lm⟩,eb⟩:=ap b (xB hb);obtain⟨hs',rs',cd'⟩:=Qw ok lm;dsimp only[wI,List.set];refine#[-3,W.lets (g _ _ es7) (g _ _ eb) cd' lm (el7.same g) () (W.pw _) λG2 g2=>#[-3,W.due (fa7.same (g.trans g2)) (g2 _ _ (g _ _ eb)) cd' (el7.same (g.trans g2)) () (W.pw _) λG3 g3=>#[rfl,-1,?_]]];rw[zP rfl];exact jE #[(g.trans g2).trans g3,-1]
 rintro U' H8 ⟨g8,v6,rfl⟩;have D8:AF K H8 st:=D7.draw.same g8;refine#[-1,st,3,rfl,by decide,by decide,D8,λx H9 x0 x1 D9=>?_];have ec9:=D9.keep _ _ nc (g8 _ _ ec7);have es9:=D9.keep _ _ nsh (g8 _ _ es7);have fa9:=Qo D8 D9 ntl (fa7.same g8);have el9:=(el7.same g8).keep D8 D9 npa;refine#[-1,c,cs,rs,hs.length,rfl,ec9,W.cd.c0,by have:=W.cd.h1;lia,W.cd.cl,W.cd.ra,W.cd.ro.rl,λrl H10 s10 ⟨rv,erl,prl⟩=>?_];have lrv:rv.length=rs.length:=(Paired.len prl).trans (zG ..);have r1:=W.r1;refine#[rl,-1,.inl (kN.of erl),-1,?_];rw[lrv];refine#[pa,x,rs.length,ls,-1,el9.same s10,W.po,x0,(),l1,(),λl n H11 s11 b11=>?_];obtain⟨as',e11,la',f11⟩:=b11;have s911:=s10.trans s11;refine#[l,rfl,#[_,kN.of e11],Dh (xs:=as'.map V.ref) (λi U' H'=>xJ H11 H'/\ ∃v7:i5 V,U'=[some (.ref a),some (.ref st),some (.ref sh),some (.ref tl),some (.ref c),some (.ref pa),v6,v7]) #[xJ.refl _,-1] (λi U' G _ ⟨g,_⟩=>kN.of (g _ _ e11)) ?_ ?_]
 ·rintro i v U' G hx ⟨g,v7,rfl⟩;rw[zW]at hx;obtain⟨b,hb,rfl⟩:=Option.map_eq_some_iff.mp hx;obtain⟨_,ms,⟨po,lm⟩,eb⟩:=f11 b (xB hb);have s9:=s911.trans g;dsimp only[wI,List.set];refine#[-3,W.lets (s9 _ _ es9) (s9 _ _ ec9) W.cd () (eb.same g) lm po.wk λG2 g2=>#[-3,W.due (fa9.same (s9.trans g2)) (g2 _ _ (s9 _ _ ec9)) W.cd (eb.same (g.trans g2)) lm po.wk λG3 g3=>#[rfl,-1,?_]]];rw[zP rfl];exact jE #[(g.trans g2).trans g3,-1]
 rintro U' H12 ⟨_,v7,rfl⟩;exact q _
theorem Rm (T:Gk K mg)(F:qT K "_law_worth" "_law_worth" DR f fd)(hm:mg "_law_worth"=some (.ref f))(hk:PySem.W.keepIn K (.ref f)=true)(hb:uG K fd ["_law_node"] []):
  ∀d,vO P w K mg base (1+d) f fd ["_law_node"] (CP d):=by
 intro d
 induction d with
 |zero=>exact KQ λvs H Q E h=>by obtain⟨v,t,_,_,z,_⟩:=h;exact z.elim
 |succ d ih=>exact Uc d T F #[#[_,_,ih,hm,hk,hb]]
theorem Pp (T:Gk K mg)(CW: ∀d,jY P w K mg base (1+d) "_law_worth" ["_law_node"] (CP d))(Cg:jY P w K mg base 1 "_law_goal" ["_law_rows_here","_law_at"] Bw)(Cr:jY P w K mg base 2 "_law_row" ["_law_rows_here","_law_at"] EA)(Cm:jY P w K mg base 2 "_law_meet" ["_law_rows_here","_law_one","_law_other"] DY)
  (F1:qT K "_law_right" "_law_right" DS f1 d1) (m1:mg "_law_right"=some (.ref f1)) (k1:PySem.W.keepIn K (.ref f1)=true) (b1:uG K d1 ["_law_look","_law_node"] [])
  (F2:qT K "_law_stands" "_law_stands" CH f2 d2) (m2:mg "_law_stands"=some (.ref f2)) (k2:PySem.W.keepIn K (.ref f2)=true) (b2:uG K d2 ["_law_look","_law_node","_law_at"] [])
  (F3:qT K "_law_picked" "_law_picked" CI f3 d3) (m3:mg "_law_picked"=some (.ref f3)) (k3:PySem.W.keepIn K (.ref f3)=true) (b3:uG K d3 ["_law_look","_law_many","_law_parts","_law_begin","_law_end"] [])
  (F4:qT K "_law_looped" "_law_looped" CJ f4 d4) (m4:mg "_law_looped"=some (.ref f4)) (k4:PySem.W.keepIn K (.ref f4)=true) (b4:uG K d4 ["_law_look","_law_parts","_law_begin","_law_end"] [])
  (F5:qT K "_law_behind_parts" "_law_behind_parts" uI f5 d5) (m5:mg "_law_behind_parts"=some (.ref f5)) (k5:PySem.W.keepIn K (.ref f5)=true) (b5:uG K d5 ["_law_look","_law_parts","_law_begin","_law_drops"] []):
  ∀d,vO P w K mg base (3+3*d) f1 d1 ["_law_look","_law_node"] (Gr d):=by
 intro d
 induction d with
 |zero=>exact KQ λvs H Q E h=>by obtain⟨_,_,_,_,_,_,_,_,_,_,z,_⟩:=h;exact z.elim
 |succ d ih=>
  have cs:jY P w K mg base (3+3*d+1) "_law_stands" ["_law_look","_law_node","_law_at"] (BV d):=#[#[_,_,Ks d T F2 #[#[_,_,ih,m1,k1,b1]] Cm,m2,k2,b2]];exact Rr d T F1 (CW (d+1)) Cg Cr Cm #[#[_,_,Ps d T F3 cs (CW d) Cg Cr Cm,m3,k3,b3]] #[#[_,_,Py d T F4 cs Cg Cr Cm,m4,k4,b4]] #[#[_,_,PH d T F5 cs Cg Cr,m5,k5,b5]]
end
open PySem.W in
theorem all_mk {l:OpenLaw}{w:j3}{K:Frag}{h:j4}{mg:Str->i5 a9}{fa f0 f1 f2 f3 f4 f5 f6 f7 f8 f9 xc zj qt uj vw sr wu sk uc yk oz xx vd rj ve qp qw xm xv yy xo uy qh vg vn ww qx uw wo qj oy ug zm um yv zg wt xq qg qu si yu qy xa yf wy wv ud pd uu qi uv qk qf vk ut uq yw xt ul pe wf wm ze zb rh tf xu qm xk wa sy yb zf:i4}{ae aP:i4}{ju om nh nw mm mz mo mw oi az bw cg du dq di cu:Tok}{jl jr jd jk jc jv jf jg je jn gq ia ik:Tok}{kh:Nat}{kj:j7 (i5 a9)}{aa:i4}{og il jp jb gj im fg ip gw ig dv ko io dy fw:Tok}{ac:i4}{mj dw oj oq ou mh lj oa mf lg:Tok}(X:K.In h)(G:h.Ns mainGlobals mg)(yp:mg "law"=some (.ref fa))
  (jh:nsIn K mainGlobals "Check"=some (some (.ref ac)))
  (ky:nsIn K mainGlobals "Look"=some (some (.ref ae)))
  (iq:nsIn K mainGlobals "Making"=some (some (.ref aa)))
  (d0:Dm K ae "__init__" "Look.__init__" Dx f0)
  (d1:Dm K ae "take" "Look.take" GO f1)
  (d2:Dm K ae "take_within" "Look.take_within" Bm f2)
  (d3:Dq K "is_whole" FP f3)
  (d4:Dq K "take_heads" FI f4)
  (d5:Dq K "take_own" Ia f5)
  (d6:Dq K "parts_of" Ic f6)
  (d7:Dq K "parts_due" GC f7)
  (d8:Dq K "take_node" EE f8)
  (d9:Dq K "functions" GG f9)
  (xp:Dq K "is_head" JU xc)
  (vq:Dq K "stands_alone" Eg zj)
  (yn:Dq K "is_row" Lw qt)
  (we:Dq K "grouped" Hr uj)
  (yj:Dq K "heads_in" Ij vw)
  (xj:Dq K "rows_in" JS sr)
  (rf:Dq K "is_list_of_wholes" uH wu)
  (pj:Dq K "is_code" Hq sk)
  (sf:Dq K "joined" Lv uc)
  (wx:Dq K "code_of" JV yk)
  (tw:Dm K aa "__init__" "Making.__init__" BB oz)
  (xh:Dq K "make_all" FM xx)
  (yt:Dq K "make_pick" EF vd)
  (rn:Dq K "make_loop" EH rj)
  (xf:Dq K "own_row" JT ve)
  (xw:Dq K "make_node" EG qp)
  (vi:Dq K "making_of" GD qw)
  (xg:Dq K "made" Re xm)
  (xn:Dq K "made_paper" FO xv)
  (qz:Dq K "nodes_in" Ie yy)
  (ub:Dq K "nodes" NW xo)
  (ue:Dq K "heads_of" Ii uy)
  (vc:Dq K "rows_of" JR qh)
  (ya:Dq K "within" Ls vg)
  (tm:Dq K "reckoned" Ib vn)
  (ym:Dq K "done_to_row" Mu ww)
  (uf:Dq K "worth" NV qx)
  (yq:Dq K "picked" Lu uw)
  (yc:Dq K "meant" NX wo)
  (ui:Dq K "fixed" IU qj)
  (vy:Dm K ac "__init__" "Check.__init__" AM oy)
  (wp:Dq K "begin_of" Ik ug)
  (rq:Dq K "end_of" Lx zm)
  (ye:Dq K "row_meant" GB um)
  (re:Dq K "meet" Rc yv)
  (vz:Dq K "behind" Ly zg)
  (xl:Dq K "are_right" EI wt)
  (yx:Dq K "begins_alike" Ei xq)
  (qc:Dq K "ends_alike" FQ qg)
  (wz:Dq K "is_pushed" GF qu)
  (wj:Dq K "is_right_all" Eh si)
  (yh:Dq K "is_right_pick" Dv yu)
  (su:Dq K "is_picked_ahead" BA qy)
  (qb:Dq K "left_by_unless" BW xa)
  (vm:Dq K "is_right_loop" Dw yf)
  (yg:Dq K "own_row_at" FJ wy)
  (qv:Dq K "is_right_by_own_row" Am wv)
  (zn:Dq K "is_right" Ig ud)
  (se:Dq K "is_right_function" AV pd)
  (sd:Dq K "is_line" Ho uu)
  (qe:Dq K "is_paper" Ih qi)
  (uz:Dq K "have_same_boxes" vU uv)
  (wq:Dq K "lets_by" Fd qk)
  (xr:Dq K "_law_cell" GM qf)
  (vv:Dq K "_law_take" GI vk)
  (qr:Dq K "_law_part" GJ ut)
  (vj:Dq K "_law_body" GN uq)
  (zd:Dq K "_law_few" Im yw)
  (ua:Dq K "_law_wide" GH xt)
  (zo:Dq K "_law_sheet" FR ul)
  (wg:Dq K "_law_rows" EJ pe)
  (zh:Dq K "_law_goal" GL wf)
  (ux:Dq K "_law_row" Il wm)
  (wb:Dq K "_law_meet" GK ze)
  (zi:Dq K "_law_worth" DR zb)
  (ur:Dq K "_law_stands" CH rh)
  (zk:Dq K "_law_picked" CI tf)
  (qo:Dq K "_law_looped" CJ xu)
  (sw:Dq K "_law_behind_parts" uI qm)
  (yo:Dq K "_law_right" DS xk)
  (zc:Dq K "_law_due" Ej wa)
  (vo:Dq K "_law_codes" vV sy)
  (sx:Dq K "_law_papers" Ai yb)
  (qd:Dq K "law" Vw zf)
  (fm:nsIn K mainGlobals "len"=some none)
  (bv:nsIn K mainGlobals "range"=some none)
  (aq:nsIn K mainGlobals "isinstance"=some none)
  (jy:nsIn K mainGlobals "int"=some none)
  (ic:nsIn K mainGlobals "bool"=some none)
  (fk:nsIn K mainGlobals "tuple"=some none)
  (ld:nsIn K mainGlobals "list"=some none)
  (OO:nsIn K mainGlobals "all"=some none)
  (me:nsIn K mainGlobals "max"=some none)
  (ay:nsIn K mainGlobals "enumerate"=some none)
  (iw:nsIn K mainGlobals "sorted"=some none)
  (ak:nsIn K mainGlobals "NUMBER"=some (some (.int 0 ju)))
  (jw:nsIn K mainGlobals "GET"=some (some (.int 1 om)))
  (ke:nsIn K mainGlobals "SET"=some (some (.int 2 nh)))
  (gz:nsIn K mainGlobals "ALL"=some (some (.int 3 nw)))
  (dk:nsIn K mainGlobals "PICK"=some (some (.int 4 mm)))
  (fj:nsIn K mainGlobals "LOOP"=some (some (.int 5 mz)))
  (gn:nsIn K mainGlobals "CALL"=some (some (.int 6 mo)))
  (dh:nsIn K mainGlobals "FAIL"=some (some (.int 7 mw)))
  (iz:nsIn K mainGlobals "NEW"=some (some (.int 19 oi)))
  (af:nsIn K mainGlobals "MOST_FUNCTIONS"=some (some (.int 16 az)))
  (ah:nsIn K mainGlobals "MOST_PARAMS"=some (some (.int 4 bw)))
  (aj:nsIn K mainGlobals "MOST_BOXES"=some (some (.int 12 cg)))
  (cz:nsIn K mainGlobals "MOST_DEEP"=some (some (.int 10 du)))
  (ax:nsIn K mainGlobals "MOST_MANY"=some (some (.int 12 dq)))
  (de:nsIn K mainGlobals "LEAST_ALL"=some (some (.int 1 di)))
  (ao:nsIn K mainGlobals "LEAST_PICK"=some (some (.int 2 cu)))
  (jz:nsIn K mainGlobals "ADD"=some (some (.int 8 og)))
  (bf:nsIn K mainGlobals "OP_PUSH"=some (some (.int 0 il)))
  (dc:nsIn K mainGlobals "OP_GET"=some (some (.int 1 jp)))
  (cm:nsIn K mainGlobals "OP_SET"=some (some (.int 2 jb)))
  (bj:nsIn K mainGlobals "OP_DROP"=some (some (.int 3 gj)))
  (bn:nsIn K mainGlobals "OP_JUMP"=some (some (.int 4 im)))
  (au:nsIn K mainGlobals "OP_UNLESS"=some (some (.int 5 fg)))
  (bc:nsIn K mainGlobals "OP_CALL"=some (some (.int 6 ip)))
  (bo:nsIn K mainGlobals "OP_BACK"=some (some (.int 7 gw)))
  (bp:nsIn K mainGlobals "OP_FAIL"=some (some (.int 8 ig)))
  (aw:nsIn K mainGlobals "OP_BREATH"=some (some (.int 9 dv)))
  (fo:nsIn K mainGlobals "OP_DO"=some (some (.int 10 ko)))
  (bb:nsIn K mainGlobals "OP_PICK"=some (some (.int 11 io)))
  (cf:nsIn K mainGlobals "HEAD_SIZE"=some (some (.int 3 dy)))
  (fh:nsIn K mainGlobals "ROW_SIZE"=some (some (.int 2 fw)))
  (ji:nsIn K mainGlobals "PARTS"=some (some (.ref aP)))
  (jt:K.lookup aP=some #[.type "tuple",none,.seq (List.toArray [.int 1 jl,.int 2 jr,.int 2 jd,.int 2 jk,.int 2 jc,.int 2 jv,.int 2 jf,.int 2 jg,.int 2 je,.int 2 jn,.int 3 gq,.int 1 ia,.int 0 ik]) kh,kj])
  (iu:subIn K (.type "int") (.type "bool")=some false)
  (oh:subIn K (.type "tuple") (.type "list")=some false)
  (ar:isFn K (.ref f0)=true)
  (bu:isFn K (.ref f1)=true)
  (ag:isFn K (.ref f2)=true)
  (ai:isFn K (.ref oz)=true)
  (am:isFn K (.ref oy)=true)
  (mi:makesIn K ae=true)
  (wc:keepIn K (.ref ae)=true)
  (pg:plainGet K ae Str.empty=true)
  (hd:hasDictIn K ae=true)
  (po:plainOver K ae=true)
  (sa:findIn K (.ref ae) "__setattr__"=some (some (.builtin "object.__setattr__")))
  (ny:findIn K (.ref ae) "numbers"=some none)
  (xb:findIn K (.ref ae) "place"=some none)
  (mv:nsIn K mainGlobals "zip"=some none)
  (kx:nsIn K mainGlobals "dict"=some none)
  (dj:nsIn K mainGlobals "reversed"=some none)
  (kt:nsIn K mainGlobals "SAME"=some (some (.int 14 mj)))
  (cj:nsIn K mainGlobals "LINE_SIZE"=some (some (.int 3 dw)))
  (mn:nsIn K mainGlobals "SUB"=some (some (.int 9 oj)))
  (mq:nsIn K mainGlobals "MUL"=some (some (.int 10 oq)))
  (ng:nsIn K mainGlobals "QUO"=some (some (.int 11 ou)))
  (kn:nsIn K mainGlobals "LESS"=some (some (.int 13 mh)))
  (ku:nsIn K mainGlobals "PUSH"=some (some (.int 15 lj)))
  (md:nsIn K mainGlobals "PUT"=some (some (.int 17 oa)))
  (kq:nsIn K mainGlobals "SIZE"=some (some (.int 18 mf)))
  (jq:nsIn K mainGlobals "GREAT"=some (some (.int 10000000000000000000000000000000000000000000000000000000000000000000000000000000000000000000000000000 lg)))
  (ce:makesIn K aa=true)
  (fv:keepIn K (.ref aa)=true)
  (gf:plainGet K aa Str.empty=true)
  (fq:hasDictIn K aa=true)
  (fu:plainOver K aa=true)
  (gc:findIn K (.ref aa) "__setattr__"=some (some (.builtin "object.__setattr__")))
  (cc:findIn K (.ref aa) "heads"=some none)
  (cr:findIn K (.ref aa) "rows"=some none)
  (bq:findIn K (.ref aa) "paper"=some none)
  (cq:makesIn K ac=true)
  (iy:keepIn K (.ref ac)=true)
  (ii:plainGet K ac Str.empty=true)
  (ja:hasDictIn K ac=true)
  (ie:plainOver K ac=true)
  (gu:findIn K (.ref ac) "__setattr__"=some (some (.builtin "object.__setattr__")))
  (fc:findIn K (.ref ac) "rows"=some none)
  (cy:findIn K (.ref ac) "leads"=some none)
  (ci:findIn K (.ref ac) "lines"=some none)
  (cw:findIn K (.ref ac) "right"=some none)
  : ∃fd:FuncData,(∀(s:i6) (v:a9),BindsTo s fd #[[v],[]] [("_law_script",v)])/\ ∀base:j4,K.In base->base.Ns mainGlobals mg->Dl l.prog w K mg base (Hh l.prog w) 36 fa fd ["_law_script"] (OS K):=by
 obtain⟨a0,_,F0⟩:=d0;have b0:=F0.b2 "self" "numbers" λ_ _ _ _ _ _ _ _=>rfl;obtain⟨a1,_,F1⟩:=d1;have b1:=F1.b1 "self" λ_ _ _ _ _ _ _=>rfl;have k1:=F1.kp;obtain⟨a2,_,F2⟩:=d2;have b2:=F2.b3 "self" "least" "most" λ_ _ _ _ _ _ _ _ _=>rfl;have k2:=F2.kp;obtain⟨a3,_,F3⟩:=d3;have b3:=F3.b1 "thing" λ_ _ _ _ _ _ _=>rfl;have m3:=mg_of X G a3;have k3:=F3.kp;obtain⟨a8,_,F8⟩:=d8;have b8:=F8.b4 "look" "heads" "boxes" "deep" λ_ _ _ _ _ _ _ _ _ _=>rfl;have m8:=mg_of X G a8;have k8:=F8.kp;obtain⟨a20,_,F20⟩:=tw;have b20:=F20.b1 "self" λ_ _ _ _ _ _ _=>rfl;obtain⟨a21,_,F21⟩:=xh;have b21:=F21.b2 "making" "parts" λ_ _ _ _ _ _ _ _=>rfl;have m21:=mg_of X G a21;have k21:=F21.kp;obtain⟨a22,_,F22⟩:=yt;have b22:=F22.b2 "making" "parts" λ_ _ _ _ _ _ _ _=>rfl;have m22:=mg_of X G a22;have k22:=F22.kp;obtain⟨a23,_,F23⟩:=rn;have b23:=F23.b2 "making" "parts" λ_ _ _ _ _ _ _ _=>rfl;have m23:=mg_of X G a23;have k23:=F23.kp;obtain⟨a25,_,F25⟩:=xw;have b25:=F25.b2 "making" "node" λ_ _ _ _ _ _ _ _=>rfl;have m25:=mg_of X G a25;have k25:=F25.kp;obtain⟨a26,_,F26⟩:=vi;have b26:=F26.b1 "program" λ_ _ _ _ _ _ _=>rfl;have m26:=mg_of X G a26;have k26:=F26.kp;obtain⟨a35,_,F35⟩:=ym;have b35:=F35.b3 "kind" "values" "rows" λ_ _ _ _ _ _ _ _ _=>rfl;have m35:=mg_of X G a35;have k35:=F35.kp;obtain⟨a39,_,F39⟩:=ui;have b39:=F39.b1 "node" λ_ _ _ _ _ _ _=>rfl;have m39:=mg_of X G a39;have k39:=F39.kp;obtain⟨a40,_,F40⟩:=vy;have b40:=F40.b3 "self" "rows" "paper" λ_ _ _ _ _ _ _ _ _=>rfl;obtain⟨a74,_,F74⟩:=zi;have b74:=F74.b1 "_law_node" λ_ _ _ _ _ _ _=>rfl;have m74:=mg_of X G a74;have k74:=F74.kp;obtain⟨a75,_,F75⟩:=ur;have b75:=F75.b3 "_law_look" "_law_node" "_law_at" λ_ _ _ _ _ _ _ _ _=>rfl;have m75:=mg_of X G a75;have k75:=F75.kp;obtain⟨a76,_,F76⟩:=zk;have b76:=F76.b5 "_law_look" "_law_many" "_law_parts" "_law_begin" "_law_end" λ_ _ _ _ _ _ _ _ _ _ _=>rfl;have m76:=mg_of X G a76;have k76:=F76.kp;obtain⟨a77,_,F77⟩:=qo;have b77:=F77.b4 "_law_look" "_law_parts" "_law_begin" "_law_end" λ_ _ _ _ _ _ _ _ _ _=>rfl;have m77:=mg_of X G a77;have k77:=F77.kp;obtain⟨a78,_,F78⟩:=sw;have b78:=F78.b4 "_law_look" "_law_parts" "_law_begin" "_law_drops" λ_ _ _ _ _ _ _ _ _ _=>rfl;have m78:=mg_of X G a78;have k78:=F78.kp;obtain⟨a79,_,F79⟩:=yo;have b79:=F79.b2 "_law_look" "_law_node" λ_ _ _ _ _ _ _ _=>rfl;have m79:=mg_of X G a79;have k79:=F79.kp;obtain⟨a83,_,F83⟩:=qd;have e:=yp.symm.trans (mg_of X G a83);cases e;refine#[_,F83.law "_law_script" λ_ _ _ _ _ _ _=>rfl,λbase _ _=>?_];have cl: ∀{x q g:Str} {st:i9} {f:i4} {fd:FuncData} {k:Nat} {ps:a6 Str} {sp:Sp},nsIn K mainGlobals g=some (some (.ref f))->qT K x q st f fd->uG K fd ps []->Dl l.prog w K mg base (Hh l.prog w) k f fd ps sp->QH l.prog w K mg base (Hh l.prog w) k g ps sp:=λa F b o=>Cl X G a F b o;have c1:=@cg1 l.prog w K h mg base (Hh l.prog w) X G;have c2:=@cg2 l.prog w K h mg base (Hh l.prog w) X G;have c3:=@cg3 l.prog w K h mg base (Hh l.prog w) X G;have c4:=@cg4 l.prog w K h mg base (Hh l.prog w) X G;have nz: ∀{x:Str},nsIn K mainGlobals x=some none->mg x=none:=λz=>mg_none_of X G z;have ni: ∀{x:Str} {v:Int} {t:Tok},nsIn K mainGlobals x=some (some (.int v t))->kP mg x v:=λz=>#[_,mg_of X G z];have TN:Jw K mg aP ae:=#[nz fm,nz bv,nz aq,nz jy,nz ic,nz fk,ni ak,ni jw,ni ke,ni gz,ni dk,ni fj,ni gn,ni dh,ni iz,ni af,ni ah,ni aj,ni cz,ni ax,ni de,ni ao,mg_of X G ji,ZR jt (small (show 13<=1000 by decide)) (.cons #[-1] (.cons #[-1] (.cons #[-1] (.cons #[-1] (.cons #[-1] (.cons #[-1] (.cons #[-1] (.cons #[-1] (.cons #[-1] (.cons #[-1] (.cons #[-1] (.cons #[-1] (.cons #[-1] (.nil)))))))))))))),Fi,RN iu,#[pg,hd,po,sa],ny,xb];have T0:Gk K mg:=#[nz fm,nz bv,nz OO,nz me,nz ay,nz aq,nz jy,nz ic,nz fk,nz ld,ni jz,ni iz,ni af,ni ah,ni aj,ni ax,ni ao,ni bf,ni dc,ni cm,ni bj,ni bn,ni au,ni bc,ni bo,ni bp,ni aw,ni fo,ni bb,ni cf,ni fh,Fi,RN iu,Fi,Qg Fi,WI (RN oh) Fi,Fi];have TK:Ml K mg aa:=#[nz fm,nz bv,nz ay,nz iw,ni ak,ni jw,ni ke,ni gz,ni dk,ni fj,ni gn,ni dh,ni bf,ni dc,ni cm,ni bj,ni bn,ni au,ni bc,ni bo,ni bp,ni aw,ni fo,ni bb,#[gf,fq,fu,gc],cc,cr,bq];have TP:BJ K mg ac:=#[T0,nz mv,nz kx,nz dj,ni cj,ni ak,ni gz,ni dk,ni fj,ni dh,#[ii,ja,ie,gu],fc,cy,ci,cw];have TF:zBl K mg:=#[#[nz fm,ni jz,ni mn,ni mq,ni ng,ni kn,ni kt,ni ku,ni md,ni kq,ni iz,ni jq],ni ak];have K0:QD l.prog w K mg base (Hh l.prog w) 1 "Look" ae _ _:=#[#[_,_,#[mi,a0,ar,wc],Wh TN F0,mg_of X G ky,b0]];have C3:=cl a3 F3 b3 (Wa TN F3);have M1:MH l.prog w K mg base (Hh l.prog w) 3 ae "take" _ _:=#[#[_,_,zDa TN F1 C3,TN.look,#[a1,bu,k1],b1]];have M2:MH l.prog w K mg base (Hh l.prog w) 4 ae "take_within" _ _:=#[#[_,_,Ud TN F2 M1,TN.look,#[a2,ag,k2],b2]];have C4:=c1 d4 λ_ F=>Wj TN F M2;have C5:=c4 d5 λ_ F=>zAm TN F M1 M2;have C6:=c1 d6 λ_ F=>Wc TN F;have C7:=c3 d7 λ_ F=>zAo TN F C6;have N8:=Wd TN F8 M2 C5 C7 m8 k8 b8;have C8:QH l.prog w K mg base (Hh l.prog w) 16 "take_node" _ (JE ae 10):=#[#[_,_,N8 10,m8,k8,b8]];have C9:=c1 d9 λ_ F=>zAn TN F K0 C4 C8;have CWC:QH l.prog w K mg base (Hh l.prog w) 1 "is_whole" _ _:=#[#[_,_,Ug T0 F3,m3,k3,b3]];have C10:=c3 xp λ_ F=>Ru T0 F;have C11:=c1 vq λ_ F=>Wo T0 F;have C12:=c3 yn λ_ F=>Uo T0 F C11;have C13:=c2 we λ_ F=>Rx T0 F;have C14:=c1 yj λ_ F=>PF T0 F C13;have C15:=c1 xj λ_ F=>Rq T0 F C13;have C16:=c1 rf λ_ F=>Uf T0 F CWC;have C17:=c1 pj λ_ F=>Rw T0 F C16 C14 C15 C10 C12;have C18:=c2 sf λ_ F=>Um T0 F;have C19:=c2 wx λ_ F=>RB T0 F C18 C17;have D20:QD l.prog w K mg base (Hh l.prog w) 1 "Making" aa _ _:=#[#[_,_,#[ce,a20,ai,fv],Wg TK F20,mg_of X G iq,b20]];have C24:=c2 xf λ_ F=>Rs TK F;have C26: ∀hs,QH l.prog w K mg base (Hh l.prog w) 22 "making_of" _ (Ea aa hs):=λhs=>#[#[_,_,Oi TK F26 D20 (Pw (hs:=hs) TK F25 F21 F22 F23 C24 (λo=>#[#[_,_,o,m25,k25,b25]]) (λo=>#[#[_,_,o,m21,k21,b21]]) (λo=>#[#[_,_,o,m22,k22,b22]]) (λo=>#[#[_,_,o,m23,k23,b23]]) 10),m26,k26,b26]];have C27:=c1 xg λ_ F=>Yw TK F C9 C26 C19;have C28:=c1 xn λ_ F=>MB TK F C9 C26;have C29:=c1 qz λ_ F=>Pu TN TP.n_reversed F;have C30:=c1 ub λ_ F=>Uk TN F C9 C29;have C31:=c1 ue λ_ F=>PD T0 F C17 C14;have C32:=c1 vc λ_ F=>Rp T0 F C17 C15;have C33:=c1 ya λ_ F=>Ry TF.1 F;have C34:=c3 tm λ_ F=>Pr TF.1 F C33;have C35:QH l.prog w K mg base (Hh l.prog w) 1 "done_to_row" _ zCk:=#[#[_,_,KQ (λ_ _ _ _ z=>z),m35,k35,b35]];have C36:=c3 uf λ_ F=>VZ TF.1 F C35 C34;have A39: ∀d,QH l.prog w K mg base (Hh l.prog w) (3+d) "fixed" _ (FB d):=λd=>#[#[_,_,Uq TF F39 C36 m39 k39 b39 d,m39,k39,b39]];have C37:=c2 yq λ_ F=>Ui TP F;have C38:=c2 yc λ_ F=>We T0 F;have D40:QD l.prog w K mg base (Hh l.prog w) 2 "Check" ac _ _:=#[#[_,_,#[cq,a40,am,iy],Wi TP F40 C38,mg_of X G jh,b40]];have C41:=c2 wp λ_ F=>PJ TP F;have C42:=c2 rq λ_ F=>Ur TP F;have C43:=c2 ye λ_ F=>Og TP F;have C44:=c3 re λ_ F=>Yv TP F C43;have C45:=c3 vz λ_ F=>Uu TP F C43;have C46:=c2 xl λ_ F=>On TP F;have C47:=c3 yx λ_ F=>KA TP F C41 C44;have C48:=c3 qc λ_ F=>MC TP F C42 C44;have C49:=c2 wz λ_ F=>Om 10 TP F (A39 10) C41 C42 C45 C44;have C50:=c2 wj λ_ F=>Oh TP F C41 C42 C45 C44 C47 C48;have C51:=c2 yh λ_ F=>Mx TP F C41 C42 C45 C44 C47 C48;have C52:=c2 su λ_ F=>Wp 9 TP F (A39 9) C37 C47 C48;have C53:=c2 qb λ_ F=>Yy TP F C43;have C54:=c2 vm λ_ F=>My TP F C41 C42 C45 C44 C53;have C55:=c2 yg λ_ F=>Mz TP F C41 C42 C44;have C56:=c2 qv λ_ F=>Us TP F C55 C24 C45 C42 C44;have C57:=c2 zn λ_ F=>Pz 9 TP F C49 C52 C46 C50 C51 C54 C56;have C58:=c3 se λ_ F=>Pq TP F C41 C42 C45 C44;have C59:=c3 sd λ_ F=>Rt TP F CWC;have C60:=c3 qe λ_ F=>PB TP F C59;have C61:=c2 uz λ_ F=>Mw TP F;have C62:=c3 wq λ_ F=>Yx TP F C9 C31 C32 C30 C61 C60 D40 C57 C58;have C63:=c2 xr λ_ F=>Yz T0 F;have C64:=c2 vv λ_ F=>Yu T0 F C63;have C65:=c1 qr λ_ F=>Uj T0 F C64;have C66:=c1 vj λ_ F=>Ut T0 F C64 C65;have C67:=c2 zd λ_ F=>Wm T0 F C64;have C68:=c1 ua λ_ F=>Ue T0 F C64 C67;have C69:=c1 zo λ_ F=>Rn T0 F C64 C68 C66;have C70:=c1 wg λ_ F=>Uh T0 F;have C71:=c2 zh λ_ F=>Up T0 F;have C72:=c2 ux λ_ F=>Wb T0 F C71;have C73:=c3 wb λ_ F=>Ul T0 F C71;have A74: ∀d,QH l.prog w K mg base (Hh l.prog w) (1+d) "_law_worth" _ (CP d):=λd=>#[#[_,_,Rm T0 F74 m74 k74 b74 d,m74,k74,b74]];have C79:QH l.prog w K mg base (Hh l.prog w) (3+3*10) "_law_right" _ (Gr 10):=#[#[_,_,Pp T0 A74 C71 C72 C73 F79 m79 k79 b79 F75 m75 k75 b75 F76 m76 k76 b76 F77 m77 k77 b77 F78 m78 k78 b78 10,m79,k79,b79]];have C75:=cl a75 F75 b75 (Ks 10 T0 F75 C79 C73);have C80:=c3 zc λ_ F=>Wn TP F C70 C72 C75;have C81:=c2 vo λ_ F=>Rz TP F C64 C17;have C82:=c3 sx λ_ F=>Pt TP F;exact Wf TP F83 C64 C69 C9 C27 C28 C62 C80 C81 C82 C70
theorem walk {l:PySem.W.OpenLaw}{q:i7}{loose:a6 Str}{XP:(Str->i5 a9)->j4->Prop}{YP:j3->j4->Prop}{d:DefRec}{K:Params->a7}(hn:l.most=some 63)(hdf:d.params.defaults=[])
  (hY: ∀(w:j3) (h:j4),YP w h->(K w.params).In h)
  (F: ∀(w:j3) (mg:Str->i5 a9) (fa:i4) (h:j4),(K w.params).In h->h.Ns mainGlobals mg->mg d.name=some (.ref fa)->
   ∃fd:FuncData,(∀(s:i6) (u:a9),BindsTo s fd #[[u],[]] [("_law_script",u)])/\ ∀base:j4,(K w.params).In base->base.Ns mainGlobals mg->Dl l.prog w (K w.params) mg base (Hh l.prog w) 36 fa fd ["_law_script"] (OS (K w.params))):
  PySem.W.WalkO q loose XP YP l.row.toRowW d [] (λf vs=>PySem.call f vs):=
 L2.walk_of (n:=63) (k:=36) (x:="_law_script") (CX:=λw=>(Hh l.prog w)) (sp:=λw=>OS (K w.params)) hn (by decide) hdf #[rfl,by decide,by decide,rfl] hY F (λ_ _ a ns hl hO hS=>#[a,ns,rfl,UZ.of hO hS,hl,λ_=>rfl]) (λ_ _ _ _ _=>Qt)
end OcL
end
namespace OcP
open PySem
set_option compiler.extract_closed false
def n:List Stmt->Nat->Stmt
 |a::_,0=>a
 |_::t,k+1=>n t k
 |_,_=>.Pass ⟨0,0,0,0⟩
def N:=n PySem.Challenge.pw_ownchain_k37_each_row_and_line_bent_alon.main.body
def s0:=N 0
def s1:=N 1
def s2:=N 2
def s3:=N 3
def s4:=N 4
def s5:=N 5
def s6:=N 6
def s7:=N 7
def s8:=N 8
def s9:=N 9
def s10:=N 10
def s11:=N 11
def s12:=N 12
def s13:=N 13
def s14:=N 14
def s15:=N 15
def s16:=N 16
def s17:=N 17
def s18:=N 18
def s19:=N 19
def s20:=N 20
def s21:=N 21
def s22:=N 22
def s23:=N 23
def s24:=N 24
def s25:=N 25
def s26:=N 26
def s27:=N 27
def s28:=N 28
def s29:=N 29
def s30:=N 30
def s31:=N 31
def s32:=N 32
def s33:=N 33
def s34:=N 34
def s35:=N 35
def s36:=N 36
def s37:=N 37
def s38:=N 38
def s39:=N 39
def s40:=N 40
def s41:=N 41
def s42:=N 42
def s43:=N 43
def s44:=N 44
def s45:=N 45
def Zj:=N 46
def s47:=N 47
def s48:=N 48
def s49:=N 49
def s50:=N 50
def s51:=N 51
def s52:=N 52
def s53:=N 53
def s54:=N 54
def s55:=N 55
def s56:=N 56
def s57:=N 57
def s58:=N 58
def s59:=N 59
def s60:=N 60
def s61:=N 61
def s62:=N 62
def s63:=N 63
def s64:=N 64
def s65:=N 65
def s66:=N 66
def s67:=N 67
def s68:=N 68
def s69:=N 69
def s70:=N 70
def s71:=N 71
def s72:=N 72
def s73:=N 73
def s74:=N 74
def s75:=N 75
def s76:=N 76
def s77:=N 77
def s78:=N 78
def s79:=N 79
def s80:=N 80
def s81:=N 81
def s82:=N 82
def s83:=N 83
def s84:=N 84
def s85:=N 85
def s86:=N 86
def s87:=N 87
def s88:=N 88
def s89:=N 89
def s90:=N 90
def s91:=N 91
def s92:=N 92
def s93:=N 93
def s94:=N 94
def s95:=N 95
def s96:=N 96
def s97:=N 97
def s98:=N 98
def s99:=N 99
def zGw:=N 100
def zGv:=N 101
def zGu:=N 102
def zGt:=N 103
def zGs:=N 104
def zGr:=N 105
def zGq:=N 106
def zGp:=N 107
def zGo:=N 108
def zGn:=N 109
def zGm:=N 110
def zGl:=N 111
def zGk:=N 112
def zGj:=N 113
def zGi:=N 114
def zGh:=N 115
def zGg:=N 116
def zGf:=N 117
def zGe:=N 118
def zGd:=N 119
def zGc:=N 120
def zGb:=N 121
def zGa:=N 122
def zFz:=N 123
def zFy:=N 124
def zFx:=N 125
def zFw:=N 126
def zFv:=N 127
def zFu:=N 128
def zFt:=N 129
def zFs:=N 130
def zFr:=N 131
def zFq:=N 132
def zFp:=N 133
def zFo:=N 134
def zFn:=N 135
def sc:=PySem.Challenge.pw_ownchain_k37_each_row_and_line_bent_alon.main.scope
def gi:Given:={argv:=[],stdin:=[],environ:=(some [([76,67,95,65,76,76],[67,46,85,84,70,45,56])]):PySem.Given}
def fi:Str:="/claim/cut.py"
def pw:Program:={main:={body:=[s0,s1,s2,s3,s4,s5,s6,s7,s8,s9,s10,s11,s12,s13,s14,s15,s16,s17,s18,s19,s20,s21,s22,s23,s24,s25,s26,s27,s28,s29,s30,s31,s32,s33,s34,s35,s36,s37,s38,s39,s40,s41,s42,s43,s44,s45,Zj,s47,s48,s49,s50,s51,s52,s53,s54,s55,s56,s57,s58,s59,s60,s61,s62,s63,s64,s65,s66,s67,s68,s69,s70,s71,s72,s73,s74,s75,s76,s77,s78,s79,s80,s81,s82,s83,s84,s85,s86,s87,s88,s89,s90,s91,s92,s93,s94,s95,s96,s97,s98,s99,zGw,zGv,zGu,zGt,zGs,zGr,zGq,zGp,zGo,zGn,zGm,zGl,zGk,zGj,zGi,zGh,zGg,zGf,zGe,zGd,zGc,zGb,zGa,zFz,zFy,zFx,zFw,zFv,zFu,zFt,zFs,zFr,zFq,zFp,zFo,zFn],scope:=sc,futureAnnotations:=false,file:=fi,more:=[]},modules:=[],parses:=[],absent:=[],harvested:=[],given:=gi}
def rw:PySem.W.OpenLaw:={prog:=pw,name:=(PySem.Str.ofString "law"),about:=[(PySem.Str.ofString "lets_by")],foot:=21,most:=some 63,bound:=none,writes:=false}
theorem rw_eq:PySem.Challenge.rw_ownchain_k37_each_row_and_line_bent_alon=rw:=rfl
end OcP
structure PySem.W.Fast:Prop where
 (tw10035523912297915896 tw10397168154529535531 tw1049618963244211833 tw12258284484711903693 tw13779360603305468637 tw14033147073770810939 tw14567673297022311717 tw16181545876680844590 tw16889156651480575338 tw17003064962762221067 tw18062499327771955329 tw1938553031181746846 tw3385056051308398019 tw4538548608458830485 tw5355295457376046554 tw6700367781382556650 tw7701401438677816692 tw8678041771959940938 tw10601122549019679094 tw17611441648330767910 tw3190721824947889740 tw3996091372347715494 tw7656018399517252635 tw13424152844186759199 tw10590796439818826563 tw17033523324226001673 tw3653970316958900039 tw16461659344750902962 tw11932741527274794926 tw17432350861254489301 tw12547269858866027630 tw13478794313065782389 tw5260792893549379908 tw244452829912068300 tw11704785046096666121 tw12474693308865972215 tw15981281729861496718 tw3994497749902131770 tw4959325015910741191 tw9005138488057754704 tw1370269928007650116 tw12797367395458919313 tw16356641075922358284 tw10886464393967682879 tw375211493642818946 tw10200637526306706661 tw10650615184043334493 tw15167364454067972708 tw1012590863217358613 tw7872940781783937709 tw293483883389748129 tw17459903623842330548 tw12777988762272040966 tw3909314133271113540 tw8833832521720988521 tw16903211551089647341 tw11241900607619390737 tw12009850608306252824 tw13743683004267676480 tw4487281819998849116 tw5367012235603428712 tw17128694593058573014 tw2981468663876233605 tw16046960423167089910 tw14935125585548986231 tw1667058014148634294 tw7375035419301940304 tw1854129645134493932 tw7947159955745955996 tw13881071540945677672 tw12740811921164166925 tw2064547694299633080 tw1127553303710419033 tw1744860964249726348 tw10399228176514354996 tw12402103988051625011 tw15597797540193347218 tw1434088971599713738 tw8957472516531600994 tw2120365490372181627 tw5261479477294909390 tw12859211788427853589 tw9701248453538858170 tw4160120109678885878 tw608246068662618615 tw10196002364606288224 tw15222334476463251524 tw17477635770211803078 tw1327378701500229157 tw18389315247743585894 tw16174915670171803247 tw1155541842835203648 tw10046274263679434481 tw9980389325735855001 tw2491186159126002591 tw5535001069909655451 tw18201926659585291434 tw5982197467470595714 tw1668774792204427810 tw10809559284392288599 tw1507493860533315328 tw8668698254910233318 tw3650753109470835864 tw11997094884597928696 tw2209855755724878089 tw8643753271625203796 tw2347360917992970414 tw16921489416949855587 tw11303167042829127632 tw16948660014772902949 tw16642516299854843678 tw4510227783658295022 tw14487835732838938500 tw14980434589256053247 tw8914355463466051834 tw15690402270284129467 tw15694474607424740105 tw14383534186776412799 tw11874684057433119946 tw197439520969585360 tw8888054063463866137 tw15587985670046307920 tw2735601917157090340 tw17138630929252174741 tw3214010221936099254 tw8005921664512817490 tw2493155614404216566 tw18000509774140861071 tw103930204876449082 tw11341272574265198579 tw17516834763692775346 tw12342955095006539938 tw10250123731669633574 tw9198260708803796297 tw628727533113659580 tw9181444600464805224 tw12485639408433654956 tw3805989847612112830 tw13367065788016831292 tw14337147811302785827 tw7795608627673463480 tw12478359881580542705 tw2170060028915231288 tw2623586405833353298 tw16073892806653142290 tw10405925627866522392 tw5542723454745070184 tw1388300100545834913 tw8005842472802403274 tw9312125631050623532 tw13345741824353708440 tw1040567054541444655 tw6183911818968655562 tw16851638472911433666 tw7765763521105537025 tw7548141669031199039 tw2165610919788548291 tw18210915005033617990 tw16844159575751237260 tw5796114529527327505 tw7045709542729856039 tw13065960387947396041 tw12959644392984346386 tw18439114538939750752 tw17379464291747356734 tw181213001398582244 tw17795503993514466624 tw1181985830603161270 tw12291453352444283678 tw15462471544677897281 tw7501126263269784505 tw4781545581438714474 tw8212822378886085987 tw10272083920695803106 tw3586710225387823611 tw3811468173437437401 tw15395765542657574070 tw2453486299874663100 tw11194616365527361225 tw7961676116810027280 tw14835333189012867325 tw7557575141275426062 tw13219531241759743101 tw13564460826523081076 tw5311977343372669589 tw1074436328852638883 tw7044951515466499420 tw16757442963846672714 tw5898094111107257722 tw4657754155058568852 tw2104615106432547241 tw15097984021444935333 tw17173844072622018279 tw12040589755381507766 tw7949670100627464509 tw11504694216280470768 tw5485696557451369319 tw6846059316058536926 tw5316153092314154292 tw430753237348367007 tw16040840010606556253 tw14491172110648929710 tw10070478589168262108 tw9464537543567803307 tw17572152537534402189 tw17788063851054144382 tw7044049192769692111 tw10413861903889941416 tw11727480810413703885 tw10401625048785362522 tw166918159177427270 tw14640324066698410577 tw9239702183643442511 tw3703202972779488212 tw1774981473666783611 tw2673463643070154531 tw8026259853488134823 tw3908940398361022296 tw10321144931613259804 tw2766166003665700966 tw11681148987762260921 tw2843625544282030854 tw3025104287968571733 tw31631223354770626 tw16830102443363855430 tw2474180577648453046 tw9583499210099091844 tw6279936469023605779 tw12228850681587715024 tw14626510288444077204 tw11180015777051728658 tw3838154993009796129 tw2505850314699286065 tw293077677920931564 tw15838777120509342928 tw13493511531926734081 tw5568540890422048481 tw7106657919555864583 tw3196739807205306437 tw15418296008137748514 tw13609629095013895287 tw12185814649719205124 tw11189439035146602327 tw5443219585163197769 tw1580383773818919539 tw9320252332094744088 tw7855817656787078691 tw9216463966227251485 tw13674654405169599464 tw8896372324486404231 tw6014628164301389602 tw16189748411487204286 tw16655644510409375836 tw9372987119463041616 tw5308846248647736850 tw5640707052380978412 tw8555471837582779619 tw10004379319123442129 tw1599452078045008309 tw9983461456914869738 tw9473324796724011262 tw11169705430924649025 tw17262085340447495904 tw10849073070455773899 tw14834173705792294736 tw6400564210370218462 tw5069043543931529237 tw16263615282266154322 tw8034848978079713478 tw13264676526585845624 tw9229148627567871393 tw10531315018753217533 tw990833426611687099 tw5563585940201061471 tw18000240533440138274 tw13646634236477319497 tw2639568728518422758 tw10947746127925635824 tw13395479404309918931 tw8084468889890783416 tw15709413430271131044 tw10736052574036731986 tw7983120576683676737 tw16034802288008100319 tw15887461976684901597 tw15104588036117516176 tw10467307906146106771 tw15462582105445071662 tw6749402242397661840 tw305800805751322280 tw10643918245257207899 tw16683912604592024239 tw3819536596482838144 tw11653588173471733726 tw11835132717524942109 tw14096407746293453444 tw11252140279485951729 tw4514836785314861785 tw17780575061767388166 tw10508590268973042099 tw3929402849469807598 tw15978396875971583723 tw14733763286127151839 tw3270104866530218845 tw13826538056188624571 tw16044629794612184484 tw11118358487412473874 tw17838995009379268938 tw7130261549463984745 tw3005572062172438682 tw8997952960156926746 tw15101755757617060177 tw5337642868219718218 tw3396828672634977627 tw15329489965969296969 tw15537785686963847251 tw2331796016860654365 tw4549487001966523416 tw5091057959338143280 tw18136533687948291656 tw7239783231268832618 tw3119491708695869844 tw7167963134457896219 tw6369640592458412571 tw5656693001896400664 tw2730520626111293816 tw7773027152328986046 tw14831256963645306930 tw4208327679027360444 tw12051195357691769288 tw12823406846398682915 tw13122456009424260138 tw8464043623425577331 tw10162294926351261003 tw1359460818705100147 tw13608864094381306560 tw12604449518581776555 tw8334330228861326495 tw11397019991449879988 tw4716791336113800621 tw15549587852784265827 tw8540399877229004637 tw13562945998982522232 tw574591028923588139 tw3711094202921127759 tw9163455748578953323 tw1379285106669973579 tw9260982383344192947 tw7601949899444986365 tw549579578856460393 tw15441531411390392301 tw12767940669854893912 tw14961933730305255521 tw7508085986710655833 tw3198362867428445824 tw9924924339644497515 tw10175918082573160227 tw3525724228088787925 tw18044024376166304519 tw16118994791026999211 tw2413656089327999699 tw17076670936511158104 tw17219168441661699445 tw17215371217618848035 tw9932552786414476987 tw3281668244707715157 tw8898514799966057701 tw17239142525550277036 tw106053134580582834 tw11497081401122448873 tw14227943428545057214 tw5248472596868676552 tw6127355734352059924 tw10034360294745240721 tw9329103054215894235 tw4357809458904365262 tw15500597123141770018 tw11633117162196598434 tw15748973266806988959 tw8102545322730670920 tw7603212703597197916 tw14938883657534244119 tw10086561166480514009 tw12065292008039381562 tw2582613069860311092 tw1077530722450628925 tw8452334016082470954 tw2058692919720649945 tw17761212137830313643 tw4841691580673652092 tw832331431556441877 tw2731232966246585657 tw11282771788980100807 tw8821984514410011112 tw12426073994956575248 tw7046434202048266311 tw17595915600258617960 tw5250590087734866386 tw3884795154058951082 tw18020388440288734300 tw6181509958804224600 tw8676048965564886750 tw7103190087800958380 tw958424281989560788 tw13167291825482737454 tw18252646272457153389 tw13158508033107995522 tw1518870872555341826 tw7868986568969121024 tw4845183660115074109 tw18022903439825530915 tw3328807823832597789 tw1859563595942719986 tw3704115649184398997 tw10428015142918524323 tw15231302096452143242 tw10587772442112677896 tw8846274005809669057 tw2653528217711174147 tw7802532902764616339 tw1053342736216007423 tw12694464425463588851 tw5501084569131111310 tw8792818300286238928 tw8435709228562617343 tw18394020937615940938 tw15371936719315138164 tw17228512853153334123 tw771371091105030861 tw8205754155741452059 tw10269415551305932292 tw8801002596458403973 tw16649420789023833180 tw7746308265609221554 tw4711464328835225164 tw16757247548752970357 tw14614039877611773943 tw15747892473157886877 tw17582300791843429606 tw4885234159921769644 tw9973626909715127447 tw1396421319562800657 tw6915330163164294294 tw12401018469718950399 tw7269869328611041822 tw11432837796691366610 tw17290238312111551609 tw18303606615006540777 tw4406150435358110164 tw7978696307301963393 tw10212508524426143287 tw13427870016339695016 tw114839031414901761 tw16982524433950472758 tw10793444693254654106 tw6916061086909695083 tw8758790284868126180:True)
open PySem PySem.W PyProof.Rows
set_option maxRecDepth 100000 in
set_option maxHeartbeats 0 in
theorem PySem.Challenge.cw_ownchain_k37_each_row_and_line_bent_alon_holds : PySem.Challenge.rw_ownchain_k37_each_row_and_line_bent_alon.Holds := by
 rw[OcP.rw_eq]
 w_on;o_law;z_head;(case hw=>w_witness2)
 k_fill
 refine L2.walkX_of (λP=>rfl) ?_;refine OcL.walk (l:=OcP.rw) rfl rfl (λw h Y=>Y) ?F
 case F=>
  intro w mg fa h KX G hmg
  refine' OcL.all_mk KX G hmg ..
  all_goals first|k_is|rfl|(refine' L2.dg_mk ?a ?b ?c ?d;(case a=>k_is);(case b=>k_is);(case c=>k_is);(case d=>k_is))|(refine' L2.dm_mk ?a ?b ?c ?d;(case a=>k_is);(case b=>k_is);(case c=>k_is);(case d=>k_is))|skip
