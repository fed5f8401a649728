import PyProof.Rows.All
import PyProof.DictList
import PyProof.AttrMissHeap
import PyProof.ZipIter
import PyProof.TupleIter
import PyProof.Draws
import PyProof.Rows.TupAdd
import PyProof.Rows.SortRunsK
import KE.KSortTup
import PyProof.SumAny
import PyProof.AutoSeq1
import PyProof.LayNew
import PyProof.EnumFor
import PyProof.EnumStmt
import PyProof.EnumMake
import PyProof.ConsumeWalk
import KE.KRevSl
import KE.KRevIter
import Wide.All
import OpenK.AllK
import Wide.FinOn
import Lean
import PyProof.EqAt
import PyProof.EqKinds
import PyProof.TupleCall
import PyProof.NeKinds
import PySem.Challenge.RW_ownchain_k35_papers_let_by_or_not
set_option maxHeartbeats 4000000
set_option genInjectivity false
set_option genSizeOfSpec false
set_option compiler.extract_closed false
set_option Elab.async false
set_option linter.all false
set_option maxRecDepth 100000
abbrev a6:=List
abbrev a7:=PySem.W.Frag
abbrev a9:=PySem.Value
abbrev i3:=PySem.Addr
abbrev i4:=Option
abbrev i5:=PySem.Shared
abbrev i6:=PySem.Program
abbrev i7:=Bool
abbrev i8:=PySem.Stmt
abbrev i9:=PySem.World
abbrev j3:=PySem.Heap
abbrev j4:=PySem.Around
abbrev j5:=PySem.Expr
abbrev j6:=Array
abbrev j7:=PySem.Obj
section
local macro_rules|`(())=>`(by lia)
local macro_rules|`(#[$x,*])=>do
 if x.getElems.size=0 then Lean.Macro.throwUnsupported
 let mut z:=#[]
 for y in x.getElems do
  match y with
  |`(-$n:num)=>for _ in [:n.getNat] do z:=(z.push (<-`(_))).push (<-`(rfl))
  |_=>z:=z.push y
 `(⟨$z,*⟩)
namespace L2
open PySem PySem.Spec PyProof.Rows
theorem aA (h:True:=by first|exact .inl rfl|exact .inr rfl|assumption):True:=h
theorem aB (h:True:=by decide):True:=h
theorem aC (h:True:=by first|exact PB _ (by decide) (by decide)|rfl):True:=h
theorem aD (h:True:=by intro _;rfl):True:=h
theorem aE (h:True:=by rfl):True:=h
theorem aF (h:True:=by exact .inl rfl):True:=h
theorem aG (h:True:=by with_unfolding_all rfl):True:=h
theorem aH (h:True:=by first|decide|lia):True:=h
theorem aI (h:True:=by intros;rfl):True:=h
set_option bootstrap.genMatcherCode false
abbrev zD:=@PySem.wpAny_bind
abbrev zF:=@List.getElem?_eq_getElem
abbrev zG:=@List.length_append
abbrev zJ:=@List.length_cons
abbrev zL:=@PySem.Heap.get?_push_of_some
abbrev zM:=@List.length_map
abbrev zO:=@if_neg
abbrev zP:=@if_pos
abbrev zQ:=@decide_eq_true
abbrev zR:=@decide_eq_false
abbrev zS:=@Nat.le_refl
abbrev zZ:=@List.mem_cons_of_mem
abbrev yB:=@PySem.wpAny_pure
abbrev yC:=@List.mem_cons_self
abbrev yF:=@PySem.F.plainAttrs_list
abbrev yG:=@of_decide_eq_true
abbrev yH:=@List.size_toArray
abbrev yI:=@PySem.Heap.get?_push_size
abbrev yJ:=@List.getElem?_map
abbrev yL:=@PySem.F.type_list_append
abbrev yM:=@PySem.F.slot_list_append
abbrev yN:=@PySem.Heap.lt_size
abbrev yO:=@List.map_cons
abbrev yR:=@List.drop_eq_getElem_cons
abbrev yS:=@List.append_assoc
abbrev yT:=@Bool.false_ne_true
abbrev yU:=@Nat.le_trans
abbrev yV:=@List.getD_eq_getElem?_getD
abbrev yW:=@List.length_take
abbrev yY:=@Bool.true_and
abbrev xE:=@PySem.PassesOwn.never
abbrev xG:=@Nat.zero_le
abbrev xH:=@List.cons_append
abbrev xJ:=@List.append_nil
abbrev xN:=@List.map_append
abbrev xP:=@List.mem_of_getElem?
abbrev xR:=@Nat.lt_of_lt_of_le
abbrev xT:=@Nat.ne_of_lt
abbrev xU:=@Nat.lt_of_le_of_lt
abbrev xV:=@Int.toNat_natCast
abbrev xW:=@List.take_of_length_le
abbrev xZ:=@List.take_length
abbrev jE:=@List.mem_append_right
abbrev jF:=@PySem.wpAny_field
abbrev jG:=@PyProof.Rows.callWith_type1
abbrev jH:=@PySem.wpAny_callSpecial?_slot
abbrev jI:=@List.length_drop
abbrev jN:=@Option.some.inj
abbrev jO:=@List.take_add_one
abbrev jP:=@PySem.F.slot_tuple_iterator_next
abbrev jS:=@List.length_zip
abbrev jT:=@Bool.eq_iff_iff
abbrev jV:=@PySem.wpAny_newObj_type
abbrev jW:=@Bool.and_false
abbrev jZ:=@decide_eq_true_iff
abbrev kC:=@List.nil_append
abbrev kE:=@PySem.wpAny_call_entry
abbrev kJ:=@List.getElem?_append_left
abbrev kL:=@List.drop_of_length_le
abbrev kO:=@Bool.false_and
abbrev qA:=@List.zip_cons_cons
abbrev qB:=@List.getElem?_append_right
abbrev qC:=@PySem.wpAny_holding
abbrev qD:=@PySem.W.kia_one
abbrev qM:=@Int.toNat_of_nonneg
abbrev qN:=@PySem.wpAny_truthy_bool
abbrev qO:=@List.length_replicate
abbrev qT:=@PySem.wpAny_seqItems
abbrev qU:=@Nat.lt_irrefl
abbrev qV:=@List.all_cons
abbrev qX:=@congrArg
abbrev wF:=@List.map_congr_left
abbrev wG:=@PySem.sizeLine_eq
abbrev wJ:=@List.take_append_drop
abbrev wK:=@List.getElem?_eq_none
abbrev wL:=@beq_self_eq_true
abbrev wM:=@PySem.Obj.data_mapFields
abbrev wN:=@Bool.and_eq_true
abbrev wQ:=@PySem.AutoSeq1.wpAny_loadPart'
abbrev wW:=@List.length_range
abbrev wZ:=@PySem.F.args_tuple_iterator_next_1
abbrev vA:=@PySem.mem_of_lookup
abbrev vB:=@List.getElem?_range
abbrev vC:=@Array.length_toList
abbrev vE:=@PySem.F.entry_tuple_iterator_next
abbrev vF:=@Nat.le_succ
abbrev vH:=@List.getElem_mem
abbrev vI:=@List.drop_length
abbrev vJ:=@List.all_eq_true
abbrev vL:=@PySem.wpAny_setField_rec
abbrev vM:=@of_decide_eq_false
abbrev vN:=@List.take_succ
abbrev vO:=@Int.natCast_nonneg
abbrev vP:=@PySem.Heap.size_push
abbrev vT:=@PySem.Heap.get?_update_self
abbrev vZ:=@PySem.wpAny_passesOwn
abbrev uF:=@PySem.wpAny_pyIter_list
abbrev uG:=@PySem.wpAny_pyIter_enum
abbrev uH:=@PySem.wpAny_of_eq
abbrev uI:=@List.pairwise_map
abbrev uJ:=@List.mem_of_mem_take
abbrev uK:=@List.mem_append_left
abbrev uL:=@List.getElem?_of_mem
abbrev uO:=@List.Pairwise.imp_of_mem
abbrev uP:=@Bool.and_true
abbrev uU:=@PySem.Heap.SameBut.update
abbrev uX:=@PySem.wpAny_setField
abbrev uY:=@Nat.succ_le_succ
abbrev Ab:=@List.eq_nil_of_length_eq_zero
abbrev Ag:=@PySem.wpAny_pyIter_tuple
abbrev Ah:=@PySem.wpAny_Call_Name_kw
abbrev Ai:=@List.map_map
abbrev Aj:=@PySem.Heap.get?_update_other
abbrev An:=@List.length_nil
abbrev Ao:=@List.find?_cons
abbrev Ap:=@Int.emod_nonneg
abbrev Ax:=@PySem.builtinLookup_eq_fast
abbrev Ay:=@PySem.Obj.isFreed_of_fields
abbrev Az:=@List.lookup_cons_self
abbrev AD:=@Array.getD_eq_getD_getElem?
abbrev AM:=@PySem.wpAny_mono
abbrev AN:=@List.take_zero
abbrev Bb:=@Nat.lt_succ_self
abbrev Bi:=@List.mem_map_of_mem
abbrev Bp:=@PySem.wpAny_attempt
abbrev Bq:=@List.any_cons
abbrev Bu:=@PySem.wpAny_specialOf
abbrev Bv:=@Nat.not_lt_zero
abbrev Bw:=@Nat.min_eq_left
abbrev Bx:=@List.length_set
abbrev BB:=@PySem.tupleKind_room_in1
abbrev BC:=@Bool.false_eq_true
abbrev BD:=@PySem.Paired.snoc
abbrev BE:=@Nat.add_sub_cancel_left
abbrev BV:=@PySem.wpAny_pyNext_list_item
abbrev BW:=@PySem.isSubtype_type
abbrev BX:=@Nat.succ_pos
abbrev BY:=@Nat.le_of_lt
abbrev BZ:=@List.drop_zero
abbrev CA:=@PyProof.Rows.slot_tuple_getitem
abbrev CB:=@List.eraseIdxIfInBounds_toArray
abbrev CH:=@PySem.wpAny_pyNext_list_end
abbrev CI:=@List.length_singleton
abbrev CJ:=@List.getElem?_reverse
abbrev CZ:=@PySem.wpAny_isInstance
abbrev Da:=@beq_iff_eq
abbrev Db:=@Nat.succ_ne_self
abbrev Dc:=@Nat.min_eq_right
abbrev Dd:=@List.lookup_cons
abbrev De:=@Array.toList_zip
abbrev Df:=@Array.toList_map
abbrev Dy:=@PySem.wpAny_updateSeq_pair
abbrev Dz:=@List.take_append_of_le_length
abbrev DA:=@List.replicate_succ'
abbrev DB:=@List.mem_of_mem_drop
abbrev DC:=@PySem.Heap.get?_push_cases
abbrev DD:=@Bool.and_eq_true_iff
abbrev DE:=@PySem.Around.under_plainId
abbrev DK:=@PySem.wpAny_execs_nil
abbrev DL:=@PySem.typeLookup_type
abbrev DM:=@Option.map_some
abbrev DN:=@List.of_mem_zip
abbrev DO:=@List.forIn_cons
abbrev DP:=@List.foldl_cons
abbrev DQ:=@PySem.F.slot_zip_next
abbrev DS:=@PySem.W.plainGet_of
abbrev DT:=@List.length_reverse
abbrev DU:=@List.filterMap_cons
abbrev Ec:=@Nat.zero_add
abbrev Ed:=@Nat.succ.inj
abbrev Ee:=@Nat.sub_self
abbrev EF:=@PySem.wpAny_rule
abbrev EG:=@PySem.call_meets
abbrev EH:=@PySem.W.callWith_K
abbrev EI:=@Nat.mul_le_mul
abbrev EJ:=@Int.emod_lt_of_pos
abbrev EK:=@List.getElem?_zip_eq_some
abbrev EL:=@Int.natAbs_fdiv_le_natAbs
abbrev EM:=@Decidable.byContradiction
abbrev EZ:=@if_true
abbrev Fa:=@Sum.inl.inj
abbrev Fb:=@PySem.SeqAt.RcAt.tuples
abbrev Fc:=@PySem.W.kitx_list
abbrev Fd:=@Option.isSome_map
abbrev Fe:=@PySem.Obj.cls_mapFields
abbrev Fj:=@PySem.wpAny_standAt
abbrev Fk:=@PySem.wpAny_onRaise
abbrev Fl:=@PySem.F.type_list_extend
abbrev Fm:=@PySem.F.slot_list_extend
abbrev Fo:=@PyProof.noPylong_of_log2
abbrev Fp:=@PySem.Paired.length
abbrev Fq:=@List.getElem?_take_of_lt
abbrev FJ:=@if_false
abbrev FM:=@PyProof.Rows.intBits_le
abbrev FO:=@List.map_snd_zip
abbrev FP:=@List.getLast?_cons_cons
abbrev FQ:=@List.getElem_inj
abbrev FR:=@List.getElem?_replicate
abbrev FS:=@List.getElem?_cons_succ
abbrev Bk:=Sum Int Str
noncomputable def MI:Bk->a9->i7
 | .inl k,v=>Value.isInt k v
 | .inr x,v=>Value.isStrOf x v
noncomputable def zGq (w:i9):Bk->Int
 | .inl k=>hashInt k
 | .inr x=>hashStr w x
theorem uD: ∀{k:Bk} {v:a9},MI k v=true->(∃i t,k=Sum.inl i/\v=Value.int i t)\/(∃x t,k=Sum.inr x/\v=Value.str x t)
 | .inl i,v,h=>by
  obtain⟨t,e⟩:=Value.isInt_shape (k:=i) (v:=v) h;exact .inl #[i,t,rfl,e]
 | .inr x,v,h=>by
  obtain⟨t,e⟩:=Value.isStrOf_shape (x:=x) (v:=v) h;exact .inr #[x,t,rfl,e]
theorem TZ (i:Int)(t:Tok):MI (.inl i) (.int i t)=true:=by simp[MI,Value.isInt]
theorem TY (x:Str)(t:Tok):MI (.inr x) (.str x t)=true:=by simp[MI,Value.isStrOf]
theorem zAb (a b:Int):decide ((Sum.inl a:Bk)=Sum.inl b)=(a==b):=by
 by_cases e:a=b
 ·subst e;simp
 ·have h: ¬(Sum.inl a:Bk)=Sum.inl b:=λq=>e (Fa q);rw[zR h];exact(beq_eq_false_iff_ne.mpr e).symm
theorem ZY (a b:Str):decide ((Sum.inr a:Bk)=Sum.inr b)=decide (a=b):=by
 by_cases e:a=b
 ·subst e;simp
 ·have h: ¬(Sum.inr a:Bk)=Sum.inr b:=λq=>e (Sum.inr.inj q);rw[zR h,zR e]
theorem zAa (a:Int)(b:Str):decide ((Sum.inl a:Bk)=Sum.inr b)=false:=zR (λq=>nomatch q)
theorem ZZ (a:Str)(b:Int):decide ((Sum.inr a:Bk)=Sum.inl b)=false:=zR (λq=>nomatch q)
noncomputable def wT (prog:i6)(w:i9):PySem.KeyKind prog w Bk where
 is:=MI
 hash:=zGq w
 inj:=λv a b ha hb=>by
  rcases uD ha with⟨i,t,rfl,rfl⟩|⟨x,t,rfl,rfl⟩
  ·rcases uD hb with⟨j,u,rfl,e⟩|⟨y,u,rfl,e⟩
   ·injection e with e1 _;rw[e1]
   ·exact nomatch e
  ·rcases uD hb with⟨j,u,rfl,e⟩|⟨y,u,rfl,e⟩
   ·exact nomatch e
   ·injection e with e1 _;rw[e1]
 byValue:=λk v h=>by
  rcases uD h with⟨i,t,rfl,rfl⟩|⟨x,t,rfl,rfl⟩<;>rfl
 pyHash:=λhv h=>by
  rcases uD hv with⟨i,t,rfl,rfl⟩|⟨x,t,rfl,rfl⟩
  ·exact wpAny_pyHash_int h
  ·exact wpAny_pyHash_str h
 eqBool:=λhu hv h=>by
  rcases uD hu with⟨i,t,rfl,rfl⟩|⟨x,t,rfl,rfl⟩
  ·rcases uD hv with⟨j,u,rfl,rfl⟩|⟨y,u,rfl,rfl⟩
   ·rw[zAb]at h;exact wpAny_eqBool_int h
   ·rw[zAa]at h;exact SeqAt.EqAt.int_str i t y u _ _ _ _ h
  ·rcases uD hv with⟨j,u,rfl,rfl⟩|⟨y,u,rfl,rfl⟩
   ·rw[ZZ]at h;exact SeqAt.EqAt.str_int x t j u _ _ _ _ h
   ·rw[ZY]at h;exact wpAny_eqBool_str h
 «strs»:=λk x t v h=>by
  rcases uD h with⟨i,u,rfl,e⟩|⟨y,u,rfl,e⟩
  ·exact nomatch e
  ·injection e with e1 _
   subst e1;cases v<;>rfl
theorem PM (prog:i6)(w:i9)(i:Int)(t:Tok):(wT prog w).is (.inl i) (.int i t)=true:=TZ i t
theorem PL (prog:i6)(w:i9)(x:Str)(t:Tok):(wT prog w).is (.inr x) (.str x t)=true:=TY x t
inductive V where
 |non|bl (b:i7)|int (i:Int)|str (x:Str)|byt (b:Array UInt8)|flt (b:UInt64)|ref (a:i3)|ty (n:String)
 deriving DecidableEq
def kS:V->a9->Prop
 | .non,u=>u=Value.none
 | .bl b,u=>u=Value.bool b
 | .int i,u=> ∃t,u=Value.int i t
 | .str x,u=> ∃t,u=Value.str x t
 | .byt b,u=> ∃t,u=Value.bytes b t
 | .flt b,u=> ∃t,u=Value.float b t
 | .ref a,u=>u=Value.ref a
 | .ty n,u=>u=Value.type n
abbrev jU:a6 V->a6 a9->Prop:=Paired kS
theorem jU.length {xs:a6 V}{us:a6 a9}(r:jU xs us):xs.length=us.length:=Fp r
theorem jU.get: ∀{xs:a6 V} {us:a6 a9} {i:Nat} {x:V},jU xs us->xs[i]? =some x-> ∃u,us[i]? =some u/\kS x u
 |_,_,_,_,.nil,e=>by simp at e
 |_,_,0,_,.cons r _,e=>by simp at e;subst e;exact#[-1,r]
 |_,_,i+1,x,.cons _ t,e=>by
  obtain⟨u,h1,h2⟩:=jU.get (i:=i) (x:=x) t (by simpa using e);exact#[u,by simpa using h1,h2]
theorem jU.set {x:V}{u:a9}(r:kS x u): ∀{xs:a6 V} {us:a6 a9} (i:Nat),jU xs us->jU (xs.set i x) (us.set i u)
 |_,_,_,.nil=>.nil
 |_,_,0,.cons _ t=>.cons r t
 |_,_,i+1,.cons q t=>.cons q (jU.set r i t)
theorem jU.append {xs ys:a6 V}{us ws:a6 a9}(h:jU xs us)(q:jU ys ws):jU (xs++ys) (us++ws):=by
 induction h with
 |nil=>exact q
 |cons r t ih=>exact .cons r ih
theorem jU.take: ∀{xs:a6 V} {us:a6 a9} (n:Nat),jU xs us->jU (xs.take n) (us.take n)
 |_,_,0,_=>.nil
 |_,_,_+1,.nil=>.nil
 |_,_,n+1,.cons r t=>.cons r (jU.take n t)
theorem jU.drop: ∀{xs:a6 V} {us:a6 a9} (n:Nat),jU xs us->jU (xs.drop n) (us.drop n)
 |_,_,0,r=>r
 |_,_,_+1,.nil=>.nil
 |_,_,n+1,.cons _ t=>jU.drop n t
def Ht:i4 V->i4 a9->Prop
 |some v,some u=>kS v u
 |none,none=>True
 |_,_=>False
def KV {κ:Type}:a6 (κ×V)->a6 (κ×a9)->Prop:=Paired fun(p:κ×V) (q:κ×a9)=>p.1=q.1/\kS p.2 q.2
noncomputable def kV:Bk->V
 | .inl i=>.int i
 | .inr x=>.str x
inductive HO where
 |lst (xs:List V)
 |tup (xs:List V)
 |dK (kvs:List (Bk×V))|dT (kvs:List (List Bk×V))
 |set (S:Int->i7) (n:Nat)
 |ins (C dx:i3) (fs:List (Str×V))
 |own (x:i3)
 |xd (fs:List (Str×V))
 |met (f x:i3)
 |rng (lo hi:Int)
 |frz (o:j7) (u:HO)
 |tbl (ps:Array a9)
 |ext (φ:j3->Prop)
abbrev Hp:=i3->i4 HO
noncomputable def upd (H:Hp)(a:i3)(o:HO):Hp:=λb=>if b=a then some o else H b
theorem zE {H:Hp}{a:i3}{o:HO}:upd H a o a=some o:=by unfold upd;rw[zP rfl]
theorem yQ {H:Hp}{a b:i3}{o:HO}(h:b≠a):upd H a o b=H b:=by unfold upd;rw[zO h]
theorem Kn {H:Hp}{a:i3}{o u:HO}:upd (upd H a o) a u=upd H a u:=by
 funext b;unfold upd;split<;>rfl
theorem zCm {H:Hp}{a b:i3}{o u:HO}(h:H a=some o)(h':H b=some u)(d:o≠u):a≠b:=by
 intro e;subst e;rw[h]at h';exact d (jN h')
theorem xB {H:Hp}{a b:i3}{o:HO}(h:H a=some o)(h':H b=none):a≠b:=by
 intro e;subst e;rw[h]at h';cases h'
section
variable (P:i6)(w:i9)
def vV (H:Hp)(h:j3)(a:i3):HO->Prop
 | .lst xs=>xs.length<=sizeLine/\ ∃(its:a6 a9) (n:Nat),jU xs its/\h.get? a=some {cls:=.type "list",data:=.seq its.toArray n}
 | .tup xs=>xs.length<=sizeLine/\ ∃its:a6 a9,jU xs its/\IsTup h a its.toArray
 | .dK kvs=>kvs.length<=sizeLine/\(a==sysModules)=false/\ ∃vs,KV kvs vs/\h.DictOf (wT P w) a vs
 | .dT kvs=>kvs.length<=sizeLine/\(a==sysModules)=false/\ ∃xs:a6 (a6 Bk×i3×a9),
   Paired (fun(p:a6 Bk×V) (q:a6 Bk×i3×a9)=>p.1=q.1/\H q.2.1=some (.tup (p.1.map kV))/\kS p.2 q.2.2) kvs xs/\
   ∃o es ep,h.get? a=some o/\o.ExactDict/\o.data=.dict es ep/\es.toList=xs.map (entryOfKey (tupleKind (wT P w)))/\(xs.map (·.1)).Nodup
 | .set S n=>h.SetOf (intKind P w) a S n
 | .ins C dx fs=>H dx=some (.own a)/\fs.length<=1000/\dx≠a/\h.get? a=some (PySem.W.instObj C dx)/\
   ∃mA,h.Ns1 dx mA/\(∀f,Ht (fs.lookup f) (mA f))/\PySem.Within mA (fs.map (·.1))
 | .own _=> ∃o,h.get? a=some o
 | .xd fs=> ∃mA,h.Ns1 a mA/\ ∀f,Ht (fs.lookup f) (mA f)
 | .rng lo hi=> ∃t u v,h.get? a=some {cls:=.type "range",data:=.fields (List.toArray [.int lo t,.int hi u,.int 1 v])}
 | .frz o u=>h.get? a=some o/\vV H h a u
 | .tbl ps=>h.get? a=some {cls:=.none,data:=.fields ps}
 | .met f x=>h.get? a=some (PySem.W.methodObj (.ref f) (.ref x))
 | .ext φ=>φ h/\(∃o,h.get? a=some o)/\ ∀h1 h2:j3,φ h1->(∀o,h1.get? a=some o->h2.get? a=some o)->φ h2
def Ix (H:Hp)(h:j3):Prop:= ∀a o,H a=some o->vV P w H h a o
end
section
variable {P:i6}{w:i9}{H H':Hp}{h h':j3}{a:i3}{o:HO}
theorem vV.lt (x:vV P w H h a o):a<h.objs.size:=by
 cases o with
 |lst xs=>obtain⟨_,_,_,_,e⟩:=x;exact yN e
 |tup xs=>obtain⟨_,_,_,p⟩:=x;exact p.lt
 |dK kvs=>obtain⟨_,_,_,_,o,_,_,e,_⟩:=x;exact yN e
 |dT kvs=>obtain⟨_,_,_,_,o,_,_,e,_⟩:=x;exact yN e
 |set S n=>obtain⟨o,_,_,_,e,_⟩:=x;exact yN e
 |ins C dx fs=>obtain⟨_,_,_,e,_⟩:=x;exact yN e
 |own y=>obtain⟨_,e⟩:=x;exact yN e
 |xd fs=>obtain⟨_,⟨_,_,_,e,_⟩,_⟩:=x;exact yN e
 |rng lo hi=>obtain⟨_,_,_,e⟩:=x;exact yN e
 |frz ob u=>obtain⟨e,_⟩:=x;exact yN e
 |tbl ps=>exact yN (show h.get? a=some _ from x)
 |met f y=>exact yN (show h.get? a=some _ from x)
 |ext φ=>obtain⟨_,⟨_,e⟩,_⟩:=x;exact yN e
theorem Paired.mapP {α β:Type}{F G:α->β->Prop}{l₁:a6 α}{l₂:a6 β}(h:Paired F l₁ l₂)(f: ∀a b,F a b->G a b):Paired G l₁ l₂:=by
 induction h with
 |nil=>exact .nil
 |cons r t ih=>exact .cons (f _ _ r) ih
theorem vV.stay (x:vV P w H h a o)(k: ∀b u,(b=a\/H b=some (.own a))->h.get? b=some u->h'.get? b=some u)
  (ho: ∀b,H b=some (.own a)->H' b=some (.own a)) (ht: ∀b xs,H b=some (.tup xs)->H' b=some (.tup xs)):vV P w H' h' a o:=by
 induction o with
 |lst xs=>obtain⟨z,its,n,r,e⟩:=x;exact#[z,its,n,r,k _ _ (.inl rfl) e]
 |tup xs=>obtain⟨z,its,r,ob,e,c⟩:=x;exact#[z,its,r,ob,k _ _ (.inl rfl) e,c]
 |dK kvs=>obtain⟨z,y,vs,r,ob,es,ep,e,c⟩:=x;exact#[z,y,vs,r,ob,es,ep,k _ _ (.inl rfl) e,c]
 |dT kvs=>
  obtain⟨z,y,xs,r,ob,es,ep,e,c⟩:=x;exact#[z,y,xs,Paired.mapP r λp q z=>#[z.1,ht _ _ z.2.1,z.2.2],ob,es,ep,k _ _ (.inl rfl) e,c]
 |set S n=>obtain⟨ob,es,ep,t,e,c⟩:=x;exact#[ob,es,ep,t,k _ _ (.inl rfl) e,c]
 |ins C dx fs=>
  obtain⟨d,z,ne,e,mA,⟨od,es,ep,e2,c⟩,r⟩:=x;exact#[ho _ d,z,ne,k _ _ (.inl rfl) e,mA,#[od,es,ep,k _ _ (.inr d) e2,c],r]
 |own y=>obtain⟨ob,e⟩:=x;exact#[ob,k _ _ (.inl rfl) e]
 |xd fs=>obtain⟨mA,⟨od,es,ep,e,c⟩,r⟩:=x;exact#[mA,#[od,es,ep,k _ _ (.inl rfl) e,c],r]
 |rng lo hi=>obtain⟨t,u,v,e⟩:=x;exact#[t,u,v,k _ _ (.inl rfl) e]
 |frz ob u ih=>obtain⟨e,q⟩:=x;exact#[k _ _ (.inl rfl) e,ih q]
 |tbl ps=>
  have e:h.get? a=some {cls:=.none,data:=.fields ps}:=x;show h'.get? a=some {cls:=.none,data:=.fields ps};exact k a _ (.inl rfl) e
 |met f y=>
  have e:h.get? a=some (PySem.W.methodObj (.ref f) (.ref y)):=x;show h'.get? a=some (PySem.W.methodObj (.ref f) (.ref y));exact k a _ (.inl rfl) e
 |ext φ=>obtain⟨p,⟨o,e⟩,st⟩:=x;exact#[st _ _ p λo q=>k _ _ (.inl rfl) q,#[o,k _ _ (.inl rfl) e],st]
theorem Ix.lt (x:Ix P w H h)(e:H a=some o):a<h.objs.size:=(x a o e).lt
theorem Ix.fresh (x:Ix P w H h)(e:h.objs.size<=a):H a=none:=by
 cases q:H a with
 |none=>rfl
 |some u=>exact absurd (xR (x.lt q) e) (qU _)
theorem Ix.kept (x:Ix P w H h)(k: ∀b u,h.get? b=some u->h'.get? b=some u):Ix P w H h':=λa o e=>
 (x a o e).stay (λb u _ q=>k b u q) (λ_ q=>q) λ_ _ q=>q
theorem Ix.laid (x:Ix P w H h)(k: ∀b u,h.get? b=some u->h'.get? b=some u)(hp:h.objs.size<=a)(new:vV P w (upd H a o) h' a o):Ix P w (upd H a o) h':=λb u e=>by
 have hn:=x.fresh hp
 by_cases hb:b=a
 ·subst hb;rw[zE]at e;cases e;exact new
 ·rw[yQ hb]at e;exact(x b u e).stay (λc v _ q=>k c v q) (λc q=>by rw[yQ (xB q hn)];exact q) λc xs q=>by rw[yQ (xB q hn)];exact q
end
def Rd (H:Hp)(a:i3)(u:HO):Prop:=H a=some u\/ ∃o,H a=some (.frz o u)
theorem Rd.ok {P:i6}{w:i9}{H:Hp}{h:j3}{a:i3}{u:HO}(r:Rd H a u)(x:Ix P w H h):vV P w H h a u:=by
 rcases r with r|⟨o,r⟩
 ·exact x a u r
 ·obtain⟨_,q⟩:=x a _ r;exact q
def Mut:i4 HO->Prop
 |some (.lst _)=>True
 |some (.dK _)=>True
 |some (.dT _)=>True
 |some (.set _ _)=>True
 |some (.ins _ _ _)=>True
 |some (.ext _)=>True
 |_=>False
section
variable {P:i6}{w:i9}{H:Hp}{h h':j3}{x e:i3}{o':HO}
theorem Ix.write (ok:Ix P w H h)(mu:Mut (H x))(he:e=x\/H e=some (.own x))(k: ∀b u,b≠e->h.get? b=some u->h'.get? b=some u)(heo: ∃u,h'.get? e=some u)
  (new:vV P w (upd H x o') h' x o'):Ix P w (upd H x o') h':=λb u q=>by
 have nown: ∀c y,H c=some (.own y)->c≠x:=λc y r z=>by subst z;rw[r]at mu;exact mu
 have ntup: ∀c xs,H c=some (.tup xs)->c≠x:=λc xs r z=>by subst z;rw[r]at mu;exact mu
 by_cases hb:b=x
 ·subst hb;rw[zE]at q;cases q;exact new
 ·rw[yQ hb]at q
  by_cases hbe:b=e
  ·have q':H b=some (.own x):=by
    rcases he with z|z
    ·exact absurd (hbe.trans z) hb
    ·rw[hbe];exact z
   rw[q]at q';cases q';obtain⟨v,hv⟩:=heo;exact#[v,by rw[hbe];exact hv]
  ·refine(ok b u q).stay (λc v hc r=>k c v ?_ r) (λc r=>by rw[yQ (nown c b r)];exact r) λc xs r=>by rw[yQ (ntup c xs r)];exact r
   rcases hc with rfl|hc
   ·exact hbe
   ·rintro rfl
    rcases he with z|z
    ·exact nown c b hc z
    ·rw[hc]at z;cases z;exact hb rfl
end
structure Un (fs ex:List i3)(H H':Hp)(h h':j3):Prop where
 keep: ∀b o,h.get? b=some o->H b=none->b∉fs->b∉ex->h'.get? b=some o
 slot: ∀b o,h.get? b=some o->H b=none->b∈fs->b∉ex-> ∃sl,h'.get? b=some {o with slots:=sl}
 free: ∀b o,h.get? b=some o->H b=none->b∉ex->H' b=none
 there: ∀b o,h.get? b=some o->b∉ex-> ∃o',h'.get? b=some o'
 tups: ∀b xs,H b=some (.tup xs)->H' b=some (.tup xs)
 frzs: ∀b o u,H b=some (.frz o u)->H' b=some (.frz o u)
 tbls: ∀b ps,H b=some (.tbl ps)-> ∃more,H' b=some (.tbl (ps++more))
section
variable {fs fs' ex ex':a6 i3}{H H1 H2:Hp}{h h1 h2 h':j3}{a x e:i3}{o:HO}
theorem Un.any (u:Un fs ex H H1 h h1){b:i3}{ob:j7}(q:h.get? b=some ob)(n:H b=none)(hx:b∉ex): ∃sl,h1.get? b=some {ob with slots:=sl}:=by
 by_cases hb:b∈fs
 ·exact u.slot b ob q n hb hx
 ·exact#[ob.slots,u.keep b ob q n hb hx]
theorem Un.kept (k: ∀b u,h.get? b=some u->h'.get? b=some u):Un fs ex H H h h':=
 #[λb ob q _ _ _=>k b ob q,λb ob q _ _ _=>#[ob.slots,k b ob q],λ_ _ _ n _=>n,λb ob q _=>#[ob,k b ob q],λ_ _ q=>q,λ_ _ _ q=>q,λ_ ps q=>#[#[],by rw[q];simp]]
theorem Un.refl:Un fs ex H H h h:=Un.kept λ_ _ q=>q
theorem Un.laid (k: ∀b u,h.get? b=some u->h'.get? b=some u)(hp:h.objs.size<=a)(hn:H a=none):Un fs ex H (upd H a o) h h' where
 keep:=λb u q _ _ _=>k b u q
 slot:=λb u q _ _ _=>#[u.slots,k b u q]
 free:=λb u q n _=>by rw[yQ (xT (xR (yN q) hp))];exact n
 there:=λb u q _=>#[u,k b u q]
 tups:=λb xs q=>by rw[yQ (xB q hn)];exact q
 frzs:=λb u xs q=>by rw[yQ (xB q hn)];exact q
 tbls:=λb ps q=>#[#[],by rw[yQ (xB q hn),q];simp]
theorem Un.write (mu:Mut (H x))(he:e=x\/H e=some (.own x))(k: ∀b u,b≠e->h.get? b=some u->h'.get? b=some u)(heo: ∃u,h'.get? e=some u):Un fs ex H (upd H x o) h h':=by
 have hx: ∀b,H b=none->b≠x:=λb n z=>by subst z;rw[n]at mu;exact mu
 have hb: ∀b,H b=none->b≠e:=λb n z=>by
  subst z
  rcases he with r|r
  ·exact hx b n r
  ·rw[n]at r;cases r
 have hm: ∀b u,H b=some u-> ¬Mut (some u)->b≠x:=λb u q nm z=>by subst z;rw[q]at mu;exact nm mu
 refine#[λb u q n _ _=>k b u (hb b n) q,λb u q n _ _=>#[u.slots,k b u (hb b n) q],λb u q n _=>by rw[yQ (hx b n)];exact n,λb u q _=>?_,
  λb xs q=>by rw[yQ (hm b _ q λz=>z)];exact q,λb u xs q=>by rw[yQ (hm b _ q λz=>z)];exact q,λb ps q=>#[#[],by rw[yQ (hm b _ q λz=>z),q];simp]]
 by_cases hbe:b=e
 ·subst hbe;exact heo
 ·exact#[u,k b u hbe q]
end
noncomputable def trk (h:j3)(H:Hp):a6 i3:=(List.range h.objs.size).filter λa=>(H a).isSome
noncomputable def Oj (h:j3)(H:Hp):j3:=PySem.W.hideAll h (trk h H)
theorem Ub (h:j3)(H:Hp):(Oj h H).objs.size =h.objs.size:=PySem.W.hideAll_size _ _
theorem Wt {h:j3}{H:Hp}{b:i3}{o:j7}(e:h.get? b=some o)(n:H b=none):(Oj h H).get? b=some o:=
 PySem.W.hideAll_get _ e λhm=>by
  have q:(H b).isSome =true:=(List.mem_filter.mp hm).2;rw[n]at q;simp at q
theorem XQ {h:j3}{H:Hp}{b:i3}{o:j7}(e:(Oj h H).get? b=some o):h.get? b=some o/\H b=none:=by
 have e':h.get? b=some o:=PySem.W.of_hideAll (trk h H) e;refine#[e',?_];cases q:H b with
 |none=>rfl
 |some x=>
  have hm:b∈trk h H:=List.mem_filter.mpr #[List.mem_range.mpr (yN e'),by simp[q]];have z:(Oj h H).get? b=none:=PySem.W.hideAll_none (trk h H) hm;rw[z]at e;cases e
noncomputable def Yq (g h:j3)(L:i3):a6 (i3×j7):=(List.range h.objs.size).filterMap λa=>if a=L\/(g.get? a).isSome =true then none else(h.get? a).map λo=>(a,o)
noncomputable def rest (g h:j3)(L d:i3):a6 (i3×j7):=(Yq g h L).filter λp=>decide (p.1≠d)
structure Mod (K:a7)(mg:Str->Option a9)(base:j3):Prop where
 kin:K.In base
 glob:base.Ns mainGlobals mg
 blt: ∃mb,base.Ns builtinsNs mb/\ ∀x:Str,x≠"__name__"->mb x=bootBuiltins x
 nolimit:base.NoLimit
structure Cx where
 prog:i6
 w:i9
 K:a7
 mg:Str->Option a9
 base:j3
 A:j4
 N:List Str
 s₀:i5
 H₀:Hp
 env:Env
 outer:List Env
 stack:List Env
 ex:List i3
 fn:Str->i7
 calm:i7
 pn:List (i3×j7)
 xe:a9->i5->Prop
noncomputable def frs (l:a6 Env):a6 i3:=l.filterMap (·.frame)
noncomputable abbrev Cx.fs (X:Cx):a6 i3:=frs X.outer
def Vis (sc:Scope)(x:Str):Prop:=sc.names.lookup x=some .local\/sc.names.lookup x=some .cell\/sc.names.lookup x=some .free
def Loc (sc:Scope)(x:Str):Prop:=sc.names.lookup x=some .local\/sc.names.lookup x=some .cell
def zHl (env:Env)(h:j3)(m:Str->i4 a9)(x:Str)(u:a9):Prop:=
 (env.kindOf x=some .local/\m x=some u)\/((env.kindOf x=some .cell\/env.kindOf x=some .free)/\ ∃c,env.cells.lookup x=some c/\h.IsCell c (some u))
structure Cx.Ok (X:Cx):Prop where
 mod:Mod X.K X.mg X.base
 kind:X.env.scope.kind=.function
 glob:X.env.globals=mainGlobals
 blt:X.env.builtins=builtinsNs
 above:X.s₀.heap.objs.size<=X.env.locals
 inj: ∀x y c,X.env.cells.lookup x=some c->X.env.cells.lookup y=some c->x=y
 has: ∀x,(X.env.kindOf x=some .cell\/X.env.kindOf x=some .free)-> ∃c,X.env.cells.lookup x=some c
 cab: ∀x c,X.fn x=true->X.env.cells.lookup x=some c->X.s₀.heap.objs.size<=c
 hd:X.calm=true->X.A.handled=none
 frames:X.A.frames=some X.stack
 stk:X.stack=X.outer\/(X.stack=X.env::X.outer/\X.env.frame=some X.env.locals)
 exf: ∀b∈X.ex,b≠X.env.locals/\ ∀x c,X.env.cells.lookup x=some c->c≠b
 bs: ∀b o,X.base.get? b=some o->X.s₀.heap.get? b=some o/\X.H₀ b=none
 bsz:X.base.objs.size<=X.s₀.heap.objs.size
 noex: ∀b o,X.base.get? b=some o->b∉X.ex
 exfs: ∀b∈X.ex,b∉X.fs
 funs:X.s₀.heap.FunFrames X.base X.outer
 frf: ∀b∈X.fs,X.H₀ b=none
structure xY (X:Cx)(j8:List (i3×j7))(U:List (Option V))(H:Hp)(s:i5):Prop where
 ok:X.Ok
 os:s.os=X.s₀.os
 bare:AllBare s.gens
 base:Un X.fs X.ex X.H₀ H X.s₀.heap s.heap
 loc: ∃m,s.heap.Ns X.env.locals m/\ ∀(i:Nat) (x:Str) (v:V),X.N[i]? =some x->U[i]? =some (some v)->Vis X.env.scope x-> ∃u,kS v u/\zHl X.env s.heap m x u
 cell: ∀x c,X.env.cells.lookup x=some c-> ∃v,s.heap.IsCell c v
 free:H X.env.locals=none
 freeC: ∀x c,X.env.cells.lookup x=some c->H c=none
 pin: ∀p∈X.pn++j8,s.heap.get? p.1=some p.2/\H p.1=none/\p.1≠X.env.locals/\p.1∉X.fs/\ ∀v,p.2.data≠ .cell v
 hok:Ix X.prog X.w H s.heap
 len:U.length=X.N.length
section
variable {X:Cx}{j8:a6 (i3×j7)}{U:a6 (i4 V)}{H H':Hp}{s:i5}{h':j3}
theorem Cx.Ok.nofr (ok:X.Ok){b:i3}{o:j7}(e:X.base.get? b=some o):b∉X.fs:=λhb=>by
 have:=(ok.funs.mem hb).1;rw[e]at this;cases this
theorem xY.bs (I:xY X j8 U H s): ∀b o,X.base.get? b=some o->s.heap.get? b=some o/\H b=none:=λb o e=>
 #[I.base.keep b o (I.ok.bs b o e).1 (I.ok.bs b o e).2 (I.ok.nofr e) (I.ok.noex b o e),I.base.free b o (I.ok.bs b o e).1 (I.ok.bs b o e).2 (I.ok.noex b o e)]
theorem xY.bk (I:xY X j8 U H s): ∀b o,X.base.get? b=some o->s.heap.get? b=some o:=λb o e=>(I.bs b o e).1
theorem xY.mod (I:xY X j8 U H s):Mod X.K X.mg X.base:=I.ok.mod
theorem xY.kIn (I:xY X j8 U H s):X.K.In s.heap:=I.ok.mod.kin.keeps I.bk
theorem xY.lt (I:xY X j8 U H s):X.env.locals<s.heap.objs.size:=let⟨_,hn,_⟩:=I.loc;hn.lt
theorem xY.sz (I:xY X j8 U H s):X.s₀.heap.objs.size<=s.heap.objs.size:=yU I.ok.above (BY I.lt)
theorem xY.nofs (I:xY X j8 U H s){a:i3}(h:s.heap.objs.size<=a):a∉X.fs:=λhb=>by
 obtain⟨_,o,ho,_⟩:=I.ok.funs.mem hb;exact absurd (xR (yN ho) (yU I.sz h)) (qU _)
theorem xY.cne (I:xY X j8 U H s): ∀x c,X.env.cells.lookup x=some c->c≠X.env.locals:=λx c e z=>by
 obtain⟨v,o,ho,hd⟩:=I.cell x c e;obtain⟨m,⟨o',es,ep,ho',hd',_⟩,_⟩:=I.loc;rw[z,ho']at ho;cases ho;rw[hd']at hd;cases hd
theorem xY.funs (I:xY X j8 U H s):s.heap.FunFrames X.base X.outer:=by
 have all: ∀(l:a6 Env),(∀b∈frs l,b∈X.fs)->X.s₀.heap.FunFrames X.base l->s.heap.FunFrames X.base l:=by
  intro l
  induction l with
  |nil=>intro _ _;trivial
  |cons env r ih=>
   intro hs hl;obtain⟨hk,⟨L,o,hf,hn,ho,hd⟩,hr⟩:=hl;have hL:L∈X.fs:=hs L (by unfold frs;rw[DU,hf];exact yC);obtain⟨sl,e⟩:=I.base.slot L o ho (I.ok.frf L hL) hL λz=>I.ok.exfs L z hL;exact#[hk,#[L,_,hf,hn,e,hd],ih (λb hb=>hs b (by unfold frs;rw[DU,hf];exact zZ _ hb)) hr]
 exact all X.outer (λ_ hb=>hb) I.ok.funs
theorem xY.stack (I:xY X j8 U H s):s.heap.FunFrames X.base X.stack:=by
 rcases I.ok.stk with e|⟨e,hf⟩
 ·rw[e];exact I.funs
 ·rw[e];obtain⟨m,hn,_⟩:=I.loc;refine .cons (by rw[I.ok.kind];decide) hf hn ?_ I.funs;exact Heap.get?_none_of_le (yU I.ok.bsz I.ok.above)
theorem xY.stkSub (I:xY X j8 U H s): ∀b∈frs X.stack,b∈X.env.locals::X.fs:=λb hb=>by
 rcases I.ok.stk with e|⟨e,hf⟩
 ·rw[e]at hb;exact zZ _ hb
 ·rw[e]at hb;unfold frs at hb;rw[DU,hf]at hb;exact hb
theorem xY.stkFree (I:xY X j8 U H s): ∀b∈frs X.stack,H b=none:=λb hb=>by
 rcases List.mem_cons.mp (I.stkSub b hb)with e|hb
 ·rw[e];exact I.free
 ·obtain⟨_,o,ho,_⟩:=I.ok.funs.mem hb;exact I.base.free b o ho (I.ok.frf b hb) λz=>I.ok.exfs b z hb
theorem xY.step {g':j6 GenState}{t':Nat}{d':Drawn}{ch:a6 i3}(I:xY X j8 U H s)
  (hch: ∀b∈ch,(b∈X.ex\/X.s₀.heap.objs.size<=b)/\b≠X.env.locals/\(∀x c,X.env.cells.lookup x=some c->c≠b)/\ ∀p∈X.pn++j8,p.1≠b)
  (keep: ∀b o,b≠X.env.locals->b∉X.fs->b∉ch->s.heap.get? b=some o->H b=none->h'.get? b=some o)
  (slot: ∀b o,b≠X.env.locals->b∈X.fs->b∉ch->s.heap.get? b=some o->H b=none-> ∃sl,h'.get? b=some {o with slots:=sl}) (free: ∀b o,b∉ch->s.heap.get? b=some o->H b=none->H' b=none)
  (there: ∀b o,b∉ch->s.heap.get? b=some o-> ∃o',h'.get? b=some o')
  (tups: ∀b xs,H b=some (.tup xs)->H' b=some (.tup xs)) (frzs: ∀b o u,H b=some (.frz o u)->H' b=some (.frz o u)) (tbls: ∀b ps,H b=some (.tbl ps)-> ∃more,H' b=some (.tbl (ps++more)))
  (ns: ∀m,s.heap.Ns X.env.locals m->h'.Ns X.env.locals m) (hok:Ix X.prog X.w H' h') (hg:AllBare g'):
  xY X j8 U H' {s with heap:=h',gens:=g',drawn:=d',toks:=t'}:=by
 have neL: ∀b o,X.s₀.heap.get? b=some o->b≠X.env.locals:=λb o e=>xT (xR (yN e) I.ok.above);have neC: ∀b o,X.s₀.heap.get? b=some o->b∉X.ex->b∉ch:=λb o e hx hb=>by
  rcases(hch b hb).1 with z|z
  ·exact hx z
  ·exact absurd (xR (yN e) z) (qU _)
 have cellK: ∀x c,X.env.cells.lookup x=some c-> ∀v,s.heap.IsCell c v->h'.IsCell c v:=λx c e v ⟨o,ho,hd⟩=>by
  have nch:c∉ch:=λz=>(hch c z).2.2.1 x c e rfl
  by_cases hc:c∈X.fs
  ·obtain⟨sl,q⟩:=slot c o (I.cne x c e) hc nch ho (I.freeC x c e);exact#[_,q,hd]
  ·exact#[o,keep c o (I.cne x c e) hc nch ho (I.freeC x c e),hd]
 refine#[I.ok,I.os,hg,#[λb o e n hb hx=>?_,λb o e n hb hx=>?_,λb o e n hx=>?_,λb o e hx=>?_,λb xs e=>tups b xs (I.base.tups b xs e),λb o xs e=>frzs b o xs (I.base.frzs b o xs e),λb ps e=>?_],?_,λx c e=>?_,?_,λx c e=>?_,λp hp=>?_,hok,I.len]
 ·exact keep b o (neL b o e) hb (neC b o e hx) (I.base.keep b o e n hb hx) (I.base.free b o e n hx)
 ·obtain⟨sl,e1⟩:=I.base.slot b o e n hb hx;obtain⟨sl',e2⟩:=slot b _ (neL b o e) hb (neC b o e hx) e1 (I.base.free b o e n hx);exact#[sl',e2]
 ·obtain⟨o',e1⟩:=I.base.there b o e hx;exact free b o' (neC b o e hx) e1 (I.base.free b o e n hx)
 ·obtain⟨o',e1⟩:=I.base.there b o e hx;exact there b o' (neC b o e hx) e1
 ·obtain⟨m1,e1⟩:=I.base.tbls b ps e;obtain⟨m2,e2⟩:=tbls b _ e1;exact#[m1++m2,by rw[e2,Array.append_assoc]]
 ·obtain⟨m,hn,hl⟩:=I.loc;refine#[m,ns m hn,λi x v e1 e2 e3=>?_];obtain⟨u,r,l⟩:=hl i x v e1 e2 e3;refine#[u,r,?_]
  rcases l with l|⟨k,c,e,z⟩
  ·exact .inl l
  ·exact .inr #[k,c,e,cellK x c e _ z]
 ·obtain⟨v,z⟩:=I.cell x c e;exact#[v,cellK x c e v z]
 ·obtain⟨m,⟨o,_,_,ho,_⟩,_⟩:=I.loc;exact free _ o (λz=>(hch _ z).2.1 rfl) ho I.free
 ·obtain⟨v,o,ho,hd⟩:=I.cell x c e;exact free c o (λz=>(hch c z).2.2.1 x c e rfl) ho (I.freeC x c e)
 ·obtain⟨e,n,ne,nf,d⟩:=I.pin p hp;have nch:p.1∉ch:=λz=>(hch p.1 z).2.2.2 p hp rfl;exact#[keep p.1 p.2 ne nf nch e n,free p.1 p.2 nch e n,ne,nf,d]
theorem xY.un {t':Nat}(I:xY X j8 U H s)(u:Un X.fs [] H H' s.heap h')(hok:Ix X.prog X.w H' h'):xY X j8 U H' {s with heap:=h',toks:=t'}:=by
 obtain⟨m,⟨o,es,ep,ho,r⟩,_⟩:=id I.loc;obtain⟨sl,hL⟩:=u.any ho I.free (by simp);exact I.step (g':=s.gens) (d':=s.drawn) (ch:=[]) (λ_ z=>nomatch z) (λb o _ hb _ e n=>u.keep b o e n hb (by simp)) (λb o _ hb _ e n=>u.slot b o e n hb (by simp)) (λb o _ e n=>u.free b o e n (by simp)) (λb o _ e=>u.there b o e (by simp)) u.tups u.frzs u.tbls (λm' hm=>by
  obtain⟨o',es',ep',ho',r'⟩:=hm;rw[ho]at ho';cases ho';exact#[_,es',ep',hL,r']) hok I.bare
theorem xY.call {g':j6 GenState}{t':Nat}{d':Drawn}{ch:a6 i3}(I:xY X j8 U H s)(u:Un (frs X.stack) ch H H' s.heap h')(hok:Ix X.prog X.w H' h')(hg:AllBare g')
  (hch: ∀b∈ch,(b∈X.ex\/X.s₀.heap.objs.size<=b)/\b≠X.env.locals/\(∀x c,X.env.cells.lookup x=some c->c≠b)/\ ∀p∈X.pn++j8,p.1≠b):
  xY X j8 U H' {s with heap:=h',gens:=g',drawn:=d',toks:=t'}:=by
 obtain⟨m,⟨o,es,ep,ho,r⟩,_⟩:=id I.loc;obtain⟨sl,hL⟩:=u.any ho I.free λz=>(hch _ z).2.1 rfl;exact I.step (ch:=ch) hch (λb o hL hb hc e n=>u.keep b o e n (λz=>(List.mem_cons.mp (I.stkSub b z)).elim hL hb) hc) (λb o _ _ hc e n=>u.any e n hc) (λb o hc e n=>u.free b o e n hc) (λb o hc e=>u.there b o e hc) u.tups u.frzs u.tbls (λm' hm=>by
  obtain⟨o',es',ep',ho',r'⟩:=hm;rw[ho]at ho';cases ho';exact#[_,es',ep',hL,r']) hok hg
theorem xY.turned {t':Nat}{it:i3}(I:xY X j8 U H s)(k: ∀b o,b≠it->s.heap.get? b=some o->h'.get? b=some o)(hn:H it=none)(hL:it≠X.env.locals)
  (h1:it∈X.ex\/X.s₀.heap.objs.size<=it) (h2: ∀x c,X.env.cells.lookup x=some c->c≠it) (h3: ∀p∈X.pn++j8,p.1≠it):xY X j8 U H {s with heap:=h',toks:=t'}:=by
 have nit: ∀b u,H b=some u->b≠it:=λb u e z=>by rw[z,hn]at e;cases e
 refine I.step (g':=s.gens) (d':=s.drawn) (ch:=[it]) (λb hb=>?_) (λb o _ _ hc e _=>k b o (λz=>hc (by simp[z])) e) (λb o _ _ hc e _=>#[o.slots,k b o (λz=>hc (by simp[z])) e]) (λ_ _ _ _ n=>n)
  (λb o hc e=>#[o,k b o (λz=>hc (by simp[z])) e]) (λ_ _ e=>e) (λ_ _ _ e=>e) (λb ps e=>#[#[],by rw[e];simp]) (λm hm=>?_) (λb u e=>?_) I.bare
 ·have e:b=it:=by simpa using hb
  subst e;exact#[h1,hL,h2,h3]
 ·obtain⟨o,es,ep,ho,r⟩:=hm;exact#[o,es,ep,k _ o (Ne.symm hL) ho,r]
 ·refine(I.hok b u e).stay (λc v hc q=>k c v ?_ q) (λ_ q=>q) λ_ _ q=>q
  rcases hc with z|z
  ·rw[z];exact nit b u e
  ·exact nit c _ z
theorem xY.tok (I:xY X j8 U H s)(t:Nat):xY X j8 U H {s with toks:=t}:=I.un (h':=s.heap) (t':=t) Un.refl I.hok
theorem xY.kept {t':Nat}(I:xY X j8 U H s)(k: ∀b u,s.heap.get? b=some u->h'.get? b=some u):xY X j8 U H {s with heap:=h',toks:=t'}:=I.un (Un.kept k) (I.hok.kept k)
theorem xY.laid {a:i3}{o:HO}{t':Nat}(I:xY X j8 U H s)(k: ∀b u,s.heap.get? b=some u->h'.get? b=some u)(hp:s.heap.objs.size<=a)(new:vV X.prog X.w (upd H a o) h' a o):
  xY X j8 U (upd H a o) {s with heap:=h',toks:=t'}:=I.un (Un.laid k hp (I.hok.fresh hp)) (I.hok.laid k hp new)
theorem xY.write {x e:i3}{o:HO}{t':Nat}(I:xY X j8 U H s)(mu:Mut (H x))(he:e=x\/H e=some (.own x))(k: ∀b u,b≠e->s.heap.get? b=some u->h'.get? b=some u)(heo: ∃u,h'.get? e=some u)
  (new:vV X.prog X.w (upd H x o) h' x o):xY X j8 U (upd H x o) {s with heap:=h',toks:=t'}:=I.un (Un.write mu he k heo) (I.hok.write mu he k heo new)
theorem xY.pins_of {pins':a6 (i3×j7)}(I:xY X j8 U H s)(h: ∀p∈pins',s.heap.get? p.1=some p.2/\H p.1=none/\p.1≠X.env.locals/\p.1∉X.fs/\ ∀v,p.2.data≠ .cell v):xY X pins' U H s:=
 #[I.ok,I.os,I.bare,I.base,I.loc,I.cell,I.free,I.freeC,λp hp=>(List.mem_append.mp hp).elim (λz=>I.pin p (uK _ z)) (h p),I.hok,I.len]
theorem Px {N:a6 Str}(hN:N.Nodup){i j:Nat}{x:Str}(a:N[i]? =some x)(b:N[j]? =some x):i=j:=by
 obtain⟨h1,e1⟩:=List.getElem?_eq_some_iff.mp a;obtain⟨h2,e2⟩:=List.getElem?_eq_some_iff.mp b;exact(FQ hN).mp (e1.trans e2.symm)
theorem Mv {M:Model}{A:j4}{E:a9->i5->Prop}{i:Nat}{x:Str}{v:V}{u:a9}{Q:Unit->i5->Prop}(I:xY X j8 U H s)(hN:X.N.Nodup)(hi:X.N[i]? =some x)(hx:Loc X.env.scope x)(r:kS v u)
  (h: ∀s',xY X j8 (U.set i (some v)) H s'->(∃a,Heap.SameBut a s.heap s'.heap/\(a=X.env.locals\/X.env.cells.lookup x=some a))->Q Unit.unit s') (hf:autoParam (X.fn x=true\/X.env.scope.names.lookup x=some .local) L2.aA._auto_1):wpAny M A (storeName X.env x u) Q E s:=by
 obtain⟨m,hn,hl⟩:=id I.loc;have hcls:(X.env.scope.kind== .class || (X.env.scope.kind== .module&&X.env.locals !=X.env.globals))=false:=by rw[I.ok.kind];rfl
 have hiσ:i<U.length:=by rw[I.len];exact(List.getElem?_eq_some_iff.mp hi).1
 have cne:=I.cne;have tracked: ∀{a:i3} {h':j3},(∃o,s.heap.get? a=some o/\H a=none)->Heap.SameBut a s.heap h'->Ix X.prog X.w H h':=fun{a h'} ha hs b ob e=>by
  obtain⟨_,_,hfree⟩:=ha;refine(I.hok b ob e).stay (λc w' hc q=>(hs.2 c ?_).trans q) (λ_ q=>q) λ_ _ q=>q;rintro rfl
  rcases hc with rfl|hc
  ·rw[hfree]at e;cases e
  ·rw[hfree]at hc;cases hc
 rcases hx with hk|hk
 ·refine wpAny_storeName_local hk hn (λh' hn' hs=>?_) hcls;obtain⟨oL,_,_,hoL,_⟩:=id hn;refine h _ #[I.ok,I.os,I.bare,#[λb o e n hb hx=>?_,λb o e n hb hx=>?_,I.base.free,λb o e hx=>?_,I.base.tups,I.base.frzs,I.base.tbls],#[_,hn',λj y v' e1 e2 e3=>?_],λy c e=>?_,I.free,I.freeC,λp hp=>?_,tracked #[oL,hoL,I.free] hs,by simpa using I.len] #[_,hs,.inl rfl]
  ·exact(hs.2 b (xT (xR (yN e) I.ok.above))).trans (I.base.keep b o e n hb hx)
  ·obtain⟨sl,e1⟩:=I.base.slot b o e n hb hx;exact#[sl,(hs.2 b (xT (xR (yN e) I.ok.above))).trans e1]
  ·obtain⟨o',e1⟩:=I.base.there b o e hx;exact#[o',(hs.2 b (xT (xR (yN e) I.ok.above))).trans e1]
  ·by_cases hj:j=i
   ·subst hj;rw[hi]at e1;cases e1;rw[List.getElem?_set_self hiσ]at e2;cases e2;exact#[u,r,.inl #[hk,by simp]]
   ·rw[List.getElem?_set_ne (Ne.symm hj)]at e2;obtain⟨u',r',q⟩:=hl j y v' e1 e2 e3;refine#[u',r',?_]
    rcases q with⟨k,e⟩|⟨k,c,e,z⟩
    ·refine .inl #[k,?_];have:y≠x:=λe=>hj (Px hN e1 (e▸hi))
     simp[this,e]
    ·exact .inr #[k,c,e,z.sameBut hs (cne y c e)]
  ·obtain⟨w',z⟩:=I.cell y c e;exact#[w',z.sameBut hs (cne y c e)]
  ·obtain⟨e,n,ne,nf,d⟩:=I.pin p hp;exact#[(hs.2 p.1 ne).trans e,n,ne,nf,d]
 ·have hfn:X.fn x=true:=by
   rcases hf with z|z
   ·exact z
   ·rw[z]at hk;cases hk
  obtain⟨c,hc⟩:=I.ok.has x (.inl hk);obtain⟨w',z⟩:=I.cell x c hc;refine wpAny_storeName_cell I.ok.kind hk hc z (λh' hc' hs=>?_);obtain⟨oc,hoc,hocd⟩:=id z;refine h {s with heap:=h'} #[I.ok,I.os,I.bare,#[λb o e n hb hx=>?_,λb o e n hb hx=>?_,I.base.free,λb o e hx=>?_,I.base.tups,I.base.frzs,I.base.tbls],#[m,hn.sameBut hs (Ne.symm (cne x c hc)),λj y v' e1 e2 e3=>?_],λy c' e=>?_,I.free,I.freeC,λp hp=>?_,tracked #[oc,hoc,I.freeC x c hc] hs,by simpa using I.len] #[c,hs,.inr hc]
  ·exact(hs.2 b (xT (xR (yN e) (I.ok.cab x c hfn hc)))).trans (I.base.keep b o e n hb hx)
  ·obtain⟨sl,e1⟩:=I.base.slot b o e n hb hx;exact#[sl,(hs.2 b (xT (xR (yN e) (I.ok.cab x c hfn hc)))).trans e1]
  ·obtain⟨o',e1⟩:=I.base.there b o e hx;exact#[o',(hs.2 b (xT (xR (yN e) (I.ok.cab x c hfn hc)))).trans e1]
  ·by_cases hj:j=i
   ·subst hj;rw[hi]at e1;cases e1;rw[List.getElem?_set_self hiσ]at e2;cases e2;exact#[u,r,.inr #[.inl hk,c,hc,hc']]
   ·rw[List.getElem?_set_ne (Ne.symm hj)]at e2;obtain⟨u',r',q⟩:=hl j y v' e1 e2 e3;refine#[u',r',?_]
    rcases q with q|⟨k,c',e,z'⟩
    ·exact .inl q
    ·refine .inr #[k,c',e,z'.sameBut hs ?_];rintro rfl;exact hj (Px hN e1 (I.ok.inj _ _ _ e hc▸hi))
  ·by_cases hcc:c'=c
   ·subst hcc;exact#[_,hc']
   ·obtain⟨w2,z2⟩:=I.cell y c' e;exact#[w2,z2.sameBut hs hcc]
  ·obtain⟨e,n,ne,nf,d⟩:=I.pin p hp;refine#[(hs.2 p.1 ?_).trans e,n,ne,nf,d];intro q;rw[q,hoc]at e;have q':oc=p.2:=jN e;exact d w' (by rw[<-q'];exact hocd)
theorem OJ {M:Model}{A:j4}{E:a9->i5->Prop}{i:Nat}{x:Str}{v:V}{u:a9}{Q:Unit->i5->Prop}(I:xY X j8 U H s)(hN:X.N.Nodup)(hi:X.N[i]? =some x)(hx:Loc X.env.scope x)(r:kS v u)
  (h: ∀s',xY X j8 (U.set i (some v)) H s'->Q Unit.unit s') (hf:autoParam (X.fn x=true\/X.env.scope.names.lookup x=some .local) L2.aA._auto_1):wpAny M A (storeName X.env x u) Q E s:=
 Mv I hN hi hx r (λs' I' _=>h s' I') hf
theorem xY.call' {s':i5}{ch:a6 i3}(I:xY X j8 U H s)(ho:s'.os=s.os)(u:Un (frs X.stack) ch H H' s.heap s'.heap)(hok:Ix X.prog X.w H' s'.heap)(hg:AllBare s'.gens)
  (hch: ∀b∈ch,(b∈X.ex\/X.s₀.heap.objs.size<=b)/\b≠X.env.locals/\(∀x c,X.env.cells.lookup x=some c->c≠b)/\ ∀p∈X.pn++j8,p.1≠b):xY X j8 U H' s':=by
 obtain⟨h',g',d',t',o'⟩:=s';have e:o'=s.os:=ho;subst e;exact I.call (g':=g') (t':=t') (d':=d') u hok hg hch
end
abbrev XK:=a9->i4 i3->Hp->Prop
abbrev St:=a6 (i4 V)
abbrev VK:=V->Hp->Prop
abbrev TE:=St->Hp->VK->Prop
abbrev TT:=St->Hp->(i7->Hp->Prop)->Prop
abbrev TA:=St->Hp->(a6 V->Hp->Prop)->Prop
structure FI where
 nx:St->Hp->Prop
 rt:VK
 bk:St->Hp->Prop:=λ_ _=>False
 ct:St->Hp->Prop:=λ_ _=>False
abbrev TS:=FI->St->Hp->Prop
def EP (X:Cx)(j8:a6 (i3×j7))(U:St)(Q:VK)(u:a9)(s':i5):Prop:= ∃v H',xY X j8 U H' s'/\kS v u/\Q v H'
def TP (X:Cx)(j8:a6 (i3×j7))(U:St)(Q:i7->Hp->Prop)(b:i7)(s':i5):Prop:= ∃H',xY X j8 U H' s'/\Q b H'
def AP (X:Cx)(j8:a6 (i3×j7))(U:St)(Q:a6 V->Hp->Prop)(us:a6 a9)(s':i5):Prop:= ∃vs H',xY X j8 U H' s'/\jU vs us/\Q vs H'
def SP (X:Cx)(j8:a6 (i3×j7))(D:FI)(f:Flow)(s':i5):Prop:=
 match f with
 | .next=> ∃U' H',xY X j8 U' H' s'/\D.nx U' H'
 | .brk=> ∃U' H',xY X j8 U' H' s'/\D.bk U' H'
 | .cont=> ∃U' H',xY X j8 U' H' s'/\D.ct U' H'
 | .ret u=> ∃v U' H',xY X j8 U' H' s'/\kS v u/\D.rt v H'
structure PE (X:Cx)(e:j5)(t:TE):Prop where
 go: ∀(j8:List (i3×j7)) (s:i5) (U:St) (H:Hp) (Q:VK),xY X j8 U H s->t U H Q->wpAny (model X.prog X.w) X.A (eval e X.env) (EP X j8 U Q) X.xe s
instance {X:Cx}{e:j5}{t:TE}:CoeFun (PE X e t) (λ_=> ∀(j8:a6 (i3×j7)) (s:i5) (U:St) (H:Hp) (Q:VK),xY X j8 U H s->t U H Q->wpAny (model X.prog X.w) X.A (eval e X.env) (EP X j8 U Q) X.xe s):=#[PE.go]
structure PT (X:Cx)(e:j5)(t:TT):Prop where
 go: ∀(j8:List (i3×j7)) (s:i5) (U:St) (H:Hp) (Q:i7->Hp->Prop),xY X j8 U H s->t U H Q->wpAny (model X.prog X.w) X.A (isTrue e X.env (eval e X.env)) (TP X j8 U Q) X.xe s
instance {X:Cx}{e:j5}{t:TT}:CoeFun (PT X e t) (λ_=> ∀(j8:a6 (i3×j7)) (s:i5) (U:St) (H:Hp) (Q:i7->Hp->Prop),xY X j8 U H s->t U H Q->wpAny (model X.prog X.w) X.A (isTrue e X.env (eval e X.env)) (TP X j8 U Q) X.xe s):=#[PT.go]
structure PW (X:Cx)(e:j5)(t:TT):Prop where
 go: ∀(whole:Sem a9) (j8:List (i3×j7)) (s:i5) (U:St) (H:Hp) (Q:i7->Hp->Prop),xY X j8 U H s->t U H Q->wpAny (model X.prog X.w) X.A (isTrue e X.env whole) (TP X j8 U Q) X.xe s
instance {X:Cx}{e:j5}{t:TT}:CoeFun (PW X e t) (λ_=> ∀(whole:Sem a9) (j8:a6 (i3×j7)) (s:i5) (U:St) (H:Hp) (Q:i7->Hp->Prop),xY X j8 U H s->t U H Q->wpAny (model X.prog X.w) X.A (isTrue e X.env whole) (TP X j8 U Q) X.xe s):=#[PW.go]
theorem PW.pt {X:Cx}{e:j5}{t:TT}(h:PW X e t):PT X e t:=#[h _]
structure PA (X:Cx)(es:List j5)(t:TA):Prop where
 go: ∀(pos:Pos) (j8:List (i3×j7)) (s:i5) (U:St) (H:Hp) (Q:List V->Hp->Prop),xY X j8 U H s->t U H Q->wpAny (model X.prog X.w) X.A (spliced (backTo pos (starEach es X.env))) (AP X j8 U Q) X.xe s
instance {X:Cx}{es:a6 j5}{t:TA}:CoeFun (PA X es t) (λ_=> ∀(pos:Pos) (j8:a6 (i3×j7)) (s:i5) (U:St) (H:Hp) (Q:a6 V->Hp->Prop),xY X j8 U H s->t U H Q->wpAny (model X.prog X.w) X.A (spliced (backTo pos (starEach es X.env))) (AP X j8 U Q) X.xe s):=#[PA.go]
structure PS (X:Cx)(st:i8)(t:TS):Prop where
 go: ∀(j8:List (i3×j7)) (s:i5) (U:St) (H:Hp) (D:FI),xY X j8 U H s->t D U H->wpAny (model X.prog X.w) X.A (exec st X.env) (SP X j8 D) X.xe s
instance {X:Cx}{st:i8}{t:TS}:CoeFun (PS X st t) (λ_=> ∀(j8:a6 (i3×j7)) (s:i5) (U:St) (H:Hp) (D:FI),xY X j8 U H s->t D U H->wpAny (model X.prog X.w) X.A (exec st X.env) (SP X j8 D) X.xe s):=#[PS.go]
structure Qw (X:Cx)(st:List i8)(t:TS):Prop where
 go: ∀(j8:List (i3×j7)) (s:i5) (U:St) (H:Hp) (D:FI),xY X j8 U H s->t D U H->wpAny (model X.prog X.w) X.A (execs st X.env) (SP X j8 D) X.xe s
instance {X:Cx}{st:a6 i8}{t:TS}:CoeFun (Qw X st t) (λ_=> ∀(j8:a6 (i3×j7)) (s:i5) (U:St) (H:Hp) (D:FI),xY X j8 U H s->t D U H->wpAny (model X.prog X.w) X.A (execs st X.env) (SP X j8 D) X.xe s):=#[Qw.go]
theorem wO {α:Type}{t:Sem α}{Q Q':α->i5->Prop}{M:Model}{A:j4}{E:a9->i5->Prop}{s:i5}(h:wpAny M A t Q E s)(hQ: ∀a s,Q a s->Q' a s):wpAny M A t Q' E s:=AM h hQ λ_ _ x=>x
section
variable {X:Cx}
inductive Zi (i:Nat) (U:St) (H:Hp) (Q:VK):Prop
 |mk (v:_) (h0:U[i]? =some (some v)) (h1:Q v H):Zi i U H Q
def tC (v:V):TE:=λ_ H Q=>Q v H
theorem ZH {i:Nat}{x:Str}{pos:Pos}(hN:X.N[i]? =some x)(hv:Vis X.env.scope x)(hd:autoParam ((x==("__debug__":Str))=false) L2.aB._auto_1)(hcd:autoParam ((x==("__classdict__":Str))=false) L2.aB._auto_1):PE X (.Name x pos) (Zi i):=by
 refine#[?_];intro j8 s U H Q I h;obtain⟨v,e,h⟩:=h;obtain⟨m,hn,hl⟩:=I.loc;obtain⟨u,r,l⟩:=hl i x v hN e hv;have fin:EP X j8 U Q u s:=#[v,H,I,r,h]
 rcases l with⟨hk,hm⟩|⟨hk,c,hc,hcell⟩
 ·exact wpAny_Name (wpAny_loadName_local I.ok.kind hk hn hm fin) hd
 ·rcases hk with hk|hk
  ·exact wpAny_Name (wpAny_loadName_cell I.ok.kind hk hc hcell fin) hd
  ·exact wpAny_Name (wpAny_loadName_free I.ok.kind hk hc hcell fin hcd) hd
theorem zH {i j pos}:PE X (.Constant (.int i) j pos) (tC (.int i)):=#[λ_ _ _ H _ I h=>wpAny_Constant_int #[.int i,H,I.tok _,#[-1],h]]
theorem kX {b j pos}:PE X (.Constant (.bool b) j pos) (tC (.bl b)):=#[λ_ _ _ H _ I h=>Constant_bool #[.bl b,H,I,rfl,h]]
theorem qL {j pos}:PE X (.Constant .none j pos) (tC .non):=#[λ_ _ _ H _ I h=>Constant_none #[.non,H,I,rfl,h]]
theorem ZI {x j pos}:PE X (.Constant (.str x) j pos) (tC (.str x)):=#[λ_ _ _ H _ I h=>Calls.Constant_str #[.str x,H,I.tok _,#[-1],h]]
def Gl (X:Cx)(x:Str):Prop:=X.env.kindOf x=some .globalImplicit
theorem Kv {E:a9->i5->Prop}{j8:a6 (i3×j7)}{s:i5}{U:St}{H:Hp}{x:Str}{u:a9}{pos:Pos}{Q:a9->i5->Prop}(I:xY X j8 U H s)(hg:Gl X x)(hm:X.mg x=some u)(h:Q u s)
  (hd:autoParam ((x==("__debug__":Str))=false) L2.aB._auto_1):wpAny (model X.prog X.w) X.A (eval (.Name x pos) X.env) Q E s:=
 Calls.Name_function_global I.ok.kind hg (Calls.loadGlobal_global (by rw[I.ok.glob];exact I.mod.glob.keeps I.bk) hm h) hd
theorem Eu {E:a9->i5->Prop}{j8:a6 (i3×j7)}{s:i5}{U:St}{H:Hp}{x:Str}{u:a9}{pos:Pos}{Q:a9->i5->Prop}(I:xY X j8 U H s)(hg:Gl X x)(hm:X.mg x=none)(hv:bootBuiltins x=some u)(h:Q u s)
  (hn:autoParam (x≠"__name__") L2.aB._auto_1) (hd:autoParam ((x==("__debug__":Str))=false) L2.aB._auto_1):wpAny (model X.prog X.w) X.A (eval (.Name x pos) X.env) Q E s:=by
 obtain⟨mb,h1,h2⟩:=I.mod.blt;exact Calls.Name_function_global I.ok.kind hg (Calls.loadGlobal_builtin (by rw[I.ok.glob];exact I.mod.glob.keeps I.bk) hm (by rw[I.ok.blt];exact h1.keeps I.bk) ((h2 x hn).trans hv) h) hd
theorem Sz {x:Str}{v:V}{u:a9}{pos:Pos}(hg:Gl X x)(hm:X.mg x=some u)(r:kS v u)(hd:autoParam ((x==("__debug__":Str))=false) L2.aB._auto_1):PE X (.Name x pos) (tC v):=#[λ_ _ _ H _ I h=>Kv I hg hm #[v,H,I,r,h] hd]
theorem Bt {x:Str}{v:V}{u:a9}{pos:Pos}(hg:Gl X x)(hm:X.mg x=none)(hv:bootBuiltins x=some u)(r:kS v u)(hn:autoParam (x≠"__name__") L2.aB._auto_1)(hd:autoParam ((x==("__debug__":Str))=false) L2.aB._auto_1):PE X (.Name x pos) (tC v):=#[λ_ _ _ H _ I h=>Eu I hg hm hv #[v,H,I,r,h] hn hd]
variable {a b:j5}{ta tb:TE}{pos:Pos}
structure PC (X:Cx)(op:CmpOp)(a b:j5)(t:TE):Prop where
 go: ∀(j8:List (i3×j7)) (s:i5) (U:St) (H:Hp) (Q:VK),xY X j8 U H s->t U H Q->
  wpAny (model X.prog X.w) X.A (eval a X.env) (λv s₁=>wpAny (model X.prog X.w) X.A (eval b X.env) (λu s₂=>wpAny (model X.prog X.w) X.A (compareOp op v u) (EP X j8 U Q) X.xe s₂) X.xe s₁) X.xe s
instance {X:Cx}{op:CmpOp}{a b:j5}{t:TE}:CoeFun (PC X op a b t) (λ_=> ∀(j8:a6 (i3×j7)) (s:i5) (U:St) (H:Hp) (Q:VK),xY X j8 U H s->t U H Q->
  wpAny (model X.prog X.w) X.A (eval a X.env) (λv s₁=>wpAny (model X.prog X.w) X.A (eval b X.env) (λu s₂=>wpAny (model X.prog X.w) X.A (compareOp op v u) (EP X j8 U Q) X.xe s₂) X.xe s₁) X.xe s):=#[PC.go]
theorem PB (b:j5){op:CmpOp}(h:op≠ .In)(h2:op≠ .NotIn):behindInMarks op b=false:=by
 have e1:(op==CmpOp.In)=false:=by cases op<;>first|rfl|exact absurd rfl h
 have e2:(op==CmpOp.NotIn)=false:=by cases op<;>first|rfl|exact absurd rfl h2
 cases b<;>simp[behindInMarks,e1,e2]
def tB (t:TE):TT:=λU H Q=>t U H λx H1=> ∃c,x=.bl c/\Q c H1
theorem ZJ {op:CmpOp}{t:TE}(h:PC X op a b t)(h1:autoParam (behindInMarks op b=false) L2.aC._auto_1):PE X (.Compare a [op] [b] pos) t:=#[λj8 s U H Q I hw=>wpAny_Compare1 (h j8 s U H Q I hw) h1]
theorem NR {op:CmpOp}{t:TE}(h:PC X op a b t)(h1:autoParam (behindInMarks op b=false) L2.aC._auto_1):PT X (.Compare a [op] [b] pos) (tB t):=by
 refine#[?_];intro j8 s U H Q I hw;refine wpAny_isTrue_Compare1 (wO (h j8 s U H _ I hw) λv s1 h1=>wO h1 λu s2 h2=>wO h2 λc s3 ⟨x,H1,I1,r1,q1⟩=>?_) h1;obtain⟨d,rfl,q⟩:=q1;cases r1;exact qN #[H1,I1,q]
theorem kT {e:j5}{t:TE}(h:PE X e t)(he:autoParam ( ∀whole,isTrue e X.env whole=(do let v<-whole;standAt e.pos;holding [v] (truthy v))) L2.aD._auto_1):PT X e (tB t):=by
 refine#[?_];intro j8 s U H Q I hw;refine isTrue_plain (wO (h j8 s U H _ I hw) λv s1 ⟨x,H1,I1,r1,q1⟩=>?_) (he _);obtain⟨d,rfl,q⟩:=q1;cases r1;exact qN #[H1,I1,q]
variable {tA tB':TT}{rest:a6 j5}
def zEw (t u:TT):TT:=λU H Q=>t U H λc H1=>if c=true then u U H1 Q else Q false H1
def tOr (t u:TT):TT:=λU H Q=>t U H λc H1=>if c=true then Q true H1 else u U H1 Q
def zEp (t:TT):TT:=λU H Q=>t U H λc H1=>Q (!c) H1
theorem DZ (ha:PT X a tA):PW X (.BoolOp .And [a] pos) tA:=by
 refine#[?_];intro wh j8 s U H Q I h;refine isTrue_and (wO (ha j8 s U H Q I h) λc s1 e=>?_);cases c with
 |true=>exact isTrue_and_nil e
 |false=>exact e
theorem kK (ha:PT X a tA):PW X (.BoolOp .Or [a] pos) tA:=by
 refine#[?_];intro wh j8 s U H Q I h;refine isTrue_or (wO (ha j8 s U H Q I h) λc s1 e=>?_);cases c with
 |false=>exact isTrue_or_nil e
 |true=>exact e
theorem Ep (ha:PT X a tA)(hb:PW X (.BoolOp .And (b::rest) pos) tB'):PW X (.BoolOp .And (a::b::rest) pos) (zEw tA tB'):=by
 refine#[?_];intro wh j8 s U H Q I h;refine isTrue_and (wO (ha j8 s U H _ I h) λc s1 m7=>?_);obtain⟨H1,I1,q1⟩:=m7;cases c with
 |true=>exact hb wh j8 s1 U H1 Q I1 q1
 |false=>exact#[H1,I1,q1]
theorem qF (ha:PT X a tA)(hb:PW X (.BoolOp .Or (b::rest) pos) tB'):PW X (.BoolOp .Or (a::b::rest) pos) (tOr tA tB'):=by
 refine#[?_];intro wh j8 s U H Q I h;refine isTrue_or (wO (ha j8 s U H _ I h) λc s1 m7=>?_);obtain⟨H1,I1,q1⟩:=m7;cases c with
 |true=>exact#[H1,I1,q1]
 |false=>exact hb wh j8 s1 U H1 Q I1 q1
theorem qK (ha:PT X a tA):PT X (.UnaryOp .Not a pos) (zEp tA):=by
 refine#[?_];intro j8 s U H Q I h;exact isTrue_not (ha j8 s U H (λc H1=>Q (!c) H1) I h)
def UO (ta tb:TE):TE:=λU H Q=>ta U H λx H1=> ∃c,x=.bl c/\if c=true then tb U H1 Q else Q (.bl false) H1
def zBj (ta:TE):TE:=λU H Q=>ta U H λx H1=> ∃c,x=.bl c/\Q (.bl (!c)) H1
theorem BP {op}{t:TE}(h:PE X a t):PE X (.BoolOp op [a] pos) t:=#[λj8 s U H Q I hw=>BoolOp_one (h j8 s U H Q I hw)]
theorem Af (ha:PE X a ta)(hb:PE X (.BoolOp .And (b::rest) pos) tb):PE X (.BoolOp .And (a::b::rest) pos) (UO ta tb):=by
 refine#[?_];intro j8 s U H Q I h;refine BoolOp_and (wO (ha j8 s U H _ I h) λv s1 m7=>?_);obtain⟨x,H1,I1,r1,q1⟩:=m7;obtain⟨c,rfl,q1⟩:=q1;cases r1;refine qN ?_;cases c with
 |true=>exact hb j8 s1 U H1 Q I1 q1
 |false=>exact#[.bl false,H1,I1,rfl,q1]
theorem Vq (ha:PE X a ta):PE X (.UnaryOp .Not a pos) (zBj ta):=by
 refine#[?_];intro j8 s U H Q I h;refine UnaryOp_ (wO (ha j8 s U H _ I h) λv s1 m7=>?_);obtain⟨x,H1,I1,r1,q1⟩:=m7;obtain⟨c,rfl,q1⟩:=q1;cases r1;exact not_of (qN #[.bl (!c),H1,I1,rfl,q1])
def tIf (t:TT)(ta tb:TE):TE:=λU H Q=>t U H λc H1=>if c=true then ta U H1 Q else tb U H1 Q
theorem IQ {c:j5}(hc:PT X c tA)(ha:PE X a ta)(hb:PE X b tb):PE X (.IfExp c a b pos) (tIf tA ta tb):=by
 refine#[?_];intro j8 s U H Q I h;refine wpAny_IfExp (wO (hc j8 s U H _ I h) λd s1 m7=>?_);obtain⟨H1,I1,q1⟩:=m7;cases d with
 |true=>exact ha j8 s1 U H1 Q I1 q1
 |false=>exact hb j8 s1 U H1 Q I1 q1
end
def kF (K:a7)(H:Hp)(a:i3)(xs:a6 V):Prop:=
 Rd H a (.lst xs)\/
  ∃(o:j7) (its:j6 a9) (n:Nat),K.lookup a=some o/\o.cls=.type "list"/\o.dict=none/\o.data=.seq its n/\its.size<=sizeLine/\jU xs its.toList
def uZ (K:a7)(H:Hp)(a:i3)(xs:a6 V):Prop:=
 Rd H a (.tup xs)\/
  ∃(o:j7) (its:j6 a9) (n:Nat),K.lookup a=some o/\o.cls=.type "tuple"/\o.data=.seq its n/\its.size<=sizeLine/\jU xs its.toList
noncomputable def zHb:a9->i4 V
 | .none=>some .non
 | .bool b=>some (.bl b)
 | .int i _=>some (.int i)
 | .str x _=>some (.str x)
 | .bytes b _=>some (.byt b)
 | .float b _=>some (.flt b)
 | .ref a=>some (.ref a)
 | .type n=>some (.ty n)
 |_=>none
theorem kS.abs {x:V}{u:a9}(r:kS x u):zHb u=some x:=by
 cases x with
 |non=>cases r;rfl
 |bl _=>cases r;rfl
 |int _=>obtain⟨t,rfl⟩:=r;rfl
 |str _=>obtain⟨t,rfl⟩:=r;rfl
 |byt _=>obtain⟨t,rfl⟩:=r;rfl
 |flt _=>obtain⟨t,rfl⟩:=r;rfl
 |ref _=>cases r;rfl
 |ty _=>cases r;rfl
theorem kS.inj {x y:V}{u:a9}(r:kS x u)(q:kS y u):x=y:=jN (r.abs.symm.trans q.abs)
theorem jU.inj {xs ys:a6 V}{us:a6 a9}(h:jU xs us)(q:jU ys us):xs=ys:=by
 induction h generalizing ys with
 |nil=>cases q;rfl
 |cons r t ih=>
  cases q with
  |cons r' t'=>rw[r.inj r',ih t']
section
variable {X:Cx}{j8:a6 (i3×j7)}{U:St}{H:Hp}{s:i5}{a:i3}{xs ys:a6 V}
theorem kF.of {K:a7}(h:H a=some (.lst xs)):kF K H a xs:=.inl (.inl h)
theorem uZ.of {K:a7}(h:H a=some (.tup xs)):uZ K H a xs:=.inl (.inl h)
theorem xY.list (I:xY X j8 U H s)(h:kF X.K H a xs): ∃its:a6 a9,jU xs its/\PlainL s.heap a its.toArray/\xs.length<=sizeLine:=by
 rcases h with h|⟨o,its,n,hk,hc,hd,hs,hz,r⟩
 ·obtain⟨z,its,n,r,e⟩:=h.ok I.hok;exact#[its,r,#[_,n,e,rfl,rfl,rfl],z]
 ·refine#[its.toList,r,#[o,n,I.kIn a o hk,hc,hd,by simpa using hs],?_];have e:=r.length;simp only[vC]at e;lia
theorem xY.tuple (I:xY X j8 U H s)(h:uZ X.K H a xs): ∃its:a6 a9,jU xs its/\IsTup s.heap a its.toArray/\xs.length<=sizeLine:=by
 rcases h with h|⟨o,its,n,hk,hc,hs,hz,r⟩
 ·obtain⟨z,its,r,p⟩:=h.ok I.hok;exact#[its,r,p,z]
 ·refine#[its.toList,r,#[o,I.kIn a o hk,hc,n,by simpa using hs],?_];have e:=r.length;simp only[vC]at e;lia
theorem xY.list_inj (I:xY X j8 U H s)(h:kF X.K H a xs)(h':kF X.K H a ys):xs=ys:=by
 obtain⟨its,r,⟨o,n,e,_,_,d⟩,_⟩:=I.list h;obtain⟨its',r',⟨o',n',e',_,_,d'⟩,_⟩:=I.list h';rw[e]at e';cases e';rw[d]at d';injection d' with d1 _
 have:its=its':=by simpa using qX Array.toList d1
 subst this;exact r.inj r'
theorem xY.tuple_inj (I:xY X j8 U H s)(h:uZ X.K H a xs)(h':uZ X.K H a ys):xs=ys:=by
 obtain⟨its,r,⟨o,e,_,n,d⟩,_⟩:=I.tuple h;obtain⟨its',r',⟨o',e',_,n',d'⟩,_⟩:=I.tuple h';rw[e]at e';cases e';rw[d]at d';injection d' with d1 _
 have:its=its':=by simpa using qX Array.toList d1
 subst this;exact r.inj r'
end
noncomputable abbrev Cx.wish (X:Cx)(E:a9->i5->Prop):Cx:={X with xe:=E}
noncomputable abbrev Cx.nox (X:Cx):Cx:=X.wish λ_ _=>False
theorem Cx.Ok.wish {X:Cx}(ok:X.Ok)(E:a9->i5->Prop):(X.wish E).Ok:=
 #[ok.mod,ok.kind,ok.glob,ok.blt,ok.above,ok.inj,ok.has,ok.cab,ok.hd,ok.frames,ok.stk,ok.exf,ok.bs,ok.bsz,ok.noex,ok.exfs,ok.funs,ok.frf]
theorem Cx.Ok.unwish {X:Cx}{E:a9->i5->Prop}(ok:(X.wish E).Ok):X.Ok:=
 #[ok.mod,ok.kind,ok.glob,ok.blt,ok.above,ok.inj,ok.has,ok.cab,ok.hd,ok.frames,ok.stk,ok.exf,ok.bs,ok.bsz,ok.noex,ok.exfs,ok.funs,ok.frf]
section
variable {X:Cx}{j8:a6 (i3×j7)}{U:St}{H:Hp}{s:i5}{E:a9->i5->Prop}
theorem xY.wish (I:xY X j8 U H s)(E:a9->i5->Prop):xY (X.wish E) j8 U H s:=#[I.ok.wish E,I.os,I.bare,I.base,I.loc,I.cell,I.free,I.freeC,I.pin,I.hok,I.len]
theorem xY.unwish (I:xY (X.wish E) j8 U H s):xY X j8 U H s:=#[I.ok.unwish,I.os,I.bare,I.base,I.loc,I.cell,I.free,I.freeC,I.pin,I.hok,I.len]
theorem SP.unwish {D:FI}{f:Flow}{s':i5}(h:SP (X.wish E) j8 D f s'):SP X j8 D f s':=by
 cases f with
 |next=>obtain⟨U',H',I,q⟩:=h;exact#[U',H',I.unwish,q]
 |brk=>obtain⟨U',H',I,q⟩:=h;exact#[U',H',I.unwish,q]
 |cont=>obtain⟨U',H',I,q⟩:=h;exact#[U',H',I.unwish,q]
 |ret u=>obtain⟨v,U',H',I,r,q⟩:=h;exact#[v,U',H',I.unwish,r,q]
theorem Qw.nox {st:a6 i8}{t:TS}(h:Qw X.nox st t):Qw X st t:=#[λj8 s U H D I hw=>
 AM (h j8 s U H D (I.wish _) hw) (λ_ _ q=>q.unwish) λ_ _ z=>False.elim z]
end
section
variable {X:Cx}{st:i8}{rest:a6 i8}{t u:TS}{e:j5}{te:TE}{pos:Pos}
def zBk:TS:=λD U H=>D.nx U H
def zBh (t u:TS):TS:=λD U H=>t {D with nx:=u D} U H
theorem yD:Qw X [] zBk:=#[λ_ _ U H _ I h=>DK #[U,H,I,h]]
theorem zB (h1:PS X st t)(h2:Qw X rest u):Qw X (st::rest) (zBh t u):=by
 refine#[?_];intro j8 s U H D I h;refine wpAny_execs_cons (wO (h1 j8 s U H {D with nx:=u D} I h) λf s1 q=>?_);cases f with
 |next=>
  obtain⟨U',H',I',q⟩:=q;exact h2 j8 s1 U' H' D I' q
 |ret v=>exact q
 |brk=>exact q
 |cont=>exact q
theorem zI (h1:PS X st t):Qw X [st] t:=by
 refine#[?_];intro j8 s U H D I h;refine wpAny_execs_cons (wO (h1 j8 s U H D I h) λf s1 q=>?_);cases f with
 |next=>exact DK q
 |ret v=>exact q
 |brk=>exact q
 |cont=>exact q
theorem xY.quiet {j8:a6 (i3×j7)}{U:St}{H:Hp}{s:i5}(I:xY X j8 U H s):interactive X.env=false:=by simp[interactive,I.ok.kind]
def zBm (te:TE):TS:=λD U H=>te U H λ_ H1=>D.nx U H1
theorem jM (he:PE X e te)(hs:autoParam (swapsWith e none pos.line X.env=pure false) L2.aE._auto_1):PS X (.Expr e pos) (zBm te):=by
 refine#[?_];intro j8 s U H D I h;exact wpAny_Expr_any (wO (he j8 s U H _ I h) λv s1 ⟨x,H1,I1,r1,q1⟩=>#[U,H1,I1,q1]) I.quiet hs
def Zj (te:TE):TS:=λD U H=>te U H D.rt
theorem zV (he:PE X e te):PS X (.Return (some e) pos) (Zj te):=by
 refine#[?_];intro j8 s U H D I h;exact wpAny_Return_some (wO (he j8 s U H _ I h) λv s1 ⟨x,H1,I1,r1,q1⟩=>#[x,U,H1,I1,r1,q1])
def zEr (c:TT)(t u:TS):TS:=λD U H=>c U H λb H1=>if b=true then t D U H1 else u D U H1
theorem xC {c:j5}{a b:a6 i8}{tc:TT}(hc:PT X c tc)(ha:Qw X a t)(hb:Qw X b u):PS X (.If c a b pos) (zEr tc t u):=by
 refine#[?_];intro j8 s U H D I h;refine wpAny_If (wO (hc j8 s U H _ I h) λd s1 m7=>?_);obtain⟨H1,I1,q1⟩:=m7;cases d with
 |true=>exact ha j8 s1 U H1 D I1 q1
 |false=>exact hb j8 s1 U H1 D I1 q1
def Zk:TS:=λ_ _ _=>False
theorem Bm:PS X st Zk:=#[λ_ _ _ _ _ _ h=>h.elim]
end
abbrev TG:=V->St->Hp->(St->Hp->Prop)->Prop
abbrev TGs:=a6 V->St->Hp->(St->Hp->Prop)->Prop
structure PG (X:Cx)(n9:j5)(t:TG):Prop where
 go: ∀(j8:List (i3×j7)) (s:i5) (U:St) (H:Hp) (v:V) (u:a9) (Q:St->Hp->Prop),xY X j8 U H s->kS v u->t v U H Q->
  wpAny (model X.prog X.w) X.A (assign n9 X.env u) (λ_ s'=> ∃U' H',xY X j8 U' H' s'/\Q U' H') X.xe s
instance {X:Cx}{n9:j5}{t:TG}:CoeFun (PG X n9 t) (λ_=> ∀(j8:a6 (i3×j7)) (s:i5) (U:St) (H:Hp) (v:V) (u:a9) (Q:St->Hp->Prop),xY X j8 U H s->kS v u->t v U H Q->
  wpAny (model X.prog X.w) X.A (assign n9 X.env u) (λ_ s'=> ∃U' H',xY X j8 U' H' s'/\Q U' H') X.xe s):=#[PG.go]
structure YV (X:Cx)(ts:List j5)(t:TGs):Prop where
 go: ∀(j8:List (i3×j7)) (s:i5) (U:St) (H:Hp) (vs:List V) (us:List a9) (Q:St->Hp->Prop),xY X j8 U H s->jU vs us->t vs U H Q->
  wpAny (model X.prog X.w) X.A (assignInOrder ((assignEach ts X.env).map (·.2)) us) (λ_ s'=> ∃U' H',xY X j8 U' H' s'/\Q U' H') X.xe s
instance {X:Cx}{ts:a6 j5}{t:TGs}:CoeFun (YV X ts t) (λ_=> ∀(j8:a6 (i3×j7)) (s:i5) (U:St) (H:Hp) (vs:a6 V) (us:a6 a9) (Q:St->Hp->Prop),xY X j8 U H s->jU vs us->t vs U H Q->
  wpAny (model X.prog X.w) X.A (assignInOrder ((assignEach ts X.env).map (·.2)) us) (λ_ s'=> ∃U' H',xY X j8 U' H' s'/\Q U' H') X.xe s):=#[YV.go]
abbrev zAs:=V->V->V->Hp->(Hp->Prop)->Prop
def zDm (X:Cx)(t:zAs):Prop:=
 ∀(j8:a6 (i3×j7)) (s:i5) (U:St) (H:Hp) (o i v:V) (ov iv u:a9) (Q:Hp->Prop),xY X j8 U H s->kS o ov->kS i iv->kS v u->t o i v H Q->
  wpAny (model X.prog X.w) X.A (setItem ov iv u) (λ_ s'=> ∃H',xY X j8 U H' s'/\Q H') X.xe s
section
variable {X:Cx}{pos:Pos}
def AC (i:Nat):TG:=λv U H Q=>Q (U.set i (some v)) H
theorem yA (i:Nat){x:Str}(hN:X.N.Nodup)(hi:autoParam (X.N[i]? =some x) L2.aE._auto_1)(hx:autoParam (Loc X.env.scope x) L2.aF._auto_1)(hf:autoParam (X.fn x=true\/X.env.scope.names.lookup x=some .local) L2.aA._auto_1):PG X (.Name x pos) (AC i):=by
 refine#[?_];intro j8 s U H v u Q I r h;exact wpAny_assign_Name (OJ I hN hi hx r (λs' I'=>#[_,H,I',h]) hf)
inductive zCv (vs:List V) (U:St) (H:Hp) (Q:St->Hp->Prop):Prop
 |mk (h0:vs=[]) (h1:Q U H):zCv vs U H Q
inductive YS (t:TG) (u:TGs) (vs:List V) (U:St) (H:Hp) (Q:St->Hp->Prop):Prop
 |mk (v r:_) (h0:vs=v::r) (h1:t v U H λU' H'=>u r U' H' Q):YS t u vs U H Q
theorem jJ:YV X [] zCv:=by
 refine#[?_];intro j8 s U H vs us Q I r h;obtain⟨e,h⟩:=h;subst e;cases r;exact assignInOrder_nil #[U,H,I,h]
theorem yE {e:j5}{es:a6 j5}{t:TG}{u:TGs}(h1:PG X e t)(h2:YV X es u)
  (hs:autoParam ((assignEach (e::es) X.env).map (·.2)=assign e X.env::(assignEach es X.env).map (·.2)) L2.aE._auto_1):YV X (e::es) (YS t u):=by
 refine#[?_];intro j8 s U H vs us Q I r h;obtain⟨v,vr,e1,h⟩:=h;subst e1;cases r with
 |cons r rr=>
  rw[hs];refine assignInOrder_cons (wO (h1 j8 s U H _ _ _ I r h) λ_ s1 m7=>?_);obtain⟨U1,H1,I1,q1⟩:=m7;exact h2 j8 s1 U1 H1 _ _ Q I1 rr q1
inductive zAf (K:a7) (n:Nat) (t:TGs) (v:V) (U:St) (H:Hp) (Q:St->Hp->Prop):Prop
 |mk (a xs:_) (h0:v=.ref a) (h1:uZ K H a xs) (h2:xs.length=n) (h3:t xs U H Q):zAf K n t v U H Q
theorem kZ {es:a6 j5}{k:Nat}{t:TGs}{n:Nat}(hc:X.calm=true)(h:YV X es t)
  (hn:autoParam ((assignEach es X.env).length =n) L2.aE._auto_1) (hst:autoParam ((assignEach es X.env).findIdx? (·.1)=none) L2.aE._auto_1):PG X (.Tuple es k pos) (zAf X.K n t):=by
 refine#[?_];intro j8 s U H v u Q I r hw;obtain⟨a,xs,e1,hq,hl,hw⟩:=hw;subst e1;cases r;obtain⟨its,rv,ht,hz⟩:=I.tuple hq;refine assign_Tuple_tuple (I.ok.hd hc) ht (by simp[hn,<-hl,rv.length]) hst λh' hx=>?_;have I1:xY X j8 U H {s with heap:=h'}:=I.kept (t':=s.toks) λb o e=>hx b o (xT (yN e)) e;exact h j8 _ U H xs _ Q I1 (by simpa using rv) hw
def zGw (to ti:TE)(t:zAs):TG:=λv U H Q=>to U H λo H1=>ti U H1 λi H2=>t o i v H2 λH3=>Q U H3
theorem CS {o i:j5}{to ti:TE}{t:zAs}(ho:PE X o to)(hi:PE X i ti)(hs:zDm X t)
  (ha:autoParam ( ∀v,assign (.Subscript o i pos) X.env v=(do
   let ov<-holding [v] (eval o X.env)
   let iv<-holding [v,ov] (eval i X.env)
   standAt pos
   holding [v,ov,iv] (setItem ov iv v)
   release [v,ov,iv] [])) L2.aD._auto_1):PG X (.Subscript o i pos) (zGw to ti t):=by
 refine#[?_];intro j8 s U H v u Q I r h;rw[ha];refine zD (qC (wO (ho j8 s U H _ I h) λov s1 m7=>?_));obtain⟨x,H1,I1,r1,q1⟩:=m7;refine zD (qC (wO (hi j8 s1 U H1 _ I1 q1) λiv s2 m7=>?_));obtain⟨y,H2,I2,r2,q2⟩:=m7;refine zD (Fj (zD (qC (wO (hs j8 s2 U H2 x y v ov iv u _ I2 r1 r2 r q2) λ_ s3 m7=>?_))));obtain⟨H3,I3,q3⟩:=m7;exact wpAny_release #[U,H3,I3,q3]
def zBq (te:TE)(g:TG):TS:=λD U H=>te U H λx H1=>g x U H1 D.nx
theorem qH {tg e:j5}{te:TE}{g:TG}(he:PE X e te)(hg:PG X tg g)(hs:autoParam (swapsWithSole [tg] e pos.line X.env=pure false) L2.aE._auto_1)(hw:autoParam (swappedStores [tg] e X.env=pure none) L2.aE._auto_1)
  (h1:autoParam ((assignEach [tg] X.env).map (·.2)=[assign tg X.env]) L2.aE._auto_1):PS X (.Assign [tg] e pos) (zBq te g):=by
 refine#[?_];intro j8 s U H D I h;refine wpAny_Assign_stores (wO (he j8 s U H _ I h) λv s1 ⟨x,H1,I1,r1,q1⟩=>?_) hs hw;rw[h1];exact wO (hg j8 s1 U H1 x v _ I1 r1 q1) λ_ s2 q=>q
theorem yP (i:Nat){x:Str}{e:j5}{te:TE}{pos':Pos}(hN:X.N.Nodup)(he:PE X e te)(hi:autoParam (X.N[i]? =some x) L2.aE._auto_1)(hx:autoParam (Loc X.env.scope x) L2.aF._auto_1)(hs:autoParam (swapsWith e (some (.Name x pos')) pos.line X.env=pure false) L2.aE._auto_1)(hf:autoParam (X.fn x=true\/X.env.scope.names.lookup x=some .local) L2.aA._auto_1):
  PS X (.Assign [.Name x pos'] e pos) (zBq te (AC i)):=by
 refine#[?_];intro j8 s U H D I h;refine wpAny_Assign_Name (wO (he j8 s U H _ I h) λv s1 ⟨y,H1,I1,r1,q1⟩=>?_) hs;exact OJ I1 hN hi hx r1 (λs2 I2=>#[_,H1,I2,q1]) hf
def Zh (c:TT)(tb:TS):TS:=λD U H=> ∃W:Nat->St->Hp->Prop,(∃m,W m U H)/\ ∀m U H,W m U H->
 c U H λb H1=>if b=true then ∃N:St->Hp->Prop,(∀U' H',N U' H'-> ∃m',m'<m/\W m' U' H')/\tb {D with nx:=N,ct:=N,bk:=D.nx} U H1 else D.nx U H1
theorem Pa {c:j5}{body:a6 i8}{tc:TT}{tb:TS}(hp:PassesOwn (model X.prog X.w) X.A X.env X.xe)(hc:PT X c tc)(hb:Qw X body tb):PS X (.While c body [] pos) (Zh tc tb):=by
 refine#[?_];intro j8 s U H D I h;obtain⟨W,⟨m0,w0⟩,turn⟩:=h;refine wpAny_While (codeAny_whileLoop (λn s'=> ∃U' H',xY X j8 U' H' s'/\W n U' H') ?_ m0 #[U,H,I,w0]);rintro n s1 ⟨U1,H1,I1,w1⟩;refine vZ hp (wO (hc j8 s1 U1 H1 _ I1 (turn n U1 H1 w1)) λb s2 m7=>?_);obtain⟨H2,I2,q2⟩:=m7;cases b with
 |true=>
  obtain⟨N,hN,q2⟩:=q2;rw[zP rfl];refine vZ hp (wO (hb j8 s2 U1 H2 _ I2 q2) λf s3 q3=>?_);cases f with
  |next=>
   obtain⟨U3,H3,I3,n3⟩:=q3;obtain⟨m',hm,w3⟩:=hN U3 H3 n3;exact#[m',hm,U3,H3,I3,w3]
  |cont=>
   obtain⟨U3,H3,I3,n3⟩:=q3;obtain⟨m',hm,w3⟩:=hN U3 H3 n3;exact#[m',hm,U3,H3,I3,w3]
  |brk=>exact q3
  |ret v=>exact q3
 |false=>
  rw[zO yT];exact DK #[U1,H2,I2,q2]
end
structure It where
 go:Nat->Hp->Prop
 yld:Nat->Hp->V->Hp->Prop
 stop:Nat->Hp->Prop
def Hv (X:Cx)(j8:a6 (i3×j7))(H:Hp)(b:i3):Prop:=
 H b=none/\b≠X.env.locals/\b∉X.fs/\(b∈X.ex\/X.s₀.heap.objs.size<=b)/\(∀x c,X.env.cells.lookup x=some c->c≠b)/\ ∀p∈X.pn++j8,p.1≠b
theorem xY.fpOk {X:Cx}{j8:a6 (i3×j7)}{U:St}{H H':Hp}{s:i5}{b:i3}(I:xY X j8 U H s)(hb:s.heap.objs.size<=b)(hn:H' b=none):Hv X j8 H' b:=by
 refine#[hn,Nat.ne_of_gt (xR I.lt hb),I.nofs hb,.inr (yU I.sz hb),λx c e z=>?_,λp hp z=>?_]
 ·obtain⟨v,q⟩:=I.cell x c e;exact absurd (xR q.lt (by rw[z];exact hb)) (qU _)
 ·exact absurd (xR (yN (I.pin p hp).1) (by rw[z];exact hb)) (qU _)
structure LP (P:i6)(w:i9)(K:a7)(tg:j5)(J:It)(fp:List i3)(it:i3)(tn:Nat->j3->Prop):Prop where
 mem:it∈fp
 obj: ∀i h,tn i h-> ∀b∈fp,∃o,h.get? b=some o/\ ∀v,o.data≠ .cell v
 keep: ∀i h h',tn i h->(∀b∈fp,∀o,h.get? b=some o->h'.get? b=some o)->tn i h'
 item: ∀(X:Cx),X.prog=P->X.w=w->X.K=K->X.calm=true-> ∀(i:Nat) (j8:List (i3×j7)) (s:i5) (U:St) (H:Hp) (E:a9->i5->Prop),xY X j8 U H s->(∀b∈fp,Hv X j8 H b)->tn i s.heap->J.go i H->
  wpAny (model P w) X.A (pyNext (.ref it)) (λr s1=> ∃u,r=some u/\
   wpAny (model P w) X.A (letOwnedTupleGo tg (.ref it) u) (λ_ s2=> ∃x H',xY X j8 U H' s2/\kS x u/\J.yld i H x H'/\tn (i+1) s2.heap/\ ∀b∈fp,H' b=none) E s1) E s
 done: ∀(X:Cx),X.prog=P->X.w=w->X.K=K->X.calm=true-> ∀(i:Nat) (j8:List (i3×j7)) (s:i5) (U:St) (H:Hp) (E:a9->i5->Prop),xY X j8 U H s->(∀b∈fp,Hv X j8 H b)->tn i s.heap->J.stop i H->
  wpAny (model P w) X.A (pyNext (.ref it)) (λr s1=>r=none/\xY X j8 U H s1) E s
 self: ∀(A:j4) (i:Nat) (s:i5) (Q:a9->i5->Prop) (E:a9->i5->Prop),tn i s.heap->Q (.ref it) s->wpAny (model P w) A (pyIter (.ref it)) Q E s
abbrev TI:=St->Hp->(It->Hp->Prop)->Prop
def PIE (X:Cx)(j8:a6 (i3×j7))(U:St)(tg:j5)(R:It->Hp->Prop)(itv:a9)(s2:i5):Prop:=
 ∃(it:i3) (fp:a6 i3) (tn:Nat->j3->Prop) (J:It) (H':Hp),itv=.ref it/\xY X j8 U H' s2/\LP X.prog X.w X.K tg J fp it tn/\tn 0 s2.heap/\(∀b∈fp,Hv X j8 H' b)/\R J H'
structure PI (X:Cx)(tg iter:j5)(wi:TI):Prop where
 go: ∀(j8:List (i3×j7)) (s:i5) (U:St) (H:Hp) (R:It->Hp->Prop),xY X j8 U H s->wi U H R->
  wpAny (model X.prog X.w) X.A (eval iter X.env) (λv s1=>wpAny (model X.prog X.w) X.A (pyIter v) (PIE X j8 U tg R) X.xe s1) X.xe s
instance {X:Cx}{tg iter:j5}{wi:TI}:CoeFun (PI X tg iter wi) (λ_=> ∀(j8:a6 (i3×j7)) (s:i5) (U:St) (H:Hp) (R:It->Hp->Prop),xY X j8 U H s->wi U H R->
  wpAny (model X.prog X.w) X.A (eval iter X.env) (λv s1=>wpAny (model X.prog X.w) X.A (pyIter v) (PIE X j8 U tg R) X.xe s1) X.xe s):=#[PI.go]
theorem MP {M : Model} {A : j4} {E : a9 -> i5 -> Prop} {s : i5} {tg : j5} {it : i3} {u : a9} {o : j7} {n : String} {vs : j6 a9} {Q : Unit -> i5 -> Prop} (ho : s.heap.get? it = some o) (hc : o.cls = .type n) (hd : o.data = .fields vs)
    (hn : ["enumerate", "zip", "dict_itemiterator", "dict_reverseitemiterator", "odict_iterator", "itertools.zip_longest", "itertools.pairwise"].contains n = false) (hQ : Q Unit.unit s) : wpAny M A (letOwnedTupleGo tg (.ref it) u) Q E s := by
  unfold letOwnedTupleGo;cases tg <;> first
    | exact yB hQ
    | (cases u <;> first
        | exact yB hQ
        | (refine zD (wpAny_load ho ?_)
           rw [hc, hd];show wpAny M A (if (["enumerate", "zip", "dict_itemiterator", "dict_reverseitemiterator", "odict_iterator", "itertools.zip_longest", "itertools.pairwise"].contains n && vs[0]? == some (rawInt _)) = true then _ else _) Q E s;rw [zO (by intro h; rw [hn, kO] at h; cases h)];exact yB hQ))
noncomputable def YX (K:a7)(a:i3):It:=
 #[λi H=> ∃xs x,kF K H a xs/\xs[i]? =some x,λi H x H'=>H'=H/\ ∀xs,kF K H a xs->xs[i]? =some x,λi H=> ∃xs,kF K H a xs/\xs.length<=i]
noncomputable def YW (K:a7)(a:i3):It:=
 #[λi H=> ∃xs x,uZ K H a xs/\xs[i]? =some x,λi H x H'=>H'=H/\ ∀xs,uZ K H a xs->xs[i]? =some x,λi H=> ∃xs,uZ K H a xs/\xs.length<=i]
noncomputable def Itr (lo:Int)(n:Nat):It:=#[λi _=>i<n,λi H x H'=>H'=H/\x=.int (lo+i),λi _=>n<=i]
theorem Ms {P:i6}{w:i9}{K:a7}{tg:j5}(a it:i3):LP P w K tg (YX K a) [it] it (λi h=>h.IsListIter it a i) where
 mem:=by simp
 obj:=λi h st b hb=>by
  have e:b=it:=by simpa using hb
  subst e;obtain⟨o,e,c,d⟩:=st;exact#[o,e,λv z=>by rw[d]at z;cases z]
 keep:=λi h h' st k=>st.at λo e=>k it (by simp) o e
 item:=by
  intro X hP hw hK hc i j8 s U H E I hf st hg;subst hP hw hK;obtain⟨xs,x,hq,hx⟩:=hg;obtain⟨its,rv,p,hz⟩:=I.list hq;obtain⟨u,hu,ru⟩:=rv.get hx;obtain⟨f0,f1,f2,f3,f4,f5⟩:=hf it (by simp);refine BV st p.isList (x:=u) (by simpa using hu) λh' st' sb=>?_;have I1:xY X j8 U H {s with heap:=h'}:=I.turned (t':=s.toks) (λb o hb e=>(sb.2 b hb).trans e) f0 f1 f3 f4 f5;obtain⟨o,e,c,d⟩:=id st';exact#[u,rfl,MP (s:={s with heap:=h'}) e c d (by decide) #[x,H,I1,ru,#[rfl,λys hy=>by rw[I.list_inj hy hq];exact hx],st',λb hb=>(hf b hb).1]]
 done:=by
  intro X hP hw hK hc i j8 s U H E I hf st hg;subst hP hw hK;obtain⟨xs,hq,hx⟩:=hg;obtain⟨its,rv,p,hz⟩:=I.list hq;obtain⟨f0,f1,f2,f3,f4,f5⟩:=hf it (by simp);have hl:=rv.length;exact CH (I.ok.hd hc) st p.isList (by simp;lia) λh' eb=>#[rfl,I.turned (t':=s.toks) (λb o hb e=>eb b o hb e) f0 f1 f3 f4 f5]
 self:=λ_ _ _ _ _ st h=>wpAny_pyIter_listiter st h
theorem KA {P:i6}{w:i9}{K:a7}{tg:j5}(a it:i3):LP P w K tg (YW K a) [it] it (λi h=>h.IsTupleIter it a i) where
 mem:=by simp
 obj:=λi h st b hb=>by
  have e:b=it:=by simpa using hb
  subst e;obtain⟨o,e,c,d⟩:=st;exact#[o,e,λv z=>by rw[d]at z;cases z]
 keep:=λi h h' st k=>st.at λo e=>k it (by simp) o e
 item:=by
  intro X hP hw hK hc i j8 s U H E I hf st hg;subst hP hw hK;obtain⟨xs,x,hq,hx⟩:=hg;obtain⟨its,rv,p,hz⟩:=I.tuple hq;obtain⟨u,hu,ru⟩:=rv.get hx;obtain⟨f0,f1,f2,f3,f4,f5⟩:=hf it (by simp);refine wpAny_pyNext_tuple_item st (show s.heap.IsTuple a its.toArray from p) (x:=u) (by simpa using hu) λh' st' sb=>?_;have I1:xY X j8 U H {s with heap:=h'}:=I.turned (t':=s.toks) (λb o hb e=>(sb.2 b hb).trans e) f0 f1 f3 f4 f5;obtain⟨o,e,c,d⟩:=id st';exact#[u,rfl,MP (s:={s with heap:=h'}) e c d (by decide) #[x,H,I1,ru,#[rfl,λys hy=>by rw[I.tuple_inj hy hq];exact hx],st',λb hb=>(hf b hb).1]]
 done:=by
  intro X hP hw hK hc i j8 s U H E I hf st hg;subst hP hw hK;obtain⟨xs,hq,hx⟩:=hg;obtain⟨its,rv,p,hz⟩:=I.tuple hq;obtain⟨f0,f1,f2,f3,f4,f5⟩:=hf it (by simp);have hl:=rv.length;exact wpAny_pyNext_tuple_end (I.ok.hd hc) st (show s.heap.IsTuple a its.toArray from p) (by simp;lia) λh' eb=>#[rfl,I.turned (t':=s.toks) (λb o hb e=>eb b o hb e) f0 f1 f3 f4 f5]
 self:=λ_ _ _ _ _ st h=>wpAny_pyIter_tupleiter st h
theorem Qx {P:i6}{w:i9}{K:a7}{tg:j5}(it:i3)(lo:Int)(n:Nat):LP P w K tg (Itr lo n) [it] it (λi h=>IsRangeIter h it (lo+(i:Nat)*1) ((n:Int)-(i:Nat)) 1) where
 mem:=by simp
 obj:=λi h st b hb=>by
  have e:b=it:=by simpa using hb
  subst e;exact#[_,st,λv z=>by
   have z':Data.fields _=Data.cell v:=z;cases z']
 keep:=λi h h' st k=>k it (by simp) _ st
 item:=by
  intro X hP hw hK hc i j8 s U H E I hf st hg;subst hP hw hK;obtain⟨f0,f1,f2,f3,f4,f5⟩:=hf it (by simp);have W:=Walks.range (prog:=X.prog) (w:=X.w) (I.ok.hd hc) it lo 1 n;refine W.item i s _ _ hg st λv h' tk hv st' kk=>?_;obtain⟨t,rfl⟩:=hv;have I1:xY X j8 U H {s with heap:=h',toks:=tk}:=I.turned (λb o hb e=>kk b o (by simpa using hb) e) f0 f1 f3 f4 f5;refine#[-1,MP (s:={s with heap:=h',toks:=tk}) (n:="range_iterator") st' rfl rfl (by decide) #[.int (lo+i),H,I1,#[t,?_],#[rfl,rfl],st',λb hb=>(hf b hb).1]];rw[Int.mul_one]
 done:=by
  intro X hP hw hK hc i j8 s U H E I hf st hg;subst hP hw hK;obtain⟨f0,f1,f2,f3,f4,f5⟩:=hf it (by simp);exact wpAny_pyNext_range_end (I.ok.hd hc) st (by have:n<=i:=hg;lia) λh' eb=>#[rfl,I.turned (t':=s.toks) (λb o hb e=>eb b o hb e) f0 f1 f3 f4 f5]
 self:=λ_ _ _ _ _ st h=>wpAny_pyIter_rangeiter st h
section
variable {X:Cx}{tg:j5}
inductive Wr (K:a7) (x:V) (H1:Hp) (R:It->Hp->Prop):Prop
 |mk (a:_) (h0:x=.ref a) (h1:(∃xs,kF K H1 a xs)) (h2:R (YX K a) H1):Wr K x H1 R
def zCt (K:a7)(tl:TE):TI:=λU H R=>tl U H λx H1=>Wr K x H1 R
inductive YQ (K:a7) (x:V) (H1:Hp) (R:It->Hp->Prop):Prop
 |mk (a:_) (h0:x=.ref a) (h1:(∃xs,uZ K H1 a xs)) (h2:R (YW K a) H1):YQ K x H1 R
def zGs (K:a7)(tl:TE):TI:=λU H R=>tl U H λx H1=>YQ K x H1 R
theorem Ae {l:j5}{tl:TE}(hl:PE X l tl):PI X tg l (zCt X.K tl):=by
 refine#[?_];intro j8 s U H R I h;refine wO (hl j8 s U H _ I h) λv s1 m7=>?_;obtain⟨x,H1,I1,r1,q1⟩:=m7;obtain⟨a,e,⟨xs,hq⟩,q⟩:=q1;subst e;cases r1;obtain⟨its,rv,p,hz⟩:=I1.list hq;refine uF p.isList ?_;refine#[s1.heap.objs.size,[s1.heap.objs.size],_,_,H1,rfl,I1.kept (t':=s1.toks) λb o e=>zL _ e,Ms a _,#[_,yI _ rfl,rfl,rfl],λb hb=>?_,q];have e:b=s1.heap.objs.size:=by simpa using hb
 subst e;exact I1.fpOk (zS _) (I1.hok.fresh (zS _))
theorem JL {l:j5}{tl:TE}(hl:PE X l tl):PI X tg l (zGs X.K tl):=by
 refine#[?_];intro j8 s U H R I h;refine wO (hl j8 s U H _ I h) λv s1 m7=>?_;obtain⟨x,H1,I1,r1,q1⟩:=m7;obtain⟨a,e,⟨xs,hq⟩,q⟩:=q1;subst e;cases r1;obtain⟨its,rv,p,hz⟩:=I1.tuple hq;refine Ag (show s1.heap.IsTuple a its.toArray from p) ?_;refine#[s1.heap.objs.size,[s1.heap.objs.size],_,_,H1,rfl,I1.kept (t':=s1.toks) λb o e=>zL _ e,KA a _,#[_,yI _ rfl,rfl,rfl],λb hb=>?_,q];have e:b=s1.heap.objs.size:=by simpa using hb
 subst e;exact I1.fpOk (zS _) (I1.hok.fresh (zS _))
theorem Va {j8:a6 (i3×j7)}{U:St}{H:Hp}{s:i5}{R:It->Hp->Prop}{E:a9->i5->Prop}{lo hi:Int}{t u v:Tok}{tk:Nat}(I:xY X j8 U H s)(h1: -(2^62)<=lo)(h2:lo<2^62)(h3: -(2^62)<=hi)(h4:hi<2^62)
  (q:R (Itr lo (hi-lo).toNat) H):wpAny (model X.prog X.w) X.A (pyIter (.ref s.heap.objs.size)) (PIE X j8 U tg R) E {s with heap:=s.heap.push {cls:=.type "range",data:=.fields (List.toArray [.int lo t,.int hi u,.int 1 v])},toks:=tk}:=by
 refine wpAny_pyIter_range (IsRange.new ..) (small_one h1 h2 h3 h4) ?_;have I1:xY X j8 U H {s with heap:=s.heap.push {cls:=.type "range",data:=.fields (List.toArray [.int lo t,.int hi u,.int 1 v])},toks:=tk}:=I.kept λb o e=>zL _ e;refine#[(s.heap.push {cls:=.type "range",data:=.fields (List.toArray [.int lo t,.int hi u,.int 1 v])}).objs.size,[(s.heap.push {cls:=.type "range",data:=.fields (List.toArray [.int lo t,.int hi u,.int 1 v])}).objs.size],_,_,H,rfl,
  I1.kept (t':=tk) λb o e=>zL _ e,Qx _ lo (hi-lo).toNat,?_,λb hb=>?_,q]
 ·have e1:lo+((0:Nat):Int)*1=lo:=by simp
  have e2:(((hi-lo).toNat:Nat):Int)-((0:Nat):Int)=Builtin.Range.rangeSize lo hi 1:=by rw[rangeSize_one];split<;>lia
  show IsRangeIter _ _ (lo+((0:Nat):Int)*1) ((((hi-lo).toNat:Nat):Int)-((0:Nat):Int)) 1;rw[e1,e2];exact yI _ rfl
 ·have e:b=(s.heap.push {cls:=.type "range",data:=.fields (List.toArray [.int lo t,.int hi u,.int 1 v])}).objs.size:=by simpa using hb
  subst e;exact I1.fpOk (zS _) (I1.hok.fresh (zS _))
inductive Wp (vs:List V) (H1:Hp) (R:It->Hp->Prop):Prop
 |mk (j:Int) (h0:vs=[.int j]) (h1: -(2^62)<=j) (h2:j<2^62) (h3:R (Itr 0 j.toNat) H1):Wp vs H1 R
def zCr (ta:TA):TI:=λU H R=>ta U H λvs H1=>Wp vs H1 R
theorem AU {a:j5}{ta:TA}{p pos:Pos}(hg:Gl X "range")(hm:X.mg "range"=none)(ha:PA X [a] ta)(hs:autoParam (starEach [a] X.env=[(false,eval a X.env)]) L2.aE._auto_1):PI X tg (.Call (.Name "range" p) [a] [] pos) (zCr ta):=by
 refine#[?_];intro j8 s U H R I h;refine Call_ (Eu I hg hm boot_range (jG (wO (ha pos j8 s U H _ I h) λus s1 ⟨vs,H1,I1,r1,q1⟩=>?_) hs rfl));obtain⟨j,e,q1,q2,q⟩:=q1;subst e;cases r1 with
 |cons r rr=>
  cases rr;obtain⟨t,rfl⟩:=r;exact call_range_1 (Va I1 () () q1 q2 (by simpa using q))
def zEs (wi:TI)(g:TG)(tb:TS):TS:=λD U H=>wi U H λJ H1=> ∃W:Nat->Nat->St->Hp->Prop,(∃m,W 0 m U H1)/\ ∀i m U H,W i m U H->
 (J.stop i H/\D.nx U H)\/(J.go i H/\ ∃N:St->Hp->Prop,(∀U' H',N U' H'-> ∃m',m'<m/\W (i+1) m' U' H')/\ ∀x H',J.yld i H x H'->g x U H' λU2 H2=>tb {D with nx:=N,ct:=N,bk:=D.nx} U2 H2)
noncomputable def Lg (fp:a6 i3)(h:j3):a6 (i3×j7):=fp.filterMap λb=>(h.get? b).map λo=>(b,o)
theorem Go {fp:a6 i3}{h:j3}{b:i3}{o:j7}(hb:b∈fp)(e:h.get? b=some o):(b,o)∈Lg fp h:=List.mem_filterMap.mpr #[b,hb,by rw[e];rfl]
theorem TV {fp:a6 i3}{h:j3}{p:i3×j7}(hp:p∈Lg fp h):p.1∈fp/\h.get? p.1=some p.2:=by
 obtain⟨b,hb,e⟩:=List.mem_filterMap.mp hp;cases q:h.get? b with
 |none=>rw[q]at e;cases e
 |some o=>
  rw[q]at e;have e':(b,o)=p:=jN e;subst e';exact#[hb,q]
theorem xY.pinned {j8:a6 (i3×j7)}{U:St}{H:Hp}{s:i5}{fp:a6 i3}(I:xY X j8 U H s)(hf: ∀b∈fp,Hv X j8 H b)(ho: ∀b∈fp,∃o,s.heap.get? b=some o/\ ∀v,o.data≠ .cell v):xY X (j8++Lg fp s.heap) U H s:=
 I.pins_of λp hp=>(List.mem_append.mp hp).elim (λz=>I.pin p (jE _ z)) λz=>by
  obtain⟨hb,e⟩:=TV z;obtain⟨f0,f1,f2,_⟩:=hf p.1 hb;obtain⟨o,e',d⟩:=ho p.1 hb;rw[e]at e';cases e';exact#[e,f0,f1,f2,d]
theorem xY.unpinned {j8 pl:a6 (i3×j7)}{U:St}{H:Hp}{s:i5}(I:xY X (j8++pl) U H s):xY X j8 U H s:=I.pins_of λp hp=>I.pin p (jE _ (uK _ hp))
theorem wD {iter:j5}{body:a6 i8}{wi:TI}{g:TG}{tb:TS}{pos:Pos}(hp:PassesOwn (model X.prog X.w) X.A X.env X.xe)(hc:X.calm=true)(hi:PI X tg iter wi)(hg:PG X tg g)(hb:Qw X body tb)
  (hs:autoParam ( ∀x,foldedSetIterable iter X.env x=pure x) L2.aD._auto_1):PS X (.For tg iter body [] pos) (zEs wi g tb):=by
 refine#[?_];intro j8 s U H D I h;refine wpAny_For (wO (hi j8 s U H _ I h) λv s1 h1=>wO h1 λitv s2 h2=>?_) hs;obtain⟨it,fp,tn,J,H2,e,I2,T,st2,f2,W,⟨m0,w0⟩,turn⟩:=h2;subst e;have stat: ∀{H':Hp},(∀b∈fp,H' b=none)-> ∀b∈fp,Hv X j8 H' b:=λhn b hb=>#[hn b hb,(f2 b hb).2];refine codeAny_forLoop_any (λn s'=> ∃i U' H',xY X j8 U' H' s'/\tn i s'.heap/\(∀b∈fp,H' b=none)/\W i n U' H') ?_ m0 #[0,U,H2,I2,st2,λb hb=>(f2 b hb).1,w0];rintro n s3 ⟨i,U3,H3,I3,st3,fr3,w3⟩
 rcases turn i n U3 H3 w3 with⟨stop,qn⟩|⟨go,N,hN,step⟩
 ·refine vZ hp (wO (T.done X rfl rfl rfl hc i j8 s3 U3 H3 X.xe I3 (stat fr3) st3 stop) λr s4 m7=>?_);obtain⟨hr,I4⟩:=m7;subst hr;exact DK #[U3,H3,I4,qn]
 ·refine vZ hp (wO (T.item X rfl rfl rfl hc i j8 s3 U3 H3 X.xe I3 (stat fr3) st3 go) λr s4 m7=>?_);obtain⟨u,hr,h4⟩:=m7;subst hr;refine vZ hp (wO h4 λ_ s5 m7=>?_);obtain⟨x,H5,I5,r5,y5,st5,fr5⟩:=m7;have I5':=I5.pinned (stat fr5) (T.obj _ _ st5);refine vZ hp (wO (hg _ s5 U3 H5 x u _ I5' r5 (step x H5 y5)) λ_ s6 m7=>?_);obtain⟨U6,H6,I6,q6⟩:=m7;refine vZ hp (wO (hb _ s6 U6 H6 _ I6 q6) λf s7 q7=>?_);have again: ∀{U7:St} {H7:Hp},xY X (j8++Lg fp s5.heap) U7 H7 s7->N U7 H7-> ∃m,m<n/\ ∃i U' H',xY X j8 U' H' s7/\tn i s7.heap/\(∀b∈fp,H' b=none)/\W i m U' H':=fun{U7 H7} I7 n7=>by
   obtain⟨m',hm,w7⟩:=hN U7 H7 n7;refine#[m',hm,i+1,U7,H7,I7.unpinned,T.keep _ _ _ st5 λb hb o e=>(I7.pin (b,o) (jE _ (jE _ (Go hb e)))).1,λb hb=>?_,w7];obtain⟨o,e,d⟩:=T.obj _ _ st5 b hb;exact(I7.pin (b,o) (jE _ (jE _ (Go hb e)))).2.1
  cases f with
  |next=>obtain⟨U7,H7,I7,n7⟩:=q7;exact again I7 n7
  |cont=>obtain⟨U7,H7,I7,n7⟩:=q7;exact again I7 n7
  |brk=>obtain⟨U7,H7,I7,q7⟩:=q7;exact#[U7,H7,I7.unpinned,q7]
  |ret v=>obtain⟨x7,U7,H7,I7,r7,q7⟩:=q7;exact#[x7,U7,H7,I7.unpinned,r7,q7]
end
theorem BS {K:a7}{a:i3}{xs:a6 V}{g:TG}{tb:TS}{D:FI}{U:St}{H:Hp}(Pv:Nat->St->Hp->Prop)(h0:Pv 0 U H)(hl: ∀i U H,i<=xs.length->Pv i U H->kF K H a xs)
  (hs: ∀i x U H,xs[i]? =some x->Pv i U H->g x U H λU2 H2=>tb {D with nx:=Pv (i+1),ct:=Pv (i+1),bk:=D.nx} U2 H2) (hd: ∀U H,Pv xs.length U H->D.nx U H):
  ∃W:Nat->Nat->St->Hp->Prop,(∃m,W 0 m U H)/\ ∀i m U H,W i m U H->
   ((YX K a).stop i H/\D.nx U H)\/((YX K a).go i H/\ ∃N:St->Hp->Prop,(∀U' H',N U' H'-> ∃m',m'<m/\W (i+1) m' U' H')/\ ∀x H',(YX K a).yld i H x H'->g x U H' λU2 H2=>tb {D with nx:=N,ct:=N,bk:=D.nx} U2 H2):=by
 refine#[λi m U H=>m=xs.length-i/\i<=xs.length/\Pv i U H,#[xs.length,by simp,xG _,h0],?_];rintro i m U H ⟨rfl,hi,p⟩;have q:=hl i U H hi p
 by_cases o5:i<xs.length
 ·refine .inr #[#[xs,xs[i],q,by simp[o5]],Pv (i+1),λU' H' p'=>#[xs.length-(i+1),(),rfl,o5,p'],λx H' y=>?_];obtain⟨e,y⟩:=y;subst e;exact hs i x U _ (y xs q) p
 ·have e:i=xs.length:=()
  subst e;exact .inl #[#[xs,q,zS _],hd U H p]
theorem Kx {K:a7}{a:i3}{xs:a6 V}{g:TG}{tb:TS}{D:FI}{U:St}{H:Hp}(Pv:Nat->St->Hp->Prop)(h0:Pv 0 U H)(hl: ∀i U H,i<=xs.length->Pv i U H->uZ K H a xs)
  (hs: ∀i x U H,xs[i]? =some x->Pv i U H->g x U H λU2 H2=>tb {D with nx:=Pv (i+1),ct:=Pv (i+1),bk:=D.nx} U2 H2) (hd: ∀U H,Pv xs.length U H->D.nx U H):
  ∃W:Nat->Nat->St->Hp->Prop,(∃m,W 0 m U H)/\ ∀i m U H,W i m U H->
   ((YW K a).stop i H/\D.nx U H)\/((YW K a).go i H/\ ∃N:St->Hp->Prop,(∀U' H',N U' H'-> ∃m',m'<m/\W (i+1) m' U' H')/\ ∀x H',(YW K a).yld i H x H'->g x U H' λU2 H2=>tb {D with nx:=N,ct:=N,bk:=D.nx} U2 H2):=by
 refine#[λi m U H=>m=xs.length-i/\i<=xs.length/\Pv i U H,#[xs.length,by simp,xG _,h0],?_];rintro i m U H ⟨rfl,hi,p⟩;have q:=hl i U H hi p
 by_cases o5:i<xs.length
 ·refine .inr #[#[xs,xs[i],q,by simp[o5]],Pv (i+1),λU' H' p'=>#[xs.length-(i+1),(),rfl,o5,p'],λx H' y=>?_];obtain⟨e,y⟩:=y;subst e;exact hs i x U _ (y xs q) p
 ·have e:i=xs.length:=()
  subst e;exact .inl #[#[xs,q,zS _],hd U H p]
theorem AY {lo:Int}{n:Nat}{g:TG}{tb:TS}{D:FI}{U:St}{H:Hp}(Pv:Nat->St->Hp->Prop)(h0:Pv 0 U H)
  (hs: ∀i U H,i<n->Pv i U H->g (.int (lo+i)) U H λU2 H2=>tb {D with nx:=Pv (i+1),ct:=Pv (i+1),bk:=D.nx} U2 H2) (hd: ∀U H,Pv n U H->D.nx U H):
  ∃W:Nat->Nat->St->Hp->Prop,(∃m,W 0 m U H)/\ ∀i m U H,W i m U H->
   ((Itr lo n).stop i H/\D.nx U H)\/((Itr lo n).go i H/\ ∃N:St->Hp->Prop,(∀U' H',N U' H'-> ∃m',m'<m/\W (i+1) m' U' H')/\ ∀x H',(Itr lo n).yld i H x H'->g x U H' λU2 H2=>tb {D with nx:=N,ct:=N,bk:=D.nx} U2 H2):=by
 refine#[λi m U H=>m=n-i/\i<=n/\Pv i U H,#[n,by simp,xG _,h0],?_];rintro i m U H ⟨rfl,hi,p⟩
 by_cases o5:i<n
 ·refine .inr #[o5,Pv (i+1),λU' H' p'=>#[n-(i+1),(),rfl,o5,p'],λx H' y=>?_];obtain⟨e,y⟩:=y;subst e y;exact hs i U _ o5 p
 ·have e:i=n:=()
  subst e;exact .inl #[zS _,hd U H p]
abbrev R2:=V->V->Hp->VK->Prop
def Hu (X:Cx)(f:a9->a9->Sem a9)(r:R2):Prop:=
 ∀(j8:a6 (i3×j7)) (s:i5) (U:St) (H:Hp) (x y:V) (v u:a9) (Q:VK),xY X j8 U H s->kS x v->kS y u->r x y H Q->
  wpAny (model X.prog X.w) X.A (f v u) (EP X j8 U Q) X.xe s
def UnR (X:Cx)(f:a9->Sem a9)(r:V->Hp->VK->Prop):Prop:=
 ∀(j8:a6 (i3×j7)) (s:i5) (U:St) (H:Hp) (x:V) (v:a9) (Q:VK),xY X j8 U H s->kS x v->r x H Q->
  wpAny (model X.prog X.w) X.A (f v) (EP X j8 U Q) X.xe s
def EE (X:Cx)(f:a9)(r:a6 V->Hp->VK->Prop):Prop:=
 ∀(j8:a6 (i3×j7)) (s:i5) (U:St) (H:Hp) (xs:a6 V) (us:a6 a9) (Q:VK),xY X j8 U H s->jU xs us->r xs H Q->
  wpAny (model X.prog X.w) X.A (call f us) (EP X j8 U Q) X.xe s
def zHf (X:Cx)(r:V->Hp->(i7->Hp->Prop)->Prop):Prop:=
 ∀(j8:a6 (i3×j7)) (s:i5) (U:St) (H:Hp) (x:V) (v:a9) (Q:i7->Hp->Prop),xY X j8 U H s->kS x v->r x H Q->
  wpAny (model X.prog X.w) X.A (truthy v) (TP X j8 U Q) X.xe s
def tOp (r:R2)(ta tb:TE):TE:=λU H Q=>ta U H λx H1=>tb U H1 λy H2=>r x y H2 Q
def tUn (r:V->Hp->VK->Prop)(ta:TE):TE:=λU H Q=>ta U H λx H1=>r x H1 Q
inductive rI (C:Int->Int->Prop) (g:Int->Int->V) (x:V) (y:V) (H:Hp) (Q:VK):Prop
 |mk (i j:_) (h0:x=.int i) (h1:y=.int j) (h2:C i j) (h3:Q (g i j) H):rI C g x y H Q
inductive Tn (g:Int->Int->V) (x:V) (y:V) (H:Hp) (Q:VK):Prop
 |mk (i j:_) (h0:x=.int i) (h1:y=.int j) (h2:Q (g i j) H):Tn g x y H Q
inductive rU (g:Int->V) (x:V) (H:Hp) (Q:VK):Prop
 |mk (i:_) (h0:x=.int i) (h1:Q (g i) H):rU g x H Q
section
variable {X:Cx}{a b c:j5}{ta tb tc:TE}{pos:Pos}
theorem zAo (ha:PE X a ta)(hb:PE X b tb){j8:a6 (i3×j7)}{s:i5}{U:St}{H:Hp}{R:V->V->Hp->Prop}(I:xY X j8 U H s)
  (h:ta U H λx H1=>tb U H1 λy H2=>R x y H2) {Q:a9->i5->Prop} {f:a9->a9->Sem a9}
  (hf: ∀v u s2 x y H2,xY X j8 U H2 s2->kS x v->kS y u->R x y H2->wpAny (model X.prog X.w) X.A (f v u) Q X.xe s2):
  wpAny (model X.prog X.w) X.A (eval a X.env) (λv s₁=>wpAny (model X.prog X.w) X.A (eval b X.env) (λu s₂=>wpAny (model X.prog X.w) X.A (f v u) Q X.xe s₂) X.xe s₁) X.xe s:=by
 refine wO (ha j8 s U H _ I h) λv s1 m7=>?_;obtain⟨x,H1,I1,r1,q1⟩:=m7;refine wO (hb j8 s1 U H1 _ I1 q1) λu s2 m7=>?_;obtain⟨y,H2,I2,r2,q2⟩:=m7;exact hf v u s2 x y H2 I2 r1 r2 q2
theorem xD {op:Operator}{r:R2}(ho:Hu X (binaryOp op) r)(ha:PE X a ta)(hb:PE X b tb):PE X (.BinOp a op b pos) (tOp r ta tb):=by
 refine#[?_];intro j8 s U H Q I h;exact wpAny_BinOp (zAo ha hb I h λv u s2 x y H2 I2 rx ry q=>ho j8 s2 U H2 x y v u Q I2 rx ry q)
theorem HS {op:UnaryOp}{r:V->Hp->VK->Prop}(ho:UnR X (unaryOp op) r)(ha:PE X a ta):PE X (.UnaryOp op a pos) (tUn r ta):=by
 refine#[?_];intro j8 s U H Q I h;exact UnaryOp_ (wO (ha j8 s U H _ I h) λv s1 ⟨x,H1,I1,r1,q1⟩=>ho j8 s1 U H1 x v Q I1 r1 q1)
theorem ZO {f:a9->a9->Sem a9}{C:Int->Int->Prop}{g:Int->Int->Int}
  (rule: ∀(i j:Int) (t u:Tok) (s:i5) (Q:a9->i5->Prop) (E:a9->i5->Prop),C i j->Q (.int (g i j) s.toks) {s with toks:=s.toks+1}->wpAny (model X.prog X.w) X.A (f (.int i t) (.int j u)) Q E s):
  Hu X f (rI C λi j=>.int (g i j)):=by
 intro j8 s U H x y v u Q I rx ry h;obtain⟨i,j,rfl,rfl,hc,q⟩:=h;obtain⟨t,rfl⟩:=rx;obtain⟨t',rfl⟩:=ry;exact rule i j t t' s _ _ hc #[.int (g i j),H,I.tok _,#[-1],q]
theorem zCg {f:a9->a9->Sem a9}{g:Int->Int->Int}
  (rule: ∀(i j:Int) (t u:Tok) (s:i5) (Q:a9->i5->Prop) (E:a9->i5->Prop),Q (.int (g i j) s.toks) {s with toks:=s.toks+1}->wpAny (model X.prog X.w) X.A (f (.int i t) (.int j u)) Q E s):
  Hu X f (Tn λi j=>.int (g i j)):=by
 intro j8 s U H x y v u Q I rx ry h;obtain⟨i,j,rfl,rfl,q⟩:=h;obtain⟨t,rfl⟩:=rx;obtain⟨t',rfl⟩:=ry;exact rule i j t t' s _ _ #[.int (g i j),H,I.tok _,#[-1],q]
theorem XH {f:a9->a9->Sem a9}{g:Int->Int->i7}
  (rule: ∀(i j:Int) (t u:Tok) (s:i5) (Q:a9->i5->Prop) (E:a9->i5->Prop),Q (.bool (g i j)) s->wpAny (model X.prog X.w) X.A (f (.int i t) (.int j u)) Q E s):
  Hu X f (Tn λi j=>.bl (g i j)):=by
 intro j8 s U H x y v u Q I rx ry h;obtain⟨i,j,rfl,rfl,q⟩:=h;obtain⟨t,rfl⟩:=rx;obtain⟨t',rfl⟩:=ry;exact rule i j t t' s _ _ #[.bl (g i j),H,I,rfl,q]
def zHt (i j:Int):Prop:=0<=j/\j<=1000000/\i.natAbs<2^64
def WY (i j:Int):Prop:=(-(2^64)<i/\i<2^64)\/(-(2^64)<j/\j<2^64)
theorem WY.ok {i j:Int}(h:WY i j):IntMulOk i j:=by
 rcases h with⟨h1,h2⟩|⟨h1,h2⟩
 ·exact .of_left (intBits_le_64 h1 h2)
 ·exact .of_right (intBits_le_64 h1 h2)
theorem jA:Hu X (binaryOp .Add) (Tn λi j=>.int (i+j)):=zCg λ_ _ _ _ _ _ _ q=>add_int q
theorem vW:Hu X (binaryOp .Sub) (Tn λi j=>.int (i-j)):=zCg λ_ _ _ _ _ _ _ q=>sub_int q
theorem uN:Hu X (binaryOp .Mult) (rI WY λi j=>.int (i*j)):=ZO λ_ _ _ _ _ _ _ hc q=>mul_int q hc.ok
theorem Hi:Hu X (binaryOp .Mod) (rI (λ_ j=>0<j) λi j=>.int (i % j)):=ZO λi j _ _ _ _ _ hc q=>by
 have h1:(0:Int)<j:=hc;exact mod_int' () (by rw[Int.fmod_eq_emod_of_nonneg i ()];exact q)
theorem XG:Hu X (binaryOp .Mod) (rI (λ_ j=>j≠0) λi j=>.int (i.fmod j)):=ZO λ_ _ _ _ _ _ _ hc q=>mod_int' hc q
theorem ZL:Hu X (binaryOp .Pow) (rI zHt λi j=>.int (i^j.toNat)):=ZO λ_ _ _ _ _ _ _ hc q=>pow_int_small hc.1 hc.2.1 hc.2.2 q
theorem unI {f:a9->Sem a9}{g:Int->Int}
  (rule: ∀(i:Int) (t:Tok) (s:i5) (Q:a9->i5->Prop) (E:a9->i5->Prop),Q (.int (g i) s.toks) {s with toks:=s.toks+1}->wpAny (model X.prog X.w) X.A (f (.int i t)) Q E s):
  UnR X f (rU λi=>.int (g i)):=by
 intro j8 s U H x v Q I rx h;obtain⟨i,rfl,q⟩:=h;obtain⟨t,rfl⟩:=rx;exact rule i t s _ _ #[.int (g i),H,I.tok _,#[-1],q]
theorem Ff:UnR X (unaryOp .USub) (rU λi=>.int (-i)):=unI λ_ _ _ _ _ q=>neg_int q
end
noncomputable def Zs:V->V->i7
 | .non,.non=>true| .non,.int _=>true| .int _,.non=>true| .non,.bl _=>true| .bl _,.non=>true| .non,.str _=>true| .str _,.non=>true
 | .int _,.int _=>true| .bl _,.bl _=>true| .str _,.str _=>true| .byt _,.byt _=>true
 | .int _,.str _=>true| .str _,.int _=>true| .bl _,.str _=>true| .str _,.bl _=>true
 |_,_=>false
def rEq:R2:=λx y H Q=>Zs x y=true/\Q (.bl (decide (x=y))) H
def rNe:R2:=λx y H Q=>Zs x y=true/\Q (.bl (!decide (x=y))) H
theorem Om {i j:Int}:decide (V.int i=V.int j)=(i==j):=by
 rw[jT]
 simp
 exact#[λh=>by injection h,λh=>by rw[h]]
theorem WL {i j:i7}:decide (V.bl i=V.bl j)=(i==j):=by
 rw[jT]
 simp
 exact#[λh=>by injection h,λh=>by rw[h]]
theorem SS {i j:Str}:decide (V.str i=V.str j)=(i==j):=by
 rw[jT]
 simp
 exact#[λh=>by injection h,λh=>by rw[h]]
theorem ST {i j:j6 UInt8}:decide (V.byt i=V.byt j)=(i.toList==j.toList):=by
 rw[jT];cases i;cases j
 simp
 exact#[λh=>by injection h with h;injection h,λh=>by rw[h]]
section
variable {X:Cx}{a b c:j5}{ta tb tc:TE}{pos:Pos}
theorem qR {j8:a6 (i3×j7)}{U:St}{H:Hp}{s:i5}{Q:VK}{k k':i7}(I:xY X j8 U H s)(q:Q (.bl k) H)(e:k=k'):EP X j8 U Q (.bool k') s:=by
 subst e;exact#[.bl k,H,I,rfl,q]
theorem jD:Hu X (compareOp .Eq) rEq:=by
 intro j8 s U H x y v u Q I rx ry h;obtain⟨hs,q⟩:=h;cases x with
 |non=>
  cases rx;cases y with
  |non=>cases ry;exact PySem.EqNone.eq_none_none (qR I q (by simp))
  |bl j=>cases ry;exact PySem.EqNone.eq_none_bool (qR I q (by simp))
  |int j=>obtain⟨t',rfl⟩:=ry;exact PySem.EqNone.eq_none_int (qR I q (by simp))
  |str j=>obtain⟨t',rfl⟩:=ry;exact PySem.EqNone.eq_none_str (qR I q (by simp))
  |_=>exact absurd (show false=true from hs) yT
 |bl i=>
  cases rx;cases y with
  |non=>cases ry;exact PySem.EqNone.eq_bool_none (qR I q (by simp))
  |bl j=>cases ry;exact eq_bool (qR I q WL)
  |str j=>obtain⟨t',rfl⟩:=ry;exact PySem.EqMixed.eq_bool_str (qR I q (by simp))
  |_=>exact absurd (show false=true from hs) yT
 |int i=>
  obtain⟨t,rfl⟩:=rx;cases y with
  |non=>cases ry;exact PySem.EqNone.eq_int_none (qR I q (by simp))
  |int j=>obtain⟨t',rfl⟩:=ry;exact eq_int (qR I q Om)
  |str j=>obtain⟨t',rfl⟩:=ry;exact PySem.EqMixed.eq_int_str (qR I q (by simp))
  |_=>exact absurd (show false=true from hs) yT
 |str i=>
  obtain⟨t,rfl⟩:=rx;cases y with
  |non=>cases ry;exact PySem.EqNone.eq_str_none (qR I q (by simp))
  |bl j=>cases ry;exact PySem.EqMixed.eq_str_bool (qR I q (by simp))
  |int j=>obtain⟨t',rfl⟩:=ry;exact PySem.EqMixed.eq_str_int (qR I q (by simp))
  |str j=>obtain⟨t',rfl⟩:=ry;exact eq_str (qR I q SS)
  |_=>exact absurd (show false=true from hs) yT
 |byt i=>
  obtain⟨t,rfl⟩:=rx;cases y with
  |byt j=>obtain⟨t',rfl⟩:=ry;exact PySem.W.eq_bytes (qR I q ST)
  |_=>exact absurd (show false=true from hs) yT
 |_=>cases y<;>exact absurd (show false=true from hs) yT
theorem Hh:Hu X (compareOp .NotEq) rNe:=by
 intro j8 s U H x y v u Q I rx ry h;obtain⟨hs,q⟩:=h;cases x with
 |non=>
  cases rx;cases y with
  |non=>cases ry;exact PySem.EqNone.ne_none_none (qR I q (by simp))
  |bl j=>cases ry;exact PySem.EqNone.ne_none_bool (qR I q (by simp))
  |int j=>obtain⟨t',rfl⟩:=ry;exact PySem.EqNone.ne_none_int (qR I q (by simp))
  |str j=>obtain⟨t',rfl⟩:=ry;exact PySem.EqNone.ne_none_str (qR I q (by simp))
  |_=>exact absurd (show false=true from hs) yT
 |bl i=>
  cases rx;cases y with
  |non=>cases ry;exact PySem.EqNone.ne_bool_none (qR I q (by simp))
  |bl j=>cases ry;exact ne_bool (qR I q (qX not WL))
  |str j=>obtain⟨t',rfl⟩:=ry;exact PySem.EqMixed.ne_bool_str (qR I q (by simp))
  |_=>exact absurd (show false=true from hs) yT
 |int i=>
  obtain⟨t,rfl⟩:=rx;cases y with
  |non=>cases ry;exact PySem.EqNone.ne_int_none (qR I q (by simp))
  |int j=>obtain⟨t',rfl⟩:=ry;exact ne_int (qR I q (qX not Om))
  |str j=>obtain⟨t',rfl⟩:=ry;exact PySem.EqMixed.ne_int_str (qR I q (by simp))
  |_=>exact absurd (show false=true from hs) yT
 |str i=>
  obtain⟨t,rfl⟩:=rx;cases y with
  |non=>cases ry;exact PySem.EqNone.ne_str_none (qR I q (by simp))
  |bl j=>cases ry;exact PySem.EqMixed.ne_str_bool (qR I q (by simp))
  |int j=>obtain⟨t',rfl⟩:=ry;exact PySem.EqMixed.ne_str_int (qR I q (by simp))
  |str j=>obtain⟨t',rfl⟩:=ry;exact ne_str (qR I q (qX not SS))
  |_=>exact absurd (show false=true from hs) yT
 |byt i=>
  obtain⟨t,rfl⟩:=rx;cases y with
  |byt j=>obtain⟨t',rfl⟩:=ry;exact PySem.W.ne_bytes (qR I q (qX not ST))
  |_=>exact absurd (show false=true from hs) yT
 |_=>cases y<;>exact absurd (show false=true from hs) yT
theorem wR:Hu X (compareOp .Lt) (Tn λi j=>.bl (decide (i<j))):=XH λ_ _ _ _ _ _ _ q=>lt_int q
theorem BR:Hu X (compareOp .LtE) (Tn λi j=>.bl (decide (i<=j))):=XH λ_ _ _ _ _ _ _ q=>le_int q
theorem Gz:Hu X (compareOp .Gt) (Tn λi j=>.bl (decide (j<i))):=XH λ_ _ _ _ _ _ _ q=>gt_int q
theorem Fz:Hu X (compareOp .GtE) (Tn λi j=>.bl (decide (j<=i))):=XH λ_ _ _ _ _ _ _ q=>ge_int q
theorem Gk:Hu X (compareOp .Is) (λx y H Q=>y=.non/\Q (.bl (decide (x=.non))) H):=by
 intro j8 s U H x y v u Q I rx ry h;obtain⟨rfl,q⟩:=h;cases ry;refine is_none_gen (qR I q ?_);cases x<;>first
  |(cases rx;rfl)
  |(obtain⟨t,rfl⟩:=rx;rfl)
theorem HG:Hu X (compareOp .IsNot) (λx y H Q=>y=.non/\Q (.bl (!decide (x=.non))) H):=by
 intro j8 s U H x y v u Q I rx ry h;obtain⟨rfl,q⟩:=h;cases ry;refine isnot_none_gen (qR I q ?_);cases x<;>first
  |(cases rx;rfl)
  |(obtain⟨t,rfl⟩:=rx;rfl)
theorem zY (b:j5){op:CmpOp}(h:autoParam (op≠ .In) L2.aB._auto_1)(h2:autoParam (op≠ .NotIn) L2.aB._auto_1):behindInMarks op b=false:=by
 have e1:(op==CmpOp.In)=false:=by cases op<;>first|rfl|exact absurd rfl h
 have e2:(op==CmpOp.NotIn)=false:=by cases op<;>first|rfl|exact absurd rfl h2
 cases b<;>simp[behindInMarks,e1,e2]
theorem uC {op:CmpOp}{r:R2}(ho:Hu X (compareOp op) r)(ha:PE X a ta)(hb:PE X b tb)(hm:behindInMarks op b=false):PE X (.Compare a [op] [b] pos) (tOp r ta tb):=by
 refine#[?_];intro j8 s U H Q I h;exact wpAny_Compare1 (zAo ha hb I h λv u s2 x y H2 I2 rx ry q=>ho j8 s2 U H2 x y v u Q I2 rx ry q) hm
inductive UL (x:V) (H':Hp) (Q:i7->Hp->Prop):Prop
 |mk (k:_) (h0:x=.bl k) (h1:Q k H'):UL x H' Q
def Yw (t:TE):TT:=λU H Q=>t U H λx H'=>UL x H' Q
theorem zT {op:CmpOp}{r:R2}(ho:Hu X (compareOp op) r)(ha:PE X a ta)(hb:PE X b tb)(hm:behindInMarks op b=false):PT X (.Compare a [op] [b] pos) (Yw (tOp r ta tb)):=by
 refine#[?_];intro j8 s U H Q I h;refine wpAny_isTrue_Compare1 (wO (ha j8 s U H _ I h) λv s1 ⟨x,H1,I1,r1,q1⟩=>wO (hb j8 s1 U H1 _ I1 q1) λu s2 ⟨y,H2,I2,r2,q2⟩=>
  wO (ho j8 s2 U H2 x y v u _ I2 r1 r2 q2) λc s3 ⟨z,H3,I3,r3,k,e,q3⟩=>?_) hm
 subst e;cases r3;exact qN #[H3,I3,q3]
def Ng (r r':R2)(ta tb tc:TE):TE:=λU H Q=>ta U H λx H1=>tb U H1 λy H2=>r x y H2 λz H3=> ∃k,z=.bl k/\
 (if k=true then tc U H3 λw' H4=>r' y w' H4 Q else Q (.bl false) H3)
theorem BQ {op op':CmpOp}{r r':R2}(ho:Hu X (compareOp op) r)(ho':Hu X (compareOp op') r')(ha:PE X a ta)(hb:PE X b tb)(hc:PE X c tc)
  (hm:autoParam (lastMarks [op,op'] [b,c]=false) L2.aG._auto_1):PE X (.Compare a [op,op'] [b,c] pos) (Ng r r' ta tb tc):=by
 refine#[?_];intro j8 s U H Q I h;refine Compare_chain (wO (ha j8 s U H _ I h) λv s1 ⟨x,H1,I1,r1,q1⟩=>chain_link (wO (hb j8 s1 U H1 _ I1 q1) λu s2 ⟨y,H2,I2,r2,q2⟩=>
  wO (ho j8 s2 U H2 x y v u _ I2 r1 r2 q2) λd s3 ⟨z,H3,I3,r3,k,e,q3⟩=>?_)) hm
 subst e;cases r3;refine qN ?_;cases k with
 |false=>exact ite_ff #[.bl false,H3,I3,rfl,q3]
 |true=>exact ite_tt (chain_last (wO (hc j8 s3 U H3 _ I3 q3) λw' s4 ⟨z',H4,I4,r4,q4⟩=>ho' j8 s4 U H4 y z' u w' Q I4 r2 r4 q4))
theorem Lc {op op':CmpOp}{r r':R2}(ho:Hu X (compareOp op) r)(ho':Hu X (compareOp op') r')(ha:PE X a ta)(hb:PE X b tb)(hc:PE X c tc)
  (hm:autoParam (lastMarks [op,op'] [b,c]=false) L2.aG._auto_1):PT X (.Compare a [op,op'] [b,c] pos) (Yw (Ng r r' ta tb tc)):=by
 refine#[?_];intro j8 s U H Q I h;refine isTrue_chain (wO (ha j8 s U H _ I h) λv s1 ⟨x,H1,I1,r1,q1⟩=>test_link (wO (hb j8 s1 U H1 _ I1 q1) λu s2 ⟨y,H2,I2,r2,q2⟩=>
  wO (ho j8 s2 U H2 x y v u _ I2 r1 r2 q2) λd s3 ⟨z,H3,I3,r3,k,e,q3⟩=>?_)) hm
 subst e;cases r3;refine qN ?_;cases k with
 |false=>
  obtain⟨k',e',q'⟩:=q3;cases e';exact ite_ff #[H3,I3,q']
 |true=>
  refine ite_tt (test_last (wO (hc j8 s3 U H3 _ I3 q3) λw' s4 ⟨z',H4,I4,r4,q4⟩=>wO (ho' j8 s4 U H4 y z' u w' _ I4 r2 r4 q4) λd' s5 m7=>?_));obtain⟨z2,H5,I5,r5,k2,e2,q5⟩:=m7;subst e2;cases r5;exact qN #[H5,I5,q5]
def zDj (K:a7)(x:V)(H:Hp)(k:i7):Prop:=
 match x with
 | .non=>k=false
 | .bl b=>k=b
 | .int i=>k=(i !=0)
 | .str y=>y.length<=sizeLine/\k=((y.length:Int)!=0)
 | .byt y=>y.size<=sizeLine/\k=((y.size:Int)!=0)
 | .ref p=>(∃xs,kF K H p xs/\k=!xs.isEmpty)\/(∃xs,uZ K H p xs/\k=!xs.isEmpty)\/ ∃kvs,H p=some (.dK kvs)/\k=!kvs.isEmpty
 |_=>False
theorem RF {κ:Type}{kvs:a6 (κ×V)}{vs:a6 (κ×a9)}(r:KV kvs vs):(!vs.isEmpty)=!kvs.isEmpty:=by
 cases r<;>rfl
theorem Lu {xs:a6 V}{its:a6 a9}(r:jU xs its):(!its.toArray.isEmpty)=!xs.isEmpty:=by
 cases r<;>simp
theorem Gp:(sizeLine:Nat)<2^63:=by rw[wG];decide
theorem Zc:zHf X (λx H Q=> ∃k,zDj X.K x H k/\Q k H):=by
 intro j8 s U H x v Q I rx h;obtain⟨k,e,q⟩:=h;have hl:=Gp;have hs:sizeLine=16777216:=wG;cases x with
 |non=>
  cases rx;have e':k=false:=e;subst e';exact truthy_none #[H,I,q]
 |bl b=>
  cases rx;have e':k=b:=e;subst e';exact qN #[H,I,q]
 |int i=>
  obtain⟨t,rfl⟩:=rx;have e':k=(i !=0):=e;subst e';exact PySem.P.truthy_int #[H,I,q]
 |str y=>
  obtain⟨t,rfl⟩:=rx;obtain⟨hy,e'⟩:y.length<=sizeLine/\k=((y.length:Int)!=0):=e;subst e';exact PySem.P.truthy_str () #[H,I.tok _,q]
 |byt y=>
  obtain⟨t,rfl⟩:=rx;obtain⟨hy,e'⟩:y.size<=sizeLine/\k=((y.size:Int)!=0):=e;subst e';exact PySem.W.truthy_bytes () #[H,I.tok _,q]
 |ref p=>
  cases rx;have e':(∃xs,kF X.K H p xs/\k=!xs.isEmpty)\/(∃xs,uZ X.K H p xs/\k=!xs.isEmpty)\/ ∃kvs,H p=some (.dK kvs)/\k=!kvs.isEmpty:=e
  rcases e' with⟨xs,hx,e'⟩|⟨xs,hx,e'⟩|⟨kvs,hx,e'⟩
  ·subst e';obtain⟨its,r,pl,hz⟩:=I.list hx;have n8:=r.length;exact wpAny_truthy_list pl.isList (by simp only[yH];lia) #[H,I.tok _,by rw[Lu r];exact q]
  ·subst e';obtain⟨its,r,pl,hz⟩:=I.tuple hx;have n8:=r.length;exact truthy_tuple pl (by simp only[yH];lia) #[H,I.tok _,by rw[Lu r];exact q]
  ·subst e';obtain⟨hz,hS,vs,r,m⟩:kvs.length<=sizeLine/\(p==sysModules)=false/\ ∃vs,KV kvs vs/\s.heap.DictOf (wT X.prog X.w) p vs:=I.hok p _ hx;have n8:kvs.length=vs.length:=Fp r;exact wpAny_truthy_dict hS m () #[H,I.tok _,by rw[RF r];exact q]
 |_=>exact(show False from e).elim
theorem OZ (ha:PE X a ta)(he: ∀whole,isTrue a X.env whole=(do let v<-whole;standAt a.pos;holding [v] (truthy v))):
  PT X a (λU H Q=>ta U H λx H'=> ∃k,zDj X.K x H' k/\Q k H'):=by
 refine#[?_];intro j8 s U H Q I h;exact isTrue_plain (wO (ha j8 s U H _ I h) λv s1 ⟨x,H1,I1,r1,q1⟩=>Zc j8 s1 U H1 x v Q I1 r1 q1) (he _)
theorem GD {x:V}{us:a6 a9}(r:jU [x] us): ∃u,us=[u]/\kS x u:=by
 cases r with
 |cons r1 r2=>cases r2;exact#[-1,r1]
theorem JV {x y:V}{us:a6 a9}(r:jU [x,y] us): ∃u w',us=[u,w']/\kS x u/\kS y w':=by
 cases r with
 |cons r1 r2=>
  cases r2 with
  |cons r3 r4=>cases r4;exact#[_,-1,r1,r3]
theorem HM (hc:X.calm=true):EE X (.builtin "max") (λxs H Q=> ∃i j,xs=[.int i,.int j]/\Q (.int (if j > i then j else i)) H):=by
 intro j8 s U H xs us Q I r h;obtain⟨i,j,rfl,q⟩:=h;obtain⟨u,w',rfl,⟨t,rfl⟩,⟨t',rfl⟩⟩:=JV r;refine max_two_ints (I.ok.hd hc) λh' tk k=>#[_,H,I.kept k,?_,q]
 by_cases hj:j > i
 ·rw[zP hj,zP hj];exact#[-1]
 ·rw[zO hj,zO hj];exact#[-1]
theorem Um (hc:X.calm=true):EE X (.builtin "min") (λxs H Q=> ∃i j,xs=[.int i,.int j]/\Q (.int (if j<i then j else i)) H):=by
 intro j8 s U H xs us Q I r h;obtain⟨i,j,rfl,q⟩:=h;obtain⟨u,w',rfl,⟨t,rfl⟩,⟨t',rfl⟩⟩:=JV r;refine min_two_ints (I.ok.hd hc) λh' tk k=>#[_,H,I.kept k,?_,q]
 by_cases hj:j<i
 ·rw[zP hj,zP hj];exact#[-1]
 ·rw[zO hj,zO hj];exact#[-1]
theorem MX:EE X (.type "int") (λxs H Q=>(∃i,xs=[.int i]/\Q (.int i) H)\/ ∃k,xs=[.bl k]/\Q (.int (if k then 1 else 0)) H):=by
 intro j8 s U H xs us Q I r h
 rcases h with⟨i,rfl,q⟩|⟨k,rfl,q⟩
 ·obtain⟨u,rfl,t,rfl⟩:=GD r;exact call_int_int #[.int i,H,I,#[-1],q]
 ·obtain⟨u,rfl,r1⟩:=GD r;cases r1;exact call_int_bool #[.int (if k then 1 else 0),H,I.tok _,#[-1],q]
end
structure RQ (h:j3)(x dx C:i3)(mA:Str->Option a9):Prop where
 obj:h.get? x=some (PySem.W.instObj C dx)
 ns:h.Ns1 dx mA
 ne:dx≠x
theorem TW {h:j3}{dx:i3}{mA:Str->i4 a9}(n:h.Ns1 dx mA): ∃od,h.get? dx=some od/\ ∀name,PySem.W.lookIn name od=some (mA name):=by
 obtain⟨o,es,ep,ho,hd,hk,_,hm⟩:=n;refine#[o,ho,λname=>?_];have e:=hm name;unfold nsFind findBy at e;rw[<-Array.find?_toList]at e;unfold PySem.W.lookIn;rw[hd];dsimp only;split
 ·rename_i y q;rw[q]at e;exact qX some e
 ·rename_i q;rw[q]at e;have a:es.toList.any (·.refKey)=false:=by
   rw[List.any_eq_false];intro y hy;obtain⟨z,t,hkey⟩:=hk y (Array.mem_toList_iff.mp hy)
   simp[DictEntry.refKey,hkey]
  have a': ¬es.toList.any (·.refKey)=true:=by rw[a];exact yT
  rw[zO a'];exact qX some e
theorem RQ.look {h:j3}{x dx C:i3}{mA:Str->i4 a9}(I:RQ h x dx C mA): ∃od,PySem.W.InstAt h x (PySem.W.instObj C dx) C (some od)/\ ∀name,PySem.W.lookIn name od=some (mA name):=
 let⟨od,ho,hl⟩:=TW I.ns
 #[od,#[I.obj,rfl,rfl,ho],hl]
section
variable {prog:i6}{w:i9}{A:j4}{E:a9->i5->Prop}{s:i5}{K:a7}{x dx C f:i3}{mA:Str->i4 a9}{name:Str}{v:a9}
theorem Yc {expr:i7}{Q:a9->i5->Prop}(X:K.In s.heap)(I:RQ s.heap x dx C mA)(hg:PySem.W.plainGet K C name=true)(hh:PySem.W.hasDictIn K C=true)
  (ha:PySem.W.findIn K (.ref C) name=some none) (hv:mA name=some v) (hv':PySem.W.handedIn v=true) (h:Q v {s with toks:=s.toks+1}):
  wpAny (model prog w) A (getAttr (.ref x) name expr) Q E s:=by
 obtain⟨od,J,hl⟩:=I.look;exact PySem.W.get_value X J (DS hg).1 (PySem.W.findObj_own hh ha rfl (by rw[hl,hv])) hv' h
theorem Wy {pl:Sem i7}{Q:a9×a6 a9->i5->Prop}(X:K.In s.heap)(I:RQ s.heap x dx C mA)(hg:PySem.W.plainGet K C name=true)
  (hf:PySem.W.findIn K (.ref C) name=some (some (.ref f))) (ht:PySem.W.isFn K (.ref f)=true) (hv:mA name=none) (h:Q (.ref f,[.ref x]) s):
  wpAny (model prog w) A (getMethod (.ref x) name pl) Q E s:=by
 obtain⟨od,J,hl⟩:=I.look;exact PySem.W.method_fn X J (DS hg).1 (DS hg).2 hf (beq_iff_eq.mp ht) (by show(PySem.W.lookIn name od).map (·.isSome)=some false;rw[hl,hv];rfl) h
theorem Xk {ns:a6 Str}{Q:Unit->i5->Prop}(X:K.In s.heap)(I:RQ s.heap x dx C mA)
  (hs:PySem.W.findIn K (.ref C) "__setattr__"=some (some (.builtin "object.__setattr__"))) (hp:PySem.W.plainOver K C=true) (ht:PySem.W.takerIn K C name=some none) (hh:PySem.W.hasDictIn K C=true)
  (hw:PySem.Within mA ns) (hsz:ns.length<=sizeLine)
  (h: ∀h',RQ h' x dx C (λy=>if y=name then some v else mA y)->Heap.SameBut dx s.heap h'->Q Unit.unit {s with heap:=h',toks:=s.toks+2}):
  wpAny (model prog w) A (setAttr (.ref x) name v) Q E s:=by
 obtain⟨od,J,hl⟩:=I.look;refine PySem.W.set_plain X J hs (PySem.W.osa_open (s:={s with toks:=s.toks+1}) (r:=none) X J hp ht λb=>?_);obtain⟨cd,hc,hd'⟩:=PySem.W.any_some hh;have hx:s.heap.get? x=some #[.ref C,some dx,.plain,#[]]:=I.obj;refine zD (yB (zD (zD (wpAny_loadPart hx (zD (PySem.W.Looks.here (s:={s with toks:=s.toks+1}) (PySem.W.looks_clsIn X hc) ?_))))));rw[hd'];refine yB (a:=some dx) (zD (yB (zD ?_)));refine wpAny_nsSet1 (s:={s with toks:=s.toks+1}) I.ns λh' hn2 hs2=>?_;obtain⟨oD,esD,epD,hoD,hdD,hcD⟩:=hn2.count (PySem.Within.cons name v hw);refine zD (wpAny_lookBehind hoD (by rw[hdD];exact pastItsLine_dict (yU hcD (by rw[zJ];lia))) ?_);exact yB (h _ #[(hs2.2 _ (Ne.symm I.ne)).trans I.obj,hn2,I.ne] hs2)
theorem VW {R:Result->i5->Prop}{vs:a6 a9}{kw:a6 (Str×a9)}(X:K.In s.heap)(hm:PySem.W.makesIn K C=true)
  (hi:PySem.W.findIn K (.ref C) "__init__"=some (some (.ref f))) (hf:PySem.W.typeIn K (.ref f)=some (.type "function"))
  (h:codeAny (model prog w) (A.under (.builtin "type.__call__" #[.ref C::vs,kw])) (.call (.ref f) #[.ref (s.heap.objs.size+1)::vs,kw]) (PySem.W.InitBack (s.heap.objs.size+1) R)
   {s with heap:=(s.heap.push PySem.W.emptyDict).push (PySem.W.instObj C s.heap.objs.size)}):
  codeAny (model prog w) A (.call (.ref C) #[vs,kw]) R s:=by
 obtain⟨hh,g,d,t,os⟩:=s;exact PySem.W.make_core (PySem.W.makes_of X hm) (PySem.W.looks_findIn X hi) (λself=>PySem.W.bind_fn X self hf) (.inl rfl) h
end
noncomputable def He (f:Str)(v:V):a6 (Str×V)->a6 (Str×V)
 |[]=>[(f,v)]
 |(g,x)::r=>if g=f then(g,v)::r else(g,x)::He f v r
theorem JY (f g:Str)(v:V): ∀fs:a6 (Str×V),(He f v fs).lookup g=if g=f then some v else fs.lookup g
 |[]=>by
  show List.lookup g [(f,v)]=_
  by_cases h:g=f
  ·have hb:(g==f)=true:=beq_iff_eq.mpr h;simp only[List.lookup,hb,zP h]
  ·have hb:(g==f)=false:=beq_eq_false_iff_ne.mpr h;simp only[List.lookup,hb,zO h]
 |(k,x)::r=>by
  have ih:=JY f g v r;rw[show He f v ((k,x)::r)=(if k=f then(k,v)::r else(k,x)::He f v r)from rfl]
  by_cases hk:k=f
  ·rw[zP hk]
   by_cases h:g=k
   ·have hb:(g==k)=true:=beq_iff_eq.mpr h;simp only[List.lookup,hb,zP (h.trans hk)]
   ·have hb:(g==k)=false:=beq_eq_false_iff_ne.mpr h;simp only[List.lookup,hb,zO (λe:g=f=>h (e.trans hk.symm))]
  ·rw[zO hk]
   by_cases h:g=k
   ·have hb:(g==k)=true:=beq_iff_eq.mpr h;simp only[List.lookup,hb,zO (λe:g=f=>hk (h.symm.trans e))]
   ·have hb:(g==k)=false:=beq_eq_false_iff_ne.mpr h;simp only[List.lookup,hb];exact ih
theorem JO (f:Str)(v:V): ∀fs:a6 (Str×V),f∈(He f v fs).map (·.1)/\ ∀g,g∈fs.map (·.1)->g∈(He f v fs).map (·.1)
 |[]=>#[by simp[He],λg h=>by simp at h]
 |(k,x)::r=>by
  obtain⟨i1,i2⟩:=JO f v r;rw[show He f v ((k,x)::r)=(if k=f then(k,v)::r else(k,x)::He f v r)from rfl]
  by_cases hk:k=f
  ·rw[zP hk];subst hk;exact#[by simp,λg h=>by simpa using h]
  ·rw[zO hk];refine#[?_,λg h=>?_]
   ·rw[yO];exact zZ _ i1
   ·rw[yO]at h ⊢
    rcases List.mem_cons.mp h with e|e
    ·exact List.mem_cons.mpr (.inl e)
    ·exact zZ _ (i2 g e)
theorem JZ (f:Str)(v:V): ∀fs:a6 (Str×V),(He f v fs).length<=fs.length+1
 |[]=>by simp[He]
 |(k,x)::r=>by
  have ih:=JZ f v r;rw[show He f v ((k,x)::r)=(if k=f then(k,v)::r else(k,x)::He f v r)from rfl]
  by_cases hk:k=f
  ·rw[zP hk,zJ,zJ];lia
  ·rw[zO hk,zJ,zJ];lia
theorem Ht.some_of {v:V}{o:i4 a9}(r:Ht (some v) o): ∃u,o=some u/\kS v u:=by
 cases o with
 |none=>exact(show False from r).elim
 |some u=>exact#[u,rfl,r]
theorem Ht.none_of {o:i4 a9}(r:Ht none o):o=none:=by
 cases o with
 |none=>rfl
 |some u=>exact(show False from r).elim
theorem Uc {v:V}{u:a9}(r:kS v u):PySem.W.handedIn u=true:=by
 cases v with
 |non=>cases(show u=Value.none from r);rfl
 |bl b=>cases(show u=Value.bool b from r);rfl
 |int i=>obtain⟨t,e⟩:=(show ∃t,u=Value.int i t from r);cases e;rfl
 |str x=>obtain⟨t,e⟩:=(show ∃t,u=Value.str x t from r);cases e;rfl
 |byt b=>obtain⟨t,e⟩:=(show ∃t,u=Value.bytes b t from r);cases e;rfl
 |flt b=>obtain⟨t,e⟩:=(show ∃t,u=Value.float b t from r);cases e;rfl
 |ref a=>cases(show u=Value.ref a from r);rfl
 |ty n=>cases(show u=Value.type n from r);rfl
section
variable {P:i6}{w:i9}{H H':Hp}{h h':j3}{a C dx:i3}{fs fs':a6 (Str×V)}
theorem Kw (hok:Ix P w H h)(e:H a=some (.ins C dx fs)): ∃mA,RQ h a dx C mA/\(∀f,Ht (fs.lookup f) (mA f))/\PySem.Within mA (fs.map (·.1))/\fs.length<=1000/\H dx=some (.own a):=by
 obtain⟨d,z,ne,ob,mA,n,r,q⟩:=(show vV P w H h a (.ins C dx fs)from hok a _ e);exact#[mA,#[ob,n,ne],r,q,z,d]
end
structure RX (K:a7)(C:i3):Prop where
 pg:PySem.W.plainGet K C Str.empty=true
 hd:PySem.W.hasDictIn K C=true
 po:PySem.W.plainOver K C=true
 sa:PySem.W.findIn K (.ref C) "__setattr__"=some (some (.builtin "object.__setattr__"))
theorem RX.get {K:a7}{C:i3}(c:RX K C)(f:Str):PySem.W.plainGet K C f=true:=c.pg
def Bh (K:a7)(C:i3)(f:Str):Prop:=PySem.W.findIn K (.ref C) f=some none
theorem Bh.taker {K:a7}{C:i3}{f:Str}(n:Bh K C f):PySem.W.takerIn K C f=some none:=by
 unfold PySem.W.takerIn;rw[show PySem.W.findIn K (.ref C) f=some none from n];rfl
structure Yu (K:a7)(C:i3)(m:Str)(f:i3):Prop where
 at_:PySem.W.findIn K (.ref C) m=some (some (.ref f))
 fn:PySem.W.isFn K (.ref f)=true
 kp:PySem.W.keepIn K (.ref f)=true
section
variable {X:Cx}{j8:a6 (i3×j7)}{U:St}{H:Hp}{s:i5}{a C dx:i3}{fs:a6 (Str×V)}{f:Str}{v:V}{A:j4}{E:a9->i5->Prop}
theorem Lw {b:i7}{Q:a9->i5->Prop}(I:xY X j8 U H s)(e:H a=some (.ins C dx fs))(c:RX X.K C)(n:Bh X.K C f)(l:fs.lookup f=some v)
  (h: ∀u s',xY X j8 U H s'->kS v u->Q u s'):wpAny (model X.prog X.w) A (getAttr (.ref a) f b) Q E s:=by
 obtain⟨mA,O,r,_,_,_⟩:=Kw I.hok e;obtain⟨u,hu,ru⟩:=Ht.some_of (v:=v) (o:=mA f) (by rw[<-l];exact r f);exact Yc I.kIn O (c.get f) c.hd n hu (Uc ru) (h u _ (I.tok _) ru)
theorem Lv {m:Str}{g:i3}{pl:Sem i7}{Q:a9×a6 a9->i5->Prop}(I:xY X j8 U H s)(e:H a=some (.ins C dx fs))(c:RX X.K C)(k:Yu X.K C m g)(l:fs.lookup m=none)
  (h:Q (.ref g,[.ref a]) s):wpAny (model X.prog X.w) A (getMethod (.ref a) m pl) Q E s:=by
 obtain⟨mA,O,r,_,_,_⟩:=Kw I.hok e;have hn:mA m=none:=Ht.none_of (by rw[<-l];exact r m);exact Wy I.kIn O (c.get m) k.at_ k.fn hn h
theorem KN {y:V}{u:a9}{Q:Unit->i5->Prop}(I:xY X j8 U H s)(e:H a=some (.ins C dx fs))(c:RX X.K C)(n:Bh X.K C f)(hl:fs.length<1000)(ry:kS y u)
  (h: ∀s',xY X j8 U (upd H a (.ins C dx (He f y fs))) s'->Q Unit.unit s'):wpAny (model X.prog X.w) A (setAttr (.ref a) f u) Q E s:=by
 obtain⟨mA,O,r,wi,_,ho⟩:=Kw I.hok e;have hz:(fs.map (·.1)).length<=sizeLine:=by rw[zM,wG];lia
 refine Xk I.kIn O c.sa c.po n.taker c.hd wi hz λh' O' sb=>h _ ?_;have hd: ∃o,h'.get? dx=some o:=let⟨o,_,_,e',_⟩:=O'.ns;#[o,e'];refine I.write (x:=a) (e:=dx) (by rw[e];exact True.intro) (.inr ho) (λb q hb z=>(sb.2 b hb).trans z) hd ?_;refine#[by rw[yQ O.ne];exact ho,?_,O.ne,O'.obj,_,O'.ns,λg=>?_,λg hg=>?_]
 ·have:=JZ f y fs;lia
 ·show Ht ((He f y fs).lookup g) (if g=f then some u else mA g);rw[JY]
  by_cases q:g=f
  ·rw[zP q,zP q];exact ry
  ·rw[zO q,zO q];exact r g
 ·by_cases q:g=f
  ·rw[q];exact(JO f y fs).1
  ·refine(JO f y fs).2 g (wi g λz=>hg ?_);show(if g=f then some u else mA g)=none;rw[zO q];exact z
theorem xY.made (I:xY X j8 U H s):xY X j8 U (upd (upd H s.heap.objs.size (.own (s.heap.objs.size+1))) (s.heap.objs.size+1) (.ins C s.heap.objs.size []))
  {s with heap:=(s.heap.push PySem.W.emptyDict).push (PySem.W.instObj C s.heap.objs.size)}:=by
 have e1:(s.heap.push PySem.W.emptyDict).get? s.heap.objs.size=some PySem.W.emptyDict:=yI s.heap rfl;have e2:((s.heap.push PySem.W.emptyDict).push (PySem.W.instObj C s.heap.objs.size)).get? (s.heap.objs.size+1)=some (PySem.W.instObj C s.heap.objs.size):=by
  have:=yI (s.heap.push PySem.W.emptyDict) (o:=PySem.W.instObj C s.heap.objs.size) rfl
  rwa [vP]at this
 have e3:(s.heap.push PySem.W.emptyDict).Ns s.heap.objs.size (λ_=>none):=#[PySem.W.emptyDict,#[],_,e1,rfl,(λe he=>absurd he (by simp)),λ_=>rfl];have I1:=I.laid (a:=s.heap.objs.size) (o:=.own (s.heap.objs.size+1)) (h':=s.heap.push PySem.W.emptyDict) (t':=s.toks) (λb u q=>zL _ q) (zS _) #[_,e1];refine I1.laid (a:=s.heap.objs.size+1) (o:=.ins C s.heap.objs.size []) (t':=s.toks) (λb u q=>zL _ q) (Nat.le_of_eq (vP _ _)) ?_;have ne:s.heap.objs.size≠s.heap.objs.size+1:=xT (Bb _);refine#[by rw[yQ ne,zE],xG _,ne,e2,λ_=>none,(Heap.Ns1.of_empty e3).at λo q=>zL _ q,λ_=>True.intro,λy hy=>absurd rfl hy]
theorem Yo {prog:i6}{w:i9}{env:Env}{e:j5}{f:Str}{pos:Pos}{s:i5}{Q:a9->i5->Prop}(hb:attributeBase e f env (eval e env)=eval e env)
  (h:wpAny (model prog w) A (eval e env) (λo s₁=>wpAny (model prog w) A (getAttr o f true) Q E s₁) E s):wpAny (model prog w) A (eval (.Attribute e f pos) env) Q E s:=
 Attribute_any_ h (by rw[arm_eval_Attribute,hb])
end
inductive Yy (K:a7) (f:Str) (x:V) (H1:Hp) (Q:VK):Prop
 |mk (a C dx fs v:_) (h0:x=.ref a) (h1:H1 a=some (.ins C dx fs)) (h2:RX K C) (h3:Bh K C f) (h4:fs.lookup f=some v) (h5:Q v H1):Yy K f x H1 Q
def zBl (K:a7)(ta:TE)(f:Str):TE:=λU H Q=>ta U H λx H1=>Yy K f x H1 Q
def zEx (K:a7)(ta tv:TE)(f:Str):TS:=λD U H=>tv U H λy H1=>ta U H1 λx H2=> ∃a C dx fs,x=.ref a/\H2 a=some (.ins C dx fs)/\RX K C/\Bh K C f/\fs.length<1000/\
 D.nx U (upd H2 a (.ins C dx (He f y fs)))
def zDw (X:Cx)(op:Operator)(rd:V->V->Hp->VK->Prop):Prop:=
 ∀(j8:a6 (i3×j7)) (s:i5) (U:St) (H:Hp) (x y:V) (u v:a9) (Q:VK),xY X j8 U H s->kS x u->kS y v->rd x y H Q->wpAny (model X.prog X.w) X.A (inplaceOp op u v) (EP X j8 U Q) X.xe s
def Xl (K:a7)(ta tv:TE)(rd:V->V->Hp->VK->Prop)(f:Str):TS:=λD U H=>ta U H λx H1=> ∃a C dx fs v,x=.ref a/\H1 a=some (.ins C dx fs)/\RX K C/\Bh K C f/\fs.lookup f=some v/\
 tv U H1 λy H2=>rd v y H2 λz H3=> ∃dx' fs',H3 a=some (.ins C dx' fs')/\fs'.length<1000/\D.nx U (upd H3 a (.ins C dx' (He f z fs')))
section
variable {X:Cx}{o e value:j5}{f:Str}{pos pos' tpos:Pos}{ta tv:TE}
theorem jL (he:PE X e ta)(hb:attributeBase e f X.env (eval e X.env)=eval e X.env):PE X (.Attribute e f pos) (zBl X.K ta f):=by
 refine#[?_];intro j8 s U H Q I h;refine Yo hb (wO (he j8 s U H _ I h) λu s1 m7=>?_);obtain⟨x,H1,I1,rx,a,C,dx,fs,v,ex,ea,c,n,l,q⟩:=m7;subst ex;obtain rfl:u=Value.ref a:=rx;exact Lw I1 ea c n l λu' s2 I2 ru=>#[v,H1,I2,ru,q]
theorem Gi (ha:PE X o ta)(hv:PE X value tv)(hs:swapsWith value (some (.Attribute o f pos')) pos.line X.env=pure false):PS X (.Assign [.Attribute o f pos'] value pos) (zEx X.K ta tv f):=by
 refine#[?_];intro j8 s U H D I h;refine plainObj_wpAny_Assign_Attribute (wO (hv j8 s U H _ I h) λu s1 hz=>?_) hs;obtain⟨y,H1,I1,ry,q⟩:=hz;refine wO (ha j8 s1 U H1 _ I1 q) λov s2 hz=>?_;obtain⟨x,H2,I2,rx,a,C,dx,fs,ex,ea,c,n,l,q2⟩:=hz;subst ex;obtain rfl:ov=Value.ref a:=rx;exact KN I2 ea c n l ry λs3 I3=>#[U,_,I3,q2]
theorem To {op:Operator}{rd:V->V->Hp->VK->Prop}(ha:PE X o ta)(hv:PE X value tv)(hop:zDw X op rd):PS X (.AugAssign (.Attribute o f tpos) op value pos) (Xl X.K ta tv rd f):=by
 refine#[?_];intro j8 s U H D I h;refine wpAny_AugAssign_AttributeAny (wO (ha j8 s U H _ I h) λov s1 m7=>?_);obtain⟨x,H1,I1,rx,a,C,dx,fs,v,ex,ea,c,n,l,q⟩:=m7;subst ex;obtain rfl:ov=Value.ref a:=rx;refine Lw I1 ea c n l λu s2 I2 ru=>wO (hv j8 s2 U H1 _ I2 q) λw3 s3 ⟨y,H2,I3,ry,q3⟩=>wO (hop j8 s3 U H2 v y u w3 _ I3 ru ry q3) λw4 s4 m7=>?_;obtain⟨z,H3,I4,rz,dx',fs',ea',l',q4⟩:=m7;exact KN I4 ea' c n l' rz λs5 I5=>#[U,_,I5,q4]
def zGl:V->V->Hp->VK->Prop:=λx y H Q=> ∃i j,x=.int i/\y=.int j/\Q (.int (i+j)) H
theorem zAc:zDw X .Add zGl:=by
 rintro j8 s U H x y u v Q I rx ry ⟨i,j,rfl,rfl,q⟩;obtain⟨t,rfl⟩:=(show ∃t,u=Value.int i t from rx);obtain⟨t',rfl⟩:=(show ∃t',v=Value.int j t' from ry);exact PyProof.Rows.iadd_int #[.int (i+j),H,I.tok _,#[-1],q]
end
section
variable {X:Cx}{j8:a6 (i3×j7)}{U:St}{H:Hp}{s:i5}{A:j4}{E:a9->i5->Prop}{Q:a9->i5->Prop}{c:a9}{b:i7}
inductive Jj (K:a7) (H:Hp):V->a9->Prop where
 |non:Jj K H .non (.type "NoneType")
 |bl (x:i7):Jj K H (.bl x) (.type "bool")
 |int (i:Int):Jj K H (.int i) (.type "int")
 |str (x:Str):Jj K H (.str x) (.type "str")
 |flt (x:UInt64):Jj K H (.flt x) (.type "float")
 |lst {a:i3} {xs:List V} (e:H a=some (.lst xs)):Jj K H (.ref a) (.type "list")
 |frz {a:i3} {o:j7} {xs:List V} (e:H a=some (.frz o (.lst xs))):Jj K H (.ref a) (.type "list")
 |tup {a:i3} {xs:List V} (e:H a=some (.tup xs)):Jj K H (.ref a) (.type "tuple")
 |dK {a:i3} {kvs:List (Bk×V)} (e:H a=some (.dK kvs)):Jj K H (.ref a) (.type "dict")
 |dT {a:i3} {kvs:List (List Bk×V)} (e:H a=some (.dT kvs)):Jj K H (.ref a) (.type "dict")
 |ins {a C dx:i3} {fs:List (Str×V)} (e:H a=some (.ins C dx fs)) (cl:RX K C) (ha:PySem.W.findIn K (.ref C) "__class__"=some (some (.builtin "object.__class__")))
   (hn:PySem.W.specialIn K (.builtin "object.__class__") "__get__"=some (some (.builtin "getset_descriptor.__get__"))) (htk:PySem.W.takesIn K (.builtin "object.__class__")=some true)
   (hm:PySem.W.mroIn K C (.type "object")=some true):Jj K H (.ref a) (.ref C)
theorem MM {x:V}{u t:a9}(I:xY X j8 U H s)(rx:kS x u)(ty:Jj X.K H x t)(e:PySem.W.kitOne X.K t c=some b)(h: ∀tk,Q (.bool b) {s with toks:=tk}):
  wpAny (model X.prog X.w) A (call (.builtin "isinstance") [u,c]) Q E s:=by
 cases ty with
 |non=>cases(show u=Value.none from rx);exact qD PySem.W.kitx_none I.kIn True.intro e (λz=>nomatch z) h
 |bl y=>cases(show u=Value.bool y from rx);exact qD PySem.W.kitx_bool I.kIn True.intro e (λz=>nomatch z) h
 |int i=>obtain⟨t,q⟩:=(show ∃t,u=Value.int i t from rx);cases q;exact qD PySem.W.kitx_int I.kIn True.intro e (λz=>nomatch z) h
 |str y=>obtain⟨t,q⟩:=(show ∃t,u=Value.str y t from rx);cases q;exact qD PySem.W.kitx_str I.kIn True.intro e (λz=>nomatch z) h
 |flt y=>obtain⟨t,q⟩:=(show ∃t,u=Value.float y t from rx);cases q;exact qD PySem.W.kitx_float I.kIn True.intro e (λz=>nomatch z) h
 |@lst a xs ea=>
  cases(show u=Value.ref a from rx);obtain⟨_,_,n,_,h1⟩:=(show vV X.prog X.w H s.heap a (.lst xs)from I.hok a _ ea);exact qD Fc I.kIn #[_,h1,rfl] e (λz=>nomatch z) h
 |@frz a ob xs ea=>
  cases(show u=Value.ref a from rx);obtain⟨_,_,_,n,_,h1⟩:=(show vV X.prog X.w H s.heap a (.frz ob (.lst xs))from I.hok a _ ea);exact qD Fc I.kIn #[_,h1,rfl] e (λz=>nomatch z) h
 |@tup a xs ea=>
  cases(show u=Value.ref a from rx);obtain⟨_,_,_,p⟩:=(show vV X.prog X.w H s.heap a (.tup xs)from I.hok a _ ea);obtain⟨o,h1,h2,_⟩:=p;exact qD PySem.W.kitx_tuple I.kIn #[o,h1,h2] e (λz=>nomatch z) h
 |@dK a kvs ea=>
  cases(show u=Value.ref a from rx);obtain⟨_,_,vs,_,p⟩:=(show vV X.prog X.w H s.heap a (.dK kvs)from I.hok a _ ea);obtain⟨o,es,ep,h1,h2,_⟩:=p;exact qD PySem.W.kitx_dict I.kIn #[o,h1,h2.1] e (λz=>nomatch z) h
 |@dT a kvs ea=>
  cases(show u=Value.ref a from rx);obtain⟨_,_,xs,_,o,es,ep,h1,h2,_⟩:=(show vV X.prog X.w H s.heap a (.dT kvs)from I.hok a _ ea);exact qD PySem.W.kitx_dict I.kIn #[o,h1,h2.1] e (λz=>nomatch z) h
 |@ins a C dx fs ea cl ha hn htk hm=>
  cases(show u=Value.ref a from rx);obtain⟨mA,O,_⟩:=Kw I.hok ea;obtain⟨od,J,_⟩:=O.look;exact qD (PySem.W.kitx_own (cl.get _) cl.hd ha hn htk hm) I.kIn J e (λz=>nomatch z) h
end
structure Am (k:Nat)(A:j4):Prop where
 hd:A.handled=none
 dp:A.depth+3*k+5<recursionLimit
 un:A.units+16*k+200<cLine
 gd:A.guards=some []
theorem Am.mono {j k:Nat}{A:j4}(r:Am k A)(h:j<=k):Am j A:=#[r.hd,by have:=r.dp;lia,by have:=r.un;lia,r.gd]
theorem Am.deeper {k:Nat}{A:j4}(r:Am (k+1) A)(env:Env):Am k (A.deeper env):=
 #[r.hd,by have:=r.dp;show A.depth+1+3*k+5<_;lia,by have:=r.un;show A.units+3+16*k+200<_;lia,r.gd]
theorem Ry {A:j4}{C:i3}{us:a6 a9}{kw:a6 (Str×a9)}:(A.under (.builtin "type.__call__" #[.ref C::us,kw])).depth =A.depth+1:=by
 first|rfl|simp[Around.under,Code.weight,Code.isCreation,Code.isGuard,Code.isCaller,Code.frames,Code.isFrame,guardIds]
theorem Rx {A:j4}{C:i3}{us:a6 a9}{kw:a6 (Str×a9)}:(A.under (.builtin "type.__call__" #[.ref C::us,kw])).units =A.units+1:=by
 first|rfl|simp[Around.under,Code.cUnits,Code.frames,Code.isFrame]
theorem Am.make {k:Nat}{A:j4}(r:Am (k+1) A)(C:i3)(us:a6 a9)(kw:a6 (Str×a9)):Am k (A.under (.builtin "type.__call__" #[.ref C::us,kw])):=
 #[r.hd,by have:=r.dp;rw[Ry];lia,by have:=r.un;rw[Rx];lia,r.gd]
theorem Am.depth {k:Nat}{A:j4}(r:Am k A):A.depth<recursionLimit:=by have:=r.dp;lia
theorem Am.units {k:Nat}{A:j4}(r:Am k A):A.units+64<cLine:=by have:=r.un;lia
def UM:TA:=λ_ H Q=>Q [] H
def zBo (ta:TE)(tr:TA):TA:=λU H Q=>ta U H λx H1=>tr U H1 λxs H2=>Q (x::xs) H2
section
variable {X:Cx}{e:j5}{es:a6 j5}{te:TE}{t:TA}{pos:Pos}
theorem zC:PA X [] UM:=#[λ_ _ _ _ H Q I h=>Calls.spliced_nil #[[],H,I,.nil,h]]
theorem zA (ha:PE X e te)(hr:PA X es t)(hs:autoParam (starEach (e::es) X.env=(false,eval e X.env)::starEach es X.env) L2.aE._auto_1):PA X (e::es) (zBo te t):=by
 refine#[?_];intro pos j8 s U H Q I h;rw[hs];show wpAny _ _ (spliced ((false,eval e X.env)::backTo pos (starEach es X.env))) _ _ s;refine Calls.spliced_cons (wO (ha j8 s U H _ I h) λu s1 m7=>?_);obtain⟨x,H1,I1,r1,q1⟩:=m7;exact wO (hr pos j8 s1 U H1 _ I1 q1) λus s2 ⟨xs,H2,I2,r2,q2⟩=>#[x::xs,H2,I2,.cons r1 r2,q2]
inductive UK (xs:List V) (H1:Hp) (Q:VK):Prop
 |mk (h0:xs.length<=sizeLine) (h1: ∀p,H1 p=none->Q (.ref p) (upd H1 p (.tup xs))):UK xs H1 Q
def zEo (t:TA):TE:=λU H Q=>t U H λxs H1=>UK xs H1 Q
inductive Yx (xs:List V) (H1:Hp) (Q:VK):Prop
 |mk (h0:xs.length<=sizeLine) (h1: ∀p,H1 p=none->Q (.ref p) (upd H1 p (.lst xs))):Yx xs H1 Q
def zEq (t:TA):TE:=λU H Q=>t U H λxs H1=>Yx xs H1 Q
theorem xM {x1}(h:PA X es t):PE X (.Tuple es x1 pos) (zEo t):=by
 refine#[?_];intro j8 s U H Q I hq;refine wpAny_Tuple_spliced (wO (h pos j8 s U H _ I hq) λus s1 ⟨xs,H1,I1,r,z,q⟩=>#[by rw[<-r.length];exact z,?_]);have hf:H1 s1.heap.objs.size=none:=I1.hok.fresh (zS _);refine#[.ref s1.heap.objs.size,upd H1 s1.heap.objs.size (.tup xs),I1.laid (t':=s1.toks) (λb u e=>zL _ e) (zS _) ?_,rfl,q _ hf];exact#[z,us,r,#[_,yI _ rfl,rfl,-1]]
theorem kU (h:PA X es t):PE X (.List es pos) (zEq t):=by
 refine#[?_];intro j8 s U H Q I hq;refine wpAny_List_spliced (wO (h pos j8 s U H _ I hq) λus s1 ⟨xs,H1,I1,r,z,q⟩=>#[by rw[<-r.length];exact z,?_]);have hf:H1 s1.heap.objs.size=none:=I1.hok.fresh (zS _);refine#[.ref s1.heap.objs.size,upd H1 s1.heap.objs.size (.lst xs),I1.laid (t':=s1.toks) (λb u e=>zL _ e) (zS _) ?_,rfl,q _ hf];exact#[z,us,0,r,yI _ rfl]
end
abbrev Sp:=a6 V->Hp->VK->XK->Prop
abbrev Mm:=a6 Env->Hp->i5->XK->a9->i5->Prop
structure RV (P:i6)(w:i9)(K:a7)(mg:Str->Option a9)(base:j3)(A:j4)(outer:List Env)(s:i5)(H:Hp):Prop where
 frames:A.frames=some outer
 mod:Mod K mg base
 bs: ∀b o,base.get? b=some o->s.heap.get? b=some o/\H b=none
 bsz:base.objs.size<=s.heap.objs.size
 funs:s.heap.FunFrames base outer
 frf: ∀b∈frs outer,H b=none
 hok:Ix P w H s.heap
 bare:AllBare s.gens
def CE (outer:a6 Env)(P:i6)(w:i9)(H:Hp)(s:i5)(Q:VK)(u:a9)(s':i5):Prop:=
 ∃v H',s'.os=s.os/\AllBare s'.gens/\Un (frs outer) [] H H' s.heap s'.heap/\Ix P w H' s'.heap/\kS v u/\Q v H'
def CR (CX:Mm)(outer:a6 Env)(P:i6)(w:i9)(H:Hp)(s:i5)(Q:VK)(E:XK)(r:Result)(s':i5):Prop:=
 match r with
 | .ok (.ret u)=>CE outer P w H s Q u s'
 | .ok _=>False
 | .error e=>CX outer H s E e s'
structure Dx (P:i6)(w:i9)(K:a7)(mg:Str->Option a9)(base:j3)(CX:Mm)(k:Nat)(f:i3)(fd:FuncData)(ps:List Str)(sp:Sp):Prop where
 len: ∀vs H Q E,sp vs H Q E->vs.length=ps.length
 run: ∀(A:j4) (outer:List Env) (s:i5) (H:Hp) (args:Args) (us:List a9) (vs:List V) (Q:VK) (E:XK),Am k A->RV P w K mg base A outer s H->BindsTo s fd args (ps.zip us)->jU vs us->sp vs H Q E->
  codeAny (model P w) A (.call (.ref f) args) (CR CX outer P w H s Q E) s
theorem RV.make {P:i6}{w:i9}{K:a7}{mg:Str->i4 a9}{base:j3}{A:j4}{outer:a6 Env}{s:i5}{H:Hp}(e:RV P w K mg base A outer s H)(C:i3)(us:a6 a9)(kw:a6 (Str×a9)):
  RV P w K mg base (A.under (.builtin "type.__call__" #[.ref C::us,kw])) outer s H:=#[by first|exact e.frames|(simpa[Around.under,Code.envs,Code.isFrame,pushEnvs]using e.frames),e.mod,e.bs,e.bsz,e.funs,e.frf,e.hok,e.bare]
section
variable {X:Cx}{j8:a6 (i3×j7)}{U:St}{H:Hp}{s s':i5}
theorem xY.env0 (I:xY X j8 U H s):RV X.prog X.w X.K X.mg X.base X.A X.stack s H:=
 #[I.ok.frames,I.ok.mod,I.bs,yU I.ok.bsz I.sz,I.stack,I.stkFree,I.hok,I.bare]
theorem xY.after {Q:VK}{u:a9}(I:xY X j8 U H s)(h:CE X.stack X.prog X.w H s Q u s'):EP X j8 U Q u s':=by
 obtain⟨v,H',os,bare,un,hok,r,q⟩:=h;obtain⟨hh,g,d,t,os'⟩:=s';obtain rfl:os'=s.os:=os;exact#[v,H',I.call (h':=hh) (g':=g) (d':=d) (t':=t) (ch:=[]) un hok bare (λb z=>absurd z (by simp)),r,q]
end
def Sc (sp:Sp)(dvs:a6 V)(E:XK)(t:TA):TE:=λU H Q=>t U H λvs H1=>sp (vs++dvs) H1 Q E
inductive UN (C:i3) (m:Str) (sp:Sp) (dvs:List V) (E:XK) (t:TA) (U:St) (x:V) (H1:Hp) (Q:VK):Prop
 |mk (a dx fs:_) (h0:x=.ref a) (h1:H1 a=some (.ins C dx fs)) (h2:fs.lookup m=none) (h3:t U H1 λvs H2=>sp (x::(vs++dvs)) H2 Q E):UN C m sp dvs E t U x H1 Q
def Sa (C:i3)(m:Str)(sp:Sp)(dvs:a6 V)(E:XK)(ta:TE)(t:TA):TE:=λU H Q=>ta U H λx H1=>UN C m sp dvs E t U x H1 Q
def Sb (C:i3)(sp:Sp)(dvs:a6 V)(E:XK)(t:TA):TE:=λU H Q=>t U H λvs H1=> ∀x dx,H1 x=none->H1 dx=none->dx≠x->
 sp (.ref x::(vs++dvs)) (upd (upd H1 dx (.own x)) x (.ins C dx [])) (λv H2=>v=.non/\Q (.ref x) H2) E
def uR (K:a7)(fd:FuncData)(ps:a6 Str)(ds:a6 a9):Prop:=
 ∀(s:i5) (us:a6 a9),K.In s.heap->(us++ds).length =ps.length->BindsTo s fd #[us,[]] (ps.zip (us++ds))
theorem uR.all {K:a7}{fd:FuncData}{ps:a6 Str}(h: ∀us:a6 a9,us.length=ps.length->bindArgs fd #[us,[]]=pure (ps.zip us)):uR K fd ps []:=λs us _ hl=>by
 rw[xJ]at hl ⊢;exact .of_eq (h us hl)
def CY (CX:Mm)(X:Cx)(E:XK):Prop:= ∀(j8:a6 (i3×j7)) (U:St) (H:Hp) (s:i5) (e:a9) (s':i5),xY X j8 U H s->CX X.stack H s E e s'->X.xe e s'
section
variable {X:Cx}{CX:Mm}{k:Nat}{f C:i3}{fd:FuncData}{ps:a6 Str}{sp:Sp}{dvs:a6 V}{ds:a6 a9}{E:XK}{x m:Str}{p pos o8:Pos}{e o:j5}{es:a6 j5}{ta:TE}{t:TA}
theorem QS {j8:a6 (i3×j7)}{U:St}{H:Hp}{s:i5}{Q:VK}{us:a6 a9}{vs:a6 V}(F:Dx X.prog X.w X.K X.mg X.base CX k f fd ps sp)(hr:Am k X.A)(hb:uR X.K fd ps ds)(hd:jU dvs ds)(hx:CY CX X E)
  (I:xY X j8 U H s) (r:jU vs us) (h:sp (vs++dvs) H Q E):wpAny (model X.prog X.w) X.A (call (.ref f) us) (EP X j8 U Q) X.xe s:=by
 have r2:jU (vs++dvs) (us++ds):=r.append hd;have hl:(us++ds).length =ps.length:=by rw[<-r2.length];exact F.len _ _ _ _ h
 refine wpAny_call (codeAny_mono (F.run X.A X.stack s H #[us,[]] (us++ds) (vs++dvs) Q E hr I.env0 (hb s us I.kIn hl) r2 h) λr s' hq=>?_);cases r with
 |error e=>exact hx j8 U H s e s' I hq
 |ok fl=>
  cases fl with
  |ret u=>exact I.after hq
  |next=>exact False.elim hq
  |brk=>exact False.elim hq
  |cont=>exact False.elim hq
theorem XB (F:Dx X.prog X.w X.K X.mg X.base CX k f fd ps sp)(hr:Am k X.A)(hg:Gl X x)(hm:X.mg x=some (.ref f))(hk:PySem.W.keepIn X.K (.ref f)=true)(hb:uR X.K fd ps ds)(hd:jU dvs ds)(hx:CY CX X E)
  (ha:PA X (e::es) t) (hdb:autoParam ((x==("__debug__":Str))=false) L2.aB._auto_1) (he:autoParam (starEach (e::es) X.env=(false,eval e X.env)::starEach es X.env) L2.aE._auto_1) (hpl:autoParam ((backTo pos (starEach es X.env)).any (·.1)=false) L2.aE._auto_1):
  PE X (.Call (.Name x p) (e::es) [] pos) (Sc sp dvs E t):=by
 refine#[?_];intro j8 s U H Q I h;refine Ah (Kv I hg hm ?_ hdb);refine EH (h₀:=X.base) I.ok.mod.kin hk (wO (ha pos j8 s U H _ I h) λus s1 ⟨vs,H1,I1,r,q⟩=>#[I1.kIn,?_]) he hpl;exact QS F hr hb hd hx I1 r q
theorem Xx {pl:Sem i7}(he:PE X o ta)(c:RX X.K C)(hm:Yu X.K C m f)(F:Dx X.prog X.w X.K X.mg X.base CX k f fd ps sp)(hr:Am k X.A)(hb:uR X.K fd ps ds)(hd:jU dvs ds)(hx:CY CX X E)(ha:PA X (e::es) t)
  (hst:autoParam (starEach (e::es) X.env=(false,eval e X.env)::starEach es X.env) L2.aE._auto_1) (hpl:autoParam ((backTo pos (starEach es X.env)).any (·.1)=false) L2.aE._auto_1)
  (ht:autoParam (eval (.Call (.Attribute o m o8) (e::es) [] pos) X.env=(do
   let ov<-eval o X.env
   standAt o8.atName
   let(f,first)<-holding [ov] (getMethod ov m pl)
   callWith pos f first (backTo pos (starEach (e::es) X.env)) (backToKw pos (keywordEach [] X.env)))) L2.aE._auto_1):
  PE X (.Call (.Attribute o m o8) (e::es) [] pos) (Sa C m sp dvs E ta t):=by
 refine#[?_];intro j8 s U H Q I h;refine PySem.W.methodCall_KW (pl:=pl) (wO (he j8 s U H _ I h) λu s1 ⟨x,H1,I1,rx,a,dx,fs,ex,ea,l,q⟩=>?_) ht;subst ex;obtain rfl:u=Value.ref a:=rx;refine Lv I1 ea c hm l ?_;refine EH (first:=[.ref a]) (h₀:=X.base) I.ok.mod.kin hm.kp (wO (ha pos j8 s1 U H1 _ I1 q) λus s2 ⟨vs,H2,I2,r,q2⟩=>#[I2.kIn,?_]) hst hpl;exact QS (us:=.ref a::us) (vs:=.ref a::vs) F hr hb hd hx I2 (.cons rfl r) q2
theorem Vr {pl:Sem i7}(he:PE X o ta)(c:RX X.K C)(hm:Yu X.K C m f)(F:Dx X.prog X.w X.K X.mg X.base CX k f fd ps sp)(hr:Am k X.A)(hb:uR X.K fd ps ds)(hd:jU dvs ds)(hx:CY CX X E)
  (ht:autoParam (eval (.Call (.Attribute o m o8) [] [] pos) X.env=(do
   let ov<-eval o X.env
   standAt o8.atName
   let(f,first)<-holding [ov] (getMethod ov m pl)
   callWith pos f first (backTo pos (starEach [] X.env)) (backToKw pos (keywordEach [] X.env)))) L2.aE._auto_1):
  PE X (.Call (.Attribute o m o8) [] [] pos) (Sa C m sp dvs E ta UM):=by
 refine#[?_];intro j8 s U H Q I h;refine PySem.W.methodCall_KW (pl:=pl) (wO (he j8 s U H _ I h) λu s1 ⟨x,H1,I1,rx,a,dx,fs,ex,ea,l,q⟩=>?_) ht;subst ex;obtain rfl:u=Value.ref a:=rx;refine Lv I1 ea c hm l ?_;exact PySem.W.callWith_K0 (first:=[.ref a]) I1.kIn hm.kp (QS (us:=[.ref a]) (vs:=[.ref a]) F hr hb hd hx I1 (.cons rfl .nil) q)
structure Mk (K:a7)(C f:i3):Prop where
 makes:PySem.W.makesIn K C=true
 init:PySem.W.findIn K (.ref C) "__init__"=some (some (.ref f))
 fn:PySem.W.isFn K (.ref f)=true
 kp:PySem.W.keepIn K (.ref C)=true
theorem OR {j8:a6 (i3×j7)}{U:St}{H:Hp}{s:i5}{Q:VK}{us:a6 a9}{vs:a6 V}(M:Mk X.K C f)(F:Dx X.prog X.w X.K X.mg X.base CX k f fd ps sp)(hr:Am (k+1) X.A)(hb:uR X.K fd ps ds)(hd:jU dvs ds)
  (hx:CY CX X E) (I:xY X j8 U H s) (r:jU vs us)
  (h: ∀x dx,H x=none->H dx=none->dx≠x->sp (.ref x::(vs++dvs)) (upd (upd H dx (.own x)) x (.ins C dx [])) (λv H2=>v=.non/\Q (.ref x) H2) E):
  wpAny (model X.prog X.w) X.A (call (.ref C) us) (EP X j8 U Q) X.xe s:=by
 have hq:=h (s.heap.objs.size+1) s.heap.objs.size (I.hok.fresh (vF _)) (I.hok.fresh (zS _)) (xT (Bb _));have I2:=xY.made (C:=C) I;have r2:jU (V.ref (s.heap.objs.size+1)::(vs++dvs)) (Value.ref (s.heap.objs.size+1)::(us++ds)):=.cons rfl (r.append hd);have hl:(Value.ref (s.heap.objs.size+1)::us++ds).length =ps.length:=by
  have e:=r2.length;rw[F.len _ _ _ _ hq]at e;exact e.symm
 refine wpAny_call (VW (f:=f) I.kIn M.makes M.init (beq_iff_eq.mp M.fn) (codeAny_mono (F.run _ X.stack _ _ #[Value.ref (s.heap.objs.size+1)::us,[]] (Value.ref (s.heap.objs.size+1)::(us++ds)) _ _ E (hr.make C us [])
  (I2.env0.make C us []) (hb _ (Value.ref (s.heap.objs.size+1)::us) I2.kIn hl) r2 hq) λr s' hq'=>?_))
 cases r with
 |error e=>exact hx j8 U _ _ e s' I2 hq'
 |ok fl=>
  cases fl with
  |ret u=>
   obtain⟨v,H',I3,rv,ev,q3⟩:=I2.after hq';subst ev;exact#[rv,#[V.ref (s.heap.objs.size+1),H',I3,rfl,q3]]
  |next=>exact False.elim hq'
  |brk=>exact False.elim hq'
  |cont=>exact False.elim hq'
theorem Xy (M:Mk X.K C f)(F:Dx X.prog X.w X.K X.mg X.base CX k f fd ps sp)(hr:Am (k+1) X.A)(hg:Gl X x)(hm:X.mg x=some (.ref C))(hb:uR X.K fd ps ds)(hd:jU dvs ds)(hx:CY CX X E)
  (ha:PA X (e::es) t) (hdb:autoParam ((x==("__debug__":Str))=false) L2.aB._auto_1) (he:autoParam (starEach (e::es) X.env=(false,eval e X.env)::starEach es X.env) L2.aE._auto_1) (hpl:autoParam ((backTo pos (starEach es X.env)).any (·.1)=false) L2.aE._auto_1):
  PE X (.Call (.Name x p) (e::es) [] pos) (Sb C sp dvs E t):=by
 refine#[?_];intro j8 s U H Q I h;refine Ah (Kv I hg hm ?_ hdb);refine EH (h₀:=X.base) I.ok.mod.kin M.kp (wO (ha pos j8 s U H _ I h) λus s1 ⟨vs,H1,I1,r,q⟩=>#[I1.kIn,?_]) he hpl;exact OR M F hr hb hd hx I1 r q
theorem Vs (M:Mk X.K C f)(F:Dx X.prog X.w X.K X.mg X.base CX k f fd ps sp)(hr:Am (k+1) X.A)(hg:Gl X x)(hm:X.mg x=some (.ref C))(hb:uR X.K fd ps ds)(hd:jU dvs ds)(hx:CY CX X E)
  (hdb:autoParam ((x==("__debug__":Str))=false) L2.aB._auto_1):PE X (.Call (.Name x p) [] [] pos) (Sb C sp dvs E UM):=by
 refine#[?_];intro j8 s U H Q I h;refine Ah (Kv I hg hm ?_ hdb);exact PySem.W.callWith_K0 I.kIn M.kp (OR (us:=[]) M F hr hb hd hx I .nil h)
end
structure PK (X:Cx)(kws:List Keyword)(t:TA):Prop where
 go: ∀(pos:Pos) (j8:List (i3×j7)) (s:i5) (U:St) (H:Hp) (Q:List V->Hp->Prop),xY X j8 U H s->t U H Q->wpAny (model X.prog X.w) X.A (evalAll ((backToKw pos (keywordEach kws X.env)).map (·.2))) (AP X j8 U Q) X.xe s
instance {X:Cx}{kws:a6 Keyword}{t:TA}:CoeFun (PK X kws t) (λ_=> ∀(pos:Pos) (j8:a6 (i3×j7)) (s:i5) (U:St) (H:Hp) (Q:a6 V->Hp->Prop),xY X j8 U H s->t U H Q->wpAny (model X.prog X.w) X.A (evalAll ((backToKw pos (keywordEach kws X.env)).map (·.2))) (AP X j8 U Q) X.xe s):=#[PK.go]
structure xA (N P:List Str)(sc:Scope):Prop where
 kind:sc.kind=.function
 co:sc.isCoroutine=false
 gen:sc.isGenerator=false
 nd:N.Nodup
 pre:N.take P.length=P
 par: ∀x∈P,sc.names.lookup x=some .local\/sc.names.lookup x=some .cell
 nofree: ∀y∈sc.names,y.2≠ .free
theorem aK (h:True:=by decide+kernel):True:=h
theorem xA.of {N P:List Str}{sc:Scope}(h:autoParam (N.Nodup/\N.take P.length=P/\(∀x∈P,sc.names.lookup x=some .local\/sc.names.lookup x=some .cell)/\ ∀y∈sc.names,y.2≠ .free) L2.aK._auto_1)(a:autoParam (sc.kind=.function) L2.aE._auto_1)(b:autoParam (sc.isCoroutine=false) L2.aE._auto_1)(c:autoParam (sc.isGenerator=false) L2.aE._auto_1):xA N P sc:=#[a,b,c,h.1,h.2.1,h.2.2.1,h.2.2.2]
theorem MY {kindOf:Str->i4 NameKind}{x:Str}: ∀{binds:a6 (Str×a9)} {m:Str->i4 a9},(∀v,(x,v)∉binds)->bindL kindOf binds m x=m x
 |[],_,_=>rfl
 |(n,v)::r,m,h=>by
  unfold bindL;rw[MY λw hw=>h w (zZ _ hw)];split
  ·have:x≠n:=by rintro rfl;exact h v yC
   simp[this]
  ·rfl
theorem Na {kindOf:Str->i4 NameKind}{x:Str}: ∀{binds:a6 (Str×a9)} {m:Str->i4 a9},(∀v,(x,v)∉binds)->bindC kindOf binds m x=m x
 |[],_,_=>rfl
 |(n,v)::r,m,h=>by
  unfold bindC;rw[Na λw hw=>h w (zZ _ hw)];split
  ·rfl
  ·have:x≠n:=by rintro rfl;exact h v yC
   simp[this]
theorem MZ {kindOf:Str->i4 NameKind}{x:Str}{v:a9}: ∀{P:a6 Str} {vs:a6 a9} {i:Nat} {m:Str->i4 a9},P.Nodup->P[i]? =some x->vs[i]? =some v->kindOf x=some .local->
  bindL kindOf (P.zip vs) m x=some v
 |[],_,_,_,_,h,_,_=>by simp at h
 |_::_,[],_,_,_,_,h,_=>by simp at h
 |p::P,w::vs,0,m,nd,h1,h2,hk=>by
  simp at h1 h2;subst h1;subst h2
  show bindL kindOf ((p,w)::P.zip vs) m p=_;unfold bindL;rw[MY λv hv=>(List.nodup_cons.mp nd).1 (DN hv).1,zP hk]
  simp
 |p::P,w::vs,i+1,m,nd,h1,h2,hk=>by
  show bindL kindOf ((p,w)::P.zip vs) m x=_;unfold bindL;exact MZ (i:=i) (List.nodup_cons.mp nd).2 (by simpa using h1) (by simpa using h2) hk
theorem Nb {kindOf:Str->i4 NameKind}{x:Str}{v:a9}: ∀{P:a6 Str} {vs:a6 a9} {i:Nat} {m:Str->i4 a9},P.Nodup->P[i]? =some x->vs[i]? =some v->kindOf x≠some .local->
  bindC kindOf (P.zip vs) m x=some v
 |[],_,_,_,_,h,_,_=>by simp at h
 |_::_,[],_,_,_,_,h,_=>by simp at h
 |p::P,w::vs,0,m,nd,h1,h2,hk=>by
  simp at h1 h2;subst h1;subst h2
  show bindC kindOf ((p,w)::P.zip vs) m p=_;unfold bindC;rw[Na λv hv=>(List.nodup_cons.mp nd).1 (DN hv).1,zO hk]
  simp
 |p::P,w::vs,i+1,m,nd,h1,h2,hk=>by
  show bindC kindOf ((p,w)::P.zip vs) m x=_;unfold bindC;exact Nb (i:=i) (List.nodup_cons.mp nd).2 (by simpa using h1) (by simpa using h2) hk
noncomputable def ID (N:a6 Str)(vs:a6 V):St:=vs.map some++List.replicate (N.length-vs.length) none
noncomputable def Qj (CX:Mm)(P:i6)(w:i9)(K:a7)(mg:Str->i4 a9)(base:j3)(N:a6 Str)(qual:Str)(scope:Scope)(f:i3)(cd:a9)(A:j4)(outer:a6 Env)(s:i5)(H:Hp)(E:XK):Cx where
 prog:=P
 w:=w
 K:=K
 mg:=mg
 base:=base
 A:=A.deeper (envOfC qual scope s.heap.objs.size f cd)
 N:=N
 s₀:=s
 H₀:=H
 env:=envOfC qual scope s.heap.objs.size f cd
 outer:=outer
 stack:=envOfC qual scope s.heap.objs.size f cd::outer
 ex:=[]
 calm:=true
 fn:=λ_=>true
 pn:=[]
 xe:=λe s'=>wpAny (model P w) (A.deeper (envOfC qual scope s.heap.objs.size f cd)) (leaving (envOfC qual scope s.heap.objs.size f cd) e) (λ_ s''=>CX outer H s E e s'') (λe' s''=>CX outer H s E e' s'') s'
theorem Ql {sc:Scope}{n:Nat}{x:Str}(h:sc.names.lookup x=some .cell): ∃c,(cellsFrom n sc.names []).lookup x=some c:=by
 have q:=PySem.W.cellsFrom_some sc.names n [] (.inl h);exact Option.isSome_iff_exists.mp q
theorem Ua {CX:Mm}{P:i6}{w:i9}{K:a7}{mg:Str->i4 a9}{base:j3}{N ps:a6 Str}{qual:Str}{scope:Scope}{f:i3}{cd:a9}{A:j4}{outer:a6 Env}{s s1:i5}{H:Hp}{E:XK}{us:a6 a9}{vs:a6 V}
  (S:xA N ps scope) (hd:A.handled=none) (e0:RV P w K mg base A outer s H) (hl:vs.length=ps.length) (r:jU vs us)
  (x:InCallC s s.heap.objs.size (bindL (envOfC qual scope s.heap.objs.size f cd).kindOf (ps.zip us) λ_=>none) (cellsFrom (s.heap.objs.size+1) scope.names []) (bindC (envOfC qual scope s.heap.objs.size f cd).kindOf (ps.zip us) λ_=>none) s1):
  xY (Qj CX P w K mg base N qual scope f cd A outer s H E) [] (ID N vs) H s1:=by
 have hpl:ps.length<=N.length:=by have:=qX List.length S.pre;rw[yW]at this;lia
 obtain⟨h1,tk,rfl,hk⟩:=x.done;have noA: ∀b:i3,b∉(Qj CX P w K mg base N qual scope f cd A outer s H E).ex:=λb z=>absurd (show b∈([]:a6 i3)from z) (by simp);refine#[#[e0.mod,S.kind,rfl,rfl,zS _,λy z c h1 h2=>?_,λy hy=>?_,λy c _ h=>?_,λ_=>hd,Around.frames_deeper e0.frames,.inr #[rfl,rfl],λb z=>absurd z (noA b),e0.bs,e0.bsz,λb _ _=>noA b,λb z=>absurd z (noA b),e0.funs,e0.frf],
  rfl,e0.bare,Un.kept hk,#[_,x.toInCall.ns,λi y v h1 h2 h3=>?_],λy c h=>#[_,x.cell y c h],e0.hok.fresh (zS _),λy c h=>?_,λp hp=>absurd (show p∈([]:a6 (i3×j7))from hp) (by simp),e0.hok.kept hk,?_]
 ·exact name_of_addr x.apart (vA h1) (vA h2)
 ·have hy:scope.names.lookup y=some .cell\/scope.names.lookup y=some .free:=hy
  rcases hy with hy|hy
  ·exact Ql hy
  ·exact absurd rfl (S.nofree _ (vA hy))
 ·exact BY (x.above y c (vA h))
 ·have hi:i<vs.length:=by
   unfold ID at h2
   by_cases hi:i<vs.length
   ·exact hi
   ·rw[qB (by simpa using hi)]at h2;rw[FR]at h2;split at h2<;>cases h2
  have ha:vs[i]? =some v:=by
   unfold ID at h2;rw[kJ (by simpa using hi),yJ]at h2;cases e:vs[i]? with
   |none=>rw[e]at h2;cases h2
   |some a=>rw[e]at h2;cases h2;rfl
  obtain⟨u,hu,rv⟩:=r.get ha;have hp:ps[i]? =some y:=by
   rw[<-S.pre,Fq ()];exact h1
  have ndP:ps.Nodup:=by rw[<-S.pre];exact S.nd.sublist (List.take_sublist _ _)
  refine#[u,rv,?_]
  rcases S.par y (xP hp)with k|k
  ·exact .inl #[k,MZ ndP hp hu k]
  ·obtain⟨c,e⟩:=Ql (n:=s.heap.objs.size+1) k;refine .inr #[.inl k,c,e,?_];have q:=x.cell y c e;rw[Nb ndP hp hu (by show scope.names.lookup y≠_;rw[k];decide)]at q;exact q
 ·exact e0.hok.fresh (BY (x.above y c (vA h)))
 ·unfold ID;show _=N.length;rw[zG,zM,qO];lia
theorem zCx {CX:Mm}{P:i6}{w:i9}{K:a7}{mg:Str->i4 a9}{base:j3}{k:Nat}{f:i3}{name qual:Str}{params:Arguments}{body:a6 i8}{scope:Scope}{dV kV doc pm cdv ct oc:a9}{an od:i4 i3}
  {osl:j6 (i4 a9)} {N ps:a6 Str} {sp:Sp} (lk:K.lookup f=some #[oc,od,.func (PySem.W.fnOf name qual params body scope dV kV doc pm an cdv ct),osl]) (hcd:PySem.W.codeIn K cdv qual=true) (S:xA N ps scope)
  (len: ∀vs H Q E,sp vs H Q E->vs.length=ps.length)
  (hbody: ∀(A:j4) (outer:a6 Env) (s:i5) (H:Hp) (vs:a6 V) (Q:VK) (E:XK),Am k (A.deeper (envOfC qual scope s.heap.objs.size f cdv))->sp vs H Q E->
   ∃t,Qw (Qj CX P w K mg base N qual scope f cdv A outer s H E) body t/\t {nx:=λ_ H'=>Q .non H',rt:=Q} (ID N vs) H):
  Dx P w K mg base CX (k+1) f (PySem.W.fnOf name qual params body scope dV kV doc pm an cdv ct) ps sp:=by
 refine#[len,λA outer s H args us vs Q E hr e0 hb r hsp=>?_];have hl:=len _ _ _ _ hsp;have KX:K.In s.heap:=e0.mod.kin.keeps λb o e=>(e0.bs b o e).1;have lim:s.heap.NoLimit:=e0.mod.nolimit.keeps λb o e=>(e0.bs b o e).1;have hkind: ∀y∈ps.zip us,scope.names.lookup y.1=some .local\/(scope.names.lookup y.1=some .cell/\((cellsFrom (s.heap.objs.size+1) scope.names []).lookup y.1).isSome =true):=fun⟨n,v⟩ hy=>by
  rcases S.par n (DN hy).1 with q|q
  ·exact .inl q
  ·exact .inr #[q,PySem.W.cellsFrom_some _ _ _ (.inl q)]
 refine codeAny_call_function hr.depth (KX _ _ lk) rfl S.co S.gen rfl (PySem.W.codeRec_of KX hcd) (hb _ _ _ _ ?_);refine wpAny_newFunctionEnv_cells S.kind hkind λenv he s1 x=>?_;subst he;refine#[lim.keeps x.toInCall.keep,codeAny_func ?_];obtain⟨t,ht,hq⟩:=hbody A outer s H vs Q E (hr.deeper _) hsp;have I:xY (Qj CX P w K mg base N qual scope f cdv A outer s H E) [] (ID N vs) H s1:=Ua S hr.hd e0 hl r x;refine AM (ht [] s1 (ID N vs) H _ I hq) (λfl s' hs=>?_) λe s' hs=>hs;have fin: ∀{U':St} {H':Hp} {v:V} {u:a9},xY (Qj CX P w K mg base N qual scope f cdv A outer s H E) [] U' H' s'->kS v u->Q v H'->CE outer P w H s Q u s':=
  fun{U' H' v u} J rv q=>#[v,H',J.os,J.bare,J.base,J.hok,rv,q]
 cases fl with
 |ret u=>
  obtain⟨v,U',H',J,rv,q⟩:=hs;exact fin J rv q
 |next=>
  obtain⟨U',H',J,q⟩:=hs;exact fin (v:=V.non) (u:=Value.none) J rfl q
 |brk=>
  obtain⟨_,_,_,q⟩:=hs;exact False.elim q
 |cont=>
  obtain⟨_,_,_,q⟩:=hs;exact False.elim q
section
variable {X:Cx}{x:Str}{p pos:Pos}{e:j5}{es:a6 j5}{t:TA}{id T:String}{r:a6 V->Hp->VK->Prop}
def r8 (r:a6 V->Hp->VK->Prop)(t:TA):TE:=λU H Q=>t U H λvs H1=>r vs H1 Q
theorem xF (hc:EE X (.builtin id) r)(hg:Gl X x)(hm:X.mg x=none)(hv:bootBuiltins x=some (.builtin id))(ha:PA X (e::es) t)(hn:autoParam (x≠"__name__") L2.aB._auto_1)(hdb:autoParam ((x==("__debug__":Str))=false) L2.aB._auto_1)
  (he:autoParam (starEach (e::es) X.env=(false,eval e X.env)::starEach es X.env) L2.aE._auto_1) (hpl:autoParam ((backTo pos (starEach es X.env)).any (·.1)=false) L2.aE._auto_1):PE X (.Call (.Name x p) (e::es) [] pos) (r8 r t):=by
 refine#[?_];intro j8 s U H Q I h;refine Ah (Eu I hg hm hv ?_ hn hdb);exact PyProof.Rows.callWith_builtin1 (wO (ha pos j8 s U H _ I h) λus s1 ⟨vs,H1,I1,r1,q1⟩=>hc j8 s1 U H1 vs us Q I1 r1 q1) he hpl
theorem At (hc:EE X (.type T) r)(hg:Gl X x)(hm:X.mg x=none)(hv:bootBuiltins x=some (.type T))(ha:PA X (e::es) t)(hn:autoParam (x≠"__name__") L2.aB._auto_1)(hdb:autoParam ((x==("__debug__":Str))=false) L2.aB._auto_1)
  (he:autoParam (starEach (e::es) X.env=(false,eval e X.env)::starEach es X.env) L2.aE._auto_1) (hpl:autoParam ((backTo pos (starEach es X.env)).any (·.1)=false) L2.aE._auto_1):PE X (.Call (.Name x p) (e::es) [] pos) (r8 r t):=by
 refine#[?_];intro j8 s U H Q I h;refine Ah (Eu I hg hm hv ?_ hn hdb);exact jG (wO (ha pos j8 s U H _ I h) λus s1 ⟨vs,H1,I1,r1,q1⟩=>hc j8 s1 U H1 vs us Q I1 r1 q1) he hpl
end
end L2
namespace HT
open PySem PyProof.Rows
section
variable {prog:i6}{w:i9}{A:j4}{E:a9->i5->Prop}{s:i5}
noncomputable def sIx (n d:Nat):i4 Int->Nat
 |none=>d
 |some v=>if v<0 then(v+(n:Int)).toNat else min v.toNat n
theorem sIx_none (n d:Nat):sIx n d none=d:=rfl
theorem sIx_nat (n d k:Nat):sIx n d (some (k:Int))=min k n:=by
 show(if(k:Int)<0 then((k:Int)+(n:Int)).toNat else min (k:Int).toNat n)=min k n;rw[if_neg (),Int.toNat_natCast]
theorem Zt (n d:Nat)(hd:d<=n)(o:i4 Int):sIx n d o<=n:=by
 cases o with
 |none=>exact hd
 |some v=>
  show(if v<0 then(v+(n:Int)).toNat else min v.toNat n)<=n
  by_cases hv:v<0
  ·rw[if_pos hv];lia
  ·rw[if_neg hv];exact Nat.min_le_right _ _
theorem SX (v:Int)(n d:Nat):(if v<0 then max (v+(n:Int)) 0 else min v (n:Int))=((sIx n d (some v):Nat):Int):=by
 show(if v<0 then max (v+(n:Int)) 0 else min v (n:Int))=(((if v<0 then(v+(n:Int)).toNat else min v.toNat n):Nat):Int)
 by_cases hv:v<0
 ·simp only[if_pos hv];lia
 ·simp only[if_neg hv];lia
theorem RM (lo hi:i4 Int)(n:Nat):Builtin.Slice.sliceAdjust lo hi 1 (n:Int)=(((sIx n 0 lo:Nat):Int),((sIx n n hi:Nat):Int)):=by
 have h1: ¬((1:Int)<0):=()
 unfold Builtin.Slice.sliceAdjust;simp only[h1,if_false];refine Prod.ext ?_ ?_
 ·cases lo with
  |none=>rfl
  |some v=>exact SX v n 0
 ·cases hi with
  |none=>rfl
  |some v=>exact SX v n n
theorem QU (i j:Nat):Builtin.Slice.slicePlaces (i:Int) (j:Int) 1=j-i:=by
 unfold Builtin.Slice.slicePlaces;have h1:(1:Int) > 0:=()
 simp only[h1,if_true,Int.ediv_one];split<;>lia
theorem KM {v:a9}{o:i4 Int}{Q:i4 Int->i5->Prop}(p:IsPart v o)(h:Q o s):wpAny (model prog w) A (Builtin.Slice.slicePartIndex v) Q E s:=by
 cases p with
 |none=>exact slicePart_none h
 |int i t=>exact slicePart_int h
theorem JB {sl:i3}{vl vu:a9}{lo hi:i4 Int}{n:Nat}{Q:Int×Int×Nat->i5->Prop}(hs:s.heap.IsSliceOf sl vl vu .none)(pl:IsPart vl lo)(pu:IsPart vu hi)
  (h:Q (((sIx n 0 lo:Nat):Int),1,sIx n n hi-sIx n 0 lo) s):wpAny (model prog w) A (Builtin.Slice.sliceApplied (.ref sl) (pure (n:Int))) Q E s:=by
 obtain⟨os,hos,hcs,hds⟩:=id hs;unfold Builtin.Slice.sliceApplied Builtin.Slice.sliceFields;refine wpAny_bind (wpAny_bind (wpAny_field hos hds (x:=vl) rfl (wpAny_bind (wpAny_field hos hds (x:=vu) rfl (wpAny_bind (wpAny_field hos hds (x:=.none) rfl (wpAny_pure ?_)))))));refine wpAny_bind (slicePart_none ?_);show wpAny _ _ (if((1:Int)==0)=true then _ else _) _ _ s;rw[if_neg (by decide)];refine wpAny_bind (KM pl (wpAny_bind (KM pu (wpAny_bind (wpAny_pure ?_)))));show wpAny _ _ (match Builtin.Slice.sliceAdjust lo hi 1 (n:Int)with|(lo,hi)=>pure (lo,(1:Int),Builtin.Slice.slicePlaces lo hi 1)) _ _ s;rw[RM lo hi n];show wpAny _ _ (pure (((sIx n 0 lo:Nat):Int),(1:Int),Builtin.Slice.slicePlaces ((sIx n 0 lo:Nat):Int) ((sIx n n hi:Nat):Int) 1)) _ _ s;rw[QU];exact wpAny_pure h
theorem Vn (xs:j6 a9)(i k:Nat):((List.range k).filterMap fun(m:Nat)=>xs[((i:Int)+(m:Int)*1).toNat]?).toArray =((xs.toList.drop i).take k).toArray:=by
 have e:(fun(m:Nat)=>xs[((i:Int)+(m:Int)*1).toNat]?)=λm=>xs[i+m]?:=by
  funext m;have:((i:Int)+(m:Int)*1).toNat =i+m:=()
  rw[this]
 rw[e];have:=pick_run xs i k;rw[List.filterMap_map]at this;have e2:((λx=>xs[x]?)∘λx=>i+x)=λm=>xs[i+m]?:=rfl;rw[e2]at this;rw[this]
theorem getItem_tuple_cut {t sl:i3}{j9:j6 a9}{vl vu:a9}{lo hi:i4 Int}{Q:a9->i5->Prop}(ht:IsTup s.heap t j9)(hs:s.heap.IsSliceOf sl vl vu .none)(pl:IsPart vl lo)(pu:IsPart vu hi)
  (hw: ¬(sIx j9.size 0 lo=0/\sIx j9.size j9.size hi=j9.size))
  (h:Q (.ref s.heap.objs.size) {s with heap:=s.heap.push {cls:=.type "tuple",data:=.seq ((j9.toList.drop (sIx j9.size 0 lo)).take (sIx j9.size j9.size hi-sIx j9.size 0 lo)).toArray}})
  (hsz:j9.size<=sizeLine):wpAny (model prog w) A (getItem (.ref t) (.ref sl)) Q E s:=by
 have htake:sizeOk (.seq ((j9.toList.drop (sIx j9.size 0 lo)).take (sIx j9.size j9.size hi-sIx j9.size 0 lo)).toArray):=by
  show((j9.toList.drop (sIx j9.size 0 lo)).take (sIx j9.size j9.size hi-sIx j9.size 0 lo)).toArray.size<=sizeLine;rw[List.size_toArray,List.length_take,List.length_drop,Array.length_toList];omega
 have hj:sIx j9.size j9.size hi<=j9.size:=Zt _ _ (Nat.le_refl _) hi;obtain⟨os,hos,hcs,hds⟩:=id hs;have hTs:s.TypeIs (.ref sl) "slice":=#[os,hos,hcs];unfold getItem
 try with_reducible refine wpAny_holding ?_
 first|refine wpAny_bind (wpAny_pure ?_)|skip
 refine wpAny_bind (wpAny_sequenceKey ht.typeIs (by decide) ?_);refine wpAny_bind (wpAny_callSpecial?_slot (name:=Str.ofString "__getitem__") ht.typeIs PyProof.Rows.slot_tuple_getitem
  (wpAny_call_entry PyProof.Rows.slot_tuple_getitem ht.typeIs entry_tuple_getitem ?_ (args_tuple_getitem _ _)))
 show wpAny _ _ (Builtin.Tuple.tupleItemsOf (.ref t)>>=_) _ _ s;refine wpAny_bind (tupleItemsOf_ ht ?_);refine wpAny_bind (wpAny_typeOf hTs ?_);rw[if_pos (by decide)];refine wpAny_bind (JB hs pl pu ?_);have hno: ¬((((sIx j9.size 0 lo:Nat):Int)==0&&(1:Int)==1&&(sIx j9.size j9.size hi-sIx j9.size 0 lo)==j9.size)=true):=by
  intro q;rw[Bool.and_eq_true,Bool.and_eq_true]at q;have q1:((sIx j9.size 0 lo:Nat):Int)=0:=eq_of_beq q.1.1;have q2:sIx j9.size j9.size hi-sIx j9.size 0 lo=j9.size:=eq_of_beq q.2;exact hw #[(by clear q;lia),(by clear q hj;lia)]
 show wpAny _ _ (if(((sIx j9.size 0 lo:Nat):Int)==0&&(1:Int)==1&&(sIx j9.size j9.size hi-sIx j9.size 0 lo)==j9.size)=true then _ else _) _ _ s;rw[if_neg hno,Vn]
 first
  |exact wpAny_bind (m:=Builtin.Tuple.tupleExact _) (wpAny_newObj_type (wpAny_pure #[-1,wpAny_pure h]) htake)
  |exact wpAny_bind (m:=Builtin.Tuple.tupleExact _) (wpAny_newObj_type (wpAny_bind (wpAny_pure (wpAny_pure #[-1,wpAny_pure h]))) htake)
  |exact wpAny_bind (wpAny_bind (m:=Builtin.Tuple.tupleExact _) (wpAny_newObj_type (wpAny_pure (wpAny_pure #[-1,wpAny_pure h])) htake))
  |exact wpAny_bind (wpAny_bind (m:=Builtin.Tuple.tupleExact _) (wpAny_newObj_type (wpAny_pure #[-1,wpAny_pure h]) htake))
end
end HT
namespace L2
open PySem PySem.Spec PyProof.Rows
abbrev TO:=St->Hp->(i4 Int->Hp->Prop)->Prop
structure PO (X:Cx)(e:Option j5)(t:TO):Prop where
 go: ∀(j8:List (i3×j7)) (s:i5) (U:St) (H:Hp) (Q:Option Int->Hp->Prop),xY X j8 U H s->t U H Q->
  wpAny (model X.prog X.w) X.A (evalPart e X.env) (λu s'=> ∃o H',xY X j8 U H' s'/\IsPart u o/\Q o H') X.xe s
instance {X:Cx}{e:i4 j5}{t:TO}:CoeFun (PO X e t) (λ_=> ∀(j8:a6 (i3×j7)) (s:i5) (U:St) (H:Hp) (Q:i4 Int->Hp->Prop),xY X j8 U H s->t U H Q->
  wpAny (model X.prog X.w) X.A (evalPart e X.env) (λu s'=> ∃o H',xY X j8 U H' s'/\IsPart u o/\Q o H') X.xe s):=#[PO.go]
def Xg:TO:=λ_ H Q=>Q none H
def zBi (t:TE):TO:=λU H Q=>t U H λx H1=> ∃i,x=.int i/\Q (some i) H1
section
variable {X:Cx}{e:j5}{te:TE}{lo hi:i4 j5}{tl th:TO}{pos p2:Pos}
theorem vQ:PO X none Xg:=by
 refine#[?_];intro j8 s U H Q I h;rw[evalPart_none];exact yB #[none,H,I,.none,h]
theorem wH (h:PE X e te):PO X (some e) (zBi te):=by
 refine#[?_];intro j8 s U H Q I hw;rw[evalPart_some];refine wO (h j8 s U H _ I hw) λu s1 m7=>?_;obtain⟨x,H1,I1,r1,q1⟩:=m7;obtain⟨i,rfl,q⟩:=q1;obtain⟨t,rfl⟩:=r1;exact#[some i,H1,I1,.int i t,q]
def SlR (X:Cx)(r:V->i4 Int->i4 Int->Hp->VK->Prop):Prop:=
 ∀(j8:a6 (i3×j7)) (s:i5) (U:St) (H:Hp) (x:V) (v vl vu:a9) (lo hi:i4 Int) (sl:i3) (Q:VK),xY X j8 U H s->kS x v->s.heap.IsSliceOf sl vl vu .none->IsPart vl lo->IsPart vu hi->r x lo hi H Q->
  ∃T id,typeLookup (.type T) "__getitem__"=pure (some (.builtin id))/\s.TypeIs v T/\wpAny (model X.prog X.w) X.A (getItem v (.ref sl)) (EP X j8 U Q) X.xe s
def tSl (r:V->i4 Int->i4 Int->Hp->VK->Prop)(te:TE)(tl th:TO):TE:=λU H Q=>te U H λx H1=>tl U H1 λl H2=>th U H2 λu H3=>r x l u H3 Q
theorem qW {r:V->i4 Int->i4 Int->Hp->VK->Prop}(hr:SlR X r)(he:PE X e te)(hl:PO X lo tl)(hu:PO X hi th):PE X (.Subscript e (.Slice lo hi none p2) pos) (tSl r te tl th):=by
 refine#[?_];intro j8 s U H Q I h;refine Subscript_ (wO (he j8 s U H _ I h) λv s1 m7=>?_);obtain⟨x,H1,I1,r1,q1⟩:=m7;refine wpAny_Slice (wO (hl j8 s1 U H1 _ I1 q1) λvl s2 ⟨l,H2,I2,pl,q2⟩=>wO (hu j8 s2 U H2 _ I2 q2) λvu s3 m7=>?_);obtain⟨u,H3,I3,pu,q3⟩:=m7;rw[evalPart_none];refine yB ?_;have I4:xY X j8 U H3 {s3 with heap:=s3.heap.push {cls:=.type "slice",data:=.fields (List.toArray [vl,vu,.none])}}:=I3.kept (t':=s3.toks) λb ob q=>zL _ q;obtain⟨T,id,hT,ht,hg⟩:=hr j8 {s3 with heap:=s3.heap.push {cls:=.type "slice",data:=.fields (List.toArray [vl,vu,.none])}} U H3 x v vl vu l u s3.heap.objs.size Q I4 r1 (Heap.IsSliceOf.new ..) pl pu q3;show wpAny (model X.prog X.w) X.A (subscriptTail e (.Slice lo hi none p2) v (.ref s3.heap.objs.size)) (EP X j8 U Q) X.xe {s3 with heap:=s3.heap.push {cls:=.type "slice",data:=.fields (List.toArray [vl,vu,.none])}};exact tail_any (ops:=[.ref s3.heap.objs.size,v]) ht hT hg (by with_unfolding_all rfl)
noncomputable def Bg (xs:a6 V)(lo hi:i4 Int):a6 V:=(xs.drop (HT.sIx xs.length 0 lo)).take (HT.sIx xs.length xs.length hi-HT.sIx xs.length 0 lo)
theorem Ka (xs:a6 V)(lo hi:i4 Int):(Bg xs lo hi).length<=xs.length:=by
 unfold Bg;rw[yW,jI];lia
inductive zBy (K:a7) (x:V) (lo:Option Int) (hi:Option Int) (H:Hp) (Q:VK):Prop
 |mk (a xs:_) (h0:x=.ref a) (h1:uZ K H a xs) (h2: ¬(HT.sIx xs.length 0 lo=0/\HT.sIx xs.length xs.length hi=xs.length)) (h3: ∀p,H p=none->Q (.ref p) (upd H p (.tup (Bg xs lo hi)))):zBy K x lo hi H Q
theorem GM:SlR X (zBy X.K):=by
 intro j8 s U H x v vl vu lo hi sl Q I rx hs pl pu h;obtain⟨a,xs,rfl,hx,hw,q⟩:=h;cases rx;obtain⟨its,r,ht,hz⟩:=I.tuple hx;have n8:its.toArray.size=xs.length:=by rw[yH];exact r.length.symm
 refine#["tuple",_,PyProof.Rows.slot_tuple_getitem.lookup,ht.typeIs,?_];refine HT.getItem_tuple_cut ht hs pl pu (by rw[n8];exact hw) ?_ (by rw[n8];exact hz);rw[n8];refine#[.ref s.heap.objs.size,_,I.laid (t':=s.toks) (o:=.tup (Bg xs lo hi)) (λb ob q=>zL _ q) (zS _) ?_,rfl,q _ (I.hok.fresh (zS _))];exact#[yU (Ka xs lo hi) hz,_,(r.drop (HT.sIx xs.length 0 lo)).take (HT.sIx xs.length xs.length hi-HT.sIx xs.length 0 lo),IsTup.new _ _]
end
noncomputable def SJ (n:Nat)(i:Int):i4 Nat:=if 0<=i then(if i<n then some i.toNat else none)else if-(n:Int)<=i then some (i+n).toNat else none
noncomputable def Gv {α:Type}(xs:a6 α)(i:Int):i4 α:=(SJ xs.length i).bind λj=>xs[j]?
theorem Oh {n:Nat}{i:Int}{j:Nat}(h:SJ n i=some j):seqIndex? i n=some j/\j<n/\ -(n:Int)<=i/\i<n:=by
 unfold SJ at h
 by_cases h0:0<=i
 ·rw[zP h0]at h
  by_cases h1:i<n
  ·rw[zP h1]at h;have e:i.toNat=j:=jN h;exact#[by rw[seqIndex_of h0 h1,e],(),(),h1]
  ·rw[zO h1]at h;cases h
 ·rw[zO h0]at h
  by_cases h1: -(n:Int)<=i
  ·rw[zP h1]at h;have e:(i+n).toNat =j:=jN h;exact#[by rw[seqIndex_neg () h1,e],(),h1,()]
  ·rw[zO h1]at h;cases h
theorem Td {α:Type}{xs:a6 α}{i:Int}{v:α}(h:Gv xs i=some v): ∃j,seqIndex? i xs.length=some j/\xs[j]? =some v/\j<xs.length/\ -(xs.length:Int)<=i/\i<xs.length:=by
 unfold Gv at h;cases e:SJ xs.length i with
 |none=>rw[e]at h;cases h
 |some j=>
  rw[e]at h;obtain⟨h1,h2,h3,h4⟩:=Oh e;exact#[j,h1,h,h2,h3,h4]
theorem kG {α:Type}{xs:a6 α}{j:Nat}{v:α}(h:xs[j]? =some v):Gv xs (j:Int)=some v:=by
 have hj:j<xs.length:=(List.getElem?_eq_some_iff.mp h).1;have e:SJ xs.length (j:Int)=some j:=by
  unfold SJ;rw[zP (),zP ()];simp
 unfold Gv;rw[e];exact h
def Ys (b:j5):Prop:= ∀o i,subscripted b false o i=operate [o,i] (getItem o i)
def IxR (X:Cx)(r:R2):Prop:=
 ∀(value slice:j5) (j8:a6 (i3×j7)) (s:i5) (U:St) (H:Hp) (x y:V) (v u:a9) (Q:VK),xY X j8 U H s->kS x v->kS y u->r x y H Q->
  subscripted slice false v u=operate [v,u] (getItem v u)->wpAny (model X.prog X.w) X.A (subscriptTail value slice v u) (EP X j8 U Q) X.xe s
def MtR (X:Cx)(id:String)(r:V->a6 V->Hp->VK->Prop):Prop:=
 ∀(j8:a6 (i3×j7)) (s:i5) (U:St) (H:Hp) (x:V) (xs:a6 V) (v:a9) (us:a6 a9) (Q:VK),xY X j8 U H s->kS x v->jU xs us->r x xs H Q->
  wpAny (model X.prog X.w) X.A (call (.builtin id) (v::us)) (EP X j8 U Q) X.xe s
section
variable {X:Cx}{a b:j5}{ta tb:TE}{pos:Pos}
theorem yZ {r:R2}(hr:IxR X r)(ha:PE X a ta)(hb:PE X b tb)(hs:Ys b):PE X (.Subscript a b pos) (tOp r ta tb):=by
 refine#[?_];intro j8 s U H Q I h;exact Subscript_ (zAo ha hb I h λv u s2 x y H2 I2 rx ry q=>hr a b j8 s2 U H2 x y v u Q I2 rx ry q (hs _ _))
inductive ZB (K:a7) (x:V) (y:V) (H:Hp) (Q:VK):Prop
 |mk (p xs i v:_) (h0:x=.ref p) (h1:y=.int i) (h2:kF K H p xs) (h3:Gv xs i=some v) (h4:Q v H):ZB K x y H Q
inductive Zz (K:a7) (x:V) (y:V) (H:Hp) (Q:VK):Prop
 |mk (p xs i v:_) (h0:x=.ref p) (h1:y=.int i) (h2:uZ K H p xs) (h3:Gv xs i=some v) (h4:Q v H):Zz K x y H Q
theorem xQ:IxR X (ZB X.K):=by
 intro value slice j8 s U H x y v u Q I rx ry h hs;obtain⟨p,xs,i,z,rfl,rfl,hq,he,q⟩:=h;cases rx;obtain⟨t,rfl⟩:=ry;obtain⟨its,r,pl,hz⟩:=I.list hq;obtain⟨j,h1,h2,h3,h4,h5⟩:=Td he;obtain⟨w,ew,rw'⟩:=r.get h2;have hl:=r.length;have hn:=Gp;have fin:EP X j8 U Q w s:=#[z,H,I,rw',q]
 by_cases h0:0<=i
 ·have hj:i.toNat=j:=by
   rw[seqIndex_of h0 h5]at h1;exact jN h1
  exact item_listR pl.isList h0 () (by rw[hj];simpa using ew) fin hs
 ·have hj:(i+(its.toArray.size:Int)).toNat =j:=by
   rw[seqIndex_neg () h4]at h1;rw[yH,<-hl];exact jN h1
  exact subscriptTail_builtinR (x:=w) pl.isList.typeIs slot_list_getitem.lookup
   (wpAny_getItem_list_neg (Q:=λr s'=>r=w/\EP X j8 U Q r s') pl.isList () (by rw[yH]<;>lia) () (by rw[hj];simpa using ew) #[rfl,fin]) hs
theorem xL:IxR X (Zz X.K):=by
 intro value slice j8 s U H x y v u Q I rx ry h hs;obtain⟨p,xs,i,z,rfl,rfl,hq,he,q⟩:=h;cases rx;obtain⟨t,rfl⟩:=ry;obtain⟨its,r,pl,hz⟩:=I.tuple hq;obtain⟨j,h1,h2,h3,h4,h5⟩:=Td he;obtain⟨w,ew,rw'⟩:=r.get h2;have hl:=r.length;have hn:=Gp;have fin:EP X j8 U Q w s:=#[z,H,I,rw',q];exact subscriptTail_builtinR (x:=w) pl.typeIs slot_tuple_getitem.lookup
  (getItem_tuple (j:=j) (Q:=λr s'=>r=w/\EP X j8 U Q r s') pl () () (by rw[yH,<-hl];exact h1) (by simpa using ew) #[rfl,fin]) hs
theorem Ru (its:a6 a9)(n j:Nat)(u:a9):Obj.mapSeq (·.setIfInBounds j u) {cls:=.type "list",data:=.seq its.toArray n}={cls:=.type "list",data:=.seq (its.set j u).toArray n}:=by
 simp[Obj.mapSeq]
theorem xY.lst {j8:a6 (i3×j7)}{U:St}{H:Hp}{s:i5}{p:i3}{xs:a6 V}(I:xY X j8 U H s)(h:H p=some (.lst xs)):
  ∃(its:a6 a9) (n:Nat),jU xs its/\s.heap.get? p=some {cls:=.type "list",data:=.seq its.toArray n}/\xs.length<=sizeLine:=by
 obtain⟨z,its,n,r,e⟩:=I.hok p _ h;exact#[its,n,r,e,z]
theorem xY.lstUpd {j8:a6 (i3×j7)}{U:St}{H:Hp}{s:i5}{p:i3}{xs ys:a6 V}{its its':a6 a9}{n n':Nat}{f:j7->j7}(I:xY X j8 U H s)(h:H p=some (.lst xs))
  (ho:s.heap.get? p=some {cls:=.type "list",data:=.seq its.toArray n}) (hf:f {cls:=.type "list",data:=.seq its.toArray n}={cls:=.type "list",data:=.seq its'.toArray n'}) (r:jU ys its') (hz:ys.length<=sizeLine) (t:Nat):
  xY X j8 U (upd H p (.lst ys)) {s with heap:=s.heap.update p f,toks:=t}:=by
 have e:(s.heap.update p f).get? p=some {cls:=.type "list",data:=.seq its'.toArray n'}:=by
  rw[vT f ho (by rw[hf]<;>rfl),hf]
 refine I.write (x:=p) (e:=p) (by rw[h];trivial) (.inl rfl) (λb u hb q=>(Aj _ _ (Ne.symm hb)).trans q) #[_,e] ?_;exact#[hz,its',n',r,e]
def zBz:V->V->V->Hp->(Hp->Prop)->Prop:=λo i v H Q=> ∃p xs k j,o=.ref p/\i=.int k/\H p=some (.lst xs)/\SJ xs.length k=some j/\Q (upd H p (.lst (xs.set j v)))
theorem uV:zDm X zBz:=by
 intro j8 s U H o i v ov iv u Q I ro ri rv h;obtain⟨p,xs,k,j,rfl,rfl,hp,hj,q⟩:=h;cases ro;obtain⟨t,rfl⟩:=ri;obtain⟨its,n,r,ho,hz⟩:=I.lst hp;obtain⟨h1,h2,h3,h4⟩:=Oh hj;have hl:=r.length;have hn:=Gp;have I':xY X j8 U (upd H p (.lst (xs.set j v))) {s with heap:=s.heap.update p (Obj.mapSeq (·.setIfInBounds j u))}:=
  I.lstUpd hp ho (Ru its n j u) (r.set rv j) (by rw[Bx];exact hz) s.toks
 by_cases h0:0<=k
 ·have hk:k.toNat=j:=by
   rw[seqIndex_of h0 h4]at h1;exact jN h1
  exact PySem.W.ki_setAt ho h0 () (by rw[yH,<-hl];exact h4) (by rw[hk];exact#[_,I',q])
 ·have hk:(k+(its.toArray.size:Int)).toNat =j:=by
   rw[seqIndex_neg () h3]at h1;rw[yH,<-hl];exact jN h1
  exact PySem.W.ki_setBack ho () (by rw[yH,<-hl];exact h3) () (by rw[hk];exact#[_,I',q])
theorem Ny (lo hi:i4 Int)(n:Nat):(sliceBounds lo hi none n).1=((HT.sIx n 0 lo:Nat):Int)/\(sliceBounds lo hi none n).2.1=((HT.sIx n n hi:Nat):Int)/\(sliceBounds lo hi none n).2.2=1:=by
 refine#[?_,?_,rfl]
 ·cases lo with
  |none=>simp[sliceBounds,HT.sIx]
  |some i=>
   simp only[sliceBounds,HT.sIx,Option.getD_none,show(1:Int) > 0 by decide,EZ]
   by_cases h:i<0
   ·simp only[h,EZ]<;>lia
   ·simp only[h,FJ]<;>lia
 ·cases hi with
  |none=>simp[sliceBounds,HT.sIx]
  |some i=>
   simp only[sliceBounds,HT.sIx,Option.getD_none,show(1:Int) > 0 by decide,EZ]
   by_cases h:i<0
   ·simp only[h,EZ]<;>lia
   ·simp only[h,FJ]<;>lia
theorem LS (its:a6 a9)(lo hi:i4 Int):slicePick its.toArray lo hi none=((its.drop (HT.sIx its.length 0 lo)).take (HT.sIx its.length its.length hi-HT.sIx its.length 0 lo)).toArray:=by
 obtain⟨h1,h2,h3⟩:=Ny lo hi its.toArray.size;unfold slicePick;rw[h1,h2,h3];simp only[sliceRange_one,pick_run,yH]<;>rfl
inductive Zx (K:a7) (x:V) (lo:Option Int) (hi:Option Int) (H:Hp) (Q:VK):Prop
 |mk (a xs:_) (h0:x=.ref a) (h1:kF K H a xs) (h2: ∀p,H p=none->Q (.ref p) (upd H p (.lst (Bg xs lo hi)))):Zx K x lo hi H Q
theorem Br:SlR X (Zx X.K):=by
 intro j8 s U H x v vl vu lo hi sl Q I rx hs pl pu h;obtain⟨a,xs,rfl,hx,q⟩:=h;cases rx;obtain⟨its,r,ht,hz⟩:=I.list hx;have n8:=r.length;refine#["list",_,slot_list_getitem.lookup,ht.isList.typeIs,?_];refine wpAny_getItem_list_slice ht.isList hs pl pu .none (by simp) ?_ (by rw[yH]<;>lia);rw[LS,<-n8];refine#[.ref s.heap.objs.size,_,I.laid (t':=s.toks) (o:=.lst (Bg xs lo hi)) (λb ob q=>zL _ q) (zS _) ?_,rfl,q _ (I.hok.fresh (zS _))];exact#[yU (Ka xs lo hi) hz,_,0,(r.drop (HT.sIx xs.length 0 lo)).take (HT.sIx xs.length xs.length hi-HT.sIx xs.length 0 lo),yI _ rfl]
noncomputable def DR:V->i7
 | .non=>true
 | .bl _=>true
 | .int _=>true
 | .str _=>true
 |_=>false
noncomputable def Fs:V->V->i7
 | .non,.non=>true
 | .bl a,.bl b=>a==b
 | .bl a,.int b=>(if a then 1 else 0)==b
 | .int a,.bl b=>a==(if b then 1 else 0)
 | .int a,.int b=>a==b
 | .str a,.str b=>a==b
 |_,_=>false
theorem Gr {A:j4}{s:i5}{y x:V}{u v:a9}(ry:kS y u)(rx:kS x v)(fy:DR y=true)(fx:DR x=true):SeqAt.EqAt A s u v (Fs y x):=by
 cases y with
 |non=>
  cases ry;cases x with
  |non=>cases rx;exact SeqAt.EqAt.same _
  |bl b=>cases rx;exact SeqAt.EqAt.none_bool b
  |int b=>obtain⟨t,rfl⟩:=rx;exact SeqAt.EqAt.none_int b t
  |str b=>obtain⟨t,rfl⟩:=rx;exact SeqAt.EqAt.none_str b t
  |_=>exact absurd (show false=true from fx) yT
 |bl a=>
  cases ry;cases x with
  |non=>cases rx;exact SeqAt.EqAt.bool_none a
  |bl b=>cases rx;exact SeqAt.EqAt.bool_bool a b
  |int b=>obtain⟨t,rfl⟩:=rx;exact SeqAt.EqAt.bool_int a b t
  |str b=>obtain⟨t,rfl⟩:=rx;exact SeqAt.EqAt.bool_str a b t
  |_=>exact absurd (show false=true from fx) yT
 |int a=>
  obtain⟨t',rfl⟩:=ry;cases x with
  |non=>cases rx;exact SeqAt.EqAt.int_none a t'
  |bl b=>cases rx;exact SeqAt.EqAt.int_bool a t' b
  |int b=>obtain⟨t,rfl⟩:=rx;exact SeqAt.EqAt.int_int a t' b t
  |str b=>obtain⟨t,rfl⟩:=rx;exact SeqAt.EqAt.int_str a t' b t
  |_=>exact absurd (show false=true from fx) yT
 |str a=>
  obtain⟨t',rfl⟩:=ry;cases x with
  |non=>cases rx;exact SeqAt.EqAt.str_none a t'
  |bl b=>cases rx;exact SeqAt.EqAt.str_bool a t' b
  |int b=>obtain⟨t,rfl⟩:=rx;exact SeqAt.EqAt.str_int a t' b t
  |str b=>obtain⟨t,rfl⟩:=rx;exact SeqAt.EqAt.str_str a t' b t
  |_=>exact absurd (show false=true from fx) yT
 |_=>exact absurd (show false=true from fy) yT
noncomputable def Yg (x:V)(u:a9):i7:=match u with
 | .none=>Fs .non x
 | .bool b=>Fs (.bl b) x
 | .int i _=>Fs (.int i) x
 | .str z _=>Fs (.str z) x
 |_=>false
theorem WI {x y:V}{u:a9}(r:kS y u)(f:DR y=true):Yg x u=Fs y x:=by
 cases y with
 |non=>cases r;rfl
 |bl b=>cases r;rfl
 |int i=>obtain⟨t,rfl⟩:=r;rfl
 |str z=>obtain⟨t,rfl⟩:=r;rfl
 |_=>exact absurd (show false=true from f) yT
theorem Oy {x:V}: ∀{xs:a6 V} {us:a6 a9},jU xs us->xs.all DR=true->us.any (Yg x)=xs.any λy=>Fs y x
 |_,_,.nil,_=>rfl
 |y::xs,u::us,.cons r t,f=>by
  rw[qV,wN]at f;rw[Bq,Bq,WI r f.1,Oy t f.2]
theorem Lp {A:j4}{s:i5}{x:V}{v:a9}(rx:kS x v)(fx:DR x=true): ∀{xs:a6 V} {us:a6 a9},jU xs us->xs.all DR=true-> ∀u∈us,SeqAt.EqAt A s u v (Yg x u)
 |_,_,.nil,_=>λu hu=>by cases hu
 |y::xs,u::us,.cons r t,f=>λu' hu=>by
  rw[qV,wN]at f
  rcases List.mem_cons.mp hu with rfl|hu
  ·rw[WI r f.1];exact Gr r rx f.1 fx
  ·exact Lp rx fx t f.2 u' hu
noncomputable def YN (x:V)(xs:a6 V):i7:=xs.any λy=>Fs y x
inductive rIn (K:a7) (neg:i7) (x:V) (y:V) (H:Hp) (Q:VK):Prop
 |mk (p xs:_) (h0:y=.ref p) (h1:(kF K H p xs\/uZ K H p xs)) (h2:DR x=true) (h3:xs.all DR=true) (h4:Q (.bl (if neg then !YN x xs else YN x xs)) H):rIn K neg x y H Q
theorem Fy:Hu X (compareOp .In) (rIn X.K false):=by
 intro j8 s U H x y v u Q I rx ry h;obtain⟨p,xs,rfl,hq,fx,fs,q⟩:=h;cases ry
 rcases hq with hq|hq
 ·obtain⟨its,r,pl,hz⟩:=I.list hq;refine SeqAt.in_listAt (Yg x) pl.isList (λw hw=>Lp rx fx r fs w (by simpa using hw)) #[.bl _,H,I,rfl,?_];rw[show its.toArray.any (Yg x)=its.any (Yg x)by simp,Oy r fs];exact q
 ·obtain⟨its,r,pl,hz⟩:=I.tuple hq;refine SeqAt.in_tupleAt (Yg x) pl (λw hw=>Lp rx fx r fs w (by simpa using hw)) #[.bl _,H,I,rfl,?_];rw[show its.toArray.any (Yg x)=its.any (Yg x)by simp,Oy r fs];exact q
theorem yX:EE X (.builtin "len") (λxs H Q=> ∃p ys,xs=[.ref p]/\(kF X.K H p ys\/uZ X.K H p ys)/\Q (.int ys.length) H):=by
 intro j8 s U H xs us Q I r h;obtain⟨p,ys,rfl,hq,q⟩:=h;obtain⟨u,rfl,rx⟩:=GD r;cases rx;have hn:=Gp
 rcases hq with hq|hq
 ·obtain⟨its,r',pl,hz⟩:=I.list hq;have n8:=r'.length;exact Calls.call_len_list pl.isList (by simp only[yH]<;>lia) #[.int ys.length,H,I.tok _,#[s.toks+1,by rw[yH,n8]],q]
 ·obtain⟨its,r',pl,hz⟩:=I.tuple hq;have n8:=r'.length;exact len_tuple pl (by simp only[yH]<;>lia) #[.int ys.length,H,I.tok _,#[s.toks+1,by rw[yH,n8]],q]
theorem BU:EE X (.type "list") (λxs H Q=> ∃p ys,xs=[.ref p]/\(kF X.K H p ys\/uZ X.K H p ys)/\ ∀l,H l=none->Q (.ref l) (upd H l (.lst ys))):=by
 intro j8 s U H xs us Q I r h;obtain⟨p,ys,rfl,hq,q⟩:=h;obtain⟨u,rfl,rx⟩:=GD r;cases rx;have fin: ∀(its:a6 a9),jU ys its->ys.length<=sizeLine-> ∀(h':j3) (c':Nat),(∀b o',s.heap.get? b=some o'->h'.get? b=some o')->
   h'.get? s.heap.objs.size=some {cls:=.type "list",dict:=none,data:=.seq its.toArray c',slots:=#[]}->EP X j8 U Q (.ref s.heap.objs.size) {s with heap:=h'}:=λits r' hz h' c' kp e=>
  #[.ref s.heap.objs.size,_,I.laid (t':=s.toks) kp (zS _) (show vV X.prog X.w _ h' _ (.lst ys)from#[hz,its,c',r',e]),rfl,q _ (I.hok.fresh (zS _))]
 rcases hq with hq|hq
 ·obtain⟨its,r',pl,hz⟩:=I.list hq;have n8:=r'.length;obtain⟨o,ho,hc,n,hd⟩:=pl.isList;exact call_list_seq p (.inl rfl) ho hc hd (λh' c' kp e=>fin its r' hz h' c' kp e) (by simp only[yH]<;>lia)
 ·obtain⟨its,r',pl,hz⟩:=I.tuple hq;have n8:=r'.length;obtain⟨o,ho,hc,n,hd⟩:=pl;exact call_list_seq p (.inr rfl) ho hc hd (λh' c' kp e=>fin its r' hz h' c' kp e) (by simp only[yH]<;>lia)
theorem HU:EE X (.type "tuple") (λxs H Q=> ∃p ys,xs=[.ref p]/\((kF X.K H p ys/\ ∀l,H l=none->Q (.ref l) (upd H l (.tup ys)))\/(uZ X.K H p ys/\Q (.ref p) H))):=by
 intro j8 s U H xs us Q I r h;obtain⟨p,ys,rfl,h⟩:=h;obtain⟨u,rfl,rx⟩:=GD r;cases rx
 rcases h with⟨hq,q⟩|⟨hq,q⟩
 ·obtain⟨its,r',pl,hz⟩:=I.list hq;have n8:=r'.length;refine call_tuple_list pl.isList (λh' kp=>?_) (by simp only[yH]<;>lia);have I1:xY X j8 U H {s with heap:=h'}:=I.kept (t':=s.toks) kp;have I2:xY X j8 U (upd H h'.objs.size (.tup ys)) {s with heap:=h'.push {cls:=.type "tuple",data:=.seq its.toArray}}:=
   I1.laid (t':=s.toks) (λb o e=>zL _ e) (zS _) (show vV X.prog X.w _ _ _ (.tup ys)from#[hz,its,r',IsTup.new _ _])
  exact#[.ref h'.objs.size,_,I2,rfl,q _ (I1.hok.fresh (zS _))]
 ·obtain⟨its,r',pl,hz⟩:=I.tuple hq;exact call_tuple_same pl #[.ref p,H,I,rfl,q]
def tyV (K:a7)(T:String)(x:V)(H:Hp):Prop:=match x with
 | .str _=>T="str"
 | .int _=>T="int"
 | .ref p=>(T="list"/\ ∃xs,kF K H p xs)\/(T="tuple"/\ ∃o,K.lookup p=some o/\o.cls=.type "tuple"/\o.dict=none)\/
   (T="dict"/\((∃kvs,H p=some (.dK kvs))\/ ∃kvs,H p=some (.dT kvs)))\/(T="set"/\ ∃S n,H p=some (.set S n))
 |_=>False
theorem UF {j8:a6 (i3×j7)}{U:St}{H:Hp}{s:i5}{T:String}{x:V}{v:a9}(I:xY X j8 U H s)(r:kS x v)(ty:tyV X.K T x H):
  s.TypeIs v T/\ ∀a,v=.ref a-> ∃ob,s.heap.get? a=some ob/\ob.dict=none:=by
 cases x with
 |str z=>
  obtain⟨t,rfl⟩:=r;cases(show T="str" from ty);exact#[typeIs_str s z t,λ_ e=>nomatch e]
 |int i=>
  obtain⟨t,rfl⟩:=r;cases(show T="int" from ty);exact#[typeIs_int s i t,λ_ e=>nomatch e]
 |ref p=>
  cases r
  rcases ty with⟨rfl,xs,hq⟩|⟨rfl,o,hk,hc,hd⟩|⟨rfl,hk⟩|⟨rfl,S,n,hk⟩
  ·obtain⟨its,_,pl,_⟩:=I.list hq;refine#[pl.isList.typeIs,λa e=>?_];cases e;obtain⟨o,n,e,c,hd,_⟩:=pl;exact#[o,e,hd]
  ·refine#[#[o,I.kIn p o hk,hc],λa e=>?_];cases e;exact#[o,I.kIn _ o hk,hd]
  ·have z: ∃o,s.heap.get? p=some o/\o.ExactDict:=by
    rcases hk with⟨kvs,hk⟩|⟨kvs,hk⟩
    ·obtain⟨_,_,_,_,o,_,_,e,ex,_⟩:=I.hok p _ hk;exact#[o,e,ex]
    ·obtain⟨_,_,_,_,o,_,_,e,ex,_⟩:=I.hok p _ hk;exact#[o,e,ex]
   obtain⟨o,e,ex⟩:=z;refine#[#[o,e,ex.1],λa e2=>?_];cases e2;exact#[o,e,ex.2.1]
  ·obtain⟨o,_,_,_,e,ex,_⟩:=I.hok p _ hk;refine#[#[o,e,ex.1],λa e2=>?_];cases e2;exact#[o,e,ex.2.1]
 |_=>exact False.elim ty
inductive YA (K:a7) (T:String) (r:V->List V->Hp->VK->Prop) (x:V) (H1:Hp) (Q:VK):Prop
 |mk (h0:tyV K T x H1) (h1:r x [] H1 Q):YA K T r x H1 Q
def zEv (K:a7)(T:String)(r:V->a6 V->Hp->VK->Prop)(to:TE):TE:=λU H Q=>to U H λx H1=>YA K T r x H1 Q
inductive zBp (K:a7) (T:String) (r:V->List V->Hp->VK->Prop) (t:TA) (U:St) (x:V) (H1:Hp) (Q:VK):Prop
 |mk (h0:tyV K T x H1) (h1:t U H1 λxs H2=>r x xs H2 Q):zBp K T r t U x H1 Q
def p9 (K:a7)(T:String)(r:V->a6 V->Hp->VK->Prop)(to:TE)(t:TA):TE:=λU H Q=>to U H λx H1=>zBp K T r t U x H1 Q
variable {o e:j5}{es:a6 j5}{to:TE}{t:TA}{name:Str}{o8 p8:Pos}{T id:String}{r:V->a6 V->Hp->VK->Prop}
theorem ZK (pa:PlainAttrs T)(slot:Slot T name id)(hty:typeOf (.builtin id)=pure (.type "method_descriptor"))(hm:MtR X id r)(ho:PE X o to)
  (hbase:autoParam (attributeBase o name X.env (eval o X.env)=eval o X.env) L2.aE._auto_1) (hline:autoParam ((o8.endLine==p8.line)=true) L2.aE._auto_1):PE X (.Call (.Attribute o name o8) [] [] p8) (zEv X.K T r to):=by
 refine#[?_];intro j8 s U H Q I h;refine wpAny_Call_method0_late hbase hline (wO (ho j8 s U H _ I h) λv s1 m7=>?_);obtain⟨x,H1,I1,r1,ty,q1⟩:=m7;obtain⟨h1,h2⟩:=UF I1 r1 ty;exact#[T,id,pa,slot,hty,h1,h2,Calls.callWith_builtin rfl (PySem.evalArgs_none (hm j8 s1 U H1 x [] v [] Q I1 r1 .nil q1))]
theorem uQ (pa:PlainAttrs T)(slot:Slot T name id)(hty:typeOf (.builtin id)=pure (.type "method_descriptor"))(hm:MtR X id r)(ho:PE X o to)(ha:PA X (e::es) t)
  (hbase:autoParam (attributeBase o name X.env (eval o X.env)=eval o X.env) L2.aE._auto_1)
  (hfew:autoParam (((backTo p8 (starEach (e::es) X.env)).all (λx=>!x.1)&&(backToKw p8 (keywordEach [] X.env)).all (λx=>x.1.isSome)
   &&decide ((e::es).length +([]:a6 Keyword).length +(if([]:a6 Keyword).isEmpty then 0 else 1)<30))=true) L2.aE._auto_1)
  (hline:autoParam ((o8.endLine==p8.line)=true) L2.aE._auto_1) (hs:autoParam (starEach (e::es) X.env=(false,eval e X.env)::starEach es X.env) L2.aE._auto_1) (hplain:autoParam ((backTo p8 (starEach es X.env)).any (·.1)=false) L2.aE._auto_1):
  PE X (.Call (.Attribute o name o8) (e::es) [] p8) (p9 X.K T r to t):=by
 refine#[?_];intro j8 s U H Q I h;refine wpAny_Call_method_late hbase hfew hline rfl (wO (ho j8 s U H _ I h) λv s1 m7=>?_);obtain⟨x,H1,I1,r1,ty,q1⟩:=m7;obtain⟨h1,h2⟩:=UF I1 r1 ty;refine#[T,id,pa,slot,hty,h1,h2,?_];have hA:=ha p8 j8 s1 U H1 _ I1 q1;rw[hs]at hA ⊢;refine Calls.callWith_builtin (by show(false || (backTo p8 (starEach es X.env)).any (·.1))=false;rw[hplain]<;>rfl) (Calls.evalArgs_plain ?_);exact wO hA λus s2 ⟨vs,H2,I2,r2,q2⟩=>hm j8 s2 U H2 x vs v us Q I2 r1 r2 q2
/-xs.append(e),list.index on a module's tuple .. are MtR facts of 06m-/
end
def MtM (X:Cx)(id:String)(r:V->a6 V->Hp->VK->Prop):Prop:=
 ∀(j8:a6 (i3×j7)) (s:i5) (U:St) (H:Hp) (x:V) (xs:a6 V) (v:a9) (us:a6 a9) (Q:VK),xY X j8 U H s->kS x v->jU xs us->r x xs H Q->
  wpAny (model X.prog X.w) X.A (call (.builtin id) (v::us)) (EP X j8 U Q) X.xe s
theorem jU.one {x:V}{us:a6 a9}(h:jU [x] us): ∃u,us=[u]/\kS x u:=by
 cases h with
 |cons r h=>
  cases h;exact#[-1,r]
theorem jU.two {x y:V}{us:a6 a9}(h:jU [x,y] us): ∃u v,us=[u,v]/\kS x u/\kS y v:=by
 cases h with
 |cons r h=>
  obtain⟨v,rfl,q⟩:=jU.one h;exact#[_,-1,r,q]
theorem jU.zero: ∀{us:a6 a9},jU [] us->us=[]
 |_,.nil=>rfl
theorem jU.dropLast {xs:a6 V}{us:a6 a9}(h:jU xs us):jU xs.dropLast us.dropLast:=by
 induction h with
 |nil=>exact .nil
 |cons r t ih=>
  cases t with
  |nil=>exact .nil
  |cons q t'=>exact .cons r ih
theorem jU.eraseIdx: ∀{xs:a6 V} {us:a6 a9} (i:Nat),jU xs us->jU (xs.eraseIdx i) (us.eraseIdx i)
 |_,_,_,.nil=>.nil
 |_,_,0,.cons _ t=>t
 |_,_,i+1,.cons r t=>.cons r (jU.eraseIdx i t)
theorem RH {α:Type}(l:a6 α):l.eraseIdx (l.length-1)=l.dropLast:=by
 induction l with
 |nil=>rfl
 |cons a r ih=>
  cases r with
  |nil=>rfl
  |cons b r=>
   have e:(a::b::r).length -1=((b::r).length -1)+1:=by
    have h1:(a::b::r).length =r.length+2:=rfl;have h2:(b::r).length =r.length+1:=rfl;lia
   rw[e,List.eraseIdx_cons_succ,ih]
   all_goals rfl
theorem MH {α:Type}: ∀(l:a6 α) (i:Nat),(l.eraseIdx i).length<=l.length
 |[],_=>zS _
 |_::_,0=>vF _
 |_::r,i+1=>uY (MH r i)
section
variable {X:Cx}{j8:a6 (i3×j7)}{U:St}{H:Hp}{s:i5}{l b:i3}{xs ys zs:a6 V}
theorem xY.lset {its its':a6 a9}{n:Nat}{f:j6 a9->j6 a9}{t':Nat}(I:xY X j8 U H s)(hH:H l=some (.lst xs))
  (e:s.heap.get? l=some {cls:=.type "list",data:=.seq its.toArray n}) (hf:f its.toArray=its'.toArray) (hv:jU ys its') (hz:ys.length<=sizeLine):
  xY X j8 U (upd H l (.lst ys)) {s with heap:=s.heap.update l (Obj.mapSeq f),toks:=t'}:=by
 have q:=PySem.IsL.update e f;rw[hf]at q;refine I.write (x:=l) (e:=l) (by rw[hH];exact trivial) (.inl rfl) (λb' u hb hu=>(Aj s.heap (Obj.mapSeq f) (Ne.symm hb)).trans hu) #[_,q] ?_;exact#[hz,its',_,hv,q]
theorem xY.lnew {its:a6 a9}{t':Nat}(I:xY X j8 U H s)(hv:jU ys its)(hz:ys.length<=sizeLine):
  xY X j8 U (upd H s.heap.objs.size (.lst ys)) {s with heap:=s.heap.push {cls:=.type "list",data:=.seq its.toArray},toks:=t'}:=
 I.laid (λ_ _ q=>zL _ q) (zS _) #[hz,its,0,hv,yI _ rfl]
theorem xY.fresh (I:xY X j8 U H s):H s.heap.objs.size=none:=I.hok.fresh (zS _)
theorem xY.lstM (I:xY X j8 U H s)(hH:H l=some (.lst xs)):xs.length<=sizeLine/\ ∃(its:a6 a9) (n:Nat),jU xs its/\xs.length=its.length/\s.heap.get? l=some {cls:=.type "list",data:=.seq its.toArray n}:=by
 obtain⟨z,its,n,r,e⟩:=I.hok l _ hH;exact#[z,its,n,r,r.length,e]
theorem Pw {n:Nat}(h:n<=sizeLine):Builtin.List.listTooLong n=false:=by
 unfold Builtin.List.listTooLong;exact zR ()
end
section
variable {X:Cx}
inductive Sr (x:V) (vs:List V) (H:Hp) (Q:VK):Prop
 |mk (l xs y:_) (h0:x=.ref l) (h1:vs=[y]) (h2:H l=some (.lst xs)) (h3:xs.length<sizeLine) (h4:Q .non (upd H l (.lst (xs++[y])))):Sr x vs H Q
theorem jQ:MtM X "list.append" Sr:=by
 intro j8 s U H x vs v us Q I rx rv h;obtain⟨l,xs,y,rfl,rfl,hH,hz,q⟩:=h;cases rx;obtain⟨u,rfl,ru⟩:=rv.one;obtain⟨z,its,n,r,hl,e⟩:=I.lstM hH;refine EG F.slot_list_append #[_,e,rfl] F.entry_list_append (F.args_list_append_2 _ _) (PySem.list_append l its.toArray n u (by rw[yH];lia)) #[e,?_];refine#[.non,_,I.lset (its':=its++[u]) hH e (by simp) (r.append (.cons ru .nil)) ?_,rfl,q];rw[zG,CI];lia
inductive NP (x:V) (vs:List V) (H:Hp) (Q:VK):Prop
 |mk (l b xs zs:_) (h0:x=.ref l) (h1:vs=[.ref b]) (h2:H l=some (.lst xs)) (h3:H b=some (.lst zs)) (h4:xs.length+zs.length<=sizeLine) (h5:Q .non (upd H l (.lst (xs++zs)))):NP x vs H Q
theorem ME:MtM X "list.extend" NP:=by
 intro j8 s U H x vs v us Q I rx rv h;obtain⟨l,b,xs,zs,rfl,rfl,hH,hB,hz,q⟩:=h;cases rx;obtain⟨u,rfl,ru⟩:=rv.one;cases ru;obtain⟨z,its,n,r,hl,e⟩:=I.lstM hH;obtain⟨z2,its2,n2,r2,hl2,e2⟩:=I.lstM hB;have hsz:its.toArray.size+its2.toArray.size<=sizeLine:=by rw[yH,yH];lia
 have hlong: ¬(!its.toArray.isEmpty&&Builtin.List.listTooLong (its.toArray.size+its2.toArray.size))=true:=by
  rw[Pw hsz,jW];exact yT
 refine EG F.slot_list_extend #[_,e,rfl] F.entry_list_extend (F.args_list_extend_2 _ _)
  (AutoSeq1.list_extend_list_list_0 l its.toArray n b its2.toArray n2 hlong (by rw[yH];lia) ()) #[e,e2,?_]
 refine#[.non,_,I.lset (its':=its++its2) hH e (by simp) (r.append r2) ?_,rfl,q];rw[zG];lia
inductive zCa (x:V) (vs:List V) (H:Hp) (Q:VK):Prop
 |mk (l xs y:_) (h0:x=.ref l) (h1:vs=[]) (h2:H l=some (.lst xs)) (h3:xs[xs.length-1]? =some y) (h4:Q y (upd H l (.lst xs.dropLast))):zCa x vs H Q
theorem ZT:MtM X "list.pop" zCa:=by
 intro j8 s U H x vs v us Q I rx rv h;obtain⟨l,xs,y,rfl,rfl,hH,hy,q⟩:=h;cases rx;have hus:=rv.zero;subst hus;obtain⟨z,its,n,r,hl,e⟩:=I.lstM hH;obtain⟨u,hu,ru⟩:=r.get hy;have hy':its.toArray[its.toArray.size-1]? =some u:=by
  show its.toArray[its.length-1]? =some u;rw[<-Array.getElem?_toList,<-hl];exact hu
 refine EG F.slot_list_pop #[_,e,rfl] F.entry_list_pop (F.args_list_pop_1 _) (MeetsSeq.list_pop_last l its.toArray n u hy' (by rw[yH];lia)) #[e,?_];refine#[y,_,I.lset (its':=its.dropLast) hH e ?_ r.dropLast ?_,ru,q]
 ·show its.toArray.eraseIdxIfInBounds (its.toArray.size-1)=its.dropLast.toArray;rw[yH,CB,RH]
 ·rw[List.length_dropLast];lia
def Zy:V->a6 V->Hp->VK->Prop:=λx vs H Q=> ∃l xs i k y,x=.ref l/\vs=[.int i]/\H l=some (.lst xs)/\ -(2^63)<=i/\i<2^63/\seqIndex? i xs.length=some k/\xs[k]? =some y/\Q y (upd H l (.lst (xs.eraseIdx k)))
theorem VS:MtM X "list.pop" Zy:=by
 intro j8 s U H x vs v us Q I rx rv h;obtain⟨l,xs,i,k,y,rfl,rfl,hH,h1,h2,hk,hy,q⟩:=h;cases rx;obtain⟨u,rfl,ru⟩:=rv.one;obtain⟨t,rfl⟩:=ru;obtain⟨z,its,n,r,hl,e⟩:=I.lstM hH;obtain⟨w,hw,rw'⟩:=r.get hy;refine EG F.slot_list_pop #[_,e,rfl] F.entry_list_pop (F.args_list_pop_2 _ _)
  (MeetsSeq.list_pop_at l its.toArray n i t k w (fitsIndex_both h1 h2) (by rw[yH,<-hl];exact hk) (by rw[<-Array.getElem?_toList];exact hw) (by rw[yH];lia)) #[e,?_]
 refine#[y,_,I.lset (its':=its.eraseIdx k) hH e ?_ (r.eraseIdx k) ?_,rw',q]
 ·show its.toArray.eraseIdxIfInBounds k=(its.eraseIdx k).toArray;rw[CB]
 ·have:=MH xs k;lia
inductive ZC (x:V) (y:V) (H:Hp) (Q:VK):Prop
 |mk (l b xs zs:_) (h0:x=.ref l) (h1:y=.ref b) (h2:H l=some (.lst xs)) (h3:H b=some (.lst zs)) (h4:xs.length+zs.length<=sizeLine) (h5: ∀p,H p=none->Q (.ref p) (upd H p (.lst (xs++zs)))):ZC x y H Q
theorem CT:Hu X (binaryOp .Add) ZC:=by
 intro j8 s U H x y v u Q I rx ry h;obtain⟨l,b,xs,zs,rfl,rfl,hH,hB,hz,q⟩:=h;cases rx;cases ry;obtain⟨z,its,n,r,hl,e⟩:=I.lstM hH;obtain⟨z2,its2,n2,r2,hl2,e2⟩:=I.lstM hB;refine PySem.P.add_list e e2 ?_ (by rw[yH,yH];lia);have ea:its.toArray++its2.toArray=(its++its2).toArray:=by simp
 rw[ea];exact#[.ref _,_,I.lnew (t':=s.toks) (r.append r2) (by rw[zG];lia),rfl,q _ I.fresh]
end
section
variable {prog:i6}{w:i9}{A:j4}{E:a9->i5->Prop}{s:i5}
set_option maxRecDepth 100000 in
end
end L2
namespace Att
open PySem PySem.W PySem.Calls PyProof.Rows
theorem Ki {P:Params}{h:j3}: ∀(ns:a6 Int) (vs:a6 a9),WellAll P h vs (ns.map WData.int)->IntsAre vs ns:=by
 intro ns
 induction ns with
 |nil=>
  intro vs w;rw[List.map_nil]at w;cases w;exact .nil
 |cons n ns ih=>
  intro vs w;rw[List.map_cons]at w;cases w with
  |cons a b=>
   cases a;exact .cons _ _ (ih _ b)
theorem Tj {l:OpenLaw}{n:Nat}(hn:l.most=some n){P:Params}{h:j3}{args:a6 WData}{o7:a6 a9}
  (hpre:l.row.toRowW.claim.pre args=true) (hwl:WellAll P h o7 args):
  ∃a vs ns,o7=[Value.ref a]/\args=[WData.list (ns.map WData.int)]/\h.get? a=some {cls:=.type "list",data:=.seq vs.toArray}/\IntsAre vs ns/\ns.length<=n:=by
 have hsh:WShape.hasAll [] args [.list .int]=true:=(pre_splitW hpre).1;have hc:l.pre.holds [] {args:=args}=true:=(pre_splitW hpre).2;obtain⟨d,r,rfl,h1,h2⟩:=hasAllW_cons hsh;obtain rfl:=hasAllW_nil h2;obtain⟨xs,rfl,h3⟩:=hasW_list h1;obtain⟨ns,rfl⟩:=items_int h3;have n8:ns.length<=n:=by
  unfold OpenLaw.pre at hc;have h4:(WTm.not (.lt (.lit (.int (n:Int))) (.len (.arg 0)))).holds [] {args:=[.list (ns.map .int)]}=true:=by
   have h4:=(holds_andW hc).1;rw[hn]at h4;exact h4
  have h5:=condW_of h4 (w_not (w_lt w_lit (w_len_list (w_arg rfl))));rw[List.length_map]at h5;refine Nat.le_of_not_lt λq=>?_;have q':(n:Int)<((ns.length:Nat):Int):=()
  first
   |(rw[decide_eq_true q']at h5;exact absurd h5 (by decide))
   |(simp at h5;lia)
 cases hwl with
 |cons w1 w2=>
  cases w2;cases w1 with
  |list ho hall=>exact#[_,_,ns,rfl,rfl,ho,Ki ns _ hall,n8]
theorem Tp (l:OpenLaw)(args:a6 WData):l.row.toRowW.claim.post args (.bool true) args=true:=
 postW_of (r:=l.row.toRowW) (X:=(true==true))
  (show WShape.has [] (.bool true) .bool =true by first|rfl|decide|simp[WShape.has,WShape.arms,WShape.armsAll])
  (show(WTm.eq .res (.lit (.bool true))).value [] {args:=args,res:=some (.bool true),after:=args}=some (.bool (true==true))from w_eq_bool (w_res rfl) w_lit) rfl
theorem attach_call {l:OpenLaw}{n:Nat}{q:i6}{loose:a6 Str}{XP:(Str->i4 a9)->j3->Prop}{YP:i9->j3->Prop}{d:DefRec}
  (hn:l.most=some n) (hdf:d.params.defaults=[])
  (call: ∀(w:i9) (s₀ s₁:i5) (mg mb:Str->i4 a9) (fa:i3) (o:j7) (pm cd doc:a9) (a:i3) (vs:a6 a9) (ns:a6 Int),
   Ground q loose [] XP w s₀ mg mb s₁.heap->YP w s₁.heap->
   s₁.heap.get? fa=some o->o.data=.func (docDef d.name d.params d.body d.scope pm cd doc)->s₁.heap.CodeRec cd d.name->mg d.name=some (.ref fa)->
   s₁.heap.get? a=some {cls:=.type "list",data:=.seq vs.toArray}->IntsAre vs ns->ns.length<=n->s₁.gens=#[]->
   codeAny (model l.prog w) callerA (.call (.ref fa) #[[.ref a],[]]) (λr s'=>r=.ok (.ret (.bool true))/\OldK s₁.heap s'.heap/\s'.os=s₁.os/\AllBare s'.gens) s₁):
  WalkO q loose XP YP l.row.toRowW d [] (λf vs=>PySem.call f vs):=by
 intro w s₀ s₁ mg mb G Y fa o pm cd doc dV kV ho hd hcd hD hmg hg args o7 as hpre hlay hrd hwl hlo;obtain rfl:dV=.none:=Dflts.none hD hdf;obtain rfl:kV=.none:=Dflts.noKw hD;obtain⟨a,vs,ns,rfl,rfl,hobj,hints,n8⟩:=Tj hn hpre hwl;refine enter_call (codeAny_mono (call w s₀ s₁ mg mb fa o pm cd doc a vs ns G Y ho (fd_plain hd) hcd hmg hobj hints n8 hg) λr s' hq=>?_);obtain⟨rfl,h2,h3,h4⟩:=hq;exact#[.inl #[.bool true,.bool true,[],rfl,λ_=>rfl,.bool true,Tp l _,λ_=>#[List.Pairwise.nil,λ_ hm=>(nomatch hm)]],h2,h3,h4]
section
variable {prog:i6}{w:i9}{A:j4}{E:a9->i5->Prop}{s:i5}{K:Frag}
noncomputable def zGp (h:j3)(L d:i3):a6 (i3×j7):=(List.range h.objs.size).filterMap λa=>if a=L\/a=d then none else(h.get? a).map λo=>(a,o)
end
end Att
namespace L2
open PySem PySem.Spec PyProof.Rows
theorem Mo: ∀{vs:a6 a9} {ns:a6 Int},IntsAre vs ns->jU (ns.map V.int) vs
 |_,_,.nil=>.nil
 |_,_,.cons n t h=>.cons #[t,rfl] (Mo h)
def Yt (H:Hp):Prop:= ∀b,H b=none\/ ∃o xs,H b=some (.frz o (.lst xs))
theorem Wi {P:i6}{w:i9}{K:a7}{mg mb:Str->i4 a9}{CX:Mm}{k:Nat}{fa a:i3}{fd:FuncData}{x:Str}{sp:Sp}{s₁:i5}{vs:a6 a9}{ns:a6 Int}
  (KX:K.In s₁.heap) (hns:s₁.heap.Ns mainGlobals mg) (hb:s₁.heap.Ns builtinsNs mb) (hbb: ∀x:Str,x≠"__name__"->mb x=bootBuiltins x) (hlim:s₁.heap.NoLimit) (hg:s₁.gens=#[])
  (ha:s₁.heap.get? a=some {cls:=.type "list",data:=.seq vs.toArray}) (hi:IntsAre vs ns) (hl:ns.length<=sizeLine) (hr:Am k callerA)
  (F: ∀base:j3,K.In base->base.Ns mainGlobals mg->Dx P w K mg base CX k fa fd [x] sp) (hbind: ∀(s:i5) (u:a9),BindsTo s fd #[[u],[]] [(x,u)])
  (hsp: ∀H:Hp,Yt H->kF K H a (ns.map V.int)->sp [.ref a] H (λv _=>v=.bl true) λ_ _ _=>False)
  (hCX: ∀H e s',CX [] H s₁ (λ_ _ _=>False) e s'->False):
  codeAny (model P w) callerA (.call (.ref fa) #[[.ref a],[]]) (λr s'=>r=.ok (.ret (.bool true))/\OldK s₁.heap s'.heap/\s'.os=s₁.os/\AllBare s'.gens) s₁:=by
 have rv:=Mo hi;have lenV:=hi.length;have core: ∀H:Hp,Yt H->kF K H a (ns.map V.int)->Ix P w H s₁.heap->(∀b,H b≠none->b=a)->(H a≠none->K.lookup a=none)->
   codeAny (model P w) callerA (.call (.ref fa) #[[.ref a],[]]) (λr s'=>r=.ok (.ret (.bool true))/\OldK s₁.heap s'.heap/\s'.os=s₁.os/\AllBare s'.gens) s₁:=by
  intro H hO hS hok hA hK;have base_of: ∀{b:i3} {o:j7},s₁.heap.get? b=some o->H b=none->(Oj s₁.heap H).get? b=some o:=λe n=>Wt e n;have noA: ∀{b:i3} {o:j7} {es:j6 DictEntry} {ep:Nat},s₁.heap.get? b=some o->o.data=.dict es ep->H b=none:=fun{b o es ep} e d=>by
   cases q:H b with
   |none=>rfl
   |some u=>
    have e':b=a:=hA b (by rw[q];simp);subst e';rw[ha]at e;cases e;have d':Data.seq vs.toArray _=Data.dict es ep:=d;cases d'
  have nsK: ∀{b:i3} {m:Str->i4 a9},s₁.heap.Ns b m->(Oj s₁.heap H).Ns b m:=fun{b m} ⟨o,es,ep,e,d,r⟩=>#[o,es,ep,base_of e (noA e d),d,r];have hKb:K.In (Oj s₁.heap H):=λb o e=>base_of (KX b o e) (by
   cases q:H b with
   |none=>rfl
   |some u=>
    have e':b=a:=hA b (by rw[q];simp);subst e';rw[hK (by rw[q];simp)]at e;cases e)
  have hM:Mod K mg (Oj s₁.heap H):=#[hKb,nsK hns,#[mb,nsK hb,hbb],let⟨mc,h1,h2⟩:=hlim;#[mc,nsK h1,h2]];have e0:RV P w K mg (Oj s₁.heap H) callerA [] s₁ H:=#[rfl,hM,λb o e=>XQ e,Nat.le_of_eq (Ub _ _),trivial,λb hb=>absurd (show b∈([]:a6 i3)from hb) (by simp),hok,.of_eq hg];refine codeAny_mono ((F _ hKb (nsK hns)).run callerA [] s₁ H #[[.ref a],[]] [.ref a] [.ref a] _ _ hr e0 (hbind s₁ (.ref a)) (.cons rfl .nil) (hsp H hO hS)) λr s' h=>?_;cases r with
  |error e=>exact(hCX H e s' h).elim
  |ok fl=>
   cases fl with
   |next=>exact False.elim h
   |brk=>exact False.elim h
   |cont=>exact False.elim h
   |ret u=>
    obtain⟨v,H',os,bare,un,hok',r',q⟩:=h;have q':v=.bl true:=q;subst q';obtain rfl:u=Value.bool true:=r';refine#[rfl,OldK.of_keep λb o e=>?_,os,bare];cases q:H b with
    |none=>exact un.keep b o e q (by intro z;exact absurd (show b∈([]:a6 i3)from z) (by simp)) (by simp)
    |some u=>
     rcases hO b with z|⟨ob,xs,z⟩
     ·rw[q]at z;cases z
     ·have z2:=un.frzs b ob _ z;obtain⟨e1,_⟩:=hok b _ z;obtain⟨e2,_⟩:=hok' b _ z2;rw[e]at e1;cases e1;exact e2
 cases hk:K.lookup a with
 |some o=>
  have e:=KX a o hk;rw[ha]at e;cases e;refine core (λ_=>none) (λ_=>.inl rfl) (.inr #[_,vs.toArray,_,hk,rfl,rfl,rfl,by rw[yH,lenV];exact hl,by simpa using rv]) (λb u z=>by have z':(none:i4 HO)=some u:=z;cases z') (λb z=>absurd rfl z) λz=>absurd rfl z
 |none=>
  refine core (λb=>if b=a then some (.frz {cls:=.type "list",data:=.seq vs.toArray} (.lst (ns.map V.int)))else none) (λb=>?_) (.inl (.inr #[{cls:=.type "list",data:=.seq vs.toArray},zP rfl])) (λb u z=>?_) (λb z=>?_) λ_=>hk
  ·by_cases hb:b=a
   ·exact .inr #[_,_,zP hb]
   ·exact .inl (zO hb)
  ·by_cases hb:b=a
   ·have z':=(zP hb).symm.trans z;cases z';subst hb;exact#[ha,by rw[zM];exact hl,vs,_,rv,ha]
   ·have z':=(zO hb).symm.trans z;cases z'
  ·by_cases hb:b=a
   ·exact hb
   ·exact absurd (zO hb) z
theorem walk_of {l:PySem.W.OpenLaw}{n k:Nat}{q:i6}{loose:a6 Str}{XP:(Str->i4 a9)->j3->Prop}{YP:i9->j3->Prop}{d:DefRec}{K:Params->a7}{CX:i9->Mm}{sp:i9->Sp}{x:Str}
  (hn:l.most=some n) (hn2:n<=sizeLine) (hdf:d.params.defaults=[]) (hr:Am k callerA)
  (hY: ∀(w:i9) (h:j3),YP w h->(K w.params).In h)
  (F: ∀(w:i9) (mg:Str->i4 a9) (fa:i3) (h:j3),(K w.params).In h->h.Ns mainGlobals mg->mg d.name=some (.ref fa)->
   ∃fd:FuncData,(∀(s:i5) (u:a9),BindsTo s fd #[[u],[]] [(x,u)])/\
    ∀base:j3,(K w.params).In base->base.Ns mainGlobals mg->Dx l.prog w (K w.params) mg base (CX w) k fa fd [x] (sp w))
  (hsp: ∀(w:i9) (H:Hp) (a:i3) (ns:a6 Int),ns.length<=n->Yt H->kF (K w.params) H a (ns.map V.int)->sp w [.ref a] H (λv _=>v=.bl true) λ_ _ _=>False)
  (hCX: ∀(w:i9) (H:Hp) (s:i5) (e:a9) (s':i5),CX w [] H s (λ_ _ _=>False) e s'->False):
  PySem.W.WalkO q loose XP YP l.row.toRowW d [] (λf vs=>PySem.call f vs):=by
 refine Att.attach_call hn hdf λw s₀ s₁ mg mb fa o pm cd doc a vs ns G Y ho hd hcd hmg hobj hints n8 hg=>?_;have KX:=hY w _ Y;obtain⟨fd,hb,hF⟩:=F w mg fa _ KX G.T.g hmg;exact Wi KX G.T.g G.T.b G.T.builtins G.T.nolimit hg hobj hints (yU n8 hn2) hr hF hb (λH hO hS=>hsp w H a ns n8 hO hS) λH e s'=>hCX w H s₁ e s'
noncomputable def Jd (s:i8)(j:Nat):i8:=match s with
 | .ClassDef _ _ _ body _ _ _ _ _ _ _=>body.getD j (.Pass #[0,0,0,0])
 |_=>.Pass #[0,0,0,0]
noncomputable def uT (s:i8):Arguments:=match s with
 | .FunctionDef _ a _ _ _ _ _ _ _ _=>a
 |_=>{posonlyargs:=[],args:=[],vararg:=none,kwonlyargs:=[],kw_defaults:=[],kwarg:=none,defaults:=[]}
noncomputable def vR (s:i8):a6 i8:=match s with
 | .FunctionDef _ _ b _ _ _ _ _ _ _=>b
 |_=>[]
noncomputable def zW (s:i8):Scope:=match s with
 | .FunctionDef _ _ _ _ _ _ sc _ _ _=>sc
 |_=>{kind:=.function,names:=[],isGenerator:=false,isCoroutine:=false}
abbrev E0:XK:=λ_ _ _=>False
structure qZ (K:a7)(x qual:Str)(st:i8)(f:i3)(fd:FuncData):Prop where
 ex: ∃(oc:a9) (od:Option i3) (kV doc pm:a9) (an:Option i3) (cdv ct:a9) (osl:Array (Option a9)),
  fd=PySem.W.fnOf x qual (uT st) (vR st) (zW st) .none kV doc pm an cdv ct/\K.lookup f=some #[oc,od,.func fd,osl]/\PySem.W.codeIn K cdv qual=true
 kp:PySem.W.keepIn K (.ref f)=true
section
variable {P:i6}{w:i9}{K:a7}{mg:Str->i4 a9}{base:j3}
theorem qZ.binds {x qual:Str}{st:i8}{f:i3}{fd:FuncData}{ps:a6 Str}(F:qZ K x qual st f fd)
  (h: ∀(kV doc pm:a9) (an:i4 i3) (cdv ct:a9) (us:a6 a9),us.length=ps.length->bindArgs (PySem.W.fnOf x qual (uT st) (vR st) (zW st) .none kV doc pm an cdv ct) #[us,[]]=pure (ps.zip us)):uR K fd ps []:=by
 obtain⟨oc,od,kV,doc,pm,an,cdv,ct,osl,rfl,lk,hcd⟩:=F.ex;exact .all (h kV doc pm an cdv ct)
theorem Wz {x qual:Str}{st:i8}{f:i3}{oc:a9}{od an:i4 i3}{osl:j6 (i4 a9)}{kV doc pm cdv ct:a9}(l:K.lookup f=some #[oc,od,.func (PySem.W.fnOf x qual (uT st) (vR st) (zW st) .none kV doc pm an cdv ct),osl])
  (c:PySem.W.codeIn K cdv qual=true) (k:PySem.W.keepIn K (.ref f)=true):qZ K x qual st f (PySem.W.fnOf x qual (uT st) (vR st) (zW st) .none kV doc pm an cdv ct):=#[#[oc,od,kV,doc,pm,an,cdv,ct,osl,rfl,l,c],k]
end
theorem Bc {A:j4}{k:Nat}(hr:Am k A):A.units+1<cLine:=xU (Nat.add_le_add_left (by decide:1<=64) _) hr.units
theorem Aq {n:Nat}(h:n<=1000):n<sizeLine:=xU h (by decide)
section
variable {X:Cx}
theorem pv (i:Nat){x:Str}{pos:Pos}(hN:autoParam (X.N[i]? =some x) L2.aE._auto_1)(hv:Vis X.env.scope x:=by first|exact Or.inl rfl|exact Or.inr (Or.inl rfl)|exact Or.inr (Or.inr rfl))(hd:autoParam ((x==("__debug__":Str))=false) L2.aB._auto_1)
  (hcd:autoParam ((x==("__classdict__":Str))=false) L2.aB._auto_1):PE X (.Name x pos) (Zi i):=ZH hN hv hd hcd
end
theorem xX {A B:Prop}(h:B):if false=true then A else B:=by
 rw[zO yT];exact h
theorem jC {A B:Prop}(h:A):if true=true then A else B:=by
 rw[zP rfl];exact h
theorem jB {c A B:Prop}[Decidable c](h1:c->A)(h2: ¬c->B):if c then A else B:=by
 by_cases h:c
 ·rw[zP h];exact h1 h
 ·rw[zO h];exact h2 h
theorem zCp {c A B:Prop}[Decidable c](hc:c)(h:B):if(!decide c)=true then A else B:=by
 rw[zQ hc];exact xX h
def xK (H H':Hp):Prop:= ∀b o,H b=some o->H' b=some o
theorem xK.refl (H:Hp):xK H H:=λ_ _ h=>h
theorem xK.trans {H H1 H2:Hp}(a:xK H H1)(b:xK H1 H2):xK H H2:=λc o h=>b c o (a c o h)
theorem xK.free {H H':Hp}(e:xK H H'){l:i3}(h:H' l=Option.none):H l=Option.none:=by
 cases q:H l with
 |none=>rfl
 |some o=>
  rw[e l o q]at h;cases h
theorem xK.seq {K:a7}{H H':Hp}{a:i3}{xs:a6 V}(e:xK H H')(h:kF K H a xs):kF K H' a xs:=by
 rcases h with(h|⟨o,h⟩)|h
 ·exact .inl (.inl (e _ _ h))
 ·exact .inl (.inr #[o,e _ _ h])
 ·exact .inr h
theorem RJ (J:Nat->i5->Prop)
  (turn: ∀n s,J n s->wpAny (model prog w) A (pyNext it) (λr s1=>match r with
   |none=>R (.ok .next) s1
   |some v=>wpAny (model prog w) A (letOwnedTupleGo n9 it v) (λ_ s1=>wpAny (model prog w) A (assign n9 env v) (λ_ s2=>
     wpAny (model prog w) A (forIn ifs true λc r=>if r=true then do let ok<-isTrue c env (eval c env);pure (ForInStep.yield ok)else pure (ForInStep.yield r)) (λok s3=>
      if ok=true then wpAny (model prog w) A (eval elt env) (λx s4=>
       wpAny (model prog w) A (call (.builtin "list.append") [acc,x]) (λ_ s5=> ∃m,m<n/\J m s5) (λ_ _=>False) s4) (λ_ _=>False) s3
      else ∃m,m<n/\J m s3) (λ_ _=>False) s2) (λ_ _=>False) s1) (λ_ _=>False) s1) (λ_ _=>False) s)
  (n:Nat) (h:J n s):
  codeAny (model prog w) A (.compLoop (.ListComp elt [#[n9,iter,ifs,0]] scope pos) 0 it acc env) R s:=by
 refine codeAny_loop rfl J (λn s hI=>?_) n h;show wpAny _ A ((compTurn (.ListComp elt [#[n9,iter,ifs,0]] scope pos) 0 it acc env).onRaise (λx=>do noteFrame x env;theTreesLotGoes x)) _ _ s;refine wpAny_noted (AM (E:=λ_ _=>False) ?_ (λ_ _ q=>q) λ_ _ q=>q.elim);rw[compTurn_list];refine zD (Fj (zD (wO (turn n s hI) λr s1 h1=>?_)));cases r with
 |none=>exact yB h1
 |some v=>
  refine zD (wO h1 λ_ s1 h1=>?_);refine zD (wO h1 λ_ s2 h2=>zD (wO h2 λok s3 h3=>?_));cases ok with
  |false=>exact yB #[rfl,h3]
  |true=>exact zD (zD (wO h3 λx s4 h4=>zD (wO h4 λ_ s5 h5=>yB (yB #[rfl,h5]))))
theorem Iu: ∀(names:a6 (Str×NameKind)) (acc:a6 (Str×i3)),(∀y∈names,y.2=.free-> ∃c,env.cells.lookup y.1=some c)->
  ∃cl:a6 (Str×i3),(forIn names acc (fun(y:Str×NameKind) (r:a6 (Str×i3))=>if(y.2==NameKind.free)=true then do let a<-cellOf env y.1;pure (ForInStep.yield ((y.1,a)::r))else pure (ForInStep.yield r)):Sem _)=pure cl/\
   ∀x,(∀c,cl.lookup x=some c->acc.lookup x=some c\/env.cells.lookup x=some c)/\((acc.lookup x).isSome =true\/(x,NameKind.free)∈names->(cl.lookup x).isSome =true)
 |[],acc,_=>#[acc,rfl,λx=>#[λc h=>.inl h,λh=>h.elim id λz=>nomatch z]]
 |(n,k)::r,acc,hf=>by
  by_cases hk:k=.free
  ·subst hk;obtain⟨c,hc⟩:=hf (n,.free) yC rfl;obtain⟨cl,e,q⟩:=Iu r ((n,c)::acc) λy hy=>hf y (zZ _ hy);refine#[cl,?_,λx=>#[λd hd=>?_,λhx=>?_]]
   ·rw[DO];have e1:cellOf env n=pure c:=by unfold cellOf;simp only[hc]
    simp only[wL,EZ,e1];exact e
   ·rcases(q x).1 d hd with z|z
    ·by_cases hx:x=n
     ·subst hx;rw[Az]at z;cases z;exact .inr hc
     ·rw[Dd,beq_eq_false_iff_ne.mpr hx]at z;exact .inl z
    ·exact .inr z
   ·refine(q x).2 ?_
    by_cases hxn:x=n
    ·subst hxn;exact .inl (by rw[Az];rfl)
    ·rcases hx with z|z
     ·exact .inl (by rw[Dd,beq_eq_false_iff_ne.mpr hxn];exact z)
     ·rcases List.mem_cons.mp z with z|z
      ·cases z;exact absurd rfl hxn
      ·exact .inr z
  ·obtain⟨cl,e,q⟩:=Iu r acc λy hy=>hf y (zZ _ hy);refine#[cl,?_,λx=>#[(q x).1,λhx=>(q x).2 ?_]]
   ·rw[DO];have hb:(k==NameKind.free)=false:=by simpa using hk
    simp only[hb,BC,FJ];exact e
   ·rcases hx with z|z
    ·exact .inl z
    ·rcases List.mem_cons.mp z with z|z
     ·cases z;exact absurd rfl hk
     ·exact .inr z
theorem LI (hf: ∀y∈scope.names,y.2=.free-> ∃c,env.cells.lookup y.1=some c):
  ∃cl,closureFor scope env=pure cl/\(∀x c,cl.lookup x=some c->env.cells.lookup x=some c)/\ ∀x,(x,NameKind.free)∈scope.names-> ∃c,cl.lookup x=some c:=by
 obtain⟨cl,e,q⟩:=Iu scope.names [] hf;refine#[cl,?_,λx c h=>?_,λx hx=>Option.isSome_iff_exists.mp ((q x).2 (.inr hx))]
 ·unfold closureFor;exact(qX (·>>=λr=>pure r) e).trans rfl
 ·rcases(q x).1 c h with z|z
  ·simp at z
  ·exact z
noncomputable abbrev Cx.comp (X:Cx)(N:a6 Str)(scope:Scope)(cl:a6 (Str×i3))(C:i3)(fp:a6 i3)(s:i5)(H:Hp):Cx:=
 {X with N:=N,s₀:=s,H₀:=H,env:=compEnvC scope cl C X.env,outer:=X.stack,stack:=X.stack,ex:=fp,fn:=λ_=>false,pn:=[],xe:=λ_ _=>False}
structure PTs (X:Cx)(ifs:List j5)(t:TT):Prop where
 go: ∀(j8:List (i3×j7)) (s:i5) (U:St) (H:Hp) (Q:i7->Hp->Prop),xY X j8 U H s->t U H Q->
  wpAny (model X.prog X.w) X.A (forIn ifs true λc r=>if r=true then do let ok<-isTrue c X.env (eval c X.env);pure (ForInStep.yield ok)else pure (ForInStep.yield r)) (TP X j8 U Q) X.xe s
instance {X:Cx}{ifs:a6 j5}{t:TT}:CoeFun (PTs X ifs t) (λ_=> ∀(j8:a6 (i3×j7)) (s:i5) (U:St) (H:Hp) (Q:i7->Hp->Prop),xY X j8 U H s->t U H Q->
  wpAny (model X.prog X.w) X.A (forIn ifs true λc r=>if r=true then do let ok<-isTrue c X.env (eval c X.env);pure (ForInStep.yield ok)else pure (ForInStep.yield r)) (TP X j8 U Q) X.xe s):=#[PTs.go]
def Qz:TT:=λ_ H Q=>Q true H
theorem AT:PTs X [] Qz:=#[λ_ _ _ H _ I h=>wpAny_tests_nil #[H,I,h]]
theorem Xt (h:PT X c t):PTs X [c] t:=#[λj8 s U H Q I q=>wpAny_tests_one (h j8 s U H Q I q)]
noncomputable def JQ (own:Nat)(js:a6 Nat)(U:St):St:=List.replicate own none++js.map λj=>(U[j]?).join
def JU (J:It)(p:i3)(U0:St)(H0:Hp)(g:TG)(tt:TT)(te:TE)(R:Hp->Prop):Prop:=
 ∃W:Nat->Nat->St->Hp->Prop,(∃m,W 0 m U0 H0)/\ ∀i m U' H',W i m U' H'->
  (J.stop i H'/\R H')\/(J.go i H'/\ ∀x H2,J.yld i H' x H2->g x U' H2 λU3 H3=>tt U3 H3 λb H4=>
   if b=true then te U3 H4 λv H5=> ∃ys,H5 p=some (.lst ys)/\ys.length<sizeLine/\ ∃m',m'<m/\W (i+1) m' U3 (upd H5 p (.lst (ys++[v])))
   else ∃m',m'<m/\W (i+1) m' U3 H4)
def Yz (wi:TI)(own:Nat)(js:a6 Nat)(g:TG)(tt:TT)(te:TE):TE:=λU H Q=>wi U H λJ H1=> ∀p,H1 p=none->JU J p (JQ own js U) (upd H1 p (.lst [])) g tt te (Q (.ref p))
inductive HV (N:List Str):List Str->List Nat->Prop where
 |nil:HV N [] []
 |cons {y:Str} {j:Nat} {ys:List Str} {js:List Nat} (h:N[j]? =some y) (r:HV N ys js):HV N (y::ys) (j::js)
theorem HV.at {ys:a6 Str}{js:a6 Nat}(h:HV N ys js): ∀(i:Nat) (y:Str),ys[i]? =some y-> ∃j,js[i]? =some j/\N[j]? =some y:=by
 induction h with
 |nil=>intro i y e;simp at e
 |cons h r ih=>
  intro i y e;cases i with
  |zero=>simp at e;subst e;exact#[-1,h]
  |succ i=>
   obtain⟨j,h1,h2⟩:=ih i y (by simpa using e);exact#[j,by simpa using h1,h2]
theorem HV.length {ys:a6 Str}{js:a6 Nat}(h:HV N ys js):ys.length=js.length:=by
 induction h with
 |nil=>rfl
 |cons _ r ih=>simp[ih]
theorem FD {f:Str->NameKind->NameKind}: ∀{names:a6 (Str×NameKind)} {x:Str},(names.map λy=>(y.1,f y.1 y.2)).lookup x=(names.lookup x).map (f x)
 |[],_=>rfl
 |(n,k)::r,x=>by
  by_cases h:x=n
  ·subst h;rw[yO,Az,Az];rfl
  ·have hb:(x==n)=false:=beq_eq_false_iff_ne.mpr h;rw[yO,Dd,Dd,hb];exact FD
noncomputable def OW (env:Env)(n:Str)(k:NameKind):NameKind:=if(k== .free&&env.scope.kind== .function&&env.kindOf n==some .cell)=true then .cell else k
theorem IN (scope:Scope)(env:Env)(x:Str):(relabel scope env).names.lookup x=(scope.names.lookup x).map (OW env x):=by
 have e:(relabel scope env).names =scope.names.map λy=>(y.1,OW env y.1 y.2):=by
  unfold relabel;refine wF λy _=>?_;obtain⟨n,k⟩:=y;show(if(k== .free&&env.scope.kind== .function&&env.kindOf n==some .cell)=true then(n,NameKind.cell)else(n,k))=(n,OW env n k);unfold OW;split<;>rfl
 rw[e,FD]
section
variable {X:Cx}{elt n9 iter:j5}{ifs:a6 j5}{scope:Scope}{own ys:a6 Str}{js:a6 Nat}{wi:TI}{g:TG}{tt:TT}{te:TE}{pos:Pos}
theorem LG {j8:a6 (i3×j7)}{U:St}{H:Hp}{s2:i5}{it:i3}{fp:a6 i3}{tn:Nat->j3->Prop}{J:It}{Q:VK}{E:a9->i5->Prop}{cl:a6 (Str×i3)}{RR:a9->i3->Result->i5->Prop}
  (hc:X.calm=true) (I:xY X j8 U H s2) (T:LP X.prog X.w X.K n9 J fp it tn) (st:tn 0 s2.heap) (fpk: ∀b∈fp,Hv X j8 H b)
  (hkind:scope.kind=.function) (hcell: ∀y∈scope.names,y.2≠ .cell) (fr:HV X.N ys js) (hys: ∀y∈ys,X.env.kindOf y=some .cell)
  (hcl1: ∀x c,cl.lookup x=some c->X.env.cells.lookup x=some c) (hcl2: ∀x,(x,NameKind.free)∈scope.names-> ∃c,cl.lookup x=some c)
  (hvis: ∀y∈ys,(relabel scope X.env).names.lookup y=some .cell)
  (hg: ∀cl C fp s H,PG (X.comp (own++ys) scope cl C fp s H) n9 g) (ht: ∀cl C fp s H,PTs (X.comp (own++ys) scope cl C fp s H) ifs tt) (he: ∀cl C fp s H,PE (X.comp (own++ys) scope cl C fp s H) elt te)
  (h: ∀p,H p=none-> ∃W:Nat->Nat->St->Hp->Prop,(∃m,W 0 m (JQ own.length js U) (upd H p (.lst [])))/\ ∀i m U' H',W i m U' H'->
   (J.stop i H'/\Q (.ref p) H')\/(J.go i H'/\ ∀x H2,J.yld i H' x H2->g x U' H2 λU3 H3=>tt U3 H3 λb H4=>
    if b=true then te U3 H4 λv H5=> ∃ys,H5 p=some (.lst ys)/\ys.length<sizeLine/\ ∃m',m'<m/\W (i+1) m' U3 (upd H5 p (.lst (ys++[v])))
    else ∃m',m'<m/\W (i+1) m' U3 H4))
  (hRR: ∀D C (H':Hp) (s':i5),xY X j8 U H' s'->Q (.ref D) H'->(∃m,s'.heap.Ns C m)->H' C=none->C≠X.env.locals->X.s₀.heap.objs.size<=C->(∀x c,X.env.cells.lookup x=some c->c≠C)->(∀p∈X.pn++j8,p.1≠C)->RR (.ref D) C (.ok .next) s'):
  wpAny (model X.prog X.w) X.A (newList []) (λacc s3=>wpAny (model X.prog X.w) X.A (newFunctionEnv scope X.env.globals cl [] X.env.qual none .none (some X.env)) (λcenv s4=>
   codeAny (model X.prog X.w) X.A (.compStart (.ListComp elt [#[n9,iter,ifs,0]] scope pos) 0 (.ref it) acc {cenv with scope:=relabel scope X.env}) (RR acc cenv.locals) s4) E s3) E s2:=by
 refine jV (wpAny_newFunctionEnv hcell (by intro y hy;simp at hy) (λh1 hns1 hsb1=>?_) hkind);have hnp:H s2.heap.objs.size=none:=I.hok.fresh (zS _);have I3:xY X j8 U (upd H s2.heap.objs.size (.lst [])) {s2 with heap:=s2.heap.push {cls:=.type "list",data:=.seq ([]:a6 a9).toArray},toks:=s2.toks}:=
  I.lnew (its:=[]) (ys:=[]) .nil (xG _)
 obtain⟨W,⟨m0,w0⟩,turn⟩:=h _ hnp;clear h;generalize hH0:upd H s2.heap.objs.size (.lst [])=H0 at I3 w0;generalize hp:s2.heap.objs.size=p at *
 have eS:({s2 with heap:=s2.heap.push {cls:=.type "list",data:=.seq ([]:a6 a9).toArray},toks:=s2.toks}:i5)={s2 with heap:=s2.heap.push {cls:=.type "list",data:=.seq ([]:a6 a9).toArray}}:=rfl;rw[eS]at I3;clear eS;generalize hs3:({s2 with heap:=s2.heap.push {cls:=.type "list",data:=.seq ([]:a6 a9).toArray}}:i5)=s3 at *
 have heap3:s3.heap=s2.heap.push {cls:=.type "list",data:=.seq ([]:a6 a9).toArray}:=by rw[<-hs3]
 have old3: ∀b o,s2.heap.get? b=some o->s3.heap.get? b=some o:=λb o e=>by rw[heap3];exact zL _ e
 generalize hC:s3.heap.objs.size=C at *
 have st3:tn 0 s3.heap:=T.keep _ _ _ st λb _ o e=>old3 b o e;have fp3: ∀b∈fp,b<C:=λb hb=>by
  obtain⟨o,e,_⟩:=T.obj _ _ st3 b hb;have:=yN e;rw[hC]at this;exact this
 have nH0: ∀b∈fp,H0 b=none:=λb hb=>by
  obtain⟨o,e,_⟩:=T.obj _ _ st b hb;rw[<-hH0,yQ (λz=>by have:=yN e;rw[hp,z]at this;exact qU _ this)];exact(fpk b hb).1
 have old1: ∀b o,s3.heap.get? b=some o->h1.get? b=some o:=λb o e=>
  hsb1.extBut b o (λz=>by have:=yN e;rw[hC,z]at this;exact qU _ this) (zL _ e)
 have nstk: ∀b∈fp,b∉frs X.stack:=λb hb z=>by
  rcases List.mem_cons.mp (I.stkSub b z)with e|e
  ·exact(fpk b hb).2.1 e
  ·exact(fpk b hb).2.2.1 e
 have ncC: ∀x c,X.env.cells.lookup x=some c->c≠C:=λx c e z=>by
  obtain⟨v,o,ho,_⟩:=I3.cell x c e;have:=yN ho;rw[hC,z]at this;exact qU _ this
 have LC:C≠X.env.locals:=λz=>by have:=I3.lt;rw[hC,z]at this;exact qU _ this
 have sC:X.s₀.heap.objs.size<=C:=by rw[<-hC];exact I3.sz
 have rl: ∀x k,(compEnvC scope cl C X.env).kindOf x=some k->(k=.cell\/k=.free)->(x,NameKind.free)∈scope.names:=λx k e hk=>by
  have e':(relabel scope X.env).names.lookup x=some k:=e;rw[IN]at e';cases q:scope.names.lookup x with
  |none=>rw[q]at e';cases e'
  |some k0=>
   rw[q]at e';have m0:=vA q;have n0:=hcell _ m0;have:OW X.env x k0=k:=jN e';unfold OW at this;split at this
   ·rename_i z;have:k0=.free:=by
     simp only[wN,Da]at z;exact z.1.1
    rw[<-this];exact m0
   ·rcases hk with hk|hk
    ·exact absurd (this.trans hk) n0
    ·rw[<-hk,<-this];exact m0
 let Y:=X.comp (own++ys) scope cl C fp s3 H0
 have okY:Y.Ok:=by
  refine#[I.ok.mod,?_,I.ok.glob,I.ok.blt,?_,λx y c e1 e2=>I.ok.inj x y c (hcl1 x c e1) (hcl1 y c e2),λx hx=>?_,λx c z=>(nomatch z),I.ok.hd,I.ok.frames,.inl rfl,λb hb=>#[?_,λx c e=>(fpk b hb).2.2.2.2.1 x c (hcl1 x c e)],λb o e=>I3.bs b o e,?_,λb o e hb=>?_,nstk,I3.stack,I3.stkFree]
  ·exact hkind
  ·exact Nat.le_of_eq hC
  ·rcases hx with hx|hx
   ·exact hcl2 x (rl x _ hx (.inl rfl))
   ·exact hcl2 x (rl x _ hx (.inr rfl))
  ·exact xT (fp3 b hb)
  ·exact yU I.ok.bsz I3.sz
  ·rcases(fpk b hb).2.2.2.1 with z|z
   ·exact I.ok.noex b o e z
   ·exact absurd (xR (yN e) (yU I.ok.bsz z)) (qU _)
 have I4:xY Y [] (JQ own.length js U) H0 {s3 with heap:=h1,toks:=s3.toks+([]:a6 (Str×a9)).length}:=by
  refine#[okY,rfl,I3.bare,Un.kept old1,#[_,hns1,λi x v e1 e2 e3=>?_],λx c e=>?_,?_,λx c e=>I3.freeC x c (hcl1 x c e),λp hp=>absurd (show p∈([]:a6 (i3×j7))from hp) (by simp),I3.hok.kept old1,?_]
  ·have e1:(own++ys)[i]? =some x:=e1;have hi:own.length<=i:=Nat.le_of_not_lt λlt=>by
    unfold JQ at e2;rw[kJ (by simpa using lt),FR]at e2;split at e2<;>cases e2
   rw[qB hi]at e1;obtain⟨j,hj,hN⟩:=fr.at _ _ e1;unfold JQ at e2;rw[qB (by simpa using hi),qO,yJ,hj]at e2;have e2:(U[j]?).join =some v:=jN e2;have e2':U[j]? =some (some v):=by
    cases q:U[j]? with
    |none=>rw[q]at e2;cases e2
    |some z=>rw[q]at e2;rw[show z=some v from e2]
   have my:=xP e1;have hk:=hys x my;obtain⟨m,hn,hl⟩:=I3.loc;obtain⟨u,r,q⟩:=hl j x v hN e2' (.inr (.inl hk));refine#[u,r,?_]
   rcases q with⟨k,_⟩|⟨_,c,e,z⟩
   ·rw[hk]at k;cases k
   ·obtain⟨c',e'⟩:=hcl2 x (rl x _ (hvis x my) (.inl rfl));have:c'=c:=by have:=hcl1 x c' e';rw[e]at this;exact(jN this).symm
    subst this;refine .inr #[?_,c',e',?_]
    ·exact .inl (hvis x my)
    ·obtain⟨o,ho,hd⟩:=z;exact#[o,old1 _ _ ho,hd]
  ·obtain⟨v,o,ho,hd⟩:=I3.cell x c (hcl1 x c e);exact#[v,o,old1 _ _ ho,hd]
  ·exact I3.hok.fresh (Nat.le_of_eq hC)
  ·unfold JQ;show _=(own++ys).length;rw[zG,qO,zM,zG,fr.length]
 have stat: ∀{H':Hp},(∀b∈fp,H' b=none)-> ∀b∈fp,Hv Y [] H' b:=λhn b hb=>
  #[hn b hb,xT (fp3 b hb),nstk b hb,.inl hb,λx c e=>(fpk b hb).2.2.2.2.1 x c (hcl1 x c e),λp hp=>absurd (show p∈([]:a6 (i3×j7))from hp) (by simp)]
 have fin: ∀{U':St} {H':Hp} {s':i5},xY Y [] U' H' s'->Q (.ref p) H'->RR (.ref p) C (.ok .next) s':=fun{U' H' s'} I' q=>by
  have back:xY X j8 U H' s':=I3.call' (ch:=fp) I'.os I'.base I'.hok I'.bare λb hb=>#[(fpk b hb).2.2.2.1,(fpk b hb).2.1,(fpk b hb).2.2.2.2.1,(fpk b hb).2.2.2.2.2];obtain⟨m,hn,_⟩:=I'.loc;exact hRR p C H' s' back q #[m,hn] I'.free LC sC ncC λq hq z=>by
   have:=yN (I3.pin q hq).1;rw[hC,z]at this;exact qU _ this
 have loop: ∀s4:i5,s4={s3 with heap:=h1,toks:=s3.toks+([]:a6 (Str×a9)).length}->
   codeAny (model X.prog X.w) X.A (.compLoop (.ListComp elt [#[n9,iter,ifs,0]] scope pos) 0 (.ref it) (.ref p) (compEnvC scope cl C X.env)) (RR (.ref p) C) s4:=by
  rintro s4 rfl;refine RJ (λn s'=> ∃i U' H',xY Y [] U' H' s'/\tn i s'.heap/\(∀b∈fp,H' b=none)/\W i n U' H') ?_ m0 #[0,_,_,I4,T.keep _ _ _ st3 λb _ o e=>old1 b o e,nH0,w0];rintro n s5 ⟨i,U5,H5,I5,st5,fr5,w5⟩
  rcases turn i n U5 H5 w5 with⟨stop,qn⟩|⟨go,step⟩
  ·refine wO (T.done Y rfl rfl rfl hc i [] s5 U5 H5 (λ_ _=>False) I5 (stat fr5) st5 stop) λr s6 m7=>?_;obtain⟨hr,I6⟩:=m7;subst hr;exact fin I6 qn
  ·refine wO (T.item Y rfl rfl rfl hc i [] s5 U5 H5 (λ_ _=>False) I5 (stat fr5) st5 go) λr s6 m7=>?_;obtain⟨u,hr,h6⟩:=m7;subst hr;refine wO h6 λ_ s7 m7=>?_;obtain⟨x,H7,I7,r7,y7,st7,fr7⟩:=m7;have I7':=I7.pinned (stat fr7) (T.obj _ _ st7);have again: ∀{U9:St} {H9:Hp} {s9:i5} {m':Nat},xY Y ([]++Lg fp s7.heap) U9 H9 s9->m'<n->W (i+1) m' U9 H9-> ∃m,m<n/\ ∃i U' H',xY Y [] U' H' s9/\tn i s9.heap/\(∀b∈fp,H' b=none)/\W i m U' H':=fun{U9 H9 s9 m'} I9 hm w9=>by
    refine#[m',hm,i+1,U9,H9,I9.unpinned,T.keep _ _ _ st7 λb hb o e=>(I9.pin (b,o) (jE _ (jE _ (Go hb e)))).1,λb hb=>?_,w9];obtain⟨o,e,d⟩:=T.obj _ _ st7 b hb;exact(I9.pin (b,o) (jE _ (jE _ (Go hb e)))).2.1
   refine wO (hg cl C fp s3 H0 _ s7 U5 H7 x u _ I7' r7 (step x H7 y7)) λ_ s8 m7=>?_;obtain⟨U8,H8,I8,q8⟩:=m7;refine wO (ht cl C fp s3 H0 _ s8 U8 H8 _ I8 q8) λb s9 m7=>?_;obtain⟨H9,I9,q9⟩:=m7;cases b with
   |false=>
    obtain⟨m',hm,w9⟩:=q9;exact again I9 hm w9
   |true=>
    refine wO (he cl C fp s3 H0 _ s9 U8 H9 _ I9 q9) λy s10 m7=>?_;obtain⟨v,H10,I10,r10,zs,e10,z10,m',hm,w10⟩:=m7;refine wO (jQ (X:=Y) _ s10 U8 H10 (.ref p) [v] (.ref p) [y] (λ_ H'=>H'=upd H10 p (.lst (zs++[v]))) I10 rfl (.cons r10 .nil) #[p,zs,v,rfl,rfl,e10,z10,rfl]) λ_ s11 m7=>?_;obtain⟨_,H11,I11,_,q11⟩:=m7;subst q11;exact again I11 hm w10
 have st4:tn 0 h1:=T.keep _ _ _ st3 λb _ o e=>old1 b o e;exact codeAny_compStart_list (loop _ rfl) (T.self _ 0 _ _ _ st4 (loop _ rfl))
structure RW (X:Cx)(scope:Scope)(ys:List Str):Prop where
 kind:scope.kind=.function
 cell: ∀y∈scope.names,y.2≠ .cell
 loc: ∀y∈scope.names,y.2=.local->scope.names.lookup y.1=some .local
 free: ∀y∈scope.names,y.2=.free->X.env.kindOf y.1=some .cell
 cap: ∀y∈ys,X.env.kindOf y=some .cell
 vis: ∀y∈ys,(relabel scope X.env).names.lookup y=some .cell
noncomputable def SW (sc scope:Scope)(ys:a6 Str):i7:=
 scope.kind== .function&&sc.kind== .function&&(scope.names.all λy=>y.2 != .cell&&(y.2 != .local || scope.names.lookup y.1==some .local)&&(y.2 != .free || sc.names.lookup y.1==some .cell))&&
  ys.all λy=>sc.names.lookup y==some .cell&&scope.names.lookup y==some .free
theorem wU (hsc:X.env.scope=sc)(h:SW sc scope ys=true):RW X scope ys:=by
 unfold SW at h;simp only[wN,vJ,Da,bne_iff_ne,Bool.or_eq_true,ne_eq]at h;obtain⟨⟨⟨h1,h0⟩,h2⟩,h3⟩:=h;subst hsc;refine#[h1,λy hy=>(h2 y hy).1.1,λy hy e=>?_,λy hy e=>?_,λy hy=>(h3 y hy).1,λy hy=>?_]
 ·rcases(h2 y hy).1.2 with z|z
  ·exact absurd e z
  ·exact z
 ·rcases(h2 y hy).2 with z|z
  ·exact absurd e z
  ·exact z
 ·rw[IN,(h3 y hy).2];show some (OW X.env y .free)=_;have z:X.env.kindOf y=some .cell:=(h3 y hy).1;unfold OW;rw[z,h0];rfl
theorem Dk (hc:X.calm=true)(hi:PI X n9 iter wi)(S:RW X scope ys)(fr:HV X.N ys js)
  (hg: ∀cl C fp s H,PG (X.comp (own++ys) scope cl C fp s H) n9 g) (ht: ∀cl C fp s H,PTs (X.comp (own++ys) scope cl C fp s H) ifs tt) (he: ∀cl C fp s H,PE (X.comp (own++ys) scope cl C fp s H) elt te)
  (hs:autoParam ( ∀x,foldedSetIterable iter X.env x=pure x) L2.aD._auto_1):PE X (.ListComp elt [#[n9,iter,ifs,0]] scope pos) (Yz wi own.length js g tt te):=by
 refine#[?_];intro j8 s U H Q I h;rw[eval_ListComp];obtain⟨cl,e,c1,c2⟩:=LI (env:=X.env) (scope:=scope) λy hy hf=>I.ok.has y.1 (.inl (S.free y hy hf));refine wpAny_comprehension_free (use:=none) rfl hs e S.kind S.loc (wO (hi j8 s U H _ I h) λv s1 h1=>wO h1 λitv s2 h2=>?_);obtain⟨it,fp,tn,J,H2,e,I2,T,st2,f2,q2⟩:=h2;subst e;refine LG (Q:=Q) (RR:=λacc C=>compPost (model X.prog X.w) X.A X.xe none (EP X j8 U Q) acc C) hc I2 T st2 f2 S.kind S.cell fr S.cap c1 c2 S.vis hg ht he q2 ?_;intro D C H' s' I' q hm n1 n2 n3 n4 n5;obtain⟨m,hn⟩:=hm;exact#[m,hn,λh' hs'=>#[.ref D,H',I'.turned (λb o hb e=>(hs'.2 b hb).trans e) n1 n2 (.inr n3) n4 n5,rfl,q]]
theorem Gh (hN:X.N.Nodup)(hix:X.N[i]? =some x)(hx:X.env.scope.names.lookup x=some .local)(hc:X.calm=true)(hi:PI X n9 iter wi)(S:RW X scope ys)(fr:HV X.N ys js)
  (hg: ∀cl C fp s H,PG (X.comp (own++ys) scope cl C fp s H) n9 g) (ht: ∀cl C fp s H,PTs (X.comp (own++ys) scope cl C fp s H) ifs tt) (he: ∀cl C fp s H,PE (X.comp (own++ys) scope cl C fp s H) elt te)
  (hsw:autoParam (swapsWith (.ListComp elt [#[n9,iter,ifs,0]] scope pos) (some (.Name x pos')) spos.line X.env=pure true) L2.aE._auto_1)
  (hs:autoParam ( ∀x,foldedSetIterable iter X.env x=pure x) L2.aD._auto_1):PS X (.Assign [.Name x pos'] (.ListComp elt [#[n9,iter,ifs,0]] scope pos) spos) (λD U H=>Yz wi own.length js g tt te U H λv H1=>D.nx (U.set i (some v)) H1):=by
 refine#[?_];intro j8 s U H D I h;rw[exec_Assign_Name_used _ _ _ _ hsw];refine zD (Fj (zD ?_));show wpAny _ X.A (do let _<-comprehension (.ListComp elt [#[n9,iter,ifs,0]] scope pos) scope X.env _ (newList []) false (eval iter X.env) (some (assign (.Name x pos') X.env))) _ _ s;obtain⟨cl,e,c1,c2⟩:=LI (env:=X.env) (scope:=scope) λy hy hf=>I.ok.has y.1 (.inl (S.free y hy hf));refine zD (wO (wpAny_comprehension_free (use:=some (assign (.Name x pos') X.env)) (Q:=λ_ s'=>SP X j8 D .next s') rfl hs e S.kind S.loc
  (wO (hi j8 s U H _ I h) λv s1 h1=>wO h1 λitv s2 h2=>?_)) λ_ s' hq=>yB (yB hq))
 obtain⟨it,fp,tn,J,H2,e,I2,T,st2,f2,q2⟩:=h2;subst e;refine LG (Q:=λv H1=>D.nx (U.set i (some v)) H1) (RR:=λacc C=>compPost (model X.prog X.w) X.A X.xe (some (assign (.Name x pos') X.env)) (λ_ s'=>SP X j8 D .next s') acc C) hc I2 T st2 f2 S.kind S.cell fr S.cap c1 c2 S.vis hg ht he q2 ?_;intro B C H' s' I' q hm n1 n2 n3 n4 n5;obtain⟨m,hn⟩:=hm;show wpAny _ X.A (assign (.Name x pos') X.env (.ref B)) _ _ _;refine wpAny_assign_Name (Mv I' hN hix (.inl hx) (v:=.ref B) rfl (λs2 I2 hsb=>?_) (.inr hx));obtain⟨a,hsb,ha⟩:=hsb;have ne:C≠a:=by
  rcases ha with z|z
  ·rw[z];exact n2
  ·exact Ne.symm (n4 x a z)
 exact#[m,hn.sameBut hsb ne,λh' hs'=>#[_,H',I2.turned (λb o hb e=>(hs'.2 b hb).trans e) n1 n2 (.inr n3) n4 n5,q]]
end
section
variable {X:Cx}{x:Str}{p pos:Pos}{e:j5}{es:a6 j5}{t:TA}
def kN (mg:Str->i4 a9)(x:Str)(i:Int):Prop:= ∃t,mg x=some (.int i t)
theorem yK (hg:Gl X x)(hm:kN X.mg x i)(hd:autoParam ((x==("__debug__":Str))=false) L2.aB._auto_1):PE X (.Name x pos) (tC (.int i)):=by
 obtain⟨t,hm⟩:=hm;exact Sz (v:=.int i) hg hm #[t,rfl] hd
theorem Xz (hg:Gl X x)(hm:X.mg x=some (.ref a))(hd:autoParam ((x==("__debug__":Str))=false) L2.aB._auto_1):PE X (.Name x pos) (tC (.ref a)):=Sz (v:=.ref a) hg hm rfl hd
structure Qt (P:i6)(w:i9)(K:a7)(mg:Str->Option a9)(base:j3)(CX:Mm)(k:Nat)(x:Str)(ps:List Str)(sp:Sp):Prop where
 ex: ∃f fd,Dx P w K mg base CX k f fd ps sp/\mg x=some (.ref f)/\PySem.W.keepIn K (.ref f)=true/\uR K fd ps []
theorem zK (C:Qt X.prog X.w X.K X.mg X.base CX k x ps sp)(hr:Am n X.A)(hg:Gl X x)(ha:PA X (e::es) t)(hx:CY CX X E)(hk:autoParam (k<=n) L2.aH._auto_1)(hdb:autoParam ((x==("__debug__":Str))=false) L2.aB._auto_1)
  (he:autoParam (starEach (e::es) X.env=(false,eval e X.env)::starEach es X.env) L2.aE._auto_1) (hpl:autoParam ((backTo pos (starEach es X.env)).any (·.1)=false) L2.aE._auto_1):PE X (.Call (.Name x p) (e::es) [] pos) (Sc sp [] E t):=by
 obtain⟨f,fd,F,hm,kp,hb⟩:=C.ex;exact XB F (hr.mono hk) hg hm kp hb .nil hx ha hdb he hpl
inductive JT:List j5->List V->Prop where
 |nil:JT [] []
 |int {i j pos es vs} (r:JT es vs):JT (.Constant (.int i) j pos::es) (.int i::vs)
 |str {x j pos es vs} (r:JT es vs):JT (.Constant (.str x) j pos::es) (.str x::vs)
theorem wE: ∀{es:a6 j5} {vs:a6 V},JT es vs->PA X es (λ_ H Q=>Q vs H)
 |_,_,.nil=>#[λpos j8 s U H Q I h=>zC pos j8 s U H Q I h]
 |_,_,.int r=>#[λpos j8 s U H Q I h=>zA zH (wE r) (by rfl) pos j8 s U H Q I h]
 |_,_,.str r=>#[λpos j8 s U H Q I h=>zA ZI (wE r) (by rfl) pos j8 s U H Q I h]
def zCc (K:a7):a6 V->Hp->VK->Prop:=λxs H Q=>
 (∃x n t b,xs=[x,.ty n]/\Jj K H x t/\PySem.W.kitOne K t (.type n)=some b/\Q (.bl b) H)\/ ∃x C t b,xs=[x,.ref C]/\Jj K H x t/\PySem.W.kitOne K t (.ref C)=some b/\Q (.bl b) H
theorem Uo (K:a7)(hK:X.K=K):EE X (.builtin "isinstance") (zCc K):=by
 subst hK;intro j8 s U H xs us Q I r h
 rcases h with⟨x,n,t,b,rfl,ty,e,q⟩|⟨x,C,t,b,rfl,ty,e,q⟩
 ·obtain⟨u,w',rfl,ru,rw'⟩:=JV r;cases rw';exact MM I ru ty e λtk=>#[.bl b,H,I.tok tk,rfl,q]
 ·obtain⟨u,w',rfl,ru,rw'⟩:=JV r;cases rw';exact MM I ru ty e λtk=>#[.bl b,H,I.tok tk,rfl,q]
theorem Dw:EE X (.builtin "isinstance") (zCc X.K):=Uo X.K rfl
theorem Ls (K:a7)(hK:X.K=K):IxR X (ZB K):=hK▸xQ
theorem HK (K:a7)(hK:X.K=K):IxR X (Zz K):=hK▸xL
end
theorem jY:bootBuiltins "len"=some (.builtin "len"):=PySem.boot_len
theorem qY:bootBuiltins "isinstance"=some (.builtin "isinstance"):=by decide+kernel
theorem Ot:bootBuiltins "int"=some (.type "int"):=by decide+kernel
theorem Ou:bootBuiltins "bool"=some (.type "bool"):=by decide+kernel
theorem Eb:bootBuiltins "list"=some (.type "list"):=by decide+kernel
theorem Hr:bootBuiltins "tuple"=some (.type "tuple"):=by decide+kernel
theorem Kb:bootBuiltins "reversed"=some (.type "reversed"):=by decide+kernel
theorem Up:bootBuiltins "sorted"=some (.builtin "sorted"):=by decide+kernel
theorem zAm:bootBuiltins "min"=some (.builtin "min"):=by decide+kernel
theorem Os:bootBuiltins "max"=some (.builtin "max"):=by decide+kernel
theorem small (h:n<=1000):n<=sizeLine:=BY (Aq h)
theorem zz0:0<=sizeLine:=small (by decide)
theorem sm1:1<=sizeLine:=small (by decide)
theorem sm2:2<=sizeLine:=small (by decide)
theorem sm3:3<=sizeLine:=small (by decide)
theorem sm4:4<=sizeLine:=small (by decide)
theorem zN (h:H p=none)(o:HO):xK H (upd H p o):=λb u q=>by rw[yQ (xB q h)];exact q
def Te (K:a7)(H:Hp)(a:i3)(ns:a6 Int):Prop:=
 (∃o,H a=some (.frz o (.lst (ns.map V.int))))\/
  ∃(o:j7) (its:j6 a9) (n:Nat),K.lookup a=some o/\o.cls=.type "list"/\o.dict=none/\o.data=.seq its n/\its.size<=sizeLine/\jU (ns.map V.int) its.toList
theorem Te.sq {K:a7}{H:Hp}{a:i3}{ns:a6 Int}(h:Te K H a ns):kF K H a (ns.map V.int):=by
 rcases h with h|h
 ·exact .inl (.inr h)
 ·exact .inr h
theorem Te.of {K:a7}{H:Hp}{a:i3}{ns:a6 Int}(hO:Yt H)(h:kF K H a (ns.map V.int)):Te K H a ns:=by
 rcases h with(h|h)|h
 ·rcases hO a with z|⟨o,xs,z⟩
  ·rw[h]at z;cases z
  ·rw[h]at z;cases z
 ·exact .inl h
 ·exact .inr h
def qJ (st:i3)(H H':Hp):Prop:= ∀b o,b≠st->H b=some o->H' b=some o
theorem qJ.refl (st:i3)(H:Hp):qJ st H H:=λ_ _ _ e=>e
theorem qJ.trans {st:i3}{H H1 H2:Hp}(a:qJ st H H1)(b:qJ st H1 H2):qJ st H H2:=λc o n e=>b c o n (a c o n e)
theorem qJ.same {st:i3}{H H1:Hp}(a:xK H H1):qJ st H H1:=λc o _ e=>a c o e
theorem qJ.upd {st:i3}{H:Hp}{o:HO}:qJ st H (upd H st o):=λc u n e=>by rw[yQ n];exact e
theorem qJ.new {st p:i3}{H:Hp}(o:HO)(h:H p=none):qJ st H (L2.upd H p o):=qJ.same (zN h o)
theorem Te.keep {K:a7}{H H':Hp}{a st:i3}{ns:a6 Int}{xs:a6 V}(h:Te K H a ns)(hst:H st=some (.lst xs))(k:qJ st H H'):Te K H' a ns:=by
 rcases h with⟨o,h⟩|h
 ·exact .inl #[o,k a _ (λz=>by rw[z,hst]at h;cases h) h]
 ·exact .inr h
def zHq (K:a7)(H:Hp)(st:i3):Prop:= ∃a ns k c,H st=some (.lst [.ref a,.int k,.int c])/\Te K H a ns/\ns.length<=63/\0<=k/\0<=c
structure Drawn (K:a7)(st:i3)(H H':Hp):Prop where
 draw:zHq K H' st
 keep:qJ st H H'
inductive OK (K:a7) (vs:List V) (H:Hp) (Q:VK) (E:XK):Prop
 |mk (a:i3) (ns:List Int) (h0:vs=[.ref a]) (h1:Te K H a ns) (h2:ns.length<=63) (h3: ∀H',Q (.bl true) H'):OK K vs H Q E
theorem Yp {ns:a6 Int}{k:Int}(h0:0<=k)(h:k<(ns.length:Int)): ∃v:Int,Gv (ns.map V.int) k=some (.int v):=by
 have hk:k.toNat<ns.length:=()
 have q:Gv (ns.map V.int) ((k.toNat:Nat):Int)=some (.int ns[k.toNat]):=kG (by rw[yJ,zF hk]<;>rfl);rw[show((k.toNat:Nat):Int)=k by lia]at q;exact#[_,q]
theorem OI {U:St}{H:Hp}{A B:Hp->Prop}(h:A H):Qz U H λb H4=>if b=true then A H4 else B H4:=by
 show if true=true then A H else B H;exact jC h
def WX (n:Nat)(fs:St)(Pv:Nat->a6 V->Hp->Prop)(i m:Nat)(U:St)(H:Hp):Prop:=i<=n/\m=n-i/\(∃v,U=v::fs)/\ ∃ys,Pv i ys H
theorem WO {lo:Int}{n:Nat}{fs:St}{tt:TT}{te:TE}{R:Hp->Prop}{p:i3}{H0:Hp}(Pv:Nat->a6 V->Hp->Prop)(h0:Pv 0 [] H0)
  (hs: ∀i ys H,i<n->Pv i ys H->tt (some (.int (lo+(i:Nat)))::fs) H λb H4=>
   if b=true then te (some (.int (lo+(i:Nat)))::fs) H4 λv H5=> ∃ys,H5 p=some (.lst ys)/\ys.length<sizeLine/\ ∃m',m'<n-i/\WX n fs Pv (i+1) m' (some (.int (lo+(i:Nat)))::fs) (upd H5 p (.lst (ys++[v])))
   else ∃m',m'<n-i/\WX n fs Pv (i+1) m' (some (.int (lo+(i:Nat)))::fs) H4)
  (hd: ∀ys H,Pv n ys H->R H):JU (Itr lo n) p (none::fs) H0 (AC 0) tt te R:=by
 refine#[WX n fs Pv,#[n,xG _,rfl,#[-1],[],h0],λi m U' H' w=>?_];obtain⟨hi,rfl,⟨v,rfl⟩,ys,hp⟩:=w
 by_cases o5:i<n
 ·refine .inr #[o5,λx H2 y=>?_];obtain⟨rfl,rfl⟩:=y;exact hs i ys _ o5 hp
 ·have:i=n:=()
  subst this;exact .inl #[zS _,hd ys H' hp]
theorem RC {K:a7}{t:a9}{n:String}{b:i7}(h:PySem.W.subIn K t (.type n)=some b)(h1:autoParam ((t==Value.type n)=false) L2.aB._auto_1)(h2:autoParam (PySem.W.kitMeta n=true) L2.aK._auto_1):PySem.W.kitOne K t (.type n)=some b:=by
 unfold PySem.W.kitOne PySem.W.kitCls;rw[h1];simp only[BC,FJ,h2,EZ];exact h
theorem Ev {K:a7}{t:a9}(h:autoParam ((t==t)=true) L2.aB._auto_1):PySem.W.kitOne K t t=some true:=by
 unfold PySem.W.kitOne;rw[zP h]
theorem Zn {K:a7}{a:i3}{its:j6 a9}{n:Nat}{sl:j6 (i4 a9)}{dd:i4 i3}{xs:a6 V}(h:K.lookup a=some #[.type "tuple",dd,.seq its n,sl])(hz:its.size<=sizeLine)(r:jU xs its.toList)(H:Hp):uZ K H a xs:=
 .inr #[_,its,n,h,rfl,rfl,hz,r]
noncomputable def ExO (x C:i3)(od:i4 i3):HO:=.ext λh=> ∃o vs,h.get? x=some o/\o.cls=.ref C/\o.dict=od/\o.data=.fields vs/\6<=vs.size
noncomputable def ExN (x C:i3)(od:i4 i3):HO:=.ext λh=> ∃o vs,h.get? x=some o/\o.cls=.ref C/\o.dict=od/\o.data=.fields vs/\6<=vs.size/\vs[1]? =some .none
noncomputable def XdO (dx:i3)(fs:a6 (Str×V)):HO:=.ext λh=> ∃mA,h.Ns1 dx mA/\(∀f,Ht (fs.lookup f) (mA f))/\PySem.Within mA (fs.map (·.1))
def zHj (X:Cx)(j8:a6 (i3×j7))(H:Hp)(T:i3):Prop:=H T=none/\X.s₀.heap.objs.size<=T/\T≠X.env.locals/\ ∀p∈X.pn++j8,p.1≠T
def Tb (X:Cx)(j8:a6 (i3×j7))(H:Hp)(x:i3)(h:j3):Prop:=
 ∃oe vs,h.get? x=some oe/\oe.data=.fields vs/\(vs[1]? =some .none\/ ∃T oT ts fl,vs[1]? =some (.ref T)/\T≠x/\zHj X j8 H T/\h.get? T=some oT/\oT.data=.fields ts/\ts[3]? =some fl/\(fl=.none\/fl=rawInt X.env.locals))
def GC (P:i6)(w:i9):Mm:=λouter H s E e s'=> ∃x C d H',e=.ref x/\s'.os=s.os/\AllBare s'.gens/\Un (frs outer) [] H H' s.heap s'.heap/\Ix P w H' s'.heap/\H' x=some (ExO x C d)/\
 (∃oe vs T oT ts,s'.heap.get? x=some oe/\oe.data=.fields vs/\vs[1]? =some (.ref T)/\T≠x/\H' T=none/\s.heap.objs.size<=T/\s'.heap.get? T=some oT/\oT.data=.fields ts/\ts[3]? =some .none)/\E (.ref C) d H'
theorem Qi (h:GC P w outer H s (λ_ _ _=>False) e s'):False:=by
 obtain⟨_,_,_,_,_,_,_,_,_,_,_,z⟩:=h;exact z
def zHo (X:Cx)(E:XK):a9->i5->Prop:=λe s1=> ∃x C d j8 U H,e=.ref x/\xY X j8 U H s1/\H x=some (ExO x C d)/\Tb X j8 H x s1.heap/\E (.ref C) d H
noncomputable abbrev Cx.exc (X:Cx)(E:XK):Cx:=X.wish (zHo X E)
section
variable {X:Cx}{E:XK}
theorem zX:CY (GC P w) X E0:=λ_ _ _ _ _ _ _ h=>(Qi h).elim
end
section
variable {P:i6}{w:i9}{K:a7}{mg:Str->i4 a9}{base:j3}
theorem qZ.okN {CX:Mm}{x qual:Str}{st:i8}{f:i3}{fd:FuncData}{N ps:a6 Str}{k:Nat}{sp:Sp}(F:qZ K x qual st f fd)(S:xA N ps (zW st))(len: ∀vs H Q E,sp vs H Q E->vs.length=ps.length)
  (hbody: ∀(cdv:a9) (A:j4) (outer:a6 Env) (s:i5) (H:Hp) (vs:a6 V) (Q:VK) (E:XK),Am k (A.deeper (envOfC qual (zW st) s.heap.objs.size f cdv))->sp vs H Q E->
   ∃t,Qw (Qj CX P w K mg base N qual (zW st) f cdv A outer s H E).nox (vR st) t/\t {nx:=λ_ H'=>Q .non H',rt:=Q} (ID N vs) H):Dx P w K mg base CX (k+1) f fd ps sp:=by
 obtain⟨oc,od,kV,doc,pm,an,cdv,ct,osl,rfl,lk,hcd⟩:=F.ex;refine zCx lk hcd S len λA outer s H vs Q E hr hsp=>?_;obtain⟨t,h,q⟩:=hbody cdv A outer s H vs Q E hr hsp;exact#[t,h.nox,q]
end
noncomputable def behind (D:FI)(i:Nat):FI:={nx:=λU H=>D.nx (U.set i none) H,rt:=D.rt,bk:=λU H=>D.bk (U.set i none) H,ct:=λU H=>D.ct (U.set i none) H}
def Qq (K:a7)(H:Hp):Nat->V->V->Prop
 |0,x,y=>DR x=true/\x=y
 |n+1,x,y=>(DR x=true/\x=y)\/ ∃a b xs ys,x=.ref a/\y=.ref b/\((kF K H a xs/\kF K H b ys)\/(uZ K H a xs/\uZ K H b ys))/\Paired (Qq K H n) xs ys
theorem Qq.flat {K:a7}{H:Hp}{x:V}(h:DR x=true): ∀n,Qq K H n x x
 |0=>#[h,rfl]
 |_+1=>.inl #[h,rfl]
theorem Qe: ∀{x:V},DR x=true->Fs x x=true
 | .non,_=>rfl
 | .bl b,_=>wL b
 | .int i,_=>wL i
 | .str z,_=>wL z
theorem Paired.get {xs:a6 α}{ys:a6 β}(h:Paired F xs ys): ∀(j:Nat) (x:α) (y:β),xs[j]? =some x->ys[j]? =some y->F x y:=by
 induction h with
 |nil=>intro j x y h;simp at h
 |cons r t ih=>
  intro j x y h q;cases j with
  |zero=>simp at h q;subst h;subst q;exact r
  |succ j=>exact ih j x y (by simpa using h) (by simpa using q)
theorem Paired.len {α β:Type}{F:α->β->Prop}{xs:a6 α}{ys:a6 β}(h:Paired F xs ys):xs.length=ys.length:=by
 induction h with
 |nil=>rfl
 |cons r t ih=>simp[ih]
theorem Paired.imp {α β:Type}{F G:α->β->Prop}(h: ∀x y,F x y->G x y){xs:a6 α}{ys:a6 β}(p:Paired F xs ys):Paired G xs ys:=by
 induction p with
 |nil=>exact .nil
 |cons r t ih=>exact .cons (h _ _ r) ih
theorem Ji (n:Nat):(List.range n).all (λ_=>true)=true:=List.all_eq_true.mpr λ_ _=>rfl
section
variable {X:Cx}{j8:a6 (i3×j7)}{U:St}{H:Hp}{s:i5}
theorem Hw {K:a7}{xs ys:a6 V}{us vs:a6 a9}{R:V->V->Prop}(p:Paired R xs ys)(r:jU xs us)(q:jU ys vs)(P:a9->a9->Prop)(h: ∀x y u v,R x y->kS x u->kS y v->P u v):
  us.toArray.size=vs.toArray.size/\ ∀j (h1:j<us.toArray.size) (h2:j<vs.toArray.size),P us.toArray[j] vs.toArray[j]:=by
 refine#[?_,λj h1 h2=>?_]
 ·have e1:=r.length;have e2:=q.length;have e3:=Paired.len p;simp only[yH];lia
 ·have l1:j<us.length:=by simpa using h1
  have l2:j<vs.length:=by simpa using h2
  have e1:=r.length;have e2:=q.length;have g1:xs[j]? =some xs[j]:=zF (by omega);have g2:ys[j]? =some ys[j]:=zF ();simp only[List.getElem_toArray];exact h _ _ _ _ (Paired.get p j _ _ g1 g2) (Paired.get r j _ _ g1 (zF l1)) (Paired.get q j _ _ g2 (zF l2))
theorem Ol (I:xY X j8 U H s): ∀(n:Nat) (x y:V) (u v:a9) (A:j4),Qq X.K H n x y->kS x u->kS y v->A.units+n<=cLine->SeqAt.EqAt A s u v true
 |0,x,y,u,v,A,⟨f,e⟩,ru,rv,_=>by subst e;rw[<-Qe f];exact Gr ru rv f f
 |n+1,x,y,u,v,A,.inl ⟨f,e⟩,ru,rv,_=>by subst e;rw[<-Qe f];exact Gr ru rv f f
 |n+1,x,y,u,v,A,.inr ⟨a,b,xs,ys,ex,ey,hs,p⟩,ru,rv,hu=>by
  subst ex ey;cases ru;cases rv
  by_cases hab:a=b
  ·subst hab;exact SeqAt.EqAt.same _
  refine SeqAt.EqAt.of_refs hab ?_
  rcases hs with⟨ha,hb⟩|⟨ha,hb⟩
  ·obtain⟨us,r,pa,_⟩:=I.list ha;obtain⟨vs,q,pb,_⟩:=I.list hb;obtain⟨sz,he⟩:=Hw (K:=X.K) p r q (λu v=>SeqAt.EqAt A.in1 s u v true) λx y u v e ru rv=>Ol I n x y u v A.in1 e ru rv (by show A.units+1+n<=_;lia);have:=SeqAt.RcAt.lists (e:=λ_=>true) pa.isList pb.isList sz () he
   rwa [Ji]at this
  ·obtain⟨us,r,pa,_⟩:=I.tuple ha;obtain⟨vs,q,pb,_⟩:=I.tuple hb;obtain⟨sz,he⟩:=Hw (K:=X.K) p r q (λu v=>SeqAt.EqAt A.in1 s u v true) λx y u v e ru rv=>Ol I n x y u v A.in1 e ru rv (by show A.units+1+n<=_;lia);have:=Fb (e:=λ_=>true) pa pb () he;rw[Ji,sz,wL]at this;exact this
inductive zCe (K:a7) (k:i7) (x:V) (y:V) (H:Hp) (Q:VK):Prop
 |mk (a b xs ys n:_) (h0:x=.ref a) (h1:y=.ref b) (h2:((kF K H a xs/\kF K H b ys)\/(uZ K H a xs/\uZ K H b ys))) (h3:Paired (Qq K H n) xs ys) (h4:n<=100) (h5:Q (.bl k) H):zCe K k x y H Q
theorem ZM (hr:Am k X.A):Hu X (compareOp .NotEq) (zCe X.K false):=by
 intro j8 s U H x y v u Q I rx ry h;obtain⟨a,b,xs,ys,n,rfl,rfl,hs,p,hn,q⟩:=h;cases rx;cases ry;have hu:=hr.un
 rcases hs with⟨ha,hb⟩|⟨ha,hb⟩
 ·obtain⟨us,r,pa,_⟩:=I.list ha;obtain⟨vs,q',pb,_⟩:=I.list hb;obtain⟨sz,he⟩:=Hw (K:=X.K) p r q' (λu v=>SeqAt.EqAt X.A.in1 s u v true) λx y u v e ru rv=>Ol I n x y u v X.A.in1 e ru rv (by show X.A.units+1+n<=_;lia);have:=SeqAt.RcNeAt.lists (e:=λ_=>true) pa.isList pb.isList sz () he;rw[Ji]at this;exact this _ _ _ _ #[.bl false,H,I,rfl,q]
 ·obtain⟨us,r,pa,_⟩:=I.tuple ha;obtain⟨vs,q',pb,_⟩:=I.tuple hb;obtain⟨sz,he⟩:=Hw (K:=X.K) p r q' (λu v=>SeqAt.EqAt X.A.in1 s u v true) λx y u v e ru rv=>Ol I n x y u v X.A.in1 e ru rv (by show X.A.units+1+n<=_;lia);have:=SeqAt.RcNeAt.tuples (e:=λ_=>true) pa pb () he;rw[Ji,sz,wL]at this;exact this _ _ _ _ #[.bl false,H,I,rfl,q]
def YZ (i j:Int):Prop:=0<j/\j.natAbs.log2<8000
theorem Es:Hu X (binaryOp .FloorDiv) (rI YZ λi j=>.int (i / j)):=ZO λi j _ _ _ _ _ hc q=>by
 rw[<-Int.fdiv_eq_ediv_of_nonneg i (by have:=hc.1;lia)]at q;exact floordiv_int (by have:=hc.1;lia) q (.inl (Fo (by have:=hc.2;lia)))
def zEu (t:TS):TS:=λD U H=> ∃P:St->Hp->Prop,t {D with nx:=P} U H/\ ∀U' H',P U' H'->D.nx U' H'
theorem AI {st:i8}{t:TS}(h:PS X st t):PS X st (zEu t):=by
 refine#[?_];intro j8 s U H D I hw;obtain⟨P,h1,h2⟩:=hw;refine AM (h j8 s U H _ I h1) (λf s' q=>?_) λ_ _ z=>z;cases f with
 |next=>obtain⟨U1,H1,I1,q⟩:=q;exact#[U1,H1,I1,h2 _ _ q]
 |brk=>exact q
 |cont=>exact q
 |ret u=>exact q
structure Ml (P:i6)(w:i9)(K:a7)(mg:Str->Option a9)(base:j3)(CX:Mm)(k:Nat)(C:i3)(m:Str)(ps:List Str)(sp:Sp):Prop where
 ex: ∃f fd,Dx P w K mg base CX k f fd ps sp/\RX K C/\Yu K C m f/\uR K fd ps []
end
section
variable {X:Cx}{o e:j5}{es:a6 j5}{m:Str}{o8 pos:Pos}{ta:TE}{t:TA}{E:XK}{C:i3}
theorem Du (he:PE X o ta)(G:Ml X.prog X.w X.K X.mg X.base CX k C m ps sp)(hr:Am n X.A)(ha:PA X (e::es) t)(hx:CY CX X E)(hk:autoParam (k<=n) L2.aH._auto_1)
  (hst:autoParam (starEach (e::es) X.env=(false,eval e X.env)::starEach es X.env) L2.aE._auto_1) (hpl:autoParam ((backTo pos (starEach es X.env)).any (·.1)=false) L2.aE._auto_1)
  (ht:autoParam (eval (.Call (.Attribute o m o8) (e::es) [] pos) X.env=(do
   let ov<-eval o X.env
   standAt o8.atName
   let(f,first)<-holding [ov] (getMethod ov m pl)
   callWith pos f first (backTo pos (starEach (e::es) X.env)) (backToKw pos (keywordEach [] X.env)))) L2.aE._auto_1):
  PE X (.Call (.Attribute o m o8) (e::es) [] pos) (Sa C m sp [] E ta t):=by
 obtain⟨f,fd,F,c,hm,hb⟩:=G.ex;exact Xx he c hm F (hr.mono hk) hb .nil hx ha hst hpl ht
theorem MA (he:PE X o ta)(G:Ml X.prog X.w X.K X.mg X.base CX k C m ps sp)(hr:Am n X.A)(hx:CY CX X E)(hk:autoParam (k<=n) L2.aH._auto_1)
  (ht:autoParam (eval (.Call (.Attribute o m o8) [] [] pos) X.env=(do
   let ov<-eval o X.env
   standAt o8.atName
   let(f,first)<-holding [ov] (getMethod ov m pl)
   callWith pos f first (backTo pos (starEach [] X.env)) (backToKw pos (keywordEach [] X.env)))) L2.aE._auto_1):
  PE X (.Call (.Attribute o m o8) [] [] pos) (Sa C m sp [] E ta UM):=by
 obtain⟨f,fd,F,c,hm,hb⟩:=G.ex;exact Vr he c hm F (hr.mono hk) hb .nil hx ht
structure Qs (P:i6)(w:i9)(K:a7)(mg:Str->Option a9)(base:j3)(CX:Mm)(k:Nat)(x:Str)(C:i3)(ps:List Str)(sp:Sp):Prop where
 ex: ∃f fd,Mk K C f/\Dx P w K mg base CX k f fd ps sp/\mg x=some (.ref C)/\uR K fd ps []
theorem Pe (G:Qs X.prog X.w X.K X.mg X.base CX k x C ps sp)(hr:Am n X.A)(hg:Gl X x)(ha:PA X (e::es) t)(hx:CY CX X E)(hk:autoParam (k+1<=n) L2.aH._auto_1)
  (hdb:autoParam ((x==("__debug__":Str))=false) L2.aB._auto_1) (he:autoParam (starEach (e::es) X.env=(false,eval e X.env)::starEach es X.env) L2.aE._auto_1) (hpl:autoParam ((backTo pos (starEach es X.env)).any (·.1)=false) L2.aE._auto_1):
  PE X (.Call (.Name x p) (e::es) [] pos) (Sb C sp [] E t):=by
 obtain⟨f,fd,M,F,hm,hb⟩:=G.ex;exact Xy M F (hr.mono hk) hg hm hb .nil hx ha hdb he hpl
end
end L2
namespace L2
open PySem
abbrev DJ:=a6 (Int×Int)
inductive Nd where
 |mk (kind:Int) (place:Nat) (own:List Int) (parts:List Nd)
noncomputable def partsN:a6 Int:=[1,2,2,2,2,2,2,2,2,2,3,1,0]
noncomputable def CU (heads:DJ)(k:Int)(own:a6 Int):Int:=
 if k=0\/k=1 then 0 else if k=2 then 1 else if k=3 then own.headD 0 else if k=4 then 1+own.headD 0 else if k=5 then 2 else if k=6 then(heads.getD (own.headD 0).toNat (0,0)).1 else partsN.getD (k-7).toNat 0
def jK (H:Hp):Nat->V->Nd->Prop
 |0,_,_=>False
 |d+1,v,.mk k p own ps=> ∃t o q vs,v=.ref t/\H t=some (.tup [.int k,.int p,.ref o,.ref q])/\H o=some (.tup (own.map V.int))/\H q=some (.tup vs)/\Paired (jK H d) vs ps
def Ut (H:Hp)(v:V)(f:(Int×Int)×Nd):Prop:= ∃t b,v=.ref t/\H t=some (.tup [.int f.1.1,.int f.1.2,b])/\jK H 10 b f.2
def Jm (H:Hp)(l:i3)(r:DJ×a6 Nd):Prop:= ∃rs,H l=some (.lst rs)/\r.1.length=r.2.length/\Paired (Ut H) rs (r.1.zip r.2)
def JS (H:Hp)(v:V)(h:Int×Int):Prop:= ∃t,v=.ref t/\H t=some (.tup [.int h.1,.int h.2])
def Gw (H:Hp)(hd:i3)(hs:DJ):Prop:= ∃rs,H hd=some (.lst rs)/\Paired (JS H) rs hs
noncomputable def Bo (CL dx a:i3)(p:Nat):HO:=.ins CL dx [("numbers",.ref a),("place",.int p)]
def qE (H H':Hp):Prop:= ∀b xs,H b=some (.tup xs)->H' b=some (.tup xs)
theorem qE.same (h:xK H H'):qE H H':=λ_ _ e=>h _ _ e
theorem qE.keep (e:H lk=some (Bo CL dx a p))(k:qJ lk H H'):qE H H':=λb xs q=>k b _ (λz=>by rw[z,e]at q;cases q) q
theorem jK.tups (h:qE H H'): ∀{d:Nat} {v:V} {n:Nd},jK H d v n->jK H' d v n
 |0,_,_,z=>z.elim
 |d+1,v,.mk k p own ps,z=>by obtain⟨t,o,q,vs,e,h1,h2,h3,r⟩:=z;exact#[t,o,q,vs,e,h _ _ h1,h _ _ h2,h _ _ h3,Paired.imp (λ_ _ z=>jK.tups h z) r]
theorem JS.tups (h:qE H H'):JS H v n->JS H' v n:=fun⟨t,e,q⟩=>#[t,e,h _ _ q]
theorem Ut.tups (h:qE H H'):Ut H v n->Ut H' v n:=fun⟨t,b,e,q,z⟩=>#[t,b,e,h _ _ q,z.tups h]
theorem Gw.keep (e:H lk=some (Bo CL dx a p))(k:qJ lk H H')(h:Gw H hd hs):Gw H' hd hs:=by
 obtain⟨rs,q,r⟩:=h;exact#[rs,k hd _ (λz=>by rw[z,e]at q;cases q) q,Paired.imp (λ_ _ z=>z.tups (.keep e k)) r]
theorem Jm.same (h:xK H H'):Jm H l r->Jm H' l r:=fun⟨rs,q,e,z⟩=>#[rs,h _ _ q,e,Paired.imp (λ_ _ y=>y.tups (.same h)) z]
theorem Qq.intsN: ∀(ns:a6 Int),Paired (Qq K H n) (ns.map V.int) (ns.map V.int)
 |[]=>.nil
 |i::r=>.cons (Qq.flat rfl n) (Qq.intsN r)
def zDz (CN lk:i3)(H:Hp)(E:XK)(p:Nat)(w:Str):Prop:= ∀d H',qJ lk H H'->H' d=some (XdO d [("place",.int p),("word",.str w)])->E (.ref CN) (some d) H'
def Looks (CL:i3)(H:Hp)(lk dx a:i3)(p:Nat)(ns:a6 Int):Prop:=H lk=some (Bo CL dx a p)/\H a=some (.lst (ns.map V.int))
theorem Looks.go (l:Looks CL H lk dx a p ns)(k:qJ lk H H')(e:H' lk=some (Bo CL dx a p')):Looks CL H' lk dx a p' ns:=
 #[e,k a _ (λz=>by have:=l.1;rw[<-z,l.2]at this;cases this) l.2]
inductive Sj (C:i3) (vs:List V) (H:Hp) (Q:VK) (E:XK):Prop
 |mk (x y z:_) (h0:vs=[.ref x,y,z]) (h1:H x=some (ExN x C none)) (h2: ∀d H',d≠x->H d=none->(∀b o,b≠x->H b=some o->H' b=some o)->H' x=some (ExN x C (some d))->H' d=some (XdO d [("place",y),("word",z)])->Q .non H'):Sj C vs H Q E
inductive Np (CL:i3) (vs:List V) (H:Hp) (Q:VK) (E:XK):Prop
 |mk (x dx a:_) (h0:vs=[.ref x,.ref a]) (h1:H x=some (.ins CL dx [])) (h2: ∀H',qJ x H H'->H' x=some (Bo CL dx a 0)->Q .non H'):Np CL vs H Q E
inductive Hx (vs:List V) (H:Hp) (Q:VK) (E:XK):Prop
 |mk (i:Int) (h0:vs=[.int i]) (h1:Q (.bl true) H):Hx vs H Q E
def WU (heads:DJ)(k:Int)(own:a6 Int):Prop:=0<=k/\k<=19/\(k=3\/k=4\/k=6-> ∃n,own=[n]/\0<=n/\(k=6->n<heads.length)/\(k≠6->n<=12))
def WW (hs:DJ):Prop:= ∀h∈hs,0<=h.1/\h.1<=4
inductive Sk (vs:List V) (H:Hp) (Q:VK) (E:XK):Prop
 |mk (k t own hd hs:_) (h0:vs=[.int k,.ref t,.ref hd]) (h1:H t=some (.tup (own.map V.int))) (h2:Gw H hd hs) (h3:WU hs k own) (h4:Q (.int (CU hs k own)) H):Sk vs H Q E
theorem Ts: ∀k:Nat,0<=partsN.getD k 0/\partsN.getD k 0<=3:=by
 intro k
 by_cases h:k<13
 ·have: ∀k:Fin 13,0<=partsN.getD k.1 0/\partsN.getD k.1 0<=3:=by decide
  exact this #[k,h]
 ·have:partsN[k]? =none:=wK (by show 13<=k;lia);rw[yV,this];decide
theorem zAi (o:WU hs k own)(hh:WW hs):0<=CU hs k own/\CU hs k own<=13:=by
 obtain⟨h0,h1,h2⟩:=o;unfold CU
 by_cases c1:k=0\/k=1
 ·rw[zP c1];decide
 rw[zO c1]
 by_cases c2:k=2
 ·rw[zP c2];decide
 rw[zO c2]
 by_cases c3:k=3
 ·rw[zP c3];obtain⟨n,rfl,a,_,b⟩:=h2 (.inl c3);have:=b ();show 0<=n/\n<=13;(clear h2;lia)
 rw[zO c3]
 by_cases c4:k=4
 ·rw[zP c4];obtain⟨n,rfl,a,_,b⟩:=h2 (.inr (.inl c4));have:=b ();show 0<=1+n/\1+n<=13;(clear h2;lia)
 rw[zO c4]
 by_cases c5:k=5
 ·rw[zP c5];decide
 rw[zO c5]
 by_cases c6:k=6
 ·rw[zP c6];obtain⟨n,rfl,a,b,_⟩:=h2 (.inr (.inr c6));have hn:=b c6;show 0<=(hs.getD n.toNat (0,0)).1/\(hs.getD n.toNat (0,0)).1<=13;have hl:n.toNat<hs.length:=(by clear b h2;lia)
  rw[yV,zF hl];have:=hh _ (vH hl);simp only[Option.getD_some];(clear h2;lia)
 rw[zO c6];have:=Ts (k-7).toNat;omega
theorem qJ.fresh (k:qJ lk H H')(h:H hd=none):qJ lk H (L2.upd H' hd o):=λb u nb e=>by rw[yQ (xB e h)];exact k b u nb e
theorem qE.upd (h:H b=some (.lst ys)):qE H (L2.upd H b o):=λc xs e=>by rw[yQ (λz=>by rw[z,h]at e;cases e)];exact e
theorem qE.trans (a:qE H H1)(b:qE H1 H2):qE H H2:=λc xs e=>b c xs (a c xs e)
theorem qE.new (h:H b=none):qE H (L2.upd H b o):=.same (zN h o)
theorem zGk (f:zDz C lk H E p w)(k:qJ lk H H1): ∀x,H1 x=none->
  Sj C [.ref x,.int (p:Int),.str w] (upd H1 x (ExN x C none)) (λv H2=>v=.non/\ ∃d,H2 x=some (ExN x C (some d))/\E (.ref C) (some d) (upd H2 x (ExO x C (some d)))) E':=by
 intro x hx;refine#[x,_,-1,zE,λd H' dx hd kp ex ed=>#[rfl,d,ex,f d _ (λb o nb e=>?_) ?_]]
 ·have e1:=k b o nb e;have nx:b≠x:=xB e1 hx;rw[yQ nx];exact kp b o nx (by rw[yQ nx];exact e1)
 ·rw[yQ dx];exact ed
def Sub (ns:a6 Int):Nat->a6 Int->Prop
 |_,[]=>True
 |p,z::zs=>ns[p]? =some z/\Sub ns (p+1) zs
theorem Sub.append: ∀{xs ys:a6 Int} {p:Nat},Sub ns p (xs++ys)->Sub ns p xs/\Sub ns (p+xs.length) ys
 |[],_,_,h=>#[trivial,h]
 |x::xs,ys,p,h=>by
  have q:=Sub.append h.2;refine#[#[h.1,q.1],?_];rw[show p+(x::xs).length =p+1+xs.length by simp;lia];exact q.2
theorem Sub.behind: ∀(zs pre:a6 Int),Sub (pre++zs) pre.length zs
 |[],_=>trivial
 |z::zs,pre=>by
  refine#[by simp,?_];have:=Sub.behind zs (pre++[z])
  simpa using this
def EA (hs:DJ)(boxes k:Int)(own:a6 Int):Prop:=
 (k=0/\ ∃n,own=[n])\/((k=1\/k=2)/\ ∃n,own=[n]/\0<=n/\n<=boxes-1)\/(k=3/\ ∃n,own=[n]/\1<=n/\n<=12)\/(k=4/\ ∃n,own=[n]/\2<=n/\n<=12)\/(k=6/\ ∃n,own=[n]/\0<=n/\n<=(hs.length:Int)-1)\/((k=5\/7<=k)/\own=[])
structure HN (hs:DJ):Prop where
 lo:1<=hs.length
 hi:hs.length<=16
 all: ∀(i:Nat) (h:Int×Int),hs[i]? =some h->0<=h.1/\h.1<=4/\h.1<=h.2/\h.2<=12/\(i=0->h.1=0)
theorem HN.ok (g:HN hs):WW hs:=λh m=>by
 obtain⟨i,e⟩:=uL m;have:=g.all i h e;lia
noncomputable def flat:DJ->a6 Int
 |[]=>[]
 |h::r=>h.1::h.2::flat r
theorem Lz: ∀hs:DJ,(flat hs).length =2*hs.length
 |[]=>rfl
 |h::r=>by simp[flat,Lz r];lia
theorem Yj (n3:k≠3)(n4:k≠4)(n6:k≠6):CU hs k own=CU hs' k own':=by
 unfold CU;rw[zO n3,zO n4,zO n6,zO n3,zO n4,zO n6]
theorem Yk (h0:0<j)(h1:j<2^256):YZ i j:=by
 refine#[h0,?_];have:j.natAbs.log2<256:=(Nat.log2_lt ()).mpr ();lia
def CW (n:Nat)(Pv:Nat->St->Hp->Prop)(i m:Nat)(U:St)(H:Hp):Prop:=i<=n/\m=n-i/\Pv i U H
theorem CW.next (hi:i<n)(h:Pv (i+1) U H): ∃m',m'<n-i/\CW n Pv (i+1) m' U H:=#[n-(i+1),(),(),rfl,h]
theorem LF (Pv:Nat->St->Hp->Prop)(h0:Pv 0 U0 H0)(hl: ∀i U H,i<=xs.length->Pv i U H->uZ K H a xs)
  (hs: ∀i x U H,i<xs.length->xs[i]? =some x->Pv i U H->g x U H λU3 H3=>tt U3 H3 λb H4=>
   if b=true then te U3 H4 λv H5=> ∃ys,H5 p=some (.lst ys)/\ys.length<sizeLine/\ ∃m',m'<xs.length-i/\CW xs.length Pv (i+1) m' U3 (upd H5 p (.lst (ys++[v])))
   else ∃m',m'<xs.length-i/\CW xs.length Pv (i+1) m' U3 H4)
  (hd: ∀U H,Pv xs.length U H->R H):JU (YW K a) p U0 H0 g tt te R:=by
 refine#[CW xs.length Pv,#[_,xG _,rfl,h0],λi m U' H' w=>?_];obtain⟨hi,rfl,hp⟩:=w;have q:=hl i U' H' hi hp
 by_cases o5:i<xs.length
 ·refine .inr #[#[xs,xs[i],q,by simp[o5]],λx H2 y=>?_];obtain⟨e,y⟩:=y;subst e;exact hs i x U' _ o5 (y xs q) hp
 ·have e:i=xs.length:=()
  subst e;exact .inl #[#[xs,q,zS _],hd U' H' hp]
theorem Ey (Pv:Nat->St->Hp->Prop)(h0:Pv 0 U0 H0)(hl: ∀i U H,i<=xs.length->Pv i U H->kF K H a xs)
  (hs: ∀i x U H,i<xs.length->xs[i]? =some x->Pv i U H->g x U H λU3 H3=>tt U3 H3 λb H4=>
   if b=true then te U3 H4 λv H5=> ∃ys,H5 p=some (.lst ys)/\ys.length<sizeLine/\ ∃m',m'<xs.length-i/\CW xs.length Pv (i+1) m' U3 (upd H5 p (.lst (ys++[v])))
   else ∃m',m'<xs.length-i/\CW xs.length Pv (i+1) m' U3 H4)
  (hd: ∀U H,Pv xs.length U H->R H):JU (YX K a) p U0 H0 g tt te R:=by
 refine#[CW xs.length Pv,#[_,xG _,rfl,h0],λi m U' H' w=>?_];obtain⟨hi,rfl,hp⟩:=w;have q:=hl i U' H' hi hp
 by_cases o5:i<xs.length
 ·refine .inr #[#[xs,xs[i],q,by simp[o5]],λx H2 y=>?_];obtain⟨e,y⟩:=y;subst e;exact hs i x U' _ o5 (y xs q) hp
 ·have e:i=xs.length:=()
  subst e;exact .inl #[#[xs,q,zS _],hd U' H' hp]
noncomputable def tableM:a6 Int:=[0,0,1,0,0,2,0,1,2,2,2,2,2,2,2,2,2,3,1,0]
theorem UJ: ∀n:Fin 20,n.1=3\/n.1=4\/n.1=6\/Gv (tableM.map V.int) (n.1:Int)=some (.int (CU [] (n.1:Int) [])):=by decide+kernel
theorem Rw (h0:0<=k)(h1:k<=19)(n3:k≠3)(n4:k≠4)(n6:k≠6):Gv (tableM.map V.int) k=some (.int (CU hs k own)):=by
 obtain⟨n,rfl⟩: ∃n:Nat,k=n:=#[k.toNat,()];have e:=((UJ #[n,()]).resolve_left (by show ¬n=3;lia)).resolve_left (by show ¬n=4;lia) |>.resolve_left (by show ¬n=6;lia)
 exact e.trans (qX (λv=>some (V.int v)) (Yj n3 n4 n6))
end L2
namespace L2
open PySem PySem.Spec PyProof.Rows PySem.W
theorem WC {P:i6}{w:i9}{K:Frag}{mg:Str->i4 a9}{base:j3}{CX:Mm}{k:Nat}{f:i3}{fd:FuncData}{ps:a6 Str}:Dx P w K mg base CX k f fd ps (λ_ _ _ _=>False):=
 #[λ_ _ _ _ z=>z.elim,λ_ _ _ _ _ _ _ _ _ _ _ _ _ z=>z.elim]
theorem xI {CX:Mm}{P:i6}{w:i9}{K:a7}{mg:Str->i4 a9}{base:j3}{N:a6 Str}{qual:Str}{scope:Scope}{f:i3}{cd:a9}{A:j4}{outer:a6 Env}{s:i5}{H:Hp}{E:XK}:
  (Qj CX P w K mg base N qual scope f cd A outer s H E).K =K:=rfl
def Dg (K:Frag)(g x q:Str)(st:i8)(f:i3):Prop:=nsIn K mainGlobals g=some (some (.ref f))/\ ∃fd,qZ K x q st f fd
def Dm (K:Frag)(c:i3)(x q:Str)(st:i8)(f:i3):Prop:=findIn K (.ref c) x=some (some (.ref f))/\ ∃fd,qZ K x q st f fd
theorem dg_mk {K:Frag}{g x q:Str}{st:i8}{f:i3}{oc:a9}{od an:i4 i3}{osl:j6 (i4 a9)}{kV doc pm cdv ct:a9}(a:nsIn K mainGlobals g=some (some (.ref f)))(l:K.lookup f=some #[oc,od,.func (fnOf x q (uT st) (vR st) (zW st) .none kV doc pm an cdv ct),osl])(c:codeIn K cdv q=true)(k:keepIn K (.ref f)=true):Dg K g x q st f:=
 #[a,_,Wz l c k]
theorem dm_mk {K:Frag}{C:i3}{x q:Str}{st:i8}{f:i3}{oc:a9}{od an:i4 i3}{osl:j6 (i4 a9)}{kV doc pm cdv ct:a9}(a:findIn K (.ref C) x=some (some (.ref f)))(l:K.lookup f=some #[oc,od,.func (fnOf x q (uT st) (vR st) (zW st) .none kV doc pm an cdv ct),osl])(c:codeIn K cdv q=true)(k:keepIn K (.ref f)=true):Dm K C x q st f:=
 #[a,_,Wz l c k]
theorem vK (h:us.length=n+1): ∃u r,us=u::r/\r.length=n:=by
 cases us with
 |nil=>cases h
 |cons u r=>exact#[u,r,rfl,Ed h]
theorem Ja (h:us.length=0):us=[]:=List.length_eq_zero_iff.mp h
theorem qZ.b1 {K:Frag}{x q:Str}{st:i8}{f:i3}{fd:FuncData}(F:qZ K x q st f fd)(p0:Str)(h: ∀(kV doc pm:a9) (an:i4 i3) (cdv ct:a9) (u0:a9),bindArgs (fnOf x q (uT st) (vR st) (zW st) .none kV doc pm an cdv ct) #[[u0],[]]=pure [(p0,u0)]):uR K fd [p0] []:=
 F.binds λa b c d e g us hl=>by
  obtain⟨u0,r0,rfl,h0⟩:=vK hl;cases Ja h0;exact h a b c d e g u0
theorem qZ.b2 {K:Frag}{x q:Str}{st:i8}{f:i3}{fd:FuncData}(F:qZ K x q st f fd)(p0 p1:Str)(h: ∀(kV doc pm:a9) (an:i4 i3) (cdv ct:a9) (u0 u1:a9),bindArgs (fnOf x q (uT st) (vR st) (zW st) .none kV doc pm an cdv ct) #[[u0,u1],[]]=pure [(p0,u0),(p1,u1)]):uR K fd [p0,p1] []:=
 F.binds λa b c d e g us hl=>by
  obtain⟨u0,r0,rfl,h0⟩:=vK hl;obtain⟨u1,r1,rfl,h1⟩:=vK h0;cases Ja h1;exact h a b c d e g u0 u1
theorem qZ.b3 {K:Frag}{x q:Str}{st:i8}{f:i3}{fd:FuncData}(F:qZ K x q st f fd)(p0 p1 p2:Str)(h: ∀(kV doc pm:a9) (an:i4 i3) (cdv ct:a9) (u0 u1 u2:a9),bindArgs (fnOf x q (uT st) (vR st) (zW st) .none kV doc pm an cdv ct) #[[u0,u1,u2],[]]=pure [(p0,u0),(p1,u1),(p2,u2)]):uR K fd [p0,p1,p2] []:=
 F.binds λa b c d e g us hl=>by
  obtain⟨u0,r0,rfl,h0⟩:=vK hl;obtain⟨u1,r1,rfl,h1⟩:=vK h0;obtain⟨u2,r2,rfl,h2⟩:=vK h1;cases Ja h2;exact h a b c d e g u0 u1 u2
theorem qZ.b4 {K:Frag}{x q:Str}{st:i8}{f:i3}{fd:FuncData}(F:qZ K x q st f fd)(p0 p1 p2 p3:Str)(h: ∀(kV doc pm:a9) (an:i4 i3) (cdv ct:a9) (u0 u1 u2 u3:a9),bindArgs (fnOf x q (uT st) (vR st) (zW st) .none kV doc pm an cdv ct) #[[u0,u1,u2,u3],[]]=pure [(p0,u0),(p1,u1),(p2,u2),(p3,u3)]):uR K fd [p0,p1,p2,p3] []:=
 F.binds λa b c d e g us hl=>by
  obtain⟨u0,r0,rfl,h0⟩:=vK hl;obtain⟨u1,r1,rfl,h1⟩:=vK h0;obtain⟨u2,r2,rfl,h2⟩:=vK h1;obtain⟨u3,r3,rfl,h3⟩:=vK h2;cases Ja h3;exact h a b c d e g u0 u1 u2 u3
theorem qZ.b5 {K:Frag}{x q:Str}{st:i8}{f:i3}{fd:FuncData}(F:qZ K x q st f fd)(p0 p1 p2 p3 p4:Str)(h: ∀(kV doc pm:a9) (an:i4 i3) (cdv ct:a9) (u0 u1 u2 u3 u4:a9),bindArgs (fnOf x q (uT st) (vR st) (zW st) .none kV doc pm an cdv ct) #[[u0,u1,u2,u3,u4],[]]=pure [(p0,u0),(p1,u1),(p2,u2),(p3,u3),(p4,u4)]):uR K fd [p0,p1,p2,p3,p4] []:=
 F.binds λa b c d e g us hl=>by
  obtain⟨u0,r0,rfl,h0⟩:=vK hl;obtain⟨u1,r1,rfl,h1⟩:=vK h0;obtain⟨u2,r2,rfl,h2⟩:=vK h1;obtain⟨u3,r3,rfl,h3⟩:=vK h2;obtain⟨u4,r4,rfl,h4⟩:=vK h3;cases Ja h4;exact h a b c d e g u0 u1 u2 u3 u4
theorem qZ.law {K:Frag}{x q:Str}{st:i8}{f:i3}{fd:FuncData}(F:qZ K x q st f fd)(p:Str)(h: ∀(kV doc pm:a9) (an:i4 i3) (cdv ct v:a9),bindArgs (fnOf x q (uT st) (vR st) (zW st) .none kV doc pm an cdv ct) #[[v],[]]=pure [(p,v)])(s:i5)(v:a9):BindsTo s fd #[[v],[]] [(p,v)]:=by
 obtain⟨oc,od,kV,doc,pm,an,cdv,ct,osl,rfl,lk,hcd⟩:=F.ex;exact .of_eq (h kV doc pm an cdv ct v)
theorem Cl {P:i6}{w:i9}{K:Frag}{h:j3}{mg:Str->i4 a9}{base:j3}{CX:Mm}(X:K.In h)(G:h.Ns mainGlobals mg){x q g:Str}{st:i8}{f:i3}{fd:FuncData}{k:Nat}{ps:a6 Str}{sp:Sp}(a:nsIn K mainGlobals g=some (some (.ref f)))(F:qZ K x q st f fd)(b:uR K fd ps [])(o:Dx P w K mg base CX k f fd ps sp):Qt P w K mg base CX k g ps sp:=
 #[#[_,_,o,mg_of X G a,F.kp,b]]
end L2
namespace L2
open PySem PySem.Spec PyProof.Rows
namespace Rv
theorem owner:Manifest.owners.lookup (String.ofList ['d','e','s','r','e','v','e','r'].reverse)=some Manifest.sig_reversed:=by kernel_rfl
theorem slot_next:Slot "reversed" "__next__" "reversed.__next__":=
 .of (owner:="reversed") (n:="__next__") (by rw[DL,Ax];kernel_rfl) (by decide+kernel) (by decide+kernel) (by decide+kernel)
  (by first|exact .inl (by decide+kernel)|exact .inr (by decide+kernel)) (by rw[BW];kernel_rfl)
theorem entry_next:entryFor table "reversed.__next__"=some Builtin.«reversed.__next__»:=entryFor_of_tree (by kernel_rfl)
theorem args_next (a:a9):argsOk "reversed.__next__" #[[a],[]]:=by
 unfold argsOk;rw[signature?_of (id:="reversed.__next__") (n:=['_','_','t','x','e','n','_','_']) (o:=['d','e','s','r','e','v','e','r']) (by kernel_rfl) owner];kernel_rfl
theorem slot_iter:Slot "reversed" "__iter__" "reversed.__iter__":=
 .of (owner:="reversed") (n:="__iter__") (by rw[DL,Ax];kernel_rfl) (by decide+kernel) (by decide+kernel) (by decide+kernel)
  (by first|exact .inl (by decide+kernel)|exact .inr (by decide+kernel)) (by rw[BW];kernel_rfl)
theorem args_iter (a:a9):argsOk "reversed.__iter__" #[[a],[]]:=by
 unfold argsOk;rw[signature?_of (id:="reversed.__iter__") (n:=['_','_','r','e','t','i','_','_']) (o:=['d','e','s','r','e','v','e','r']) (by kernel_rfl) owner];kernel_rfl
theorem entry_iter:entryFor table "reversed.__iter__"=some Builtin.«dict_keyiterator.__iter__»:=
 entryFor_alias (id':="dict_keyiterator.__iter__") (by kernel_rfl) (by first|rfl|decide+kernel|(unfold String.splitOn;simp+decide [String.splitOnAux])) (by decide+kernel) (by kernel_rfl)
theorem Ti:Slot "reversed" "__init__" "object.__init__":=
 .of (owner:="object") (n:="__init__") (by rw[DL,Ax];kernel_rfl) (by decide+kernel) (by decide+kernel) (by decide+kernel)
  (by first|exact .inl (by decide+kernel)|exact .inr (by decide+kernel)) (by rw[BW];kernel_rfl)
theorem called:TypeCalled "reversed" "reversed.__new__" "object.__init__":=
 #[by decide+kernel,by decide+kernel,#[_,_,F.mro_reversed],F.made_reversed,by decide+kernel,by rw[BW];kernel_rfl,Ti]
theorem tuple_no_rev:typeLookup (.type "tuple") "__reversed__"=pure none:=by rw[DL,Ax];kernel_rfl
theorem tuple_no_dict:isSubtype (.type "tuple") (.type "dict")=pure false:=by rw[BW];kernel_rfl
end Rv
end L2
namespace L2
open PySem PySem.Spec PyProof.Rows
section
variable {prog:i6}{w:i9}{A:j4}{E:a9->i5->Prop}{s:i5}
noncomputable def OV (l:i3)(i:Int):j7:={cls:=.type "reversed",data:=.fields (List.toArray [.ref l,rawInt i])}
def EB (h:j3)(a l:i3)(i:Int):Prop:= ∃o,h.get? a=some o/\o.cls=.type "reversed"/\o.data=.fields (List.toArray [.ref l,rawInt i])
theorem EB.typeIs (x:EB s.heap a l i):s.TypeIs (.ref a) "reversed":=let⟨o,ho,hc,_⟩:=x;#[o,ho,hc]
theorem EB.at (x:EB h a l i)(e: ∀o,h.get? a=some o->h'.get? a=some o):EB h' a l i:=let⟨o,ho,r⟩:=x;#[o,e _ ho,r]
theorem Uj (hl:s.heap.IsTuple l j9)(hfit:(j9.size:Int)<2^63)
  (h: ∀tk,Q₁ (.ref s.heap.objs.size) {s with heap:=s.heap.push (OV l ((j9.size:Int)-1)),toks:=tk}):
  codeAny (model prog w) A (.call (.builtin "reversed.__new__") #[[.type "reversed",.ref l],[]]) (wants Q₁ E) s:=by
 have hT:s.TypeIs (.ref l) "tuple":=by obtain⟨o,ho,hc,_⟩:=hl;exact#[o,ho,hc]
 refine codeAny_of_tree ?_;show wpAny _ A.in1 (do checkBuiltinCall "reversed.__new__" #[[.type "reversed",.ref l],[]];again (.builtin "reversed.__new__" #[[.type "reversed",.ref l],[]])) _ _ s;refine zD (uH (F.newCall_reversed_1 _) (yB #[plainId_quiet F.plain_reversed_new _,codeAny_builtin F.entry_reversed_new ?_]));rw[DE F.plain_reversed_new _];unfold Builtin.«reversed.__new__»;refine zD (uH (newClass_reversed _) ?_)
 try dsimp only
 refine zD (uH (a:=Unit.unit) (by first|rfl|kernel_rfl) ?_);refine zD (uH (a:=Unit.unit) (by first|rfl|kernel_rfl) ?_)
 try dsimp only
 refine zD (Bu hT Rv.tuple_no_rev ?_)
 try dsimp only
 refine zD ?_;show wpAny _ _ (isInstance (.ref l) (.type "dict")>>=_) _ _ s;refine zD (CZ hT Rv.tuple_no_dict ?_)
 try dsimp only
 show wpAny _ _ (specialOf (.ref l) "__getitem__">>=_) _ _ s;refine zD (Bu hT F.slot_tuple_getitem.lookup ?_)
 try dsimp only
 show wpAny _ _ (if(["tuple.__getitem__","str.__getitem__","bytes.__getitem__","bytearray.__getitem__","memoryview.__getitem__","numpy.ndarray.__getitem__","sqlite3.Row.__getitem__"].contains "tuple.__getitem__")=true then _ else _) _ _ s;rw[zP (by decide)];refine yB ?_
 try dsimp only
 rw[zO (show ¬((!true)=true)from yT)];refine zD (len_tuple hl hfit ?_);refine zD (uH (a:=some (j9.size:Int)) rfl ?_)
 try dsimp only
 refine zD ?_;show wpAny _ _ (newObj (.type "reversed") (.fields (List.toArray [.ref l,rawInt ((j9.size:Int)-1)]))) _ _ _;refine jV ?_ (by size_fits);exact yB (h _)
theorem Ul (hl:s.heap.IsTuple l j9)(hfit:(j9.size:Int)<2^63)
  (h: ∀tk,Q (.ref s.heap.objs.size) {s with heap:=s.heap.push (OV l ((j9.size:Int)-1)),toks:=tk}):wpAny (model prog w) A (call (.type "reversed") [.ref l]) Q E s:=by
 refine callType_codes (Q₁:=λobj s₁=>obj=.ref s.heap.objs.size/\ ∃tk,s₁={s with heap:=s.heap.push (OV l ((j9.size:Int)-1)),toks:=tk}) Rv.called (F.typeCall_reversed_1 _) F.entry_object_init (Uj hl hfit λtk=>#[rfl,tk,rfl]) ?_;rintro obj s₁ ⟨rfl,tk,rfl⟩;have hT:Shared.TypeIs {s with heap:=s.heap.push (OV l ((j9.size:Int)-1)),toks:=tk} (.ref s.heap.objs.size) "reversed":=#[_,yI _ rfl,rfl];exact#[hT,F.args_object_init_2 _ _,object_init_meets Rv.called.init.lookup Rv.called.made (by decide) prog w A.in1 _ _ #[hT,rfl,h tk]]
theorem Ll {it l:i3}{i:Nat}{j9:j6 a9}{x:a9}{Q:i4 a9->i5->Prop}(hit:EB s.heap it l (i:Int))(hl:s.heap.IsTuple l j9)(hx:j9[i]? =some x)(hfit:(j9.size:Int)<2^63)
  (hQ: ∀h' tk,EB h' it l ((i:Int)-1)->Heap.SameBut it s.heap h'->Q (some x) {s with heap:=h',toks:=tk}):wpAny (model prog w) A (pyNext (.ref it)) Q E s:=by
 obtain⟨o,ho,hc,hd⟩:=id hit;have hT:s.TypeIs (.ref l) "tuple":=by obtain⟨o,ho,hc,_⟩:=hl;exact#[o,ho,hc]
 have hi:i<j9.size:=(Array.getElem?_eq_some_iff.mp hx).1;unfold pyNext;refine zD (Bp (jH (name:=Str.ofString "__next__") hit.typeIs Rv.slot_next
  (kE Rv.slot_next hit.typeIs Rv.entry_next ?_ (Rv.args_next _))))
 unfold Builtin.«reversed.__next__»;refine zD (uH (a:=(Value.ref it,[])) rfl ?_)
 try dsimp only
 refine zD (jF ho hd (x:=.ref l) rfl ?_);refine zD (jF ho hd (x:=rawInt (i:Int)) rfl ?_);show wpAny _ _ (if(i:Int)<0 then _ else _) _ _ s;rw[zO ()];show wpAny _ _ (specialOf (.ref l) "__getitem__">>=_) _ _ s;refine zD (Bu hT F.slot_tuple_getitem.lookup ?_)
 try dsimp only
 rw[zO (show ¬((some (Value.builtin "tuple.__getitem__")).isNone =true)from yT)];refine zD (wpAny_mkInt ?_);refine zD (Bp (getItem_tuple (j:=i) hl () () ?_ hx ?_))
 ·unfold seqIndex?;have e: ¬((i:Int)<0):=()
  simp only[zO e]
  simp[hi]
 try dsimp only
 refine zD (jF ho hd (x:=rawInt (i:Int)) rfl ?_);show wpAny _ _ (setField (.ref it) 1 (rawInt ((i:Int)-1))>>=_) _ _ _;refine zD (uX ho hd (by simp) (yB #[x,rfl,yB (hQ _ _ ?_ (uU ..))]));exact#[_,vT _ ho (Ay (wM hd _)),(Fe ..).trans hc,by
  rw[wM hd];simp]
theorem Mf (hh:A.handled=none)(hit:EB s.heap it l (-1))
  (hQ: ∀h',Heap.ExtBut it s.heap h'->Q none {s with heap:=h'}):wpAny (model prog w) A (pyNext (.ref it)) Q E s:=by
 obtain⟨o,ho,hc,hd⟩:=id hit;unfold pyNext;refine zD (Bp (jH (name:=Str.ofString "__next__") hit.typeIs Rv.slot_next
  (kE Rv.slot_next hit.typeIs Rv.entry_next ?_ (Rv.args_next _))))
 unfold Builtin.«reversed.__next__»;refine zD (uH (a:=(Value.ref it,[])) rfl ?_)
 try dsimp only
 refine zD (jF ho hd (x:=.ref l) rfl ?_);refine zD (jF ho hd (x:=rawInt (-1)) rfl ?_);show wpAny _ _ (if(-1:Int)<0 then _ else _) _ _ s;rw[zP (by decide)];refine zD (EF ?_);refine zD ?_;show wpAny _ _ (setField (.ref it) 1 (rawInt (-1))>>=_) _ _ s;refine zD (uX ho hd (by simp) ?_);have hd3:=wM hd (·.setIfInBounds 1 (rawInt (-1)));have gx3:=vT (Obj.mapFields (·.setIfInBounds 1 (rawInt (-1)))) ho (Ay hd3);refine uX gx3 hd3 (by simp) ?_;refine zD ?_;show wpAny _ _ (newExc (.type "StopIteration") []>>=_) _ _ _;refine zD ?_;simp only[newExc,newTuple];refine zD (jV ?_ (by size_fits));refine zD (m:=firstArgMember _ _) (uH (a:=Value.none) (by first|rfl|(simp only[firstArgMember];rfl)) ?_);refine jV ?_ (by size_fits);simp only[raiseNew];refine zD (wpAny_handled ?_)
 first|rw[show A.in1.handled=none from hh]|rw[hh]
 refine zD (yB (wpAny_throw ?_));refine zD (CZ (T:="StopIteration") (b:=true) #[_,yI _ rfl,rfl] isSubtype_stop ?_);refine yB (hQ _ (λb ob hb e=>zL _ (zL _ ?_)));rw[Aj _ _ (Ne.symm hb),Aj _ _ (Ne.symm hb)];exact e
theorem MK (hit:EB s.heap it l i)(h:Q (.ref it) s):wpAny (model prog w) A (pyIter (.ref it)) Q E s:=by
 refine wpAny_pyIter_slot hit.typeIs Rv.slot_iter (kE Rv.slot_iter hit.typeIs Rv.entry_iter ?_ (Rv.args_iter _));show wpAny _ _ (ret (.ref it)) _ _ s;exact yB #[-1,"reversed",_,hit.typeIs,Rv.slot_next.lookup,h]
end
noncomputable def Itv (K:a7)(a:i3)(n:Nat):It:=
 #[λi H=> ∃xs x,uZ K H a xs/\xs.length=n/\xs.reverse[i]? =some x,λi H x H'=>H'=H/\ ∀xs,uZ K H a xs->xs.reverse[i]? =some x,λi H=>(∃xs,uZ K H a xs/\xs.length=n)/\n<=i]
theorem UH {P:i6}{w:i9}{K:a7}{tg:j5}(a it:i3)(n:Nat):LP P w K tg (Itv K a n) [it] it (λi h=>i<=n/\EB h it a ((n:Int)-1-(i:Int))) where
 mem:=by simp
 obj:=λi h st b hb=>by
  have e:b=it:=by simpa using hb
  subst e;obtain⟨_,o,e,c,d⟩:=st;exact#[o,e,λv z=>by rw[d]at z;cases z]
 keep:=λi h h' st k=>#[st.1,st.2.at λo e=>k it (by simp) o e]
 item:=by
  intro X hP hw hK hc i j8 s U H E I hf st hg;subst hP hw hK;obtain⟨xs,x,hq,hn,hx⟩:=hg;obtain⟨its,rv,p,hz⟩:=I.tuple hq;have hi:i<xs.length:=by
   have:=(List.getElem?_eq_some_iff.mp hx).1
   simpa using this
  have hx':xs[n-1-i]? =some x:=by
   rw[CJ hi,hn]at hx;exact hx
  obtain⟨u,hu,ru⟩:=rv.get hx';obtain⟨f0,f1,f2,f3,f4,f5⟩:=hf it (by simp);have e1:(n:Int)-1-(i:Int)=((n-1-i:Nat):Int):=()
  have hl:=rv.length;have h63:=Gp;refine Ll (i:=n-1-i) (by rw[<-e1];exact st.2) (show s.heap.IsTuple a its.toArray from p) (x:=u) (by simpa using hu) (by simp only[yH];lia) λh' tk st' sb=>?_;have I1:xY X j8 U H {s with heap:=h',toks:=tk}:=I.turned (t':=tk) (λb o hb e=>(sb.2 b hb).trans e) f0 f1 f3 f4 f5;obtain⟨o,e,c,d⟩:=id st';have e2:((n-1-i:Nat):Int)-1=(n:Int)-1-((i+1:Nat):Int):=()
  rw[e2]at st';exact#[u,rfl,MP (s:={s with heap:=h',toks:=tk}) e c d (by decide) #[x,H,I1,ru,#[rfl,λys hy=>by rw[I.tuple_inj hy hq];exact hx],#[(by clear st;lia),st'],λb hb=>(hf b hb).1]]
 done:=by
  intro X hP hw hK hc i j8 s U H E I hf st hg;subst hP hw hK;obtain⟨f0,f1,f2,f3,f4,f5⟩:=hf it (by simp);have hi:i=n:=by have:=st.1;have:=hg.2;(clear st;lia)
  have e1:(n:Int)-1-(i:Int)= -1:=()
  have st2:=st.2;rw[e1]at st2;exact Mf (I.ok.hd hc) st2 λh' eb=>#[rfl,I.turned (t':=s.toks) (λb o hb e=>eb b o hb e) f0 f1 f3 f4 f5]
 self:=λ_ _ _ _ _ st h=>MK st.2 h
inductive YR (K:a7) (vs:List V) (H1:Hp) (R:It->Hp->Prop):Prop
 |mk (a xs:_) (h0:vs=[.ref a]) (h1:uZ K H1 a xs) (h2:R (Itv K a xs.length) H1):YR K vs H1 R
def zGu (K:a7)(ta:TA):TI:=λU H R=>ta U H λvs H1=>YR K vs H1 R
theorem ZF {X:Cx}{tg a:j5}{ta:TA}{p pos:Pos}(hg:Gl X "reversed")(hm:X.mg "reversed"=none)(ha:PA X [a] ta)(hs:autoParam (starEach [a] X.env=[(false,eval a X.env)]) L2.aE._auto_1):PI X tg (.Call (.Name "reversed" p) [a] [] pos) (zGu X.K ta):=by
 refine#[?_];intro j8 s U H R I h;refine Call_ (Eu I hg hm Kb (jG (wO (ha pos j8 s U H _ I h) λus s1 ⟨vs,H1,I1,r1,q1⟩=>?_) hs rfl));obtain⟨b,xs,e,hq,q⟩:=q1;subst e;cases r1 with
 |cons r rr=>
  cases rr;cases r;obtain⟨its,rv,pl,hz⟩:=I1.tuple hq;have hl:=rv.length;have h63:=Gp;refine Ul (show s1.heap.IsTuple b its.toArray from pl) (by simp only[yH];lia) λtk=>?_;have I2:xY X j8 U H1 {s1 with heap:=s1.heap.push (OV b (((its.toArray).size:Int)-1)),toks:=tk}:=I1.kept λb o e=>zL _ e;have st:EB (s1.heap.push (OV b (((its.toArray).size:Int)-1))) s1.heap.objs.size b ((xs.length:Int)-1-((0:Nat):Int)):=#[_,yI _ rfl,rfl,by rw[yH,hl];simp[OV]];refine MK (s:={s1 with heap:=s1.heap.push (OV b (((its.toArray).size:Int)-1)),toks:=tk}) st ?_;refine#[s1.heap.objs.size,[s1.heap.objs.size],_,_,H1,rfl,I2,UH b _ xs.length,#[xG _,st],λc hc=>?_,q];have e:c=s1.heap.objs.size:=by simpa using hc
  subst e;exact I1.fpOk (zS _) (I1.hok.fresh (zS _))
theorem Ye {K:a7}{a:i3}{xs:a6 V}{g:TG}{tb:TS}{D:FI}{U:St}{H:Hp}(Pv:Nat->St->Hp->Prop)(h0:Pv 0 U H)(hl: ∀i U H,i<=xs.length->Pv i U H->uZ K H a xs)
  (hs: ∀i x U H,xs.reverse[i]? =some x->Pv i U H->g x U H λU2 H2=>tb {D with nx:=Pv (i+1),ct:=Pv (i+1),bk:=D.nx} U2 H2) (hd: ∀U H,Pv xs.length U H->D.nx U H):
  ∃W:Nat->Nat->St->Hp->Prop,(∃m,W 0 m U H)/\ ∀i m U H,W i m U H->
   ((Itv K a xs.length).stop i H/\D.nx U H)\/((Itv K a xs.length).go i H/\ ∃N:St->Hp->Prop,(∀U' H',N U' H'-> ∃m',m'<m/\W (i+1) m' U' H')/\ ∀x H',(Itv K a xs.length).yld i H x H'->g x U H' λU2 H2=>tb {D with nx:=N,ct:=N,bk:=D.nx} U2 H2):=by
 refine#[λi m U H=>m=xs.length-i/\i<=xs.length/\Pv i U H,#[xs.length,by simp,xG _,h0],?_];rintro i m U H ⟨rfl,hi,p⟩;have q:=hl i U H hi p
 by_cases o5:i<xs.length
 ·refine .inr #[#[xs,xs.reverse[i]'(by simpa using o5),q,rfl,by simp[o5]],Pv (i+1),λU' H' p'=>#[xs.length-(i+1),(),rfl,o5,p'],λx H' y=>?_];obtain⟨e,y⟩:=y;subst e;exact hs i x U _ (y xs q) p
 ·have e:i=xs.length:=()
  subst e;exact .inl #[#[#[xs,q,rfl],zS _],hd U H p]
end L2
namespace L2
open PySem
mutual
noncomputable def pre:Nd->a6 Nd
 | .mk k p own ps=>.mk k p own ps::jR ps
noncomputable def jR:a6 Nd->a6 Nd
 |[]=>[]
 |a::r=>pre a++jR r
end
theorem Aa: ∀(xs ys:a6 Nd),jR (xs++ys)=jR xs++jR ys
 |[],ys=>by simp[jR]
 |a::r,ys=>by simp[jR,Aa r ys]
theorem Xu: ∀n:Nd,1<=(pre n).length
 | .mk k p own ps=>by simp[pre]
theorem Ld: ∀xs:a6 Nd,xs.length<=(jR xs).length
 |[]=>by simp[jR]
 |a::r=>by
  have:=Xu a;have:=Ld r
  simp[jR];lia
theorem Gj: ∀xs:a6 Nd,(jR xs.reverse).length =(jR xs).length
 |[]=>rfl
 |a::r=>by simp[jR,Aa,Gj r];lia
theorem jK.more: ∀{d:Nat} {v:V} {n:Nd},jK H d v n->jK H (d+1) v n
 |0,_,_,z=>z.elim
 |d+1,v,.mk k p own ps,⟨t,o,q,vs,e,h1,h2,h3,r⟩=>#[t,o,q,vs,e,h1,h2,h3,Paired.imp (λ_ _ z=>jK.more z) r]
inductive Ju (vs:List V) (H:Hp) (Q:VK) (E:XK):Prop
 |mk (v nd:_) (h0:vs=[v]) (h1:jK H 10 v nd) (h2:(pre nd).length<=1000000) (h3: ∀l us H',xK H H'->H l=none->H' l=some (.lst us)->Paired (jK H' 10) us (pre nd)->Q (.ref l) H'):Ju vs H Q E
theorem Paired.append {α β:Type}{F:α->β->Prop}{xs zs:a6 α}{ys ws:a6 β}(h:Paired F xs ys)(q:Paired F zs ws):Paired F (xs++zs) (ys++ws):=by
 induction h with
 |nil=>exact q
 |cons r t ih=>exact .cons r ih
theorem Paired.rev {α β:Type}{F:α->β->Prop}{xs:a6 α}{ys:a6 β}(h:Paired F xs ys):Paired F xs.reverse ys.reverse:=by
 induction h with
 |nil=>exact .nil
 |cons r t ih=>
  rw[List.reverse_cons,List.reverse_cons];exact Paired.append ih (.cons r .nil)
theorem Paired.take {α β:Type}{F:α->β->Prop}{xs:a6 α}{ys:a6 β}(n:Nat)(h:Paired F xs ys):Paired F (xs.take n) (ys.take n):=by
 induction h generalizing n with
 |nil=>simp;exact .nil
 |cons r t ih=>
  cases n with
  |zero=>exact .nil
  |succ n=>exact .cons r (ih n)
theorem Paired.unsnoc: ∀{xs:a6 α} {x:α} {ys:a6 β},Paired F (xs++[x]) ys-> ∃ys' y,ys=ys'++[y]/\Paired F xs ys'/\F x y
 |[],x,_,.cons r .nil=>#[[],-1,.nil,r]
 |a::xs,x,_,.cons r t=>by
  obtain⟨ys',y,rfl,p,f⟩:=Paired.unsnoc t;exact#[_::ys',y,rfl,.cons r p,f]
theorem xK.fresh (s:xK H H')(h:H p=none):xK H (upd H' p o):=λb u e=>by rw[yQ (xB e h)];exact s b u e
section
open PySem.Spec PyProof.Rows
variable {X:Cx}{e:j5}{st:i4 j5}{te:TE}{ts:TO}{p2 pos:Pos}
inductive Vc (K:a7) (x:V) (y:V) (H:Hp) (Q:VK):Prop
 |mk (a b xs:_) (h0:x=.ref a) (h1:y=.ref b) (h2:kF K H a xs) (h3:kF K H b []) (h4:Q (.bl (!xs.isEmpty)) H):Vc K x y H Q
theorem Li (hr:Am k X.A):Hu X (compareOp .NotEq) (Vc X.K):=by
 intro j8 s U H x y v u Q I rx ry h;obtain⟨a,b,xs,rfl,rfl,ha,hb,q⟩:=h;cases rx;cases ry;have hu:=hr.un;obtain⟨us,r,pa,_⟩:=I.list ha;obtain⟨vs,q',pb,_⟩:=I.list hb;cases q';cases xs with
 |nil=>
  cases r;have:=SeqAt.RcNeAt.lists (A:=X.A) (s:=s) (e:=λ_=>true) pa.isList pb.isList rfl () (λj h1 h2=>absurd h1 (by simp));exact this _ _ _ _ #[.bl false,H,I,rfl,q]
 |cons z zs=>
  cases r with
  |cons r1 r2=>
   have:=SeqAt.RcNeAt.lists_lengths (A:=X.A) (s:=s) pa.isList pb.isList (by simp) ();exact this _ _ _ _ #[.bl true,H,I,rfl,q]
end
theorem Kr (K:a7)(hK:X.K=K)(hc:X.calm=true)(h:YV X es t)(hn:autoParam ((assignEach es X.env).length =n) L2.aE._auto_1)(hst:autoParam ((assignEach es X.env).findIdx? (·.1)=none) L2.aE._auto_1):PG X (.Tuple es k pos) (zAf K n t):=by
 subst hK;exact kZ hc h hn hst
end L2
namespace L2
open PySem PySem.Spec PyProof.Rows
theorem QL (hc:c=2\/c=3)(ha: -(2^62)<=a)(ha':a<2^62)(hb: -(2^62)<=b)(hb':b<2^62):Builtin.Range.small a b c=true:=by
 have f: ∀{x:Int},-(2^63)<=x->x<2^63->Builtin.Range.rangeFitsLong x=true:=λh g=>by unfold Builtin.Range.rangeFitsLong;rw[zQ h,zQ g];rfl
 have c0:0<c:=by rcases hc with rfl|rfl<;>decide
 have c3:c<=3:=by rcases hc with rfl|rfl<;>decide
 clear hc;have r:0<=Builtin.Range.rangeSize a b c/\Builtin.Range.rangeSize a b c<2^63:=by
  unfold Builtin.Range.rangeSize;rw[zP c0];split
  ·have g:0<=b-a-1:=()
   have h1:=Int.ediv_nonneg g (Int.le_of_lt c0);have h2:=Int.ediv_le_self c g;generalize(b-a-1) / c=y at *
   lia
  ·decide
 unfold Builtin.Range.small;rw[f (x:=a) () (),f (x:=b) () (),f (x:=c) () (),f () r.2,zP c0,f (x:=b+(c-1)) () ()]
 simp
noncomputable def Itp (lo c:Int)(n:Nat):It:=#[λi _=>i<n,λi H x H'=>H'=H/\x=.int (lo+i*c),λi _=>n<=i]
theorem Tg {P:i6}{w:i9}{K:a7}{tg:j5}(it:i3)(lo c:Int)(n:Nat):LP P w K tg (Itp lo c n) [it] it (λi h=>IsRangeIter h it (lo+(i:Nat)*c) ((n:Int)-(i:Nat)) c) where
 mem:=by simp
 obj:=λi h st b hb=>by
  have e:b=it:=by simpa using hb
  subst e;exact#[_,st,λv z=>by
   have z':Data.fields _=Data.cell v:=z;cases z']
 keep:=λi h h' st k=>k it (by simp) _ st
 item:=by
  intro X hP hw hK hc i j8 s U H E I hf st hg;subst hP hw hK;obtain⟨f0,f1,f2,f3,f4,f5⟩:=hf it (by simp);have W:=Walks.range (prog:=X.prog) (w:=X.w) (I.ok.hd hc) it lo c n;refine W.item i s _ _ hg st λv h' tk hv st' kk=>?_;obtain⟨t,rfl⟩:=hv;have I1:xY X j8 U H {s with heap:=h',toks:=tk}:=I.turned (λb o hb e=>kk b o (by simpa using hb) e) f0 f1 f3 f4 f5;refine#[-1,MP (s:={s with heap:=h',toks:=tk}) (n:="range_iterator") st' rfl rfl (by decide) #[.int (lo+i*c),H,I1,#[t,rfl],#[rfl,rfl],st',λb hb=>(hf b hb).1]]
 done:=by
  intro X hP hw hK hc i j8 s U H E I hf st hg;subst hP hw hK;obtain⟨f0,f1,f2,f3,f4,f5⟩:=hf it (by simp);exact wpAny_pyNext_range_end (I.ok.hd hc) st (by have:n<=i:=hg;lia) λh' eb=>#[rfl,I.turned (t':=s.toks) (λb o hb e=>eb b o hb e) f0 f1 f3 f4 f5]
 self:=λ_ _ _ _ _ st h=>wpAny_pyIter_rangeiter st h
inductive Wo (vs:List V) (H1:Hp) (R:It->Hp->Prop):Prop
 |mk (i j c:Int) (n:Nat) (h0:vs=[.int i,.int j,.int c]) (h1:(-(2^62)<=i/\i<2^62/\ -(2^62)<=j/\j<2^62)) (h2:(c=2\/c=3)) (h3:Builtin.Range.rangeSize i j c=(n:Int)) (h4:R (Itp i c n) H1):Wo vs H1 R
def zCq (ta:TA):TI:=λU H R=>ta U H λvs H1=>Wo vs H1 R
theorem Sx (hg:Gl X "range")(hm:X.mg "range"=none)(ha:PA X [a,b,c] ta)(hs:autoParam (starEach [a,b,c] X.env=(false,eval a X.env)::starEach [b,c] X.env) L2.aE._auto_1)(hpl:autoParam ((backTo pos (starEach [b,c] X.env)).any (·.1)=false) L2.aE._auto_1):
  PI X tg (.Call (.Name "range" p) [a,b,c] [] pos) (zCq ta):=by
 refine#[?_];intro j8 s U H R I h;refine Call_ (Eu I hg hm boot_range (jG (wO (ha pos j8 s U H _ I h) λus s1 ⟨vs,H1,I1,r1,q1⟩=>?_) hs hpl));obtain⟨i,j,c,n,e,⟨q1,q2,q3,q4⟩,hc,hn,q⟩:=q1;subst e;cases r1 with
 |cons r rr=>
  cases rr with
  |cons r' rr=>
   cases rr with
   |cons r'' rr=>
    cases rr;obtain⟨t,rfl⟩:=r;obtain⟨t',rfl⟩:=r';obtain⟨t'',rfl⟩:=r'';refine call_range_3 () ?_ (.inl (PyProof.noPylong_small ()));refine wpAny_pyIter_range (IsRange.new ..) (QL hc q1 q2 q3 q4) ?_;have I2:xY X j8 U H1 {s1 with heap:=s1.heap.push {cls:=.type "range",data:=.fields (List.toArray [.int i t,.int j t',.int c t''])},toks:=s1.toks}:=I1.kept λb o e=>zL _ e;refine#[_,[_],_,_,H1,rfl,I2.kept (t':=s1.toks) λb o e=>zL _ e,Tg _ i c n,?_,λb hb=>?_,q]
    ·have e1:i+((0:Nat):Int)*c=i:=by simp
     show IsRangeIter _ _ (i+((0:Nat):Int)*c) ((n:Int)-((0:Nat):Int)) c;rw[e1,Int.natCast_zero,Int.sub_zero,<-hn];exact yI _ rfl
    ·have e:=List.mem_singleton.mp hb;subst e;exact I2.fpOk (zS _) (I2.hok.fresh (zS _))
theorem MU {lo c:Int}{n:Nat}{g:TG}{tt:TT}{te:TE}{R:Hp->Prop}{p:i3}{U0:St}{H0:Hp}(Pv:Nat->St->Hp->Prop)(h0:Pv 0 U0 H0)
  (hs: ∀i U H,i<n->Pv i U H->g (.int (lo+(i:Nat)*c)) U H λU3 H3=>tt U3 H3 λb H4=>
   if b=true then te U3 H4 λv H5=> ∃ys,H5 p=some (.lst ys)/\ys.length<sizeLine/\ ∃m',m'<n-i/\CW n Pv (i+1) m' U3 (upd H5 p (.lst (ys++[v])))
   else ∃m',m'<n-i/\CW n Pv (i+1) m' U3 H4)
  (hd: ∀U H,Pv n U H->R H):JU (Itp lo c n) p U0 H0 g tt te R:=by
 refine#[CW n Pv,#[_,xG _,rfl,h0],λi m U' H' w=>?_];obtain⟨hi,rfl,hp⟩:=w
 by_cases o5:i<n
 ·refine .inr #[o5,λx H2 y=>?_];obtain⟨e,y⟩:=y;subst e y;exact hs i U' _ o5 hp
 ·have e:i=n:=()
  subst e;exact .inl #[zS _,hd U' H' hp]
theorem Tm: ∀(bs:a6 i7),(List.range bs.length).all (λi=>bs.getD i true)=bs.all id:=by
 intro bs;rw[jT,vJ,vJ];constructor
 ·intro h b hb;obtain⟨i,hi⟩:=List.mem_iff_getElem?.mp hb;have hl:=(List.getElem?_eq_some_iff.mp hi).1;have:=h i (List.mem_range.mpr hl);rw[yV,hi]at this;exact this
 ·intro h i hi;have hl:=List.mem_range.mp hi;have e:=zF hl;rw[yV,e];exact h _ (vH hl)
section
variable {X:Cx}
theorem Hq (hc:X.calm=true):EE X (.builtin "all") (λxs H Q=> ∃(p:i3) (bs:a6 i7),xs=[.ref p]/\kF X.K H p (bs.map V.bl)/\Q (.bl (bs.all id)) H):=by
 intro j8 s U H xs us Q I r h;obtain⟨p,bs,rfl,hq,q⟩:=h;obtain⟨u,rfl,ru⟩:=GD r;cases ru;obtain⟨its,rv,pl,hz⟩:=I.list hq;have n8:=rv.length;rw[zM]at n8;refine call_all_walk (uF pl.isList ?_);have hp:p<s.heap.objs.size:=by
  obtain⟨o,ho,_⟩:=pl.isList;exact yN ho
 refine#[s.heap.objs.size,[s.heap.objs.size,p],[s.heap.objs.size],its.toArray.size,_,_,λi=>bs.getD i true,rfl,Walks.list (A:=X.A.in1) (I.ok.hd hc) _ p (xT hp) its.toArray,#[#[_,yI _ rfl,rfl,rfl],pl.isList.at λo e=>zL _ e],?_,λh' tk hk=>?_]
 ·intro i v s1 Q1 E1 hv h1;have hv':its[i]? =some v:=by simpa using hv
  have hi:i<bs.length:=by
   have:=(List.getElem?_eq_some_iff.mp hv').1;lia
  have eb:(bs.map V.bl)[i]? =some (.bl bs[i]):=by rw[yJ,zF hi]<;>rfl
  have rel:=Paired.get rv i _ _ eb hv';obtain rfl:v=Value.bool bs[i]:=rel;have:bs.getD i true=bs[i]:=by rw[yV,zF hi]<;>rfl
  have h2:Q1 (bs.getD i true) s1:=h1;rw[this]at h2;exact yB h2
 ·have e:(List.range its.toArray.size).all (λi=>bs.getD i true)=bs.all id:=by
   rw[yH,<-n8];exact Tm bs
  rw[e];refine#[.bl (bs.all id),H,I.kept (t':=tk) λb o eb=>hk b o ?_ (zL _ eb),rfl,q];intro z;have:=yN eb;rw[List.mem_singleton.mp z]at this;exact qU _ this
def zCb (K:a7):a6 V->Hp->VK->Prop:=λxs H Q=> ∃(a tp:i3) (ns:a6 String) (b:i7) (T:String),xs=[.ref a,.ref tp]/\H tp=some (.tup (ns.map V.ty))/\((T="list"/\ ∃ys,kF K H a ys)\/(T="tuple"/\ ∃ys,uZ K H a ys))/\PySem.W.kitAny K (.type T) (ns.map Value.type)=some b/\Q (.bl b) H
theorem RY: ∀{ns:a6 String} {us:a6 a9},jU (ns.map V.ty) us->us=ns.map Value.type
 |[],_,.nil=>rfl
 |n::ns,_,.cons h t=>by
  rw[RY t,yO];congr 1
theorem MW:EE X (.builtin "isinstance") (zCb X.K):=by
 intro j8 s U H xs us Q I r h;obtain⟨a,tp,ns,b,T,rfl,ht,hx,e,q⟩:=h;obtain⟨u,w',rfl,ru,rw'⟩:=JV r;cases ru;cases rw';obtain⟨_,its2,r2,p⟩:=(show vV X.prog X.w H s.heap tp (.tup (ns.map V.ty))from I.hok tp _ ht);obtain⟨⟨oc,od,oda,osl⟩,h1,h2,n2,h3⟩:=p;dsimp only at h2 h3;subst h2 h3;have hv:=RY r2;subst hv
 rcases hx with⟨rfl,ys,hq⟩|⟨rfl,ys,hq⟩
 ·obtain⟨its,rv,pl,hz⟩:=I.list hq;obtain⟨o,ho,hcl⟩:=pl.isList;exact PySem.W.kia_tup Fc I.kIn #[o,ho,hcl.1] h1 e (λz=>nomatch z) λtk=>#[.bl b,H,I.tok tk,rfl,q]
 ·obtain⟨its,rv,pl,hz⟩:=I.tuple hq;obtain⟨o,ho,hcl,_⟩:=pl;exact PySem.W.kia_tup PySem.W.kitx_tuple I.kIn #[o,ho,hcl] h1 e (λz=>nomatch z) λtk=>#[.bl b,H,I.tok tk,rfl,q]
end
theorem Gs:bootBuiltins "enumerate"=some (.type "enumerate"):=by decide+kernel
theorem xY.turned2 {X:Cx}{j8:a6 (i3×j7)}{U:St}{H:Hp}{s:i5}{h':j3}{t':Nat}{e it:i3}(I:xY X j8 U H s)(k: ∀b o,b≠e->b≠it->s.heap.get? b=some o->h'.get? b=some o)(f:Hv X j8 H e)(g:Hv X j8 H it):
  xY X j8 U H {s with heap:=h',toks:=t'}:=by
 obtain⟨a0,a1,a2,a3,a4,a5⟩:=f;obtain⟨b0,b1,b2,b3,b4,b5⟩:=g;have ne1: ∀b u,H b=some u->b≠e:=λb u q z=>by rw[z,a0]at q;cases q
 have ne2: ∀b u,H b=some u->b≠it:=λb u q z=>by rw[z,b0]at q;cases q
 have out: ∀{b:i3},b∉[e,it]->b≠e/\b≠it:=fun{b} hc=>#[λz=>hc (by simp[z]),λz=>hc (by simp[z])];refine I.step (g':=s.gens) (d':=s.drawn) (ch:=[e,it]) (λb hb=>?_) (λb o _ _ hc q _=>k b o (out hc).1 (out hc).2 q) (λb o _ _ hc q _=>#[o.slots,k b o (out hc).1 (out hc).2 q]) (λ_ _ _ _ n=>n)
  (λb o hc q=>#[o,k b o (out hc).1 (out hc).2 q]) (λ_ _ q=>q) (λ_ _ _ q=>q) (λb ps q=>#[#[],by rw[q];simp]) (λm hm=>?_) (λb u q=>?_) I.bare
 ·rcases List.mem_cons.mp hb with z|z
  ·rw[z];exact#[a3,a1,a4,a5]
  ·rw[List.mem_singleton.mp z];exact#[b3,b1,b4,b5]
 ·obtain⟨o,es,ep,ho,r⟩:=hm;exact#[o,es,ep,k _ o (Ne.symm a1) (Ne.symm b1) ho,r]
 ·refine(I.hok b u q).stay (λc v hc x=>k c v ?_ ?_ x) (λ_ x=>x) λ_ _ x=>x
  ·rcases hc with z|z
   ·rw[z];exact ne1 b u q
   ·exact ne1 c _ z
  ·rcases hc with z|z
   ·rw[z];exact ne2 b u q
   ·exact ne2 c _ z
noncomputable def Ite (K:a7)(a:i3):It:=
 #[λi H=> ∃xs x,kF K H a xs/\xs[i]? =some x,λi H y H'=> ∃t x,y=.ref t/\H t=none/\H'=upd H t (.tup [.int (i:Nat),x])/\ ∀xs,kF K H a xs->xs[i]? =some x,λi H=> ∃xs,kF K H a xs/\xs.length<=i]
theorem Mu {P:i6}{w:i9}{K:a7}{elts:a6 j5}{x1:Nat}{pos:Pos}(a e it:i3)(hne:e≠it):
  LP P w K (.Tuple elts x1 pos) (Ite K a) [e,it] e (λi h=>(∃old,IsEnum h e it (i:Nat) old)/\h.IsListIter it a i) where
 mem:=by simp
 obj:=λi h st b hb=>by
  obtain⟨⟨old,he⟩,o,e1,c,d⟩:=st
  rcases List.mem_cons.mp hb with z|z
  ·subst z;exact#[_,he,λv z=>by cases z]
  ·rw[List.mem_singleton.mp z];exact#[o,e1,λv z=>by rw[d]at z;cases z]
 keep:=λi h h' st k=>#[#[_,k e (by simp) _ st.1.choose_spec],st.2.at λo q=>k it (by simp) o q]
 item:=by
  intro X hP hw hK hc i j8 s U H E I hf st hg;subst hP hw hK;obtain⟨xs,x,hq,hx⟩:=hg;obtain⟨its,rv,p,hz⟩:=I.list hq;obtain⟨u,hu,ru⟩:=rv.get hx;obtain⟨⟨old,he⟩,hit⟩:=st;have fe:=hf e (by simp);have fi:=hf it (by simp);refine wpAny_pyNext_enum_item he hit p.isList (x:=u) (by simpa using hu) hne λh' out hit' htup hsz hk=>?_;have elt:e<s.heap.objs.size:=yN he;have ilt:it<s.heap.objs.size:=by
   obtain⟨o,ho,_⟩:=hit;exact yN ho
  refine#[.ref s.heap.objs.size,rfl,wpAny_letOwnedTupleGo_enum out λh'' he'' hs''=>?_];have fresh:=I.hok.fresh (zS s.heap.objs.size);have I1:=I.laid (a:=s.heap.objs.size) (o:=.tup [.int (i:Nat),x]) (h':=s.heap.push {cls:=.type "tuple",data:=.seq (List.toArray [.int (i:Nat) s.toks,u])}) (t':=s.toks) (λb o q=>zL _ q) (zS _)
   #[sm2,[.int (i:Nat) s.toks,u],.cons #[-1] (.cons ru .nil),IsTup.new _ _]
  have fe':Hv X j8 (upd H s.heap.objs.size (.tup [.int (i:Nat),x])) e:=#[by rw[yQ (xT elt)];exact fe.1,fe.2];have fi':Hv X j8 (upd H s.heap.objs.size (.tup [.int (i:Nat),x])) it:=#[by rw[yQ (xT ilt)];exact fi.1,fi.2];have I2:=I1.turned2 (h':=h'') (t':=s.toks+1) (λb o hbe hbi q=>?_) fe' fi'
  ·refine#[.ref s.heap.objs.size,_,I2,rfl,#[s.heap.objs.size,x,rfl,fresh,rfl,λys hy=>by rw[I.list_inj hy hq];exact hx],#[#[u,he''],hit'.at λo q=>(hs''.2 it (Ne.symm hne)).trans q],λb hb=>?_]
   rcases List.mem_cons.mp hb with z|z
   ·rw[z];exact fe'.1
   ·rw[List.mem_singleton.mp z];exact fi'.1
  ·rw[hs''.2 b hbe]
   by_cases hb:b=s.heap.objs.size
   ·subst hb;rw[htup];rw[<-q];exact(yI _ rfl).symm
   ·refine hk b o hbe hbi ?_
    rcases DC q with⟨z,_⟩|z
    ·exact absurd z hb
    ·exact z
 done:=by
  intro X hP hw hK hc i j8 s U H E I hf st hg;subst hP hw hK;obtain⟨xs,hq,hx⟩:=hg;obtain⟨its,rv,p,hz⟩:=I.list hq;obtain⟨⟨old,he⟩,hit⟩:=st;have hl:=rv.length;obtain⟨f0,f1,f2,f3,f4,f5⟩:=hf it (by simp);exact wpAny_pyNext_enum_end (I.ok.hd hc) he hit p.isList (by simp;lia) λh' eb=>#[rfl,I.turned (t':=s.toks) (λb o hb q=>eb b o hb q) f0 f1 f3 f4 f5]
 self:=λ_ _ _ _ _ st h=>by
  obtain⟨⟨old,he⟩,_⟩:=st;exact uG he h
inductive Ws (K:a7) (vs:List V) (H1:Hp) (R:It->Hp->Prop):Prop
 |mk (a xs:_) (h0:vs=[.ref a]) (h1:kF K H1 a xs) (h2:R (Ite K a) H1):Ws K vs H1 R
def zCu (K:a7)(ta:TA):TI:=λU H R=>ta U H λvs H1=>Ws K vs H1 R
theorem Sy {X:Cx}{elts:a6 j5}{x1:Nat}{tpos:Pos}{l:j5}{ta:TA}{p pos:Pos}(hg:Gl X "enumerate")(hm:X.mg "enumerate"=none)(ha:PA X [l] ta)(hs:autoParam (starEach [l] X.env=[(false,eval l X.env)]) L2.aE._auto_1):PI X (.Tuple elts x1 tpos) (.Call (.Name "enumerate" p) [l] [] pos) (zCu X.K ta):=by
 refine#[?_];intro j8 s U H R I h;refine Call_ (Eu I hg hm Gs (jG (wO (ha pos j8 s U H _ I h) λus s1 ⟨vs,H1,I1,r1,q1⟩=>?_) hs rfl));obtain⟨a,xs,e,hq,q⟩:=q1;subst e;obtain⟨u,rfl,ru⟩:=GD r1;cases ru;obtain⟨its,rv,pl,hz⟩:=I1.list hq;refine call_enumerate_list pl.isList λh' he hit hsz hk=>?_;refine uG (s:={s1 with heap:=h'}) he ?_;have I2:xY X j8 U H1 {s1 with heap:=h'}:=I1.kept (t':=s1.toks) hk;refine#[_,[s1.heap.objs.size+1,s1.heap.objs.size],_,_,H1,rfl,I2,Mu a (s1.heap.objs.size+1) s1.heap.objs.size (Db _),#[#[_,he],hit],λb hb=>?_,q]
 rcases List.mem_cons.mp hb with z|z
 ·rw[z];exact I1.fpOk (vF _) (I1.hok.fresh (vF _))
 ·rw[List.mem_singleton.mp z];exact I1.fpOk (zS _) (I1.hok.fresh (zS _))
theorem Ly {K:a7}{a:i3}{xs:a6 V}{g:TG}{tb:TS}{D:FI}{U:St}{H:Hp}(Pv:Nat->St->Hp->Prop)(h0:Pv 0 U H)(hl: ∀i U H,i<=xs.length->Pv i U H->kF K H a xs)
  (hs: ∀i x U H t,xs[i]? =some x->Pv i U H->H t=none->g (.ref t) U (upd H t (.tup [.int (i:Nat),x])) λU2 H2=>tb {D with nx:=Pv (i+1),ct:=Pv (i+1),bk:=D.nx} U2 H2) (hd: ∀U H,Pv xs.length U H->D.nx U H):
  ∃W:Nat->Nat->St->Hp->Prop,(∃m,W 0 m U H)/\ ∀i m U H,W i m U H->
   ((Ite K a).stop i H/\D.nx U H)\/((Ite K a).go i H/\ ∃N:St->Hp->Prop,(∀U' H',N U' H'-> ∃m',m'<m/\W (i+1) m' U' H')/\ ∀x H',(Ite K a).yld i H x H'->g x U H' λU2 H2=>tb {D with nx:=N,ct:=N,bk:=D.nx} U2 H2):=by
 refine#[λi m U H=>m=xs.length-i/\i<=xs.length/\Pv i U H,#[xs.length,by simp,xG _,h0],?_];rintro i m U H ⟨rfl,hi,p⟩;have q:=hl i U H hi p
 by_cases o5:i<xs.length
 ·refine .inr #[#[xs,xs[i],q,zF o5],Pv (i+1),λU' H' p'=>#[xs.length-(i+1),(),rfl,o5,p'],λy H' yd=>?_];obtain⟨t,x,rfl,ht,rfl,hx⟩:=yd;exact hs i x U H t (hx xs q) p ht
 ·have e:i=xs.length:=()
  subst e;exact .inl #[#[xs,q,zS _],hd U H p]
section
variable {κ:Type}[DecidableEq κ]
noncomputable def Ak (kvs:a6 (κ×V))(k:κ):i4 V:=(kvs.find? λkv=>decide (kv.1=k)).map (·.2)
noncomputable def Ea (kvs:a6 (κ×V))(k:κ)(v:V):a6 (κ×V):=
 if(kvs.any λkv=>decide (kv.1=k))=true then kvs.map (λkv=>if kv.1=k then(kv.1,v)else kv)else kvs++[(k,v)]
theorem AE {p:κ×V}{r:a6 (κ×V)}{k:κ}(e:p.1=k):Ak (p::r) k=some p.2:=by simp[Ak,Ao,e]
theorem AF {p:κ×V}{r:a6 (κ×V)}{k:κ}(e: ¬p.1=k):Ak (p::r) k=Ak r k:=by simp[Ak,Ao,e]
theorem IC (k:κ): ∀kvs:a6 (κ×V),(kvs.any λkv=>decide (kv.1=k))=(Ak kvs k).isSome
 |[]=>rfl
 |p::r=>by
  rw[Bq]
  by_cases e:p.1=k
  ·simp only[AE e,zQ e,Bool.true_or,Option.isSome_some]
  ·rw[AF e,zR e,Bool.false_or];exact IC k r
theorem OH (k j:κ)(y:V): ∀kvs:a6 (κ×V),Ak (kvs.map λkv=>if kv.1=k then(kv.1,y)else kv) j=(Ak kvs j).map λx=>if j=k then y else x
 |[]=>rfl
 |p::r=>by
  have ih:=OH k j y r;rw[yO]
  by_cases h:p.1=k
  ·rw[zP h]
   by_cases e:p.1=j
   ·rw[AE (p:=(p.1,y)) e,AE e,DM,zP (e.symm.trans h)]
   ·rw[AF (p:=(p.1,y)) e,AF e,ih]
  ·rw[zO h]
   by_cases e:p.1=j
   ·rw[AE (p:=p) e,AE e,DM,zO (λz=>h (e.trans z))]
   ·rw[AF (p:=p) e,AF e,ih]
theorem Mq (k j:κ)(y:V): ∀kvs:a6 (κ×V),Ak kvs k=none->Ak (kvs++[(k,y)]) j=if j=k then some y else Ak kvs j
 |[],_=>by
  by_cases e:k=j
  ·rw[zP e.symm];exact AE (p:=(k,y)) e
  ·rw[zO (λz=>e z.symm)];exact AF (p:=(k,y)) e
 |p::r,hn=>by
  rw[xH];have hk: ¬p.1=k:=λz=>by rw[AE z]at hn;cases hn
  rw[AF hk]at hn;have ih:=Mq k j y r hn
  by_cases e:p.1=j
  ·rw[AE e,AE e,zO (λz=>hk (e.trans z))]
  ·rw[AF e,AF e,ih]
theorem IB (kvs:a6 (κ×V))(k j:κ)(y:V):Ak (Ea kvs k y) j=if j=k then some y else Ak kvs j:=by
 unfold Ea
 by_cases a:(kvs.any λkv=>decide (kv.1=k))=true
 ·rw[zP a,OH];rw[IC]at a
  by_cases e:j=k
  ·obtain⟨x,hx⟩:=Option.isSome_iff_exists.mp a;rw[zP e,e,hx,DM,zP rfl]
  ·rw[zO e];cases Ak kvs j with
   |none=>rfl
   |some x=>rw[DM,zO e]
 ·rw[zO a];refine Mq k j y kvs ?_;rw[IC]at a;cases q:Ak kvs k with
  |none=>rfl
  |some x=>rw[q]at a;exact(a rfl).elim
theorem AK (kvs:a6 (κ×V))(k:κ)(v:V):(Ea kvs k v).length<=kvs.length+1:=by
 unfold Ea;split
 ·rw[zM];lia
 ·rw[zG,zJ,An];lia
theorem Ht.isSome_eq (r:Ht o u):o.isSome=u.isSome:=by
 cases o with
 |none=>cases u with
  |none=>rfl
  |some _=>exact(show False from r).elim
 |some _=>cases u with
  |none=>exact(show False from r).elim
  |some _=>rfl
theorem KV.val {kvs:a6 (κ×V)}{vs:a6 (κ×a9)}(r:KV kvs vs)(k:κ):Ht (Ak kvs k) (valueAt vs k):=by
 unfold KV at r
 induction r with
 |nil=>exact True.intro
 |@cons p q ps qs h t ih=>
  obtain⟨h1,h2⟩:=h
  by_cases e:p.1=k
  ·have e':q.1=k:=h1.symm.trans e;have b:valueAt (q::qs) k=some q.2:=by simp[valueAt,Ao,e']
   rw[AE e,b];exact h2
  ·have e': ¬q.1=k:=λz=>e (h1.trans z);have b:valueAt (q::qs) k=valueAt qs k:=by simp[valueAt,Ao,e']
   rw[AF e,b];exact ih
theorem KV.any (r:KV kvs vs)(k:κ):(kvs.any λkv=>decide (kv.1=k))=vs.any λkv=>decide (kv.1=k):=by
 unfold KV at r
 induction r with
 |nil=>rfl
 |cons h t ih=>rw[Bq,Bq,ih,h.1]
theorem KV.repl (r:KV kvs vs)(k:κ)(ry:kS y u):
  KV (kvs.map λkv=>if kv.1=k then(kv.1,y)else kv) (vs.map λkv=>if kv.1=k then(kv.1,u)else kv):=by
 unfold KV at r ⊢
 induction r with
 |nil=>exact .nil
 |@cons p q ps qs h t ih=>
  rw[yO,yO];refine .cons ?_ ih;obtain⟨h1,h2⟩:=h
  by_cases e:p.1=k
  ·rw[zP e,zP (h1.symm.trans e)];exact#[h1,ry]
  ·rw[zO e,zO (λz=>e (h1.trans z))];exact#[h1,h2]
theorem KV.put (r:KV kvs vs)(k:κ)(ry:kS y u):KV (Ea kvs k y) (stored vs k u):=by
 unfold Ea stored;rw[r.any k]
 by_cases e:(vs.any λkv=>decide (kv.1=k))=true
 ·rw[zP e,zP e];exact r.repl k ry
 ·rw[zO e,zO e];exact BD r #[rfl,ry]
theorem KV.length (r:KV kvs vs):kvs.length=vs.length:=Fp r
end
theorem MJ (r:kS (kV k) u):(wT P w).is k u=true:=by
 cases k with
 |inl i=>obtain⟨t,e⟩:=(show ∃t,u=Value.int i t from r);subst e;exact PM P w i t
 |inr x=>obtain⟨t,e⟩:=(show ∃t,u=Value.str x t from r);subst e;exact PL P w x t
theorem ML: ∀{ks:a6 Bk} {us:a6 a9},jU (ks.map kV) us->ItemsAre (wT P w) ks us
 |[],_,r=>by rw[List.map_nil]at r;cases r;exact .nil
 |k::ks,_,r=>by
  rw[yO]at r;cases r with
  |cons h t=>exact .cons (MJ h) (ML t)
abbrev KT (H:Hp):a6 (a6 Bk×V)->a6 (a6 Bk×i3×a9)->Prop:=Paired λp q=>p.1=q.1/\H q.2.1=some (.tup (p.1.map kV))/\kS p.2 q.2.2
theorem KT.val {H:Hp}{kvs:a6 (a6 Bk×V)}{xs:a6 (a6 Bk×i3×a9)}(r:KT H kvs xs)(k:a6 Bk):Ht (Ak kvs k) ((atKey xs k).map (·.2)):=by
 induction r with
 |nil=>exact True.intro
 |@cons p q ps qs h t ih=>
  obtain⟨h1,_,h2⟩:=h
  by_cases e:p.1=k
  ·have e':q.1=k:=h1.symm.trans e;have b:atKey (q::qs) k=some q.2:=by simp[atKey,Ao,e']
   rw[AE e,b];exact h2
  ·have e': ¬q.1=k:=λz=>e (h1.trans z);have b:atKey (q::qs) k=atKey qs k:=by simp[atKey,Ao,e']
   rw[AF e,b];exact ih
theorem KT.repl (r:KT H kvs xs)(k:a6 Bk)(ry:kS y u):
  KT H (kvs.map λkv=>if kv.1=k then(kv.1,y)else kv) (xs.map (putAt k u)):=by
 induction r with
 |nil=>exact .nil
 |@cons p q ps qs h t ih=>
  rw[yO,yO];refine .cons ?_ ih;obtain⟨h1,h2,h3⟩:=h;unfold putAt
  by_cases e:p.1=k
  ·rw[zP e,zP (h1.symm.trans e)];exact#[h1,h2,ry]
  ·rw[zO e,zO (λz=>e (h1.trans z))];exact#[h1,h2,h3]
theorem KT.put (r:KT H kvs xs)(k:a6 Bk)(hb:H b=some (.tup (k.map kV)))(ry:kS y u):
  KT H (Ea kvs k y) (storedH xs k b u):=by
 have e:(kvs.any λkv=>decide (kv.1=k))=(atKey xs k).isSome:=by
  rw[IC,(r.val k).isSome_eq,Fd]
 unfold Ea storedH;rw[e]
 by_cases q:(atKey xs k).isSome =true
 ·rw[zP q,zP q];exact r.repl k ry
 ·rw[zO q,zO q];exact BD r #[rfl,hb,ry]
theorem KT.keeps (r:KT H kvs xs)(ht: ∀b ys,H b=some (.tup ys)->H' b=some (.tup ys)):KT H' kvs xs:=
 Paired.mapP r λ_ _ z=>#[z.1,ht _ _ z.2.1,z.2.2]
section
variable {P:i6}{w:i9}{H:Hp}{h:j3}{a:i3}
theorem YE (ok:Ix P w H h)(e:Rd H a u):vV P w H h a u:=e.ok ok
theorem Qg (ok:Ix P w H h)(e:Rd H a (.dK kvs)):kvs.length<=sizeLine/\(a==sysModules)=false/\ ∃vs,KV kvs vs/\h.DictOf (wT P w) a vs:=
 show vV P w H h a (.dK kvs)from YE ok e
theorem zDd (ok:Ix P w H h)(e:H a=some (.dK kvs)):kvs.length<=sizeLine/\(a==sysModules)=false/\ ∃vs,KV kvs vs/\h.DictOf (wT P w) a vs:=Qg ok (.inl e)
theorem Lr (ok:Ix P w H h)(e:H a=some (.tup (ks.map kV))):(tupleKind (wT P w)).is h ks a:=by
 obtain⟨_,its,r,o,h1,h2,n,h3⟩:=(show vV P w H h a (.tup (ks.map kV))from ok a _ e);exact#[o,its.toArray,n,h1,h2,h3,by simpa using ML r]
theorem Qf (ok:Ix P w H h)(e:Rd H a (.dT kvs)):kvs.length<=sizeLine/\(a==sysModules)=false/\
  ∃xs,KT H kvs xs/\h.DictOfH (tupleKind (wT P w)) a xs:=by
 obtain⟨z,y,xs,r,o,es,ep,h1,h2,h3,h4,h5⟩:=(show vV P w H h a (.dT kvs)from YE ok e);refine#[z,y,xs,r,o,es,ep,h1,h2,h3,h4,λx hx=>?_,h5];have all: ∀{l:a6 (a6 Bk×V)} {m:a6 (a6 Bk×i3×a9)},KT H l m-> ∀x∈m,(tupleKind (wT P w)).is h x.1 x.2.1:=by
  intro l m q
  induction q with
  |nil=>intro x hx;exact nomatch hx
  |@cons p q ps qs hq t ih=>
   intro x hx
   rcases List.mem_cons.mp hx with e|hx
   ·subst e;exact Lr ok (by rw[<-hq.1];exact hq.2.1)
   ·exact ih x hx
 exact all r x hx
theorem zDc (ok:Ix P w H h)(e:H a=some (.dT kvs)):kvs.length<=sizeLine/\(a==sysModules)=false/\
  ∃xs,KT H kvs xs/\h.DictOfH (tupleKind (wT P w)) a xs:=Qf ok (.inl e)
end
def EC (H:Hp)(a:i3)(y:V)(r:i4 V):Prop:=
 (∃kvs k,Rd H a (.dK kvs)/\y=kV k/\r=Ak kvs k)\/ ∃kvs k b,Rd H a (.dT kvs)/\y=.ref b/\H b=some (.tup (k.map kV))/\r=Ak kvs k
def Qr (H:Hp)(a:i3)(y v:V)(H':Hp):Prop:=
 (∃kvs k,H a=some (.dK kvs)/\y=kV k/\kvs.length<sizeLine/\H'=upd H a (.dK (Ea kvs k v)))\/
 ∃kvs k b,H a=some (.dT kvs)/\y=.ref b/\H b=some (.tup (k.map kV))/\kvs.length<sizeLine/\H'=upd H a (.dT (Ea kvs k v))
theorem EC.k {H:Hp}{a:i3}{kvs:a6 (Bk×V)}{k:Bk}(e:H a=some (.dK kvs)):EC H a (kV k) (Ak kvs k):=.inl #[kvs,k,.inl e,rfl,rfl]
theorem Qr.k {H:Hp}{a:i3}{kvs:a6 (Bk×V)}{k:Bk}{v:V}(e:H a=some (.dK kvs))(hl:kvs.length<sizeLine):Qr H a (kV k) v (upd H a (.dK (Ea kvs k v))):=.inl #[kvs,k,e,rfl,hl,rfl]
section
variable {X:Cx}{j8:a6 (i3×j7)}{U:St}{H:Hp}{s:i5}{a:i3}{y v:V}{u r:a9}{o:i4 V}{A:j4}{E:a9->i5->Prop}
theorem xY.big (I:xY X j8 U H s):sysModules<s.heap.objs.size:=by
 have h:mainGlobals<s.heap.objs.size:=(I.mod.glob.keeps I.bk).lt;exact Nat.lt_trans (by decide) h
theorem Ui (hu:A.units+1<cLine)(I:xY X j8 U H s)(g:EC H a y (some v))(ry:kS y u)(h: ∀w' s',xY X j8 U H s'->kS v w'->Q w' s'):
  wpAny (model X.prog X.w) A (getItem (.ref a) u) Q E s:=by
 rcases g with⟨kvs,k,e,ey,l⟩|⟨kvs,k,b,e,ey,eb,l⟩
 ·subst ey;obtain⟨z,hd,vs,rel,dd⟩:=Qg I.hok e;obtain⟨w',hw,rw'⟩:=Ht.some_of (v:=v) (o:=valueAt vs k) (by rw[l];exact rel.val k);exact wpAny_getItem_of (MJ ry) dd.mapOf hw (h w' _ (I.tok _) rw')
 ·subst ey;cases(show u=Value.ref b from ry);obtain⟨z,hd,xs,rel,dd⟩:=Qf I.hok e;obtain⟨w',hw,rw'⟩:=Ht.some_of (v:=v) (o:=(atKey xs k).map (·.2)) (by rw[l];exact rel.val k);obtain⟨p,hp,hp2⟩:=Option.map_eq_some_iff.mp hw;refine wpAny_getItem_heap (BB hu) (Lr I.hok eb) dd hp ?_;rw[hp2];exact h w' _ (I.tok _) rw'
theorem zGx (hu:A.units+1<cLine)(I:xY X j8 U H s)(g:EC H a y o)(ry:kS y u)(h: ∀s',xY X j8 U H s'->Q (.bool o.isSome) s'):
  wpAny (model X.prog X.w) A (compareOp .In u (.ref a)) Q E s:=by
 rcases g with⟨kvs,k,e,ey,l⟩|⟨kvs,k,b,e,ey,eb,l⟩
 ·subst ey;obtain⟨z,hd,vs,rel,dd⟩:=Qg I.hok e;refine wpAny_in_of (MJ ry) hd dd.mapOf ?_;rw[<-(rel.val k).isSome_eq,<-l];exact h _ (I.tok _)
 ·subst ey;cases(show u=Value.ref b from ry);obtain⟨z,hd,xs,rel,dd⟩:=Qf I.hok e;refine wpAny_in_heap (BB hu) (Lr I.hok eb) hd dd ?_;have q:=(rel.val k).isSome_eq;rw[Fd]at q;rw[<-q,<-l];exact h _ (I.tok _)
theorem Yl (hu:A.units+1<cLine)(I:xY X j8 U H s)(g:EC H a y o)(ry:kS y u)(h: ∀s',xY X j8 U H s'->Q (.bool (!o.isSome)) s'):
  wpAny (model X.prog X.w) A (compareOp .NotIn u (.ref a)) Q E s:=by
 rcases g with⟨kvs,k,e,ey,l⟩|⟨kvs,k,b,e,ey,eb,l⟩
 ·subst ey;obtain⟨z,hd,vs,rel,dd⟩:=Qg I.hok e;refine wpAny_notIn_of (MJ ry) hd dd.mapOf ?_;rw[<-(rel.val k).isSome_eq,<-l];exact h _ (I.tok _)
 ·subst ey;cases(show u=Value.ref b from ry);obtain⟨z,hd,xs,rel,dd⟩:=Qf I.hok e;refine wpAny_notIn_heap (BB hu) (Lr I.hok eb) hd dd ?_;have q:=(rel.val k).isSome_eq;rw[Fd]at q;rw[<-q,<-l];exact h _ (I.tok _)
theorem SU {h':j3}{t':Nat}{ob:HO}(I:xY X j8 U H s)(mu:Mut (H a))(hs:Heap.SameBut a s.heap h')(he: ∃q,h'.get? a=some q)(new:vV X.prog X.w (upd H a ob) h' a ob):
  xY X j8 U (upd H a ob) {s with heap:=h',toks:=t'}:=
 I.write (x:=a) (e:=a) mu (.inl rfl) (λb q hb z=>(hs.2 b hb).trans z) he new
theorem WJ (z:kvs.length<=sizeLine)(hd:(a==sysModules)=false)(rel:KV kvs vs)(dd:h'.DictOf (wT P w) a vs):
  vV P w H' h' a (.dK kvs):=#[z,hd,vs,rel,dd]
theorem Uh (hu:A.units+1<cLine)(I:xY X j8 U H s)(g:Qr H a y v H')(ry:kS y u)(rv:kS v r)(h: ∀s',xY X j8 U H' s'->Q Unit.unit s'):
  wpAny (model X.prog X.w) A (setItem (.ref a) u r) Q E s:=by
 rcases g with⟨kvs,k,e,ey,l,eH⟩|⟨kvs,k,b,e,ey,eb,l,eH⟩
 ·subst ey eH;obtain⟨z,hd,vs,rel,dd⟩:=zDd I.hok e;have hz:vs.length<=sizeLine:=by rw[<-rel.length];exact z
  have hl:(Ea kvs k v).length<=sizeLine:=by have:=AK kvs k v;lia
  refine wpAny_setItem_pairs (hsz:=hz) (MJ ry) dd λh' dd' hs=>h _ ?_;have he: ∃q,h'.get? a=some q:=let⟨q,_,_,hq,_⟩:=dd';#[q,hq];exact SU I (by rw[e];exact True.intro) hs he (WJ hl hd (rel.put k rv) dd')
 ·subst ey eH;cases(show u=Value.ref b from ry);obtain⟨z,hd,xs,rel,dd⟩:=zDc I.hok e;have hz:xs.length<=sizeLine:=by rw[<-Fp rel];exact z
  have hl:(Ea kvs k v).length<=sizeLine:=by have:=AK kvs k v;lia
  refine wpAny_setItem_heap (hsz:=hz) (BB hu) (Lr I.hok eb) dd λh' dd' hs=>h _ ?_;obtain⟨q,es,ep,hq,h2,h3,h4,_,h5⟩:=dd';refine SU I (by rw[e];exact True.intro) hs #[q,hq] #[hl,hd,_,(rel.put k eb rv).keeps λc ys ec=>?_,q,es,ep,hq,h2,h3,h4,h5];rw[yQ (zCm ec e (λz=>nomatch z))];exact ec
end
def zDo (i:j5):Prop:= ∀ov iv,subscripted i false ov iv=operate [ov,iv] (getItem ov iv)
theorem Xi {prog:i6}{w:i9}{A:j4}{E:a9->i5->Prop}{s:i5}{env:Env}{value slice:j5}{pos:Pos}{T id:String}{Q:a9->i5->Prop}
  (hl:typeLookup (.type T) "__getitem__"=pure (some (.builtin id))) (hs:zDo slice)
  (h:wpAny (model prog w) A (eval value env) (λo s₁=>wpAny (model prog w) A (eval slice env) (λi s₂=>s₂.TypeIs o T/\wpAny (model prog w) A (getItem o i) Q E s₂) E s₁) E s):
  wpAny (model prog w) A (eval (.Subscript value slice pos) env) Q E s:=by
 refine Subscript_ (AM h (λo s₁ h₁=>AM h₁ (λi s₂ h₂=>?_) λ_ _ x=>x) λ_ _ x=>x);obtain⟨hT,h₂⟩:=h₂;unfold subscriptTail;refine zD ?_;rw[getitemInPython_of_ne hT.not_modules];refine zD (Bu hT hl ?_);have fin:wpAny (model prog w) A (subscripted slice false o i) (λr s₃=>wpAny (model prog w) A (letTemporaryGo value o r>>=λ_=>pure r) Q E s₃) E s₂:=by
  rw[hs o i];exact wpAny_operating (AM h₂ (λr s₃ h₃=>zD (wpAny_letTemporaryGo (yB h₃))) λ_ _ x=>x)
 first
  |exact yB (zD fin)
  |exact zD (yB (zD fin))
  |exact zD fin
theorem Qh (I:xY X j8 U H s)(g:EC H a y o):s.TypeIs (.ref a) "dict":=by
 rcases g with⟨kvs,k,e,_,_⟩|⟨kvs,k,b,e,_,_,_⟩
 ·obtain⟨_,_,vs,_,dd⟩:=Qg I.hok e;exact dd.typeIs
 ·obtain⟨_,_,xs,_,dd⟩:=Qf I.hok e;exact dd.typeIs
def zBn (td ty:TE):TE:=λU H Q=>td U H λx H1=>ty U H1 λy H2=> ∃a v,x=.ref a/\EC H2 a y (some v)/\Q v H2
def zEt (ty td:TE):TE:=λU H Q=>ty U H λy H1=>td U H1 λx H2=> ∃a o,x=.ref a/\EC H2 a y o/\Q (.bl o.isSome) H2
def Xh (ty td:TE):TE:=λU H Q=>ty U H λy H1=>td U H1 λx H2=> ∃a o,x=.ref a/\EC H2 a y o/\Q (.bl (!o.isSome)) H2
def zBs (td ty tv:TE):TS:=λD U H=>tv U H λv H1=>td U H1 λx H2=>ty U H2 λy H3=> ∃a H4,x=.ref a/\Qr H3 a y v H4/\D.nx U H4
section
variable {X:Cx}{o i e value:j5}{pos pos' tpos:Pos}{td ty tv:TE}
theorem AV (hu:X.A.units+1<cLine)(ho:PE X o td)(hi:PE X i ty)(hs:zDo i):PE X (.Subscript o i pos) (zBn td ty):=by
 refine#[?_];intro j8 s U H Q I h;refine Xi PySem.F.slot_dict_getitem.lookup hs (wO (ho j8 s U H _ I h) λu s1 ⟨x,H1,I1,rx,q1⟩=>wO (hi j8 s1 U H1 _ I1 q1) λiv s2 m7=>?_);obtain⟨y,H2,I2,ry,a,v,ex,g,q2⟩:=m7;subst ex;obtain rfl:u=Value.ref a:=rx;exact#[Qh I2 g,Ui hu I2 g ry λw' s3 I3 rw'=>#[v,H2,I3,rw',q2]]
theorem QW (hu:X.A.units+1<cLine)(hi:PE X i ty)(ho:PE X o td):PC X .In i o (zEt ty td):=by
 refine#[?_];intro j8 s U H Q I h;refine wO (hi j8 s U H _ I h) λiv s1 ⟨y,H1,I1,ry,q1⟩=>wO (ho j8 s1 U H1 _ I1 q1) λu s2 m7=>?_;obtain⟨x,H2,I2,rx,a,ov,ex,g,q2⟩:=m7;subst ex;obtain rfl:u=Value.ref a:=rx;exact zGx hu I2 g ry λs3 I3=>#[.bl ov.isSome,H2,I3,rfl,q2]
theorem MB (hu:X.A.units+1<cLine)(hi:PE X i ty)(ho:PE X o td):PC X .NotIn i o (Xh ty td):=by
 refine#[?_];intro j8 s U H Q I h;refine wO (hi j8 s U H _ I h) λiv s1 ⟨y,H1,I1,ry,q1⟩=>wO (ho j8 s1 U H1 _ I1 q1) λu s2 m7=>?_;obtain⟨x,H2,I2,rx,a,ov,ex,g,q2⟩:=m7;subst ex;obtain rfl:u=Value.ref a:=rx;exact Yl hu I2 g ry λs3 I3=>#[.bl (!ov.isSome),H2,I3,rfl,q2]
theorem Kp (hu:X.A.units+1<cLine)(ho:PE X o td)(hi:PE X i ty)(hv:PE X value tv)(hs:swapsWith value (some (.Subscript o i pos')) pos.line X.env=pure false):
  PS X (.Assign [.Subscript o i pos'] value pos) (zBs td ty tv):=by
 refine#[?_];intro j8 s U H D I h;refine wpAny_Assign_Subscript (wO (hv j8 s U H _ I h) λr s1 ⟨v,H1,I1,rv,q1⟩=>wO (ho j8 s1 U H1 _ I1 q1) λu s2 ⟨x,H2,I2,rx,q2⟩=>wO (hi j8 s2 U H2 _ I2 q2) λiv s3 ⟨y,H3,I3,ry,a,H4,ex,g,q3⟩=>?_) hs;subst ex;obtain rfl:u=Value.ref a:=rx;exact Uh hu I3 g ry rv λs4 I4=>#[U,H4,I4,q3]
end
theorem WK (h:j3)(hb:sysModules<h.objs.size):vV P w H (h.push {cls:=.type "dict",data:=.dict #[]}) h.objs.size (.dK []):=
 #[xG _,beq_eq_false_iff_ne.mpr (Ne.symm (xT hb)),[],.nil,Heap.DictOf.new h]
def Zl:TE:=λ_ H Q=> ∀p,H p=none->Q (.ref p) (upd H p (.dK []))
section
variable {X:Cx}{pos:Pos}
theorem IR:PE X (.Dict [] [] pos) Zl:=#[λj8 s U H Q I h=>
 wpAny_Dict_empty #[.ref s.heap.objs.size,_,I.laid (a:=s.heap.objs.size) (o:=.dK []) (t':=s.toks) (λ_ _ q=>zL _ q) (zS _) (WK s.heap I.big),rfl,h _ (I.hok.fresh (zS _))]]
end
structure M1 (X:Cx)(o:j5)(m:Str)(o8:Pos)(e:j5)(p8:Pos):Prop where
 base:attributeBase o m X.env (eval o X.env)=eval o X.env
 few:((backTo p8 (starEach [e] X.env)).all (λx=>!x.1)&&(backToKw p8 (keywordEach [] X.env)).all (λx=>x.1.isSome)
  &&decide (([e]:List j5).length +([]:List Keyword).length +(if([]:List Keyword).isEmpty then 0 else 1)<30))=true
 line:(o8.endLine==p8.line)=true
 trees:backTo p8 (starEach [e] X.env)=[(false,eval e X.env)]
structure M2 (X:Cx)(o:j5)(m:Str)(o8:Pos)(e f:j5)(p8:Pos):Prop where
 base:attributeBase o m X.env (eval o X.env)=eval o X.env
 few:((backTo p8 (starEach [e,f] X.env)).all (λx=>!x.1)&&(backToKw p8 (keywordEach [] X.env)).all (λx=>x.1.isSome)
  &&decide (([e,f]:List j5).length +([]:List Keyword).length +(if([]:List Keyword).isEmpty then 0 else 1)<30))=true
 line:(o8.endLine==p8.line)=true
 trees:backTo p8 (starEach [e,f] X.env)=[(false,eval e X.env),(false,eval f X.env)]
section
variable {X:Cx}
def zEb (i j:Int):Prop:=i.natAbs<2^2000/\j.natAbs<2^2000
theorem XF:Hu X (binaryOp .Mult) (rI zEb λi j=>.int (i*j)):=ZO λi j _ _ _ _ _ hc q=>by
 refine mul_int q ?_;exact IntMulOk.of_le (FM hc.1) (FM hc.2) (by decide)
def YY (i j:Int):Prop:=j≠0/\j.natAbs<2^2000
theorem Lj:Hu X (binaryOp .FloorDiv) (rI YY λi j=>.int (i.fdiv j)):=ZO λi j _ _ _ _ _ hc q=>by
 have h:j.natAbs.log2<2000:=(Nat.log2_lt (by have:=hc.1;lia)).mpr hc.2;exact floordiv_int hc.1 q (.inl (Fo ()))
end
theorem Jc (k:Int): ∀ns:a6 Int,YN (.int k) (ns.map V.int)=decide (k∈ns)
 |[]=>rfl
 |n::r=>by
  have ih:=Jc k r;unfold YN at ih ⊢;rw[yO,Bq,ih]
  by_cases h:n=k
  ·subst h;simp[Fs]
  ·have h2: ¬k=n:=λz=>h z.symm
   simp[Fs,h,h2]
theorem vt (c:decide (V.int a=V.int b)=true):a=b:=by
 have:=yG c;injection this
theorem vf (c: ¬decide (V.int a=V.int b)=true):a≠b:=λe=>c (zQ (by rw[e]))
theorem df [Decidable c](h: ¬decide c=true): ¬c:=vM (Bool.eq_false_iff.mpr h)
theorem Gu {ns:a6 Int}{k:Int}(h0:0<=k)(h:k<(ns.length:Int)): ∃v:Int,v∈ns/\Gv (ns.map V.int) k=some (.int v):=by
 have hk:k.toNat<ns.length:=()
 have q:Gv (ns.map V.int) ((k.toNat:Nat):Int)=some (.int ns[k.toNat]):=kG (by rw[yJ,zF hk]<;>rfl);rw[show((k.toNat:Nat):Int)=k by lia]at q;exact#[_,vH hk,q]
end L2
namespace L2
open PySem
theorem LL:bootBuiltins "all"=some (.builtin "all"):=by decide+kernel
theorem UT (K:a7)(hK:X.K=K):SlR X (Zx K):=hK▸Br
theorem LJ (K:a7)(hK:X.K=K):EE X (.type "tuple") (λxs H Q=> ∃p ys,xs=[.ref p]/\((kF K H p ys/\ ∀l,H l=none->Q (.ref l) (upd H l (.tup ys)))\/(uZ K H p ys/\Q (.ref p) H))):=hK▸HU
theorem Ez (x y z:Int)(ha: ∀R:VK,R (.int x) H->ta U H R)(hb: ∀R:VK,R (.int y) H->tb U H R)(hc: ∀R:VK,R (.int z) H->tc U H R)(h: ∀r:i7,(r=true ↔ x<=y/\y<=z)->Q (.bl r) H):
  Ng (Tn λi j=>V.bl (decide (i<=j))) (Tn λi j=>V.bl (decide (i<=j))) ta tb tc U H Q:=by
 refine ha _ (hb _ #[x,y,rfl,rfl,-1,jB (λc=>?_) (λc=>?_)])
 ·exact hc _ #[y,z,rfl,rfl,h _ #[λe=>#[yG c,yG e],λe=>zQ e.2]]
 ·exact h _ #[λe=>(nomatch e),λe=>absurd e.1 (df c)]
theorem FH (x y z:Int)(ha: ∀R:VK,R (.int x) H->ta U H R)(hb: ∀R:VK,R (.int y) H->tb U H R)(hc: ∀R:VK,R (.int z) H->tc U H R)(h: ∀r:i7,(r=true ↔ x<=y/\y<z)->Q (.bl r) H):
  Ng (Tn λi j=>V.bl (decide (i<=j))) (Tn λi j=>V.bl (decide (i<j))) ta tb tc U H Q:=by
 refine ha _ (hb _ #[x,y,rfl,rfl,-1,jB (λc=>?_) (λc=>?_)])
 ·exact hc _ #[y,z,rfl,rfl,h _ #[λe=>#[yG c,yG e],λe=>zQ e.2]]
 ·exact h _ #[λe=>(nomatch e),λe=>absurd e.1 (df c)]
theorem LX {n k:Nat}(hk:k=2\/k=3):Builtin.Range.rangeSize 0 (n:Int) (k:Int)=(((n+(k-1)) / k:Nat):Int):=by
 unfold Builtin.Range.rangeSize
 rcases hk with rfl|rfl<;>split<;>lia
def AL (op n nf nr:Int):Prop:=
 op=0\/(op=1\/op=2)/\0<=n/\n<12\/(op=4\/op=5)/\0<=n/\n<nr\/op=6/\0<=n/\n<nf\/op=10/\8<=n/\n<=19\/op=11/\2<=n/\n<=12\/(op=3\/op=7\/op=8\/op=9)/\n=0
def Iw (s p b fn nr:Int):Prop:=0<=s/\s<nr/\0<=p/\p<=4/\(fn=0->p=0)/\p<=b/\b<=12
noncomputable def GA (k:Nat)(ns:a6 Int):a6 (a6 Int):=(List.range ((ns.length+(k-1)) / k)).map λi=>(ns.drop (i*k)).take k
def CG (H:Hp)(v:V)(zs:a6 Int):Prop:= ∃t,v=.ref t/\H t=some (.tup (zs.map V.int))
def qS (H:Hp)(l:i3)(gs:a6 (a6 Int)):Prop:= ∃rs,H l=some (.lst rs)/\Paired (CG H) rs gs
theorem Qk (ns:a6 Int)(a b:Nat):Bg (ns.map V.int) (some (a:Int)) (some (b:Int))=((ns.drop a).take (b-a)).map V.int:=by
 unfold Bg;rw[HT.sIx_nat,HT.sIx_nat,zM,List.map_take,List.map_drop]
 by_cases h:a<=ns.length
 ·rw[Bw h]
  by_cases h2:b<=ns.length
  ·rw[Bw h2]
  ·rw[Dc (),xW (by simp),xW (by simp;lia)]
 ·have e1:((ns.map V.int).drop (min a ns.length))=[]:=kL (by simp;lia);have e2:((ns.map V.int).drop a)=[]:=kL (by simp;lia);rw[e1,e2,List.take_nil,List.take_nil]
theorem RI (ns:a6 Int)(a:Nat):Bg (ns.map V.int) (some (a:Int)) none=(ns.drop a).map V.int:=by
 unfold Bg;rw[HT.sIx_nat,HT.sIx_none,zM,List.map_drop]
 by_cases h:a<=ns.length
 ·rw[Bw h,xW (by simp)]
 ·rw[Dc (),kL (by simp),kL (by simp;lia)]
  simp
theorem Yb (k:Nat)(ns:a6 Int):(GA k ns).length =(ns.length+(k-1)) / k:=by unfold GA;simp
theorem Ww (h:i<(ns.length+(k-1)) / k):(GA k ns).take (i+1)=(GA k ns).take i++[(ns.drop (i*k)).take k]:=by
 have e:(GA k ns)[i]? =some ((ns.drop (i*k)).take k):=by
  unfold GA;rw[yJ,vB h]<;>rfl
 rw[vN,e]<;>rfl
theorem CG.upd (h:CG H v zs)(hp:H p=some (.lst xs)):CG (upd H p o) v zs:=by
 obtain⟨t,rfl,e⟩:=h;have ne:t≠p:=λz=>by rw[z,hp]at e;cases e
 exact#[t,rfl,by rw[yQ ne];exact e]
theorem CG.same (h:CG H v zs)(s:xK H H'):CG H' v zs:=by
 obtain⟨t,rfl,e⟩:=h;exact#[t,rfl,s _ _ e]
theorem qS.same (h:qS H l gs)(s:xK H H'):qS H' l gs:=by
 obtain⟨rs,e,p⟩:=h;exact#[rs,s _ _ e,p.mono λ_ _ x=>x.same s]
noncomputable def headNums (ns:a6 Int):a6 Int:=(ns.drop 1).take (3*(ns.headD 0).toNat)
noncomputable def rowNums (ns:a6 Int):a6 Int:=ns.drop (1+3*(ns.headD 0).toNat)
theorem Wu (e:ns=n::ms)(hn:0<=n):Bg (ns.map V.int) (some 1) (some (1+3*n))=(headNums ns).map V.int:=by
 have h:=Qk ns 1 (1+3*n.toNat);rw[show((1+3*n.toNat:Nat):Int)=1+3*n by lia,show((1:Nat):Int)=1 from rfl,BE]at h;rw[h,e]<;>rfl
theorem Xo (e:ns=n::ms)(hn:0<=n):Bg (ns.map V.int) (some (1+3*n)) none=(rowNums ns).map V.int:=by
 have h:=RI ns (1+3*n.toNat);rw[show((1+3*n.toNat:Nat):Int)=1+3*n by lia]at h;rw[h,e]<;>rfl
theorem Ox (e:ns=n::ms):Gv (ns.map V.int) 0=some (.int n):=by
 have:=kG (xs:=ns.map V.int) (j:=0) (v:=.int n) (by rw[e]<;>rfl);exact this
theorem ZS (h:0<=n)(h':n<=16):WY 3 n:=by
 unfold WY;have:n.natAbs<=16:=()
 lia
def RE (g:a6 Int)(i nr:Nat):Prop:= ∃s p b,g=[s,p,b]/\Iw s p b i nr
def CF (g:a6 Int)(nf nr:Nat):Prop:= ∃op n,g=[op,n]/\AL op n nf nr
structure ED (ns:List Int):Prop where
 big: ∃n ms,ns=n::ms/\1<=n/\n<=16/\3*n+2<=ms.length/\(ms.length-3*n.toNat) % 2=0
 heads: ∀i g,(GA 3 (headNums ns))[i]? =some g->RE g i ((rowNums ns).length / 2)
 rows: ∀g∈GA 2 (rowNums ns),CF g (ns.headD 0).toNat ((rowNums ns).length / 2)
theorem Paired.yonder {α β:Type}{F:α->β->Prop}{xs:a6 α}{ys:a6 β}(h:Paired F xs ys): ∀{j:Nat} {x:α},xs[j]? =some x-> ∃y,ys[j]? =some y/\F x y:=by
 induction h with
 |nil=>intro j x h;cases h
 |cons r t ih=>
  intro j x h;cases j with
  |zero=>cases h;exact#[-1,r]
  |succ j=>exact ih (by simpa using h)
theorem SO {k i:Nat}{ns g:a6 Int}(hk:k=2\/k=3)(hd:ns.length % k=0)(h:(GA k ns)[i]? =some g):g.length=k:=by
 unfold GA at h;rw[yJ]at h
 by_cases hi:i<(ns.length+(k-1)) / k
 ·rw[vB hi]at h;cases h;rw[yW,jI]
  rcases hk with rfl|rfl<;>lia
 ·rw[wK (by simp;lia)]at h;cases h
theorem zGo (h:g.length=3): ∃a b c,g=[a,b,c]:=match g,h with
 |[a,b,c],_=>#[a,b,c,rfl]
theorem ZX (h:g.length=2): ∃a b,g=[a,b]:=match g,h with
 |[a,b],_=>#[a,b,rfl]
theorem WQ:(bs++[b]).all id=true ↔ bs.all id=true/\b=true:=by simp
inductive KJ (vs:List V) (H:Hp) (Q:VK) (E:XK):Prop
 |mk (t s p b fn nr:_) (h0:vs=[.ref t,.int fn,.int nr]) (h1:H t=some (.tup [.int s,.int p,.int b])) (h2: ∀r,(r=true ↔ Iw s p b fn nr)->Q (.bl r) H):KJ vs H Q E
inductive No (vs:List V) (H:Hp) (Q:VK) (E:XK):Prop
 |mk (t op n nf nr:_) (h0:vs=[.ref t,.int nf,.int nr]) (h1:H t=some (.tup [.int op,.int n])) (h2: ∀r H',xK H H'->(r=true ↔ AL op n nf nr)->Q (.bl r) H'):No vs H Q E
inductive Nw (vs:List V) (H:Hp) (Q:VK) (E:XK):Prop
 |mk (op:Int) (h0:vs=[.int op]) (h1: ∀r H',xK H H'->(r=true ↔ op=3\/op=7\/op=8\/op=9)->Q (.bl r) H'):Nw vs H Q E
inductive HA (vs:List V) (H:Hp) (Q:VK) (E:XK):Prop
 |mk (a:i3) (ns:List Int) (k:Nat) (h0:vs=[.ref a,.int k]) (h1:(k=2\/k=3)) (h2:H a=some (.lst (ns.map V.int))) (h3:ns.length<=1000000) (h4: ∀l H',xK H H'->H l=none->qS H' l (GA k ns)->Q (.ref l) H'):HA vs H Q E
inductive Hz (vs:List V) (H:Hp) (Q:VK) (E:XK):Prop
 |mk (a:i3) (ns:List Int) (h0:vs=[.ref a]) (h1:H a=some (.lst (ns.map V.int))) (h2:ns.length<=1000000) (h3:(∃n ms,ns=n::ms/\0<=n/\n<=16)) (h4: ∀l H',xK H H'->H l=none->qS H' l (GA 3 (headNums ns))->Q (.ref l) H'):Hz vs H Q E
inductive IE (vs:List V) (H:Hp) (Q:VK) (E:XK):Prop
 |mk (a:i3) (ns:List Int) (h0:vs=[.ref a]) (h1:H a=some (.lst (ns.map V.int))) (h2:ns.length<=1000000) (h3:(∃n ms,ns=n::ms/\0<=n/\n<=16)) (h4: ∀l H',xK H H'->H l=none->qS H' l (GA 2 (rowNums ns))->Q (.ref l) H'):IE vs H Q E
inductive KC (vs:List V) (H:Hp) (Q:VK) (E:XK):Prop
 |mk (a:i3) (ns:List Int) (h0:vs=[.ref a]) (h1:H a=some (.lst (ns.map V.int))) (h2:ns.length<=1000000) (h3: ∀H',xK H H'->Q (.bl true) H'):KC vs H Q E
inductive Ei (vs:List V) (H:Hp) (Q:VK) (E:XK):Prop
 |mk (a:i3) (ns:List Int) (h0:vs=[.ref a]) (h1:H a=some (.lst (ns.map V.int))) (h2:ns.length<=1000000) (h3: ∀r H',xK H H'->(r=true ↔ ED ns)->Q (.bl r) H'):Ei vs H Q E
end L2
namespace L2
open PySem PySem.Spec PyProof.Rows
inductive Tr where
 |mk (kind:Int) (own:List Int) (parts:List Tr)
mutual
noncomputable def Gn:Tr->a6 Int
 | .mk k own ps=>k::(own++qQ ps)
noncomputable def qQ:a6 Tr->a6 Int
 |[]=>[]
 |a::r=>Gn a++qQ r
end
theorem IU: ∀(xs ys:a6 Tr),qQ (xs++ys)=qQ xs++qQ ys
 |[],ys=>by simp[qQ]
 |a::r,ys=>by simp[qQ,IU r ys]
def Jl (H:Hp):Nat->V->Tr->Prop
 |0,_,_=>False
 |d+1,v,.mk k own ps=> ∃t pl o q vs,v=.ref t/\H t=some (.tup [.int k,.int pl,.ref o,.ref q])/\H o=some (.tup (own.map V.int))/\H q=some (.tup vs)/\Paired (Jl H d) vs ps
theorem Jl.tups (h:qE H H'): ∀{d:Nat} {v:V} {n:Tr},Jl H d v n->Jl H' d v n
 |0,_,_,z=>z.elim
 |d+1,v,.mk k own ps,z=>by obtain⟨t,pl,o,q,vs,e,h1,h2,h3,r⟩:=z;exact#[t,pl,o,q,vs,e,h _ _ h1,h _ _ h2,h _ _ h3,Paired.imp (λ_ _ z=>Jl.tups h z) r]
mutual
noncomputable def bare:Nd->Tr
 | .mk k _ own ps=>.mk k own (zU ps)
noncomputable def zU:a6 Nd->a6 Tr
 |[]=>[]
 |a::r=>bare a::zU r
end
section
theorem Kh (l:i3)(j9:j6 a9)(n:Nat)(b:i3)(items2:j6 a9)(n2:Nat)(dd:i4 i3)(sl:j6 (i4 a9))(hs0: ¬(!j9.isEmpty&&Builtin.List.listTooLong (j9.size+items2.size))=true)(hs1:j9.size<=sizeLine)(hs2:j9.size+items2.size<=sizeLine+1):
  Meets (Builtin.«list.extend» #[[.ref l,.ref b],[]]) (λ_ R s=>s.heap.get? l=some {cls:=.type "list",dict:=none,data:=.seq j9 n,slots:=#[]}/\s.heap.get? b=some #[.type "tuple",dd,.seq items2 n2,sl]/\R (.ok (.ret Value.none)) {s with heap:=s.heap.update l (Obj.mapSeq λx=>x++items2),toks:=s.toks}):=
 .of_wp λ_ _ _ _ σs hyp=>by
  obtain⟨σh,σg,σd,σt,σo⟩:=σs;obtain⟨atL,atB,fin⟩:=hyp;have r1:=AutoSeq1.idx_int;have r2:=AutoSeq1.sub_tuple_tuple;have r3:=AutoSeq1.sub_list_list;have r4:=AutoSeq1.sub_tuple_list;have r5:=AutoSeq1.sub_list_tuple;have fits:(j9++items2).size<=sizeLine+1:=by simpa using hs2
  wp_walk using(wpAny_updateSeq atL rfl (hz:=hs1) (_hz':=fits)),wQ atL,wQ atB
  exact#[-1,fin]
end
section
variable {X:Cx}
inductive Lb (x:V) (vs:List V) (H:Hp) (Q:VK):Prop
 |mk (l b xs zs:_) (h0:x=.ref l) (h1:vs=[.ref b]) (h2:H l=some (.lst xs)) (h3:H b=some (.tup zs)) (h4:xs.length+zs.length<=sizeLine) (h5:Q .non (upd H l (.lst (xs++zs)))):Lb x vs H Q
theorem Rp:MtM X "list.extend" Lb:=by
 intro j8 s U H x vs v us Q I rx rv h;obtain⟨l,b,xs,zs,rfl,rfl,hH,hB,hz,q⟩:=h;cases rx;obtain⟨u,rfl,ru⟩:=rv.one;cases ru;obtain⟨z,its,n,r,hl,e⟩:=I.lstM hH;obtain⟨_,its2,r2,p⟩:=(show vV X.prog X.w H s.heap b (.tup zs)from I.hok b _ hB);obtain⟨⟨oc,od,oda,osl⟩,h1,h2,n2,h3⟩:=p;dsimp only at h2 h3;subst h2 h3;have hl2:=r2.length;have hsz:its.toArray.size+its2.toArray.size<=sizeLine:=by rw[yH,yH];lia
 have hlong: ¬(!its.toArray.isEmpty&&Builtin.List.listTooLong (its.toArray.size+its2.toArray.size))=true:=by
  rw[Pw hsz,jW];exact yT
 refine EG F.slot_list_extend #[_,e,rfl] F.entry_list_extend (F.args_list_extend_2 _ _)
  (Kh l its.toArray n b its2.toArray n2 od osl hlong (by rw[yH];lia) ()) #[e,h1,?_]
 refine#[.non,_,I.lset (its':=its++its2) hH e (by simp) (r.append r2) ?_,rfl,q];rw[zG];lia
end
theorem qI: ∀xs:a6 Nd,(zU xs).length =xs.length
 |[]=>rfl
 |a::r=>by simp[zU,qI r]
section
variable {X:Cx}{tg:j5}
def Sq (K:a7)(H:Hp)(a:i3)(xs:a6 V):Prop:=kF K H a xs\/uZ K H a xs
def zGt (K:a7)(tl:TE):TI:=λU H R=>tl U H λx H1=> ∃a,x=.ref a/\((∃xs,kF K H1 a xs)/\R (YX K a) H1\/(∃xs,uZ K H1 a xs)/\R (YW K a) H1)
theorem ZE (hl:PE X l tl):PI X tg l (zGt X.K tl):=by
 refine#[?_];intro j8 s U H R I h;refine wO (hl j8 s U H _ I h) λv s1 m7=>?_;obtain⟨x,H1,I1,r1,q1⟩:=m7;obtain⟨a,e,q⟩:=q1;subst e;cases r1
 rcases q with⟨⟨xs,hq⟩,q⟩|⟨⟨xs,hq⟩,q⟩
 ·obtain⟨its,rv,p,hz⟩:=I1.list hq;refine uF p.isList ?_;refine#[s1.heap.objs.size,[s1.heap.objs.size],_,_,H1,rfl,I1.kept (t':=s1.toks) λb o e=>zL _ e,Ms a _,#[_,yI _ rfl,rfl,rfl],λb hb=>?_,q];have e:b=s1.heap.objs.size:=by simpa using hb
  subst e;exact I1.fpOk (zS _) (I1.hok.fresh (zS _))
 ·obtain⟨its,rv,p,hz⟩:=I1.tuple hq;refine Ag (show s1.heap.IsTuple a its.toArray from p) ?_;refine#[s1.heap.objs.size,[s1.heap.objs.size],_,_,H1,rfl,I1.kept (t':=s1.toks) λb o e=>zL _ e,KA a _,#[_,yI _ rfl,rfl,rfl],λb hb=>?_,q];have e:b=s1.heap.objs.size:=by simpa using hb
  subst e;exact I1.fpOk (zS _) (I1.hok.fresh (zS _))
def Vd:V->a6 V->Hp->VK->Prop:=λx vs H Q=>NP x vs H Q\/Lb x vs H Q
theorem Rn:MtM X "list.extend" Vd:=by
 intro j8 s U H x vs v us Q I rx rv h
 rcases h with h|h
 ·exact ME j8 s U H x vs v us Q I rx rv h
 ·exact Rp j8 s U H x vs v us Q I rx rv h
end
abbrev Wk (J:It)(g:TG)(tb:TS)(D:FI)(U:St)(H:Hp):Prop:= ∃W:Nat->Nat->St->Hp->Prop,(∃m,W 0 m U H)/\ ∀i m U H,W i m U H->
   (J.stop i H/\D.nx U H)\/(J.go i H/\ ∃N:St->Hp->Prop,(∀U' H',N U' H'-> ∃m',m'<m/\W (i+1) m' U' H')/\ ∀x H',J.yld i H x H'->g x U H' λU2 H2=>tb {D with nx:=N,ct:=N,bk:=D.nx} U2 H2)
theorem xK.seqT {K:a7}{H H':Hp}{a:i3}{xs:a6 V}(e:xK H H')(h:uZ K H a xs):uZ K H' a xs:=by
 rcases h with(h|⟨o,h⟩)|h
 ·exact .inl (.inl (e _ _ h))
 ·exact .inl (.inr #[o,e _ _ h])
 ·exact .inr h
theorem Yd {K:a7}{a:i3}{xs:a6 V}{g:TG}{tb:TS}{D:FI}{U:St}{H0 H:Hp}(hq:Sq K H0 a xs)(Pv:Nat->St->Hp->Prop)(h0:Pv 0 U H)(hl: ∀i U H',i<=xs.length->Pv i U H'->xK H0 H')
  (hs: ∀i x U H,xs[i]? =some x->Pv i U H->g x U H λU2 H2=>tb {D with nx:=Pv (i+1),ct:=Pv (i+1),bk:=D.nx} U2 H2) (hd: ∀U H,Pv xs.length U H->D.nx U H):
  (∃xs,kF K H a xs)/\Wk (YX K a) g tb D U H\/(∃xs,uZ K H a xs)/\Wk (YW K a) g tb D U H:=by
 rcases hq with hq|hq
 ·exact .inl #[#[xs,(hl 0 _ _ (xG _) h0).seq hq],BS Pv h0 (λi U' H' hi p=>(hl i U' H' hi p).seq hq) hs hd]
 ·exact .inr #[#[xs,xK.seqT (hl 0 _ _ (xG _) h0) hq],Kx Pv h0 (λi U' H' hi p=>xK.seqT (hl i U' H' hi p) hq) hs hd]
def RO (H:Hp)(v:V)(zs:a6 Int):Prop:= ∃t,v=.ref t/\(H t=some (.lst (zs.map V.int))\/H t=some (.tup (zs.map V.int)))
theorem RO.same (h:RO H v zs)(s:xK H H'):RO H' v zs:=by
 obtain⟨t,rfl,e|e⟩:=h
 ·exact#[t,rfl,.inl (s _ _ e)]
 ·exact#[t,rfl,.inr (s _ _ e)]
theorem Sq.same {K:a7}{H H':Hp}{a:i3}{xs:a6 V}(e:xK H H')(h:Sq K H a xs):Sq K H' a xs:=h.imp (e.seq ·) (xK.seqT e ·)
inductive Jz (vs:List V) (H:Hp) (Q:VK) (E:XK):Prop
 |mk (a:i3) (ns:List Int) (h0:vs=[.ref a]) (h1:H a=some (.lst (ns.map V.int))) (h2:ns.length<=1000000) (h3:ED ns) (h4: ∀l H',xK H H'->H l=none->qS H' l (GA 3 (headNums ns))->Q (.ref l) H'):Jz vs H Q E
inductive KD (vs:List V) (H:Hp) (Q:VK) (E:XK):Prop
 |mk (a:i3) (ns:List Int) (h0:vs=[.ref a]) (h1:H a=some (.lst (ns.map V.int))) (h2:ns.length<=1000000) (h3:ED ns) (h4: ∀l H',xK H H'->H l=none->qS H' l (GA 2 (rowNums ns))->Q (.ref l) H'):KD vs H Q E
inductive KH (K:a7) (vs:List V) (H:Hp) (Q:VK) (E:XK):Prop
 |mk (a:i3) (gs:List (List Int)) (xs:List V) (k:Nat) (h0:vs=[.ref a,.int k]) (h1:Sq K H a xs) (h2:Paired (RO H) xs gs) (h3:(∀g∈gs,g.length=k)) (h4:gs.length<=1000) (h5:k<=3) (h6: ∀l H',xK H H'->H l=none->H' l=some (.lst (gs.flatten.map V.int))->Q (.ref l) H'):KH K vs H Q E
noncomputable def Dv (hs rs:a6 (a6 Int)):a6 Int:=(hs.length:Int)::(hs.flatten++rs.flatten)
inductive KK (K:a7) (vs:List V) (H:Hp) (Q:VK) (E:XK):Prop
 |mk (a b:i3) (hs rs:List (List Int)) (xs ys:List V) (h0:vs=[.ref a,.ref b]) (h1:Sq K H a xs) (h2:Paired (RO H) xs hs) (h3:(∀g∈hs,g.length=3)) (h4:hs.length<=1000) (h5:Sq K H b ys) (h6:Paired (RO H) ys rs) (h7:(∀g∈rs,g.length=2)) (h8:rs.length<=1000) (h9:ED (Dv hs rs)) (h10: ∀l H',xK H H'->H l=none->H' l=some (.lst ((Dv hs rs).map V.int))->Q (.ref l) H'):KK K vs H Q E
theorem Yf {gs:a6 (a6 Int)}{i:Nat}{g:a6 Int}(h:gs[i]? =some g):(gs.take (i+1)).flatten =(gs.take i).flatten++g:=by
 rw[vN,h,List.flatten_append]
 simp
theorem Fi: ∀{gs:a6 (a6 Int)},(∀g∈gs,g.length=k)->gs.flatten.length=gs.length*k
 |[],_=>by simp
 |g::gs,h=>by
  rw[List.flatten_cons,zG,h g (yC ..),Fi (λx hx=>h x (zZ _ hx)),zJ,Nat.add_mul,Nat.one_mul,Nat.add_comm]
noncomputable abbrev LQ:Int:=10000000000000000000000000000000000000000000000000000000000000000000000000000000000000000000000000000
noncomputable def wV (v:Int):a6 V:=if v ≥ LQ\/v<= -LQ then[.str "great",.int 0]else[.non,.int v]
noncomputable def Gx (k a b:Int):a6 V:=
 if k=8 then wV (a+b)else if k=9 then wV (a-b)else if k=10 then wV (a*b)else if k=13 then[.non,.int (if a<b then 1 else 0)]else if k=14 then[.non,.int (if a=b then 1 else 0)]
 else if b=0 then[.str "zero",.int 0]else if k=11 then[.non,.int (a.fdiv b)]else[.non,.int (a.fmod b)]
inductive JA (vs:List V) (H:Hp) (Q:VK) (E:XK):Prop
 |mk (v:Int) (h0:vs=[.int v]) (h1: ∀p H',H p=none->H'=upd H p (.tup (wV v))->Q (.ref p) H'):JA vs H Q E
inductive QF (vs:List V) (H:Hp) (Q:VK) (E:XK):Prop
 |mk (k a b:Int) (h0:vs=[.int k,.int a,.int b]) (h1:a.natAbs<2^2000) (h2:b.natAbs<2^2000) (h3: ∀p H',H p=none->H'=upd H p (.tup (Gx k a b))->Q (.ref p) H'):QF vs H Q E
theorem Qq.flats {K:a7}{H:Hp}{n:Nat}: ∀{xs:a6 V},(∀x∈xs,DR x=true)->Paired (Qq K H n) xs xs
 |[],_=>.nil
 |x::r,h=>.cons (Qq.flat (h x (yC ..)) n) (Qq.flats λy hy=>h y (zZ _ hy))
end L2
namespace L2
open PySem
theorem mem2:k∈[a,b] ↔ k=a\/k=b:=by simp
theorem Paired.set: ∀{xs:a6 α} {ys:a6 β} (i:Nat) {x:α} {y:β},Paired F xs ys->F x y->Paired F (xs.set i x) (ys.set i y)
 |_,_,_,_,_,.nil,_=>.nil
 |_,_,0,_,_,.cons r t,h=>.cons h t
 |_,_,i+1,_,_,.cons r t,h=>.cons r (Paired.set i t h)
theorem qS.put (h:qS H l gs)(hp:H p=some (.lst xs))(ne:l≠p):qS (upd H p (.lst ys)) l gs:=by
 obtain⟨rs,e,pr⟩:=h;exact#[rs,by rw[yQ ne];exact e,Paired.imp (λ_ _ x=>x.upd hp) pr]
theorem qS.push (e:H l=some (.lst rs))(pr:Paired (CG H) rs gs)(tv:CG H v g):qS (upd H l (.lst (rs++[v]))) l (gs++[g]):=
 #[_,zE,Paired.append (Paired.imp (λ_ _ x=>x.upd e) pr) (.cons (tv.upd e) .nil)]
theorem qS.setAt (i:Nat)(e:H l=some (.lst rs))(pr:Paired (CG H) rs gs)(tv:CG H v g):qS (upd H l (.lst (rs.set i v))) l (gs.set i g):=
 #[_,zE,Paired.set i (Paired.imp (λ_ _ x=>x.upd e) pr) (tv.upd e)]
structure vY (hs rs:List (List Int)):Prop where
 h1:1<=hs.length
 h16:hs.length<=16
 r1:1<=rs.length
 r24:rs.length<=900
 heads: ∀i g,hs[i]? =some g->RE g i rs.length
 rows: ∀g∈rs,CF g hs.length rs.length
section
variable {X:Cx}
theorem XE:Hu X (compareOp .IsNot) (λx y H Q=> ∃a b,x=.bl a/\y=.bl b/\Q (.bl (!(a==b))) H):=by
 intro j8 s U H x y v u Q I rx ry h;obtain⟨a,b,rfl,rfl,q⟩:=h;cases rx;cases ry;exact yB #[.bl (!(a==b)),H,I,by cases a<;>cases b<;>rfl,q]
end
theorem Wx {k:Nat}(hk:k=2\/k=3){g rest:a6 Int}(hg:g.length=k):GA k (g++rest)=g::GA k rest:=by
 unfold GA;have e:((g++rest).length +(k-1)) / k=(rest.length+(k-1)) / k+1:=by
  rw[zG,hg]
  rcases hk with rfl|rfl<;>lia
 rw[e,List.range_succ_eq_map,yO,Ai,Nat.zero_mul,BZ];congr 1
 ·rw[Dz (),xW ()]
 ·refine wF λi _=>?_;show((g++rest).drop ((i+1)*k)).take k=_;rw[Nat.add_mul,Nat.one_mul,Nat.add_comm,<-List.drop_drop,<-hg,List.drop_left]
theorem Ho (hk:k=2\/k=3): ∀{gs:a6 (a6 Int)},(∀g∈gs,g.length=k)->GA k gs.flatten=gs
 |[],_=>by
  unfold GA
  rcases hk with rfl|rfl<;>rfl
 |g::gs,h=>by
  rw[List.flatten_cons,Wx hk (h g (yC ..)),Ho hk λx hx=>h x (zZ _ hx)]
theorem vY.h3 (c:vY hs rs): ∀g∈hs,g.length=3:=λg hg=>by
 obtain⟨j,hj⟩:=List.mem_iff_getElem?.mp hg;obtain⟨_,_,_,rfl,_⟩:=c.heads j g hj;rfl
theorem vY.r2 (c:vY hs rs): ∀g∈rs,g.length=2:=λg hg=>by
 obtain⟨_,_,rfl,_⟩:=c.rows g hg;rfl
theorem vY.headNums (c:vY hs rs):headNums (Dv hs rs)=hs.flatten:=by
 show List.take (3*((hs.length:Int)).toNat) (hs.flatten++rs.flatten)=_;have:=Fi c.h3;rw[xV,Dz (),xW ()]
theorem vY.rowNums (c:vY hs rs):rowNums (Dv hs rs)=rs.flatten:=by
 show List.drop (1+3*((hs.length:Int)).toNat) ((hs.length:Int)::(hs.flatten++rs.flatten))=_;have:=Fi c.h3;rw[xV,Nat.add_comm,List.drop_succ_cons,show 3*hs.length=hs.flatten.length by lia,List.drop_left]
theorem vY.ok (c:vY hs rs):ED (Dv hs rs):=by
 have l3:=Fi c.h3;have l2:=Fi c.r2;have a1:=c.h1;have a2:=c.h16;have a3:=c.r1;have nr:(L2.rowNums (Dv hs rs)).length / 2=rs.length:=by rw[c.rowNums,l2];lia
 refine#[#[_,-1,(),(),?_,?_],λi g hg=>?_,λg hg=>?_]
 ·rw[zG,l3,l2];lia
 ·rw[zG,l3,l2,xV];lia
 ·rw[c.headNums,Ho (.inr rfl) c.h3]at hg;rw[nr];exact c.heads i g hg
 ·rw[c.rowNums,Ho (.inl rfl) c.r2]at hg;rw[nr];exact c.rows g hg
theorem qS.seqs (pr:Paired (CG H) rv gs):Paired (RO H) rv gs:=Paired.imp (λ_ _ ⟨t,e,q⟩=>#[t,e,.inr q]) pr
theorem PR (h:PySem.W.kitOne K t c=some true):PySem.W.kitAny K t (c::r)=some true:=by
 unfold PySem.W.kitAny;rw[h]
theorem Wj (h:PySem.W.kitOne K t c=some false)(h2:PySem.W.kitOne K t c2=some true):PySem.W.kitAny K t (c::c2::r)=some true:=by
 unfold PySem.W.kitAny;rw[h];exact PR h2
end L2
namespace L2
open PySem PySem.Spec PyProof.Rows PySem.W
def Dq (K:Frag)(x:Str)(st:i8)(f:i3):Prop:=Dg K x x x st f
section
variable {P:i6}{w:i9}{K:Frag}{h:j3}{mg:Str->i4 a9}{base:j3}{CX:Mm}(X:K.In h)(G:h.Ns mainGlobals mg){x:Str}{st:i8}{f:i3}{k:Nat}{sp:Sp}{p0 p1 p2 p3 p4:Str}(d:Dq K x st f)
include X G d
theorem cg1 (o: ∀fd,qZ K x x st f fd->Dx P w K mg base CX k f fd [p0] sp)(b:autoParam ( ∀(kV doc pm:a9) (an:i4 i3) (cdv ct:a9) (u0:a9),bindArgs (fnOf x x (uT st) (vR st) (zW st) .none kV doc pm an cdv ct) #[[u0],[]]=pure [(p0,u0)]) L2.aI._auto_1):Qt P w K mg base CX k x [p0] sp:=by
 obtain⟨a,fd,F⟩:=d;exact#[#[_,_,o fd F,mg_of X G a,F.kp,F.b1 _ b]]
theorem cg2 (o: ∀fd,qZ K x x st f fd->Dx P w K mg base CX k f fd [p0,p1] sp)(b:autoParam ( ∀(kV doc pm:a9) (an:i4 i3) (cdv ct:a9) (u0 u1:a9),bindArgs (fnOf x x (uT st) (vR st) (zW st) .none kV doc pm an cdv ct) #[[u0,u1],[]]=pure [(p0,u0),(p1,u1)]) L2.aI._auto_1):Qt P w K mg base CX k x [p0,p1] sp:=by
 obtain⟨a,fd,F⟩:=d;exact#[#[_,_,o fd F,mg_of X G a,F.kp,F.b2 _ _ b]]
theorem cg3 (o: ∀fd,qZ K x x st f fd->Dx P w K mg base CX k f fd [p0,p1,p2] sp)(b:autoParam ( ∀(kV doc pm:a9) (an:i4 i3) (cdv ct:a9) (u0 u1 u2:a9),bindArgs (fnOf x x (uT st) (vR st) (zW st) .none kV doc pm an cdv ct) #[[u0,u1,u2],[]]=pure [(p0,u0),(p1,u1),(p2,u2)]) L2.aI._auto_1):Qt P w K mg base CX k x [p0,p1,p2] sp:=by
 obtain⟨a,fd,F⟩:=d;exact#[#[_,_,o fd F,mg_of X G a,F.kp,F.b3 _ _ _ b]]
theorem cg4 (o: ∀fd,qZ K x x st f fd->Dx P w K mg base CX k f fd [p0,p1,p2,p3] sp)(b:autoParam ( ∀(kV doc pm:a9) (an:i4 i3) (cdv ct:a9) (u0 u1 u2 u3:a9),bindArgs (fnOf x x (uT st) (vR st) (zW st) .none kV doc pm an cdv ct) #[[u0,u1,u2,u3],[]]=pure [(p0,u0),(p1,u1),(p2,u2),(p3,u3)]) L2.aI._auto_1):Qt P w K mg base CX k x [p0,p1,p2,p3] sp:=by
 obtain⟨a,fd,F⟩:=d;exact#[#[_,_,o fd F,mg_of X G a,F.kp,F.b4 _ _ _ _ b]]
end
end L2
namespace L2
open PySem PySem.Spec PyProof.Rows
section
variable {pg:i6}{wd:i9}{B:j4}{xs:a9->i5->Prop}
theorem YT (ne:l≠j): ∀(m k:Nat) (t:i5) (R:a6 a9->i5->Prop),t.heap.IsListIter j l k->t.heap.IsList l us->k+m<=us.size->
  (∀g,g.IsListIter j l (k+m)->Heap.SameBut j t.heap g->R ((us.toList.drop k).take m) {t with heap:=g})->wpAny (model pg wd) B (draw (.ref j) m) R xs t
 |0,k,t,R,a,_,_,q=>by
  show wpAny _ _ (pure []) R xs t;exact yB (by simpa using q t.heap a (Heap.SameBut.refl ..))
 |m+1,k,t,R,a,b,c,q=>by
  have kl:k<us.size:=()
  show wpAny _ _ (pyNext (.ref j)>>=_) R xs t;refine zD (BV a b (x:=us[k]) (by simp[kl]) λg1 a1 b1=>?_);refine zD (qC (YT ne m (k+1) _ _ a1 (b.extBut b1.extBut ne) () λg2 a2 b2=>yB ?_));have e:us.toList.drop k=us[k]::us.toList.drop (k+1):=by simp[yR,kl]
  have z:=q g2 (by rw[show k+(m+1)=k+1+m by lia];exact a2) (b1.trans b2);rw[e,List.take_succ_cons]at z;exact z
theorem UE (hh:B.handled=none)(b:t.heap.IsList l us)
  (q: ∀g,Heap.ExtBut t.heap.objs.size t.heap g->R us.toList {t with heap:=g}):wpAny (model pg wd) B (unpackItems (.ref l) us.size none) R xs t:=by
 have ne:l≠t.heap.objs.size:=by obtain⟨o,e,_⟩:=b;exact xT (yN e)
 unfold unpackItems;refine zD ?_;unfold notIterableAtAll;refine zD (Bu b.typeIs PySem.slot_list_iter.lookup (yB ?_));rw[zO yT];refine zD (qC (uF b (zD (qC (YT ne us.size 0 _ _ #[_,yI _ rfl,rfl,rfl] (b.push _) () λg1 a1 s1=>?_)))));have e:List.take us.size (List.drop 0 us.toList)=us.toList:=by rw[BZ];exact xW (by simp)
 rw[e,zO (by simp)];refine zD (qC (CH hh a1 ((b.push _).extBut s1.extBut ne) (by simp) λg2 e2=>?_));rw[zO (by simp)];exact yB (q g2 λc o hc z=>e2 c o hc (s1.extBut c o hc (zL _ z)))
end
section
variable {X:Cx}{pos:Pos}
inductive zCw (K:a7) (n:Nat) (t:TGs) (v:V) (U:St) (H:Hp) (Q:St->Hp->Prop):Prop
 |mk (a xs:_) (h0:v=.ref a) (h1:kF K H a xs) (h2:xs.length=n) (h3:t xs U H Q):zCw K n t v U H Q
theorem ZG (hc:X.calm=true)(h:YV X es t)(hn:autoParam ((assignEach es X.env).length =n) L2.aE._auto_1)(hst:autoParam ((assignEach es X.env).findIdx? (·.1)=none) L2.aE._auto_1):PG X (.Tuple es k pos) (zCw X.K n t):=by
 refine#[?_];intro j8 s U H v u Q I r hw;obtain⟨a,zs,rfl,hq,hl,hw⟩:=hw;cases r;obtain⟨us,rv,hp,_⟩:=I.list hq;have e:(assignEach es X.env).length =us.toArray.size:=by rw[hn,<-hl,rv.length];simp
 have go:wpAny (model X.prog X.w) X.A (unpack (.ref a) (assignEach es X.env)) (λ_ s'=> ∃U' H',xY X j8 U' H' s'/\Q U' H') X.xe s:=by
  unfold unpack;rw[e,hst];refine zD (qC (UE (I.ok.hd hc) hp.isList λg hx=>?_));have I1:xY X j8 U H {s with heap:=g}:=I.kept (t':=s.toks) λb o z=>hx b o (xT (yN z)) z;exact h j8 _ U H zs _ Q I1 (by simpa using rv) hw
 rw[PyProof.Rows.assign_Tuple];exact zD (Fj go)
end
section
variable {X:Cx}
theorem Mn: ∀(as:a6 i3),jU (as.map V.ref) (as.map Value.ref)
 |[]=>.nil
 |a::r=>.cons rfl (Mn r)
theorem JK: ∀{as:a6 i3} {us:a6 a9},jU (as.map V.ref) us->us=as.map Value.ref
 |[],_,.nil=>rfl
 |n::ns,_,.cons h t=>by
  rw[JK t,yO];congr 1
end
end L2
namespace L2
open PySem PySem.Spec PyProof.Rows PySem.W
def Oz (h:j3)(v:a9)(k:Int):Prop:= ∃(a:i3) (o:j7) (b c:Int) (t1 t2 t3:Tok) (n:Nat),v=.ref a/\h.get? a=some o/\o.cls=.type "tuple"/\o.data=.seq (List.toArray [.int k t1,.int b t2,.int c t3]) n
theorem Oz.one (x:Oz h v k)(y:Oz h v k'):k=k':=by
 obtain⟨a,o,b,c,t1,t2,t3,n,rfl,e,_,d⟩:=x;obtain⟨a',o',b',c',u1,u2,u3,n',ea,e',_,d'⟩:=y;cases ea;rw[e]at e';cases e';rw[d]at d';injection d' with d1 d2
 have:=qX (λz:j6 a9=>z[0]?) d1
 simp at this
 exact this.1
noncomputable def kf (h:j3)(v:a9):Int:=open Classical in if e: ∃k,Oz h v k then e.choose else 0
theorem PU (x:Oz h v k):kf h v=k:=by
 unfold kf;rw[dif_pos #[k,x]];exact Oz.one (Exists.choose_spec (p:=λk=>Oz h v k) #[k,x]) x
theorem Oz.kept (g: ∀b o,h.get? b=some o->h'.get? b=some o)(x:Oz h v k):Oz h' v k:=by
 obtain⟨a,o,b,c,t1,t2,t3,n,e,g1,r⟩:=x;exact#[a,o,b,c,t1,t2,t3,n,e,g _ _ g1,r]
section
variable {prog:i6}{w:i9}{A:j4}{E:a9->i5->Prop}{s:i5}
theorem Ze (eh:s.heap=h)(tx:Oz h v k)(ty:Oz h v' k')(z:k≠k')(q:C (decide (k<k')) s):wpAny (model prog w) A (keyLt' (tuples' true) v v') C E s:=by
 obtain⟨a,o,b,c,t1,t2,t3,n,ea,ga,_,da⟩:=tx;obtain⟨a',o',b',c',u1,u2,u3,n',eb,gb,_,db⟩:=ty;rw[ea,eb];refine kat_lt (eh▸ga) da (eh▸gb) db (kat_cons (wpAny_eqBool_int ?_));rw[show(k==k')=false from beq_eq_false_iff_ne.mpr z];exact kat_no (oneLt_int q)
noncomputable def LR (ks:a6 Int){α:Type}:KasT α->i4 α
 | .ret a=>some a
 | .ask i j k=>if i<ks.length/\j<ks.length/\ks.getD i 0≠ks.getD j 0 then LR ks (k (decide (ks.getD i 0<ks.getD j 0)))else none
theorem Wl (h: ∀(i j:Nat) (C:i7->i5->Prop),i<ks.length->j<ks.length->ks.getD i 0≠ks.getD j 0->C (decide (ks.getD i 0<ks.getD j 0)) s->cmp i j C s): ∀(t:KasT α) (p:α),LR ks t=some p->G p s->t.kasWp cmp G s
 | .ret a,p,e,g=>by
  cases e;exact g
 | .ask i j k,p,e,g=>by
  unfold LR at e;split at e
  ·rename_i c;exact h i j _ c.1 c.2.1 c.2.2 (Wl h _ p e g)
  ·cases e
noncomputable def Mw (ks:a6 Int):i7:=decide (ks.length<2) || (decide (ks.length<64)&&match LR ks (kas_sort ks.length)with
 |none=>false
 |some p=>p.toList.isPerm (List.range ks.length)&&decide ((p.toList.map λi=>ks.getD i 0).Pairwise (·<=·)))
theorem IA: ∀l:a6 α,l.zip l=l.map λv=>(v,v)
 |[]=>rfl
 |x::r=>by rw[qA,IA r];rfl
theorem RZ: ∀vs:a6 a9,(∀v∈vs,∃k,Oz h v k)-> ∃fs,KatTups h vs fs/\(∀f∈fs,∃k t,f=Value.int k t)/\fs.length=vs.length
 |[],_=>#[[],.nil,λf hf=>(nomatch hf),rfl]
 |v::r,T=>by
  obtain⟨fs,a,b,c⟩:=RZ r λx hx=>T x (zZ _ hx);obtain⟨k,ad,o,p,q,t1,t2,t3,n,rfl,g,cl,d⟩:=T v (yC ..);refine#[.int k t1::fs,KatTups.cons g cl d rfl a,λf hf=>?_,by rw[zJ,zJ,c]]
  rcases List.mem_cons.mp hf with z|z
  ·exact#[k,t1,z]
  ·exact b f z
theorem UI (ho:s.heap.get? a=some (seqObj "list" vs.toArray n))(sb:Mw (vs.map (kf s.heap))=true)(h64:vs.length<64)(T: ∀v∈vs,∃k,Oz s.heap v k)(na: ∀k,¬Oz s.heap (.ref a) k)
  (h: ∀out:j6 a9,out.toList.Perm vs->(out.toList.Pairwise λx y=>kf s.heap x<=kf s.heap y)->P (.done (.ret .none)) {s with heap:=sortedHeap s.heap a vs out}):wpAny (model prog w) A (Builtin.«list.sort» #[[.ref a],[]]) P E s:=by
 have hz:vs.length<=1000000:=()
 have la:a<s.heap.objs.size:=yN ho;have zz:vs.length<=sizeLine:=yU hz (by decide);have z2:vs.toArray.size=vs.length:=by simp
 rw[list_sort_plain];refine zD (listItems_at ho rfl (zD (listUpdate_at ho rfl ?_ (by rw[z2];exact yU hz (by decide)) (xG _))));obtain⟨e1,g1⟩: ∃e1,(s.heap.update a (Obj.mapSeq λ_=>#[])).get? a=some (seqObj "list" #[] e1):=#[_,get?_update_seq ho (λ_=>#[])];refine zD (seqEpoch_at g1 rfl (zD (wpAny_newTuple (zD (wpAny_newList (qC ?_) (xG _))) zz)));generalize h3e:((s.heap.update a (Obj.mapSeq λ_=>#[])).push (seqObj "tuple" vs.toArray 0)).push (seqObj "list" #[] 0)=h3;have kp: ∀b o,b≠a->s.heap.get? b=some o->h3.get? b=some o:=λb o nb e=>by
  rw[<-h3e];refine zL _ (zL _ ?_);rw[Heap.get?_update_ne _ _ _ _ nb];exact e
 have g3:h3.get? a=some (seqObj "list" #[] e1):=by
  rw[<-h3e];exact zL _ (zL _ g1)
 have T3: ∀v∈vs,Oz h3 v (kf s.heap v):=λv hv=>by
  obtain⟨k,x⟩:=T v hv;rw[PU x];obtain⟨b,o,p,q,t1,t2,t3,m,e,g,r⟩:=x;refine#[b,o,p,q,t1,t2,t3,m,e,kp b o (λz=>na k ?_) g,r];rw[<-z];exact#[b,o,p,q,t1,t2,t3,m,rfl,g,r]
 have kf3: ∀v∈vs,kf h3 v=kf s.heap v:=λv hv=>PU (T3 v hv);have fin: ∀st':SortSt,(arrOf st').toList.Perm (vs.toArray.zip vs.toArray).toList->failedOf st'=none->((arrOf st').toList.Pairwise λx y=>kf h3 x.1<=kf h3 y.1)->P (.done (.ret .none)) {s with heap:=h3.update a (Obj.mapSeq λ_=>(arrOf st').map (·.2))}:=λst' p f r=>by
  have pv:((arrOf st').map (·.2)).toList.Perm vs:=by
   rw[Df];refine(p.map _).trans ?_;rw[De,FO (zS _)]
  have same: ∀x∈(arrOf st').toList,x.1=x.2/\x.2∈vs:=λx hx=>by
   have:=p.mem_iff.mp hx;rw[De,IA]at this;obtain⟨v,hv,rfl⟩:=List.mem_map.mp this;exact#[rfl,hv]
  have:=h ((arrOf st').map (·.2)) pv (by
   rw[Df,uI];refine uO (fun{x y} hx hy z=>?_) r;obtain⟨a1,a2⟩:=same x hx;obtain⟨b1,b2⟩:=same y hy;rw[a1,b1,kf3 _ a2,kf3 _ b2]at z;exact z)
  unfold sortedHeap at this;rw[h3e]at this;exact this
 show wpAny (model prog w) A _ P E {s with heap:=h3};dsimp only
 by_cases c:vs.toArray.size<2
 ·rw[zP c,zP c];refine zD (yB ?_);rw[StateT.run_pure];refine zD (yB ?_);dsimp only;refine zD (seqEpoch_at (s:={s with heap:=h3}) g3 rfl (zD (listUpdate_at g3 rfl ?_ (xG _) (by rw[Array.size_map];show(vs.toArray.zip vs.toArray).size<=_;rw[Array.size_zip];exact yU (Nat.min_le_left _ _) (by rw[z2];exact yU hz (by decide))))));simp only[bne_self_eq_false,BC,FJ];refine yB (fin (SortSt.mk' general' (vs.toArray.zip vs.toArray) #[] 7 none) (List.Perm.refl _) rfl ?_);show((vs.toArray.zip vs.toArray).toList.Pairwise λx y=>kf h3 x.1<=kf h3 y.1);rw[De,IA];clear h T sb ho T3 kf3 fin;cases vs with
  |nil=>exact .nil
  |cons x r=>
   cases r with
   |nil=>exact List.pairwise_singleton _ _
   |cons y r=>
    rw[z2,zJ,zJ]at c;lia
 ·rw[zO c,zO c];obtain⟨fs,k1,k2,k3⟩:=RZ (h:=h3) vs λv hv=>#[_,T3 v hv];refine zD (kat_kind (s:={s with heap:=h3}) (T:=.type "int") k1 () (λv hv=>?_) rfl ?_)
  ·obtain⟨k,t,rfl⟩:=k2 v hv;exact .now
  have lk:(vs.map (kf s.heap)).length =vs.length:=zM ..;have kg: ∀i,i<vs.length->(vs.map (kf s.heap)).getD i 0=kf s.heap (vs.getD i .none)/\vs.getD i .none∈vs:=λi hi=>by
   have e:vs[i]? =some vs[i]:=zF hi;rw[yV,yV,yJ,e];exact#[rfl,vH hi]
  obtain⟨p0,ev,pm,so⟩: ∃p,LR (vs.map (kf s.heap)) (kas_sort vs.length)=some p/\p.toList.Perm (List.range vs.length)/\(p.toList.map λi=>(vs.map (kf s.heap)).getD i 0).Pairwise (·<=·):=by
   unfold Mw at sb;rw[lk,Bool.or_eq_true,jZ]at sb
   rcases sb with sb|sb
   ·lia
   ·obtain⟨_,sb⟩:=Bool.and_eq_true_iff.mp sb;split at sb
    ·cases sb
    ·rename_i p e;obtain⟨b1,b2⟩:=Bool.and_eq_true_iff.mp sb;exact#[p,e,List.isPerm_iff.mp b1,yG b2]
  have it: ∀i,kas_item (vs.toArray.zip vs.toArray) i=(vs.getD i .none,vs.getD i .none):=λi=>kat_item rfl i;refine zD (AM (kat_run (E:=E) (s:={s with heap:=h3}) (κ:=tuples' true) (ks:=vs) (vs:=vs) (Q:=λst' s'=>s'={s with heap:=h3}/\(arrOf st').toList.Perm (vs.toArray.zip vs.toArray).toList/\failedOf st'=none/\((arrOf st').toList.Pairwise λx y=>kf h3 x.1<=kf h3 y.1)) (G:=λp s'=>s'={s with heap:=h3}/\p=p0) rfl () h64 (λp st' s' a1 a2 a3 a4=>?_) (Wl (ks:=vs.map (kf s.heap)) (λi j C hi hj ne q=>?_) _ p0 ev #[rfl,rfl])) ?_ λ_ _ e=>e)
  ·obtain⟨rfl,rfl⟩:=a4;refine#[rfl,?_,a3,?_]
   ·rw[a2,Df];refine(pm.map _).trans ?_;rw[De,IA];have:(List.range vs.length).map (kas_item (vs.toArray.zip vs.toArray))=vs.map λv=>(v,v):=by
     refine List.ext_getElem? λi=>?_;rw[yJ,yJ]
     by_cases hi:i<vs.length
     ·rw[vB hi,zF hi];show some (kas_item _ i)=_;rw[it,yV,zF hi]<;>rfl
     ·rw[wK (by rw[wW];lia),wK ()]<;>rfl
    rw[this]
   ·rw[a2,Df,uI];rw[uI]at so;refine uO (fun{x y} hx hy z=>?_) so;have hx':=List.mem_range.mp (pm.mem_iff.mp hx);have hy':=List.mem_range.mp (pm.mem_iff.mp hy);rw[it,it];show kf h3 (vs.getD x .none)<=kf h3 (vs.getD y .none);rw[kf3 _ (kg x hx').2,kf3 _ (kg y hy').2,<-(kg x hx').1,<-(kg y hy').1];exact z
  ·rw[lk]at hi hj;rw[(kg i hi).1,(kg j hj).1]at ne q;exact Ze rfl (T3 _ (kg i hi).2) (T3 _ (kg j hj).2) ne q
  rintro⟨⟨⟩,st'⟩ s' ⟨rfl,a1,a2,a3⟩;dsimp only;refine zD (seqEpoch_at (s:={s with heap:=h3}) g3 rfl (zD (listUpdate_at g3 rfl ?_ (xG _) ?_)))
  ·rw[a2];simp only[bne_self_eq_false,BC,FJ];exact yB (fin st' a1 a2 a3)
  ·rw[Array.size_map,<-vC,a1.length_eq,vC,Array.size_zip];exact yU (Nat.min_le_left _ _) (by rw[z2];exact yU hz (by decide))
theorem Qy (hl:s.heap.IsList l vs.toArray)(sb:Mw (vs.map (kf s.heap))=true)(h64:vs.length<64)(T: ∀v∈vs,∃k,Oz s.heap v k)
  (h: ∀out:j6 a9,out.toList.Perm vs->(out.toList.Pairwise λx y=>kf s.heap x<=kf s.heap y)->Q (.ref (s.heap.objs.size+1)) {s with heap:=sortedAll s.heap vs out}):wpAny (model prog w) A (call (.builtin "sorted") [.ref l]) Q E s:=by
 have hz:vs.length<=1000000:=()
 have zz:vs.length<=sizeLine:=yU hz (by decide);refine Calls.call_function_entry kind_sorted plain_sorted entry_sorted (args_sorted1 _) (show wpAny (model prog w) _ (Builtin.«sorted» _) _ _ s from ?_);unfold Builtin.«sorted»;refine zD (m:=checkCount "sorted" 1 1 _) (yB (zD (collect_list hl (zD (wpAny_newList ?_ zz)) zz)));have sz:((s.heap.push (seqObj "list" #[] 0)).update s.heap.objs.size (Obj.mapSeq (·++vs.toArray))).objs.size =s.heap.objs.size+1:=by rw[Heap.size_update,size_push']
 have g:(((s.heap.push (seqObj "list" #[] 0)).update s.heap.objs.size (Obj.mapSeq (·++vs.toArray))).push (seqObj "list" vs.toArray 0)).get? (s.heap.objs.size+1)=some (seqObj "list" vs.toArray 0):=by rw[<-sz];exact yI _ rfl
 have kp: ∀b o,s.heap.get? b=some o->(((s.heap.push (seqObj "list" #[] 0)).update s.heap.objs.size (Obj.mapSeq (·++vs.toArray))).push (seqObj "list" vs.toArray 0)).get? b=some o:=λb o e=>by
  have lt:=yN e;refine zL _ ?_;rw[Heap.get?_update_ne _ _ _ _ (xT lt)];exact zL _ e
 have kfe: ∀v∈vs,kf (((s.heap.push (seqObj "list" #[] 0)).update s.heap.objs.size (Obj.mapSeq (·++vs.toArray))).push (seqObj "list" vs.toArray 0)) v=kf s.heap v:=λv hv=>by
  obtain⟨k,x⟩:=T v hv;rw[PU x,PU (x.kept kp)]
 show wpAny _ _ _ _ _ {s with heap:=((s.heap.push (seqObj "list" #[] 0)).update s.heap.objs.size (Obj.mapSeq (·++vs.toArray))).push (seqObj "list" vs.toArray 0)};rw[sz];refine zD (qC (kE slot_list_sort #[_,g,rfl] entry_list_sort (UI g (by rw[wF kfe];exact sb) h64 (λv hv=>?_) (λk x=>?_) λout a1 a2=>#[-1,yB #[-1,h out a1 ?_]]) (args_list_sort _)))
 ·obtain⟨k,x⟩:=T v hv;exact#[k,x.kept kp]
 ·obtain⟨b,o,p,q,t1,t2,t3,m,e,e2,c,d⟩:=x;cases e;have e2':=g.symm.trans e2;injection e2' with e2'
  rw[<-e2']at c;injection c with c
  exact absurd c (by decide)
 ·refine uO (fun{x y} hx hy z=>?_) a2;rw[<-kfe x (a1.mem_iff.mp hx),<-kfe y (a1.mem_iff.mp hy)];exact z
end
section
variable {X:Cx}
def Kj (H:Hp)(a:i3)(x:Int×Int×Int):Prop:=H a=some (.tup [.int x.1,.int x.2.1,.int x.2.2])
inductive OY (xs:List V) (H:Hp) (Q:VK):Prop
 |mk (l:i3) (as:List i3) (ls:List (Int×Int×Int)) (h0:xs=[.ref l]) (h1:H l=some (.lst (as.map V.ref))) (h2:Paired (Kj H) as ls) (h3:Mw (ls.map (·.1))=true) (h4:as.length<64) (h5: ∀(p:i3) (as':List i3) (ls':List (Int×Int×Int)),H p=none->Paired (Kj H) as' ls'->ls'.Perm ls->(ls'.Pairwise λx y=>x.1<=y.1)->Q (.ref p) (upd H p (.lst (as'.map V.ref)))):OY xs H Q
theorem Zb (r:jU [x,y,z] us): ∃u v w',us=[u,v,w']/\kS x u/\kS y v/\kS z w':=by
 cases r with
 |cons h1 t1=>
  obtain⟨v,w',rfl,h2,h3⟩:=JV t1;exact#[_,v,w',rfl,h1,h2,h3]
noncomputable def Of (H:Hp)(a:i3):Int×Int×Int:=match H a with
 |some (.tup [.int x,.int y,.int z])=>(x,y,z)
 |_=>(0,0,0)
theorem XY (h:Kj H a x):Of H a=x:=by
 unfold Of;rw[h]
theorem Wa: ∀{as:a6 i3} {ls:a6 (Int×Int×Int)},Paired (Kj H) as ls->ls=as.map (Of H)/\ ∀a∈as,Kj H a (Of H a)
 |[],_,.nil=>#[rfl,λa h=>(nomatch h)]
 |a::as,x::ls,.cons h t=>by
  obtain⟨e,g⟩:=Wa t;have ea:=XY h;refine#[by rw[yO,ea,e],λb hb=>?_]
  rcases List.mem_cons.mp hb with z|z
  ·rw[z,ea];exact h
  ·exact g b z
theorem Wb: ∀{as:a6 i3},(∀a∈as,Kj H a (Of H a))->Paired (Kj H) as (as.map (Of H))
 |[],_=>.nil
 |a::as,h=>.cons (h a (yC ..)) (Wb λb hb=>h b (zZ _ hb))
noncomputable def Mr:a9->i3
 | .ref a=>a
 |_=>0
theorem Zg (I:xY X j8 U H s)(h:Kj H a x):Oz s.heap (.ref a) x.1:=by
 obtain⟨its,r,⟨o,e,c,n,d⟩,_⟩:=I.tuple (.of h);obtain⟨u1,u2,u3,rfl,r1,r2,r3⟩:=Zb r;obtain⟨t1,rfl⟩:=r1;obtain⟨t2,rfl⟩:=r2;obtain⟨t3,rfl⟩:=r3;exact#[a,o,_,_,t1,t2,t3,n,rfl,e,c,d]
theorem Oo:EE X (.builtin "sorted") OY:=by
 intro j8 s U H xs us Q I r h;obtain⟨l,as,ls,rfl,hl,hp,nd,hz,q⟩:=h;obtain⟨u,rfl,ru⟩:=GD r;cases ru;obtain⟨zl,its,n,rv,hli,he⟩:=I.lstM hl;have e0:=JK rv;subst e0;obtain⟨el,gl⟩:=Wa hp;have T: ∀a∈as,Oz s.heap (.ref a) (Of H a).1:=λa ha=>Zg I (gl a ha);have kfa: ∀a∈as,kf s.heap (.ref a)=(Of H a).1:=λa ha=>PU (T a ha);have km:(as.map Value.ref).map (kf s.heap)=ls.map (·.1):=by
  rw[el,Ai,Ai];exact wF λa ha=>kfa a ha
 refine Qy #[_,he,rfl,-1] (by rw[km];exact nd) (by rw[zM];exact hz) (λv hv=>?_) λout p1 p2=>?_
 ·obtain⟨a,ha,rfl⟩:=List.mem_map.mp hv;exact#[_,T a ha]
 have eo:out.toList=(out.toList.map Mr).map Value.ref:=by
  rw[Ai];have:out.toList.map (Value.ref∘Mr)=out.toList.map id:=wF λv hv=>by
   obtain⟨a,ha,rfl⟩:=List.mem_map.mp (p1.mem_iff.mp hv);rfl
  rw[this,List.map_id]
 have pa:(out.toList.map Mr).Perm as:=by
  have:=p1.map Mr;rw[Ai]at this;have e:as.map (Mr∘Value.ref)=as:=List.map_id _;rw[e]at this;exact this
 generalize out.toList.map Mr=as' at *
 have ga: ∀a∈as',Kj H a (Of H a):=λa ha=>gl a (pa.mem_iff.mp ha);obtain⟨e,ge⟩:=sortedAll_at s.heap (as.map Value.ref) out;have kk: ∀b o,s.heap.get? b=some o->(sortedAll s.heap (as.map Value.ref) out).get? b=some o:=λb o z=>sortedAll_old z;have eout:out=(as'.map Value.ref).toArray:=by rw[<-eo]
 have len:as'.length=as.length:=pa.length_eq;have rv':jU (as'.map V.ref) (as'.map Value.ref):=Mn as';refine#[.ref (s.heap.objs.size+1),_,I.laid (o:=.lst (as'.map V.ref)) kk (vF _) #[?_,_,e,rv',?_],rfl,q _ as' _ (I.hok.fresh (vF _)) (Wb ga) ?_ ?_]
 ·rw[zM,len];exact yU (BY hz) (by decide)
 ·rw[ge,eout]
 ·rw[el];exact pa.map _
 ·rw[uI];rw[eo,uI]at p2;refine uO (fun{x y} hx hy z=>?_) p2;rw[kfa x (pa.mem_iff.mp hx),kfa y (pa.mem_iff.mp hy)]at z;exact z
end
section
variable {ks:a6 Int}{p:j6 Nat}
theorem FF {α β:Type}{f:α->KasT β}: ∀t:KasT α,LR ks (t.bind f)=(LR ks t).bind λa=>LR ks (f a)
 | .ret a=>rfl
 | .ask i j k=>by
  show(if _ then LR ks ((k _).bind f)else none)=Option.bind (if _ then LR ks (k _)else none) _;split
  ·exact FF _
  ·rfl
noncomputable def FE (ks:a6 Int)(p:j6 Nat)(i:Nat):Int:=ks.getD (p.getD i 0) 0
def OE (ks:a6 Int)(p:j6 Nat):Prop:=ks.Nodup/\p.toList.Perm (List.range ks.length)
theorem OE.size (P:OE ks p):p.size=ks.length:=by
 have:=P.2.length_eq
 rwa [wW,vC]at this
theorem Je (h:i<p.size):p.getD i 0=p.toList[i]:=by
 rw[AD,Array.getElem?_eq_getElem h];rfl
theorem OE.lt (P:OE ks p)(h:i<ks.length):p.getD i 0<ks.length:=by
 have h':i<p.size:=by rw[P.size];exact h
 rw[Je h'];exact List.mem_range.mp (P.2.mem_iff.mp (vH _))
theorem OE.ne (P:OE ks p)(h:i<ks.length)(h':j<ks.length)(n:i≠j):FE ks p i≠FE ks p j:=λe=>by
 have a1:=P.lt h;have a2:=P.lt h';unfold FE at e;rw[yV,yV,zF a1,zF a2]at e;have e:ks[p.getD i 0]=ks[p.getD j 0]:=e;have e:=(FQ P.1).mp e;have s1:i<p.size:=by rw[P.size];exact h
 have s2:j<p.size:=by rw[P.size];exact h'
 rw[Je s1,Je s2]at e;exact n ((FQ (P.2.nodup_iff.mpr List.nodup_range)).mp e)
theorem LB (P:OE ks p){α:Type}{k:i7->KasT α}{i j:Nat}(h:i<ks.length)(h':j<ks.length)(n:i≠j):LR ks (.ask (p.getD i 0) (p.getD j 0) k)=LR ks (k (decide (FE ks p i<FE ks p j))):=by
 conv=>lhs;unfold LR
 exact zP #[P.lt h,P.lt h',P.ne h h' n]
def WS (ks:a6 Int)(p:j6 Nat)(m:Nat):Prop:= ∀i j,i<j->j<m->FE ks p i<FE ks p j
def DnA (ks:a6 Int)(p:j6 Nat)(m:Nat):Prop:= ∀i j,i<j->j<m->FE ks p j<FE ks p i
theorem WS.snoc (h:WS ks p m)(l:m=0\/FE ks p (m-1)<FE ks p m):WS ks p (m+1):=λi j hi hj=>by
 rcases(by lia:j<m\/j=m)with z|rfl
 ·exact h i j hi z
 ·rcases l with l|l
  ·lia
  ·rcases(by lia:i<j-1\/i=j-1)with z|rfl
   ·have:=h i (j-1) z ();lia
   ·exact l
theorem DnA.snoc (h:DnA ks p m)(l:FE ks p m<FE ks p (m-1)):DnA ks p (m+1):=λi j hi hj=>by
 rcases(by lia:j<m\/j=m)with z|rfl
 ·exact h i j hi z
 ·rcases(by lia:i<j-1\/i=j-1)with z|rfl
  ·have:=h i (j-1) z ();lia
  ·exact l
theorem RG (P:OE ks p): ∀(f a:Nat),1<=a->a+f<=ks.length->WS ks p a-> ∃m,LR ks (kas_asc p f a)=some m/\a<=m/\m<=a+f/\WS ks p m/\(m<a+f->FE ks p m<FE ks p (m-1))
 |0,a,h1,h,u=>#[a,rfl,zS _,zS _,u,λz=>()]
 |f+1,a,h1,h,u=>by
  unfold kas_asc;rw[LB P () () ()]
  by_cases c:FE ks p a<FE ks p (a-1)
  ·rw[zQ c];exact#[a,rfl,(),(),u,λ_=>c]
  ·rw[zR c,zO (by decide)];have ne:=P.ne (i:=a) (j:=a-1) () () ();obtain⟨m,e,l1,l2,u',z⟩:=RG P f (a+1) () () (u.snoc (.inr ()));exact#[m,e,(),(),u',λw=>z ()]
theorem SR (P:OE ks p): ∀(f a:Nat),1<=a->a+f<=ks.length->DnA ks p a-> ∃m,LR ks (kas_desc f p a 0)=some (p,m,0)/\a<=m/\m<=a+f/\DnA ks p m
 |0,a,h1,h,u=>#[a,rfl,zS _,zS _,u]
 |f+1,a,h1,h,u=>by
  unfold kas_desc;rw[LB P () () ()]
  by_cases c:FE ks p a<FE ks p (a-1)
  ·rw[zQ c,zP rfl,zO ()];obtain⟨m,e,l1,l2,u'⟩:=SR P f (a+1) () () (u.snoc c);exact#[m,e,(),(),u']
  ·have ne:=P.ne (i:=a) (j:=a-1) () () ();rw[zR c,zO (by decide),LB P () () (),zQ ()];exact#[a,rfl,(),(),u]
theorem SF (e:q[i]? =p[j]?):FE ks q i=FE ks p j:=by
 unfold FE;rw[AD,AD,e]
theorem Zw (P:OE ks p)(h:m<=ks.length)(d:DnA ks p m):OE ks (kas_rev p 0 m)/\WS ks (kas_rev p 0 m) m:=by
 refine#[#[P.1,(mirror_perm p 0 m _).toList.trans P.2],λi j hi hj=>?_];have k: ∀i,i<m->FE ks (kas_rev p 0 m) i=FE ks p (m-1-i):=λi hi=>SF (by
  have:=getElem?_mirror_all (xs:=p) (i:=0) (j:=m) (by rw[P.size];exact h) i;rw[zP #[xG _,hi],Ec]at this;exact this)
 rw[k i (),k j hj];exact d _ _ (by omega) (by omega)
theorem WG (P:OE ks p)(h1:1<=ks.length): ∃m q,LR ks (kas_count ks.length p)=some (m,q)/\OE ks q/\WS ks q m/\1<=m/\m<=ks.length:=by
 unfold kas_count;rw[FF];obtain⟨m,e,l1,l2,u,z⟩:=RG P (ks.length-1) 1 (zS _) () (λi j hi hj=>());rw[e];show ∃m' q,LR ks (if(m==ks.length)=true then _ else _)=_/\_
 by_cases c:m=ks.length
 ·rw[zP (beq_iff_eq.mpr c)];exact#[m,p,rfl,P,u,l1,()]
 rw[zO (λw=>c (beq_iff_eq.mp w))]
 by_cases c1:m > 1
 ·rw[zP c1,LB P () () (),zQ (u 0 (m-1) () ()),zP rfl];exact#[m,p,rfl,P,u,l1,()]
 rw[zO c1];have em:m=1:=()
 subst em;unfold kas_descPart;rw[FF];obtain⟨m,e,l1,l2,d⟩:=SR P (ks.length-(1+1)) 2 () () (λi j hi hj=>by
  have:i=0/\j=1:=()
  rw[this.1,this.2];exact z ())
 rw[e];show ∃m' q,LR ks (if(0:Nat) > 0 then _ else kas_tail3 m ks.length p)=_/\_;rw[zO ()];unfold kas_tail3;rw[FF];obtain⟨P',u'⟩:=Zw P (m:=m) () d;obtain⟨m',e',a1,a2,u2,_⟩:=RG P' (ks.length-m) m () () u';rw[e'];exact#[m',-1,P',u2,(),()]
theorem LA (P:OE ks p)(hk:k<ks.length)(u:WS ks p k): ∀(f l r:Nat),r<=l+f->l<=r->r<=k->(∀i,i<l->FE ks p i<FE ks p k)->(∀i,r<=i->i<k->FE ks p k<FE ks p i)-> ∃m,LR ks (kas_place p k f l r)=some m/\m<=k/\(∀i,i<m->FE ks p i<FE ks p k)/\(∀i,m<=i->i<k->FE ks p k<FE ks p i)
 |0,l,r,hf,lr,rk,a,b=>#[l,rfl,(),a,λi h=>b i ()]
 |f+1,l,r,hf,lr,rk,a,b=>by
  unfold kas_place
  by_cases c:l ≥ r
  ·rw[zP c];exact#[l,rfl,(),a,λi h=>b i ()]
  rw[zO c];generalize hm:(l+r) / 2=m;have m1:l<=m:=()
  have m2:m<r:=()
  rw[LB P hk () ()]
  by_cases d:FE ks p k<FE ks p m
  ·rw[zQ d,zP rfl];refine LA P hk u f l m () m1 () a λi h h'=>?_
   rcases(by lia:i=m\/m<i)with rfl|z
   ·exact d
   ·have:=u m i z h';lia
  ·have ne:=P.ne (i:=k) (j:=m) hk () ();rw[zR d,zO (by decide)];refine LA P hk u f (m+1) r (by clear hm;lia) m2 rk (λi h=>?_) b
   rcases(by lia:i=m\/i<m)with rfl|z
   ·lia
   ·have:=u i m z ();lia
theorem WH: ∀(f:Nat) {p:j6 Nat} {k:Nat},OE ks p->WS ks p k->k+f=ks.length-> ∃q,LR ks (kas_bin f p k)=some q/\OE ks q/\WS ks q ks.length
 |0,p,k,P,u,h=>#[p,rfl,P,by rw[<-h];exact u]
 |f+1,p,k,P,u,h=>by
  unfold kas_bin;rw[FF];obtain⟨m,e,hm,a,b⟩:=LA P (k:=k) () u k 0 k () () (zS _) (λi h=>()) (λi h h'=>());rw[e];have g:=λi=>getElem?_bubble (xs:=p) (src:=k) (by rw[P.size];lia) (k-m) () i;refine WH f #[P.1,(bubble_perm p k _).toList.trans P.2] (λi j hi hj=>?_) ();have v: ∀i,i<=k->(i<m/\FE ks (bubble p k (k-m)) i=FE ks p i)\/(i=m/\FE ks (bubble p k (k-m)) i=FE ks p k)\/(m<i/\FE ks (bubble p k (k-m)) i=FE ks p (i-1)):=λi hi=>by
   have g:=g i
   rcases(by lia:i<m\/i=m\/m<i)with z|z|z
   ·rw[zO (),zO ()]at g;exact .inl #[z,SF g]
   ·rw[zP ()]at g;exact .inr (.inl #[z,SF g])
   ·rw[zO (),zP ()]at g;exact .inr (.inr #[z,SF g])
  rcases v i ()with⟨z,e1⟩|⟨z,e1⟩|⟨z,e1⟩<;>rcases v j ()with⟨y,e2⟩|⟨y,e2⟩|⟨y,e2⟩<;>rw[e1,e2]
  ·exact u i j hi ()
  ·exact a i z
  ·have:=a i z;have:=b (j-1) () ();lia
  ·lia
  ·lia
  ·exact b (j-1) (by clear z;lia) (by clear z;lia)
  ·lia
  ·lia
  ·exact u _ _ () ()
theorem UR (nd:ks.Nodup)(h:ks.length<64):Mw ks=true:=by
 unfold Mw
 by_cases c:ks.length<2
 ·rw[zQ c];rfl
 rw[zR c,zQ h];have P:OE ks (List.toArray (List.range ks.length)):=#[nd,List.Perm.refl _];obtain⟨m,q,e,P',u,m1,m2⟩:=WG P ();have: ∃q,LR ks (kas_sort ks.length)=some q/\OE ks q/\WS ks q ks.length:=by
  unfold kas_sort;rw[FF,e];show ∃q',LR ks (if m<ks.length then _ else _)=_/\_
  by_cases z:m<ks.length
  ·rw[zP z];exact WH _ P' (by rw[Nat.max_eq_left m1];exact u) (by show max m 1+(ks.length-max m 1)=_;rw[Nat.max_eq_left m1];lia)
  ·rw[zO z];exact#[q,rfl,P',by rw[show ks.length=m by lia];exact u]
 obtain⟨q,e,P',u⟩:=this;rw[e];show(false || (true&&(q.toList.isPerm (List.range ks.length)&&decide _)))=true;rw[List.isPerm_iff.mpr P'.2,zQ]
 ·rfl
 ·rw[uI,List.pairwise_iff_getElem];intro i j hi hj ij;have s:q.toList.length=ks.length:=P'.2.length_eq.trans wW;have:=u i j ij ();unfold FE at this;rw[Je (by rw[P'.size];lia),Je (by rw[P'.size];lia)]at this;exact Int.le_of_lt this
end
section
variable {X:Cx}{pos:Pos}{e:j5}
theorem XA (K:a7)(hK:X.K=K)(he:PE X e te)(hb:autoParam (attributeBase e f X.env (eval e X.env)=eval e X.env) L2.aE._auto_1):PE X (.Attribute e f pos) (zBl K te f):=by
 subst hK;exact jL he hb
end
end L2
namespace L2
open PySem
theorem Vm: ∀(n:Nat) (f:Nat->Nat),(∀i,i<=n->f i<n)-> ∃i j,i<j/\j<=n/\f i=f j
 |0,f,h=>absurd (h 0 (zS _)) (Bv _)
 |n+1,f,h=>by
  by_cases hx: ∃i,i<=n/\f i=f (n+1)
  ·obtain⟨i,hi,e⟩:=hx;exact#[i,n+1,(),zS _,e]
  have no: ∀i,i<=n->f i≠f (n+1):=λi hi e=>hx #[i,hi,e];have top:=h (n+1) (zS _);obtain⟨i,j,hij,hj,e⟩:=Vm n (λi=>if f (n+1)<f i then f i-1 else f i) λi hi=>by
   have a:=h i ();have b:=no i hi;show(if f (n+1)<f i then f i-1 else f i)<n;split<;>omega
  have a:=no i ();have b:=no j hj;refine#[i,j,hij,(),?_];have e':(if f (n+1)<f i then f i-1 else f i)=(if f (n+1)<f j then f j-1 else f j):=e;split at e'<;>split at e'<;>lia
abbrev vS:=a6 (Int×Int)
noncomputable def Jo (rs:vS):a6 (a6 Int):=rs.map λr=>[r.1,r.2]
def OD (rs:vS)(i:Nat):Prop:= ∃n,rs[i]? =some (4,n)
noncomputable instance (rs:vS)(i:Nat):Decidable (OD rs i):=
 match h:rs[i]? with
 |none=>isFalse fun⟨n,e⟩=>by rw[h]at e;cases e
 |some (op,n)=>if e:op=4 then isTrue #[n,by rw[h,e]]else isFalse fun⟨m,z⟩=>by rw[h]at z;cases z;exact e rfl
noncomputable def Se (rs:vS)(i:Nat):Nat:=match rs[i]? with
 |some (op,n)=>if op=4 then n.toNat else i
 |none=>i
noncomputable def its (rs:vS):Nat->Nat->Nat
 |0,i=>i
 |k+1,i=>Se rs (its rs k i)
def OB (rs:vS):Prop:= ∀(i:Nat) (n:Int),rs[i]? =some (4,n)->0<=n/\n<rs.length
noncomputable def Mh (rs:vS)(i:Nat):i4 Nat:=if its rs rs.length i<rs.length/\ ¬OD rs (its rs rs.length i)then some (its rs rs.length i)else none
noncomputable def oI:i4 Nat->V
 |none=>.non
 |some n=>.int (n:Nat)
theorem OD.lt (h:OD rs i):i<rs.length:=by
 obtain⟨n,e⟩:=h;exact(List.getElem?_eq_some_iff.mp e).1
theorem UP (h: ¬OD rs i):Se rs i=i:=by
 unfold Se;cases e:rs[i]? with
 |none=>rfl
 |some r=>
  obtain⟨op,n⟩:=r
  by_cases z:op=4
  ·subst z;exact absurd #[n,e] h
  ·show(if op=4 then n.toNat else i)=i;rw[zO z]
theorem QB (ok:OB rs)(h:OD rs i):Se rs i<rs.length:=by
 obtain⟨n,e⟩:=h;have:=ok i n e;unfold Se;rw[e];show(if(4:Int)=4 then n.toNat else i)<_;rw[zP rfl];lia
theorem QA (ok:OB rs)(e:rs[i]? =some (4,n)):((Se rs i:Nat):Int)=n:=by
 have:=ok i n e;unfold Se;rw[e];show(((if(4:Int)=4 then n.toNat else i):Nat):Int)=n;rw[zP rfl];lia
theorem PV (h: ¬OD rs (its rs k i)): ∀d,its rs (k+d) i=its rs k i
 |0=>rfl
 |d+1=>by
  show Se rs (its rs (k+d) i)=_;rw[PV h d,UP h]
theorem Wm (ok:OB rs)(h:i<=rs.length): ∀k,its rs k i<=rs.length
 |0=>h
 |k+1=>by
  show Se rs (its rs k i)<=_
  by_cases z:OD rs (its rs k i)
  ·exact BY (QB ok z)
  ·rw[UP z];exact Wm ok h k
theorem SK (e:its rs a i=its rs b i): ∀d,its rs (a+d) i=its rs (b+d) i
 |0=>e
 |d+1=>qX (Se rs) (SK e d)
theorem zBw (ok:OB rs)(h: ∀j,j<rs.length->OD rs (its rs j i))(hl:0<rs.length):OD rs (its rs rs.length i):=by
 obtain⟨a,b,hab,hb,e⟩:=Vm rs.length (λk=>its rs k i) λk hk=>by
  by_cases z:k<rs.length
  ·exact(h k z).lt
  ·have:k=(rs.length-1)+1:=()
   rw[this];exact QB ok (h _ ())
 have z:=SK e (rs.length-b);rw[show b+(rs.length-b)=rs.length by lia]at z;rw[<-z];exact h _ ()
theorem JM (hk:k<=rs.length)(h: ¬OD rs (its rs k i)):Mh rs i=if its rs k i<rs.length then some (its rs k i)else none:=by
 have e:=PV h (rs.length-k);rw[show k+(rs.length-k)=rs.length by lia]at e;unfold Mh;rw[e]
 by_cases z:its rs k i<rs.length
 ·rw[zP #[z,h],zP z]
 ·rw[zO (λy=>z y.1),zO z]
theorem IW (ok:OB rs)(h: ∀j,j<rs.length->OD rs (its rs j i))(hl:0<rs.length):Mh rs i=none:=by
 unfold Mh;rw[zO (λy=>y.2 (zBw ok h hl))]
inductive Nm (vs:List V) (H:Hp) (Q:VK) (E:XK):Prop
 |mk (l:i3) (rs:vS) (i:Nat) (h0:vs=[.ref l,.int i]) (h1:qS H l (Jo rs)) (h2:OB rs) (h3:0<rs.length) (h4:rs.length<=1000) (h5:i<=rs.length) (h6:Q (oI (Mh rs i)) H):Nm vs H Q E
theorem Le (p:Paired (CG H) vs (Jo rs))(h:i<rs.length): ∃t op n,vs[i]? =some (.ref t)/\rs[i]? =some (op,n)/\H t=some (.tup [.int op,.int n]):=by
 have hl:vs.length=rs.length:=(Paired.len p).trans (zM ..);have hx:vs[i]? =some (vs[i]'()):=zF ();obtain⟨g,hg,t,e,et⟩:=Paired.yonder p hx;unfold Jo at hg;rw[yJ,zF h]at hg;cases hg;exact#[t,_,_,by rw[hx,e],zF h,et]
inductive Out where
 |go (pc:Nat) (held:List Int) (br:Int)
 |bad (w:Str) (n:Int)
 |done (v:Int)
noncomputable def pop (held:a6 Int)(f:a6 Int->Int->Out):Out:=match held.getLast? with
 |none=>.bad "stray" 0
 |some v=>f held.dropLast v
structure Ads where
 (m dm hd sp rw r0 r1 bd d dd bx hl:i3)
noncomputable def MO (CM:i3)(A:Ads)(br va:Int):HO:=.ins CM A.dm [("heads",.ref A.hd),("steps",.ref A.sp),("rows",.ref A.rw),("breaths",.int br),("being_done",.ref A.bd),("value",.int va)]
structure zDs (CM:i3)(H H':Hp)(A:Ads)(hs rs:List (List Int))(br:Int):Prop where
 keep: ∀b o,b≠A.m->H b=some o->H' b=some o
 m:H' A.m=some (MO CM A br 0)
 heads:qS H' A.hd hs
 steps:qS H' A.sp rs
 rw:H' A.rw=some (.lst [.ref A.r0,.ref A.r1])
 r1:H' A.r1=some (.lst [])
 bd:H' A.bd=some (.lst [])
 br:A.bd≠A.rw
 ba:A.bd≠A.r1
 bs:A.bd≠A.sp
 bh:A.bd≠A.hd
 nb:H A.bd=none
inductive IF (K:a7) (CM:i3) (vs:List V) (H:Hp) (Q:VK) (E:XK):Prop
 |mk (x dx co gv:i3) (br:Int) (hs rs:List (List Int)) (gs:List V) (h0:vs=[.ref x,.ref co,.ref gv,.int br]) (h1:H x=some (.ins CM dx [])) (h2:H co=some (.lst ((Dv hs rs).map V.int))) (h3:vY hs rs) (h4:H gv=some (.lst gs)) (h5: ∀A H',A.m=x->A.dm=dx->zDs CM H H' A hs rs br->Q .non H'):IF K CM vs H Q E
inductive Ro where
 |m|bd|hd|sp|rw
 |row (i:Nat)
 |d (i:Nat)
 |bx (i:Nat)
 |hl (i:Nat)
structure Fr where
 pc:Nat
 bx:List Int
 hl:List Int
structure MS where
 rows:List (List Int)
 frs:List Fr
 br:Int
 va:Int
structure Pl where
 ad:Ro->i3
 dd:Nat->i3
 dm:i3
 uh:List V
 us:List V
noncomputable def MS.f (s:MS)(i:Nat):Fr:=s.frs.getD i #[0,[],[]]
noncomputable def MG (CM:i3)(A:Pl)(br va:Int):HO:=.ins CM A.dm [("heads",.ref (A.ad .hd)),("steps",.ref (A.ad .sp)),("rows",.ref (A.ad .rw)),("breaths",.int br),("being_done",.ref (A.ad .bd)),("value",.int va)]
noncomputable def DG (CD:i3)(A:Pl)(i:Nat)(pc:Int):HO:=.ins CD (A.dd i) [("at",.int pc),("boxes",.ref (A.ad (.bx i))),("held",.ref (A.ad (.hl i)))]
noncomputable def bdL (A:Pl)(n:Nat):a6 V:=(List.range n).map λi=>V.ref (A.ad (.d i))
noncomputable def rwL (A:Pl)(n:Nat):a6 i3:=(List.range n).map λi=>A.ad (.row i)
noncomputable def cont (CM CD:i3)(A:Pl)(s:MS):Ro->HO
 | .m=>MG CM A s.br s.va
 | .bd=>.lst (bdL A s.frs.length)
 | .hd=>.lst A.uh
 | .sp=>.lst A.us
 | .rw=>.lst ((rwL A s.rows.length).map V.ref)
 | .row i=>.lst ((s.rows.getD i []).map V.int)
 | .d i=>DG CD A i (s.f i).pc
 | .bx i=>.lst ((s.f i).bx.map V.int)
 | .hl i=>.lst ((s.f i).hl.map V.int)
def Vb (v:Int):Prop:=v.natAbs<2^2000
abbrev Hn:=Int×a6 Int
abbrev Stk:=a6 (Nat×Int)
noncomputable def zGv:Nd->Hn
 | .mk k _ own _=>(k,own)
noncomputable def zGm:Nd->Nat
 | .mk _ p _ _=>p
noncomputable def zCy (xs:a6 Hn):a6 Int:=xs.flatMap λx=>x.1::x.2
noncomputable def hns (n:Nd):a6 Hn:=(pre n).map zGv
inductive Xd (hs:DJ):Stk->List Hn->Stk->Prop where
 |nil {S:Stk}:Xd hs S [] S
 |cons {d:Nat} {b k:Int} {own:List Int} {r:Stk} {xs:List Hn} {S:Stk} (k0:0<=k) (k1:k<=19) (f:EA hs b k own) (h:Xd hs (List.replicate (CU hs k own).toNat (d,b)++r) xs S):Xd hs ((d+1,b)::r) ((k,own)::xs) S
theorem Xd.append (h:Xd hs S xs S1)(g:Xd hs S1 ys S2):Xd hs S (xs++ys) S2:=by
 induction h with
 |nil=>exact g
 |cons k0 k1 f _ ih=>exact .cons k0 k1 f (ih g)
mutual
noncomputable def zDe:Nd->Nat
 | .mk _ _ _ ps=>1+zDf ps
noncomputable def zDf:a6 Nd->Nat
 |[]=>0
 |a::r=>max (zDe a) (zDf r)
end
mutual
def zDx (hs:DJ)(b:Int):Nd->Prop
 | .mk k _ own ps=>0<=k/\k<=19/\EA hs b k own/\ps.length=(CU hs k own).toNat/\zDy hs b ps
def zDy (hs:DJ)(b:Int):a6 Nd->Prop
 |[]=>True
 |a::r=>zDx hs b a/\zDy hs b r
end
structure Ctx (hs:DJ)(S0 R:Stk)(all:List Hn)(p0 i:Nat)(m:Nd)(e:Nat)(b:Int):Prop where
 ex: ∃X Y r,all=X++(hns m++Y)/\X.length=i/\Xd hs S0 X ((e,b)::r)/\Xd hs r Y R/\zGm m=p0+(zCy X).length
 fit:zDx hs b m
 dep:zDe m<=e
theorem Ctx.before (c:Ctx hs S0 R1 all p0 i m e b)(h:Xd hs R1 Z R):Ctx hs S0 R (all++Z) p0 i m e b:=by
 obtain⟨⟨X,Y,r,e1,e2,e3,e4,e5⟩,f,d⟩:=c;exact#[#[X,Y++Z,r,by rw[e1,yS,yS],e2,e3,e4.append h,e5],f,d]
structure ES where
 rows:List (List Int)
 br:Int
 bx:List Int
 ct:Nat
inductive ER where
 |val (v:Int) (s:ES)
 |bad (w:Str) (n:Int) (rows:List (List Int)) (ct:Nat×Int)
mutual
def vU (hs:DJ)(b:Int):Nat->Tr->Prop
 |0,_=>False
 |n+1,.mk k own ps=>0<=k/\k<=19/\EA hs b k own/\ps.length=(CU hs k own).toNat/\(∀v∈own,Vb v)/\wI hs b n ps
def wI (hs:DJ)(b:Int):Nat->a6 Tr->Prop
 |_,[]=>True
 |n,a::r=>vU hs b n a/\wI hs b n r
end
mutual
noncomputable def Sd:Tr->Nat
 | .mk _ _ ps=>1+Au ps
noncomputable def Au:a6 Tr->Nat
 |[]=>0
 |a::r=>Sd a+Au r
end
section
variable {g M N U U' c0 c1 bl:Nat}{br0 br1:Int}{r:ER}{f:Int->ES->ER}{s:ES}{hs:DJ}{b:Int}{k:Int}{own vs:a6 Int}
theorem wI.get: ∀{ps:a6 Tr} {i:Nat} {t:Tr},wI hs b n ps->ps[i]? =some t->vU hs b n t/\Sd t<=Au ps
 |a::r,0,t,h,e=>by
  cases e;unfold wI at h;exact#[h.1,Nat.le_add_right ..]
 |a::r,i+1,t,h,e=>by
  unfold wI at h;obtain⟨x,y⟩:=wI.get (ps:=r) h.2 e;exact#[x,yU y (Nat.le_add_left ..)]
theorem wI.mem (f:wI hs b n ps)(m:t∈ps):vU hs b n t:=by
 obtain⟨i,e⟩:=List.getElem?_of_mem m;exact(wI.get f e).1
end
mutual
noncomputable def rl:Tr->Nat
 | .mk k _ ps=>if k=3 then kD ps+(ps.length-1)else if k=4 then kD ps+2*(ps.length-1)+1 else if k=5 then kD ps+5 else kD ps+1
noncomputable def kD:a6 Tr->Nat
 |[]=>0
 |p::r=>rl p+kD r
end
noncomputable def Iq (b:Nat)(first:i7):a6 Tr->a6 Nat
 |[]=>[]
 |p::r=>if first=true then b::Iq (b+rl p) false r else(b+1)::Iq (b+1+rl p) false r
noncomputable def Er (k:Int)(own:a6 Int):a6 Int:=
 if k=0\/k=1\/k=2 then[k,own.headD 0]else if k=6 then[6,own.headD 0]else if k=7 then[8,0]else[10,k]
mutual
noncomputable def Dl (b:Nat):Tr->a6 (a6 Int)
 | .mk k own ps=>if k=3 then Iz b true ps else if k=4 then XW b ps else if k=5 then Xa b ps else Kt b ps++[Er k own]
noncomputable def Kt (b:Nat):a6 Tr->a6 (a6 Int)
 |[]=>[]
 |p::r=>Dl b p++Kt (b+rl p) r
noncomputable def Iz (b:Nat)(first:i7):a6 Tr->a6 (a6 Int)
 |[]=>[]
 |p::r=>if first=true then Dl b p++Iz (b+rl p) false r else[3,0]::(Dl (b+1) p++Iz (b+1+rl p) false r)
noncomputable def Ir (b last:Nat)(first:i7):a6 Tr->a6 (a6 Int)
 |[]=>[]
 |p::r=>if first=true then Dl b p++Ir (b+rl p) last false r else[4,(last:Int)]::(Dl (b+1) p++Ir (b+1+rl p) last false r)
noncomputable def XW (b:Nat):a6 Tr->a6 (a6 Int)
 |[]=>[]
 |p::r=>Dl b p++([11,(r.length:Int)]::((Iq (b+rl p+r.length+2) true r).map (λs:Nat=>[4,(s:Int)])++([4,((b+rl p+r.length+2+kD r+(r.length-1):Nat):Int)]::Ir (b+rl p+r.length+2) (b+rl p+r.length+1) true r)))
noncomputable def Xa (b:Nat):a6 Tr->a6 (a6 Int)
 |[]=>[]
 |x::r=>[9,0]::(Dl (b+1) x++([5,((b+rl x+kD r+4:Nat):Int)]::(Kt (b+rl x+2) r++[[3,0],[4,(b:Int)],[0,0]])))
end
theorem HF: ∀(ps:a6 Tr) (b:Nat) (f:i7),(Iq b f ps).length =ps.length
 |[],_,_=>by unfold Iq;rfl
 |p::r,b,f=>by
  unfold Iq;split
  ·rw[zJ,HF r,zJ]
  ·rw[zJ,HF r,zJ]
mutual
def Kl:Tr->Prop
 | .mk k _ ps=>(k=3->ps≠[])/\(k=4->2<=ps.length)/\(k=5->ps.length=2)/\BF ps
def BF:a6 Tr->Prop
 |[]=>True
 |p::r=>Kl p/\BF r
end
mutual
theorem wS: ∀(t:Tr) (b:Nat),Kl t->(Dl b t).length =rl t
 | .mk k own ps,b,h=>by
  unfold Kl at h;obtain⟨h3,h4,h5,hp⟩:=h;unfold Dl rl
  by_cases c3:k=3
  ·rw[zP c3,zP c3,Ku ps b true hp,zP rfl]
  rw[zO c3,zO c3]
  by_cases c4:k=4
  ·rw[zP c4,zP c4,XV ps b hp (h4 c4)]
  rw[zO c4,zO c4]
  by_cases c5:k=5
  ·rw[zP c5,zP c5,XU ps b hp (h5 c5)]
  rw[zO c5,zO c5,zG,HJ ps b hp];rfl
theorem HJ: ∀(ps:a6 Tr) (b:Nat),BF ps->(Kt b ps).length =kD ps
 |[],b,_=>by unfold Kt kD;rfl
 |p::r,b,h=>by
  unfold BF at h;unfold Kt kD;rw[zG,wS p b h.1,HJ r _ h.2]
theorem Ku: ∀(ps:a6 Tr) (b:Nat) (f:i7),BF ps->(Iz b f ps).length =kD ps+(if f=true then ps.length-1 else ps.length)
 |[],b,f,_=>by unfold Iz kD;cases f<;>rfl
 |p::r,b,f,h=>by
  unfold BF at h;unfold Iz kD;cases f with
  |true=>
   rw[zP rfl,zP rfl,zG,wS p b h.1,Ku r _ false h.2,zO (by decide),zJ];lia
  |false=>
   rw[zO (by decide),zO (by decide),zJ,zG,wS p _ h.1,Ku r _ false h.2,zO (by decide),zJ];lia
theorem IX: ∀(ps:a6 Tr) (b l:Nat) (f:i7),BF ps->(Ir b l f ps).length =kD ps+(if f=true then ps.length-1 else ps.length)
 |[],b,l,f,_=>by unfold Ir kD;cases f<;>rfl
 |p::r,b,l,f,h=>by
  unfold BF at h;unfold Ir kD;cases f with
  |true=>
   rw[zP rfl,zP rfl,zG,wS p b h.1,IX r _ l false h.2,zO (by decide),zJ];lia
  |false=>
   rw[zO (by decide),zO (by decide),zJ,zG,wS p _ h.1,IX r _ l false h.2,zO (by decide),zJ];lia
theorem XV: ∀(ps:a6 Tr) (b:Nat),BF ps->2<=ps.length->(XW b ps).length =kD ps+2*(ps.length-1)+1
 |[],b,_,z=>by cases z
 |p::r,b,h,z=>by
  unfold BF at h;unfold XW kD;rw[zJ]at z ⊢;rw[zG,wS p b h.1,zJ,zG,zM,HF,zJ,IX r _ _ true h.2,zP rfl];lia
theorem XU: ∀(ps:a6 Tr) (b:Nat),BF ps->ps.length=2->(Xa b ps).length =kD ps+5
 |[],b,_,z=>by cases z
 |x::r,b,h,z=>by
  unfold BF at h;unfold Xa kD;rw[zJ,zG,wS x _ h.1,zJ,zG,HJ r _ h.2];show rl x+(kD r+3+1)+1=_;lia
end
noncomputable def mv (c:Nat)(g:a6 Int):a6 Int:=match g with
 |[op,n]=>[op,if op=4\/op=5 then n+c else n]
 |g=>g
theorem Xp {n:Int}{nf nr:Nat}(h0:0<=n)(h1:n<(nr:Int)):CF [4,n] nf nr:=#[4,n,rfl,.inr (.inr (.inl #[.inl rfl,h0,h1]))]
theorem zGi {n:Int}{nf nr:Nat}(h0:0<=n)(h1:n<(nr:Int)):CF [5,n] nf nr:=#[5,n,rfl,.inr (.inr (.inl #[.inr rfl,h0,h1]))]
theorem zBv:CF [0,n] nf nr:=#[0,n,rfl,.inl rfl]
theorem zBt:CF [3,0] nf nr:=#[3,0,rfl,by simp[AL]]
theorem zGh:CF [7,0] nf nr:=#[7,0,rfl,by simp[AL]]
theorem zGg:CF [9,0] nf nr:=#[9,0,rfl,by simp[AL]]
theorem zBu (h0:2<=n)(h1:n<=12):CF [11,n] nf nr:=#[11,n,rfl,by simp[AL];lia]
theorem Xn (of:EA hs bx k own)(k0:0<=k)(k19:k<=19)(h3:k≠3)(h4:k≠4)(h5:k≠5)(hb:bx<=12):CF (Er k own) hs.length nr:=by
 rcases of with⟨rfl,n,rfl⟩|⟨hk,n,rfl,a,b⟩|⟨rfl,_⟩|⟨rfl,_⟩|⟨rfl,n,rfl,a,b⟩|⟨hk,rfl⟩
 ·exact zBv
 ·refine#[k,n,?_,?_]
  ·unfold Er;rw[zP ()];rfl
  ·rcases hk with rfl|rfl<;>simp[AL]<;>lia
 ·exact absurd rfl h3
 ·exact absurd rfl h4
 ·exact#[6,n,rfl,by simp[AL];lia]
 ·by_cases c:k=7
  ·subst c;exact#[8,0,rfl,by simp[AL]]
  ·refine#[10,k,?_,by simp[AL];lia];unfold Er;rw[zO (),zO (),zO c]
theorem QV: ∀(ps:a6 Tr) (b:Nat) (f:i7),∀s∈Iq b f ps,s<=b+kD ps+(if f=true then ps.length-1 else ps.length)
 |[],b,f,s,h=>by unfold Iq at h;cases h
 |p::r,b,f,s,h=>by
  unfold Iq at h;unfold kD;rw[zJ];cases f with
  |true=>
   rw[zP rfl]at h ⊢
   rcases List.mem_cons.mp h with z|z
   ·lia
   ·have:=QV r _ _ s z;rw[zO (by decide)]at this;lia
  |false=>
   rw[zO (by decide)]at h ⊢
   rcases List.mem_cons.mp h with z|z
   ·lia
   ·have:=QV r _ _ s z;rw[zO (by decide)]at this;lia
mutual
theorem Ex: ∀(d:Nat) (t:Tr),vU hs bx d t->Kl t
 |0,t,h=>by unfold vU at h;exact h.elim
 |d+1,.mk k own ps,h=>by
  unfold vU at h;obtain⟨k0,k1,of,lp,_,fp⟩:=h;unfold Kl;refine#[λz=>?_,λz=>?_,λz=>?_,Kz d ps fp]
  ·subst z
   rcases of with⟨z,_⟩|⟨z,_⟩|⟨_,n,rfl,a,b⟩|⟨z,_⟩|⟨z,_⟩|⟨z,_⟩<;>try lia
   intro e;rw[e]at lp;have:(CU hs 3 [n]).toNat =n.toNat:=rfl;rw[this]at lp;show False
   simp at lp
   (clear this;lia)
  ·subst z
   rcases of with⟨z,_⟩|⟨z,_⟩|⟨z,_⟩|⟨_,n,rfl,a,b⟩|⟨z,_⟩|⟨z,_⟩<;>try lia
   have:(CU hs 4 [n]).toNat =(1+n).toNat:=rfl;rw[this]at lp;(clear this;lia)
  ·subst z;exact lp
theorem Kz: ∀(d:Nat) (ts:a6 Tr),wI hs bx d ts->BF ts
 |_,[],_=>by unfold BF;trivial
 |d,a::r,h=>by
  unfold wI at h;unfold BF;exact#[Ex d a h.1,Kz d r h.2]
end
section
variable {hs:DJ}{bx:Int}{nr:Nat}
mutual
theorem Hk (hb:bx<=12): ∀(d:Nat) (t:Tr) (b:Nat),vU hs bx d t->b+rl t<nr-> ∀g∈Dl b t,CF g hs.length nr
 |0,t,b,h,_=>by unfold vU at h;exact h.elim
 |d+1,.mk k own ps,b,h,hn=>by
  have gd:=Ex (d+1) _ h;unfold Kl at gd;unfold vU at h;obtain⟨k0,k1,of,lp,_,fp⟩:=h;unfold Dl;unfold rl at hn
  by_cases c3:k=3
  ·rw[zP c3]at hn ⊢;exact Rs hb d ps b true fp (by rw[zP rfl];lia)
  rw[zO c3]at hn ⊢
  by_cases c4:k=4
  ·rw[zP c4]at hn ⊢;subst c4
   rcases of with⟨z,_⟩|⟨z,_⟩|⟨z,_⟩|⟨_,n,rfl,a,b'⟩|⟨z,_⟩|⟨z,_⟩<;>try lia
   have:(CU hs 4 [n]).toNat =(1+n).toNat:=rfl;rw[this]at lp;exact ZW hb d ps b fp () (by clear gd;lia) ()
  rw[zO c4]at hn ⊢
  by_cases c5:k=5
  ·rw[zP c5]at hn ⊢;exact ZV hb d ps b fp (by omega)
  rw[zO c5]at hn ⊢;intro g hg
  rcases List.mem_append.mp hg with z|z
  ·exact Rq hb d ps b fp () g z
  ·rw[List.mem_singleton.mp z];exact Xn of k0 k1 c3 c4 c5 hb
theorem Rq (hb:bx<=12): ∀(d:Nat) (ps:a6 Tr) (b:Nat),wI hs bx d ps->b+kD ps<nr-> ∀g∈Kt b ps,CF g hs.length nr
 |_,[],b,_,_,g,hg=>by unfold Kt at hg;cases hg
 |d,p::r,b,h,hn,g,hg=>by
  unfold wI at h;unfold kD at hn;unfold Kt at hg
  rcases List.mem_append.mp hg with z|z
  ·exact Hk hb d p b h.1 () g z
  ·exact Rq hb d r _ h.2 () g z
theorem Rs (hb:bx<=12): ∀(d:Nat) (ps:a6 Tr) (b:Nat) (f:i7),wI hs bx d ps->b+kD ps+(if f=true then ps.length-1 else ps.length)<nr-> ∀g∈Iz b f ps,CF g hs.length nr
 |_,[],b,f,_,_,g,hg=>by unfold Iz at hg;cases hg
 |d,p::r,b,f,h,hn,g,hg=>by
  unfold wI at h;unfold kD at hn;rw[zJ]at hn;unfold Iz at hg;cases f with
  |true=>
   rw[zP rfl]at hg hn
   rcases List.mem_append.mp hg with z|z
   ·exact Hk hb d p b h.1 () g z
   ·exact Rs hb d r _ false h.2 (by rw[zO (by decide)];lia) g z
  |false=>
   rw[zO (by decide)]at hg hn
   rcases List.mem_cons.mp hg with z|z
   ·rw[z];exact zBt
   rcases List.mem_append.mp z with z|z
   ·exact Hk hb d p _ h.1 () g z
   ·exact Rs hb d r _ false h.2 (by rw[zO (by decide)];lia) g z
theorem Rr (hb:bx<=12): ∀(d:Nat) (ps:a6 Tr) (b l:Nat) (f:i7),wI hs bx d ps->b+kD ps+(if f=true then ps.length-1 else ps.length)<nr->l<nr-> ∀g∈Ir b l f ps,CF g hs.length nr
 |_,[],b,l,f,_,_,_,g,hg=>by unfold Ir at hg;cases hg
 |d,p::r,b,l,f,h,hn,hl,g,hg=>by
  unfold wI at h;unfold kD at hn;rw[zJ]at hn;unfold Ir at hg;cases f with
  |true=>
   rw[zP rfl]at hg hn
   rcases List.mem_append.mp hg with z|z
   ·exact Hk hb d p b h.1 () g z
   ·exact Rr hb d r _ l false h.2 (by rw[zO (by decide)];lia) hl g z
  |false=>
   rw[zO (by decide)]at hg hn
   rcases List.mem_cons.mp hg with z|z
   ·rw[z];exact Xp () ()
   rcases List.mem_append.mp z with z|z
   ·exact Hk hb d p _ h.1 () g z
   ·exact Rr hb d r _ l false h.2 (by rw[zO (by decide)];lia) hl g z
theorem ZW (hb:bx<=12): ∀(d:Nat) (ps:a6 Tr) (b:Nat),wI hs bx d ps->3<=ps.length->ps.length<=13->b+kD ps+2*(ps.length-1)+1<nr-> ∀g∈XW b ps,CF g hs.length nr
 |_,[],b,_,z,_,_,_,_=>by cases z
 |d,p::r,b,h,z2,z13,hn,g,hg=>by
  unfold wI at h;unfold kD at hn;rw[zJ]at hn z2 z13;unfold XW at hg
  rcases List.mem_append.mp hg with z|z
  ·exact Hk hb d p b h.1 () g z
  rcases List.mem_cons.mp z with z|z
  ·rw[z];exact zBu () ()
  rcases List.mem_append.mp z with z|z
  ·obtain⟨s,hs',rfl⟩:=List.mem_map.mp z;have:=QV r _ _ s hs';rw[zP rfl]at this;exact Xp () ()
  rcases List.mem_cons.mp z with z|z
  ·rw[z];exact Xp () ()
  ·exact Rr hb d r _ _ true h.2 (by rw[zP rfl];lia) () g z
theorem ZV (hb:bx<=12): ∀(d:Nat) (ps:a6 Tr) (b:Nat),wI hs bx d ps->b+kD ps+5<nr-> ∀g∈Xa b ps,CF g hs.length nr
 |_,[],b,_,_,g,hg=>by unfold Xa at hg;cases hg
 |d,x::r,b,h,hn,g,hg=>by
  unfold wI at h;unfold kD at hn;unfold Xa at hg
  rcases List.mem_cons.mp hg with z|z
  ·rw[z];exact zGg
  rcases List.mem_append.mp z with z|z
  ·exact Hk hb d x _ h.1 () g z
  rcases List.mem_cons.mp z with z|z
  ·rw[z];exact zGi () ()
  rcases List.mem_append.mp z with z|z
  ·exact Rq hb d r _ h.2 () g z
  rcases List.mem_cons.mp z with z|z
  ·rw[z];exact zBt
  rcases List.mem_cons.mp z with z|z
  ·rw[z];exact Xp () ()
  rw[List.mem_singleton.mp z];exact zBv
end
end
noncomputable def Ks (k:Int)(m i b:Nat)(t:Tr):Nat:=b+rl t+(if k=3\/k=5 then 1 else if k=4 then(if i=0 then m+2 else 1)else 0)
mutual
noncomputable def Kf (b:Nat):Nd->a6 (a6 Int)
 | .mk k p own ps=>Hg k (ps.length-1) 0 (b+if k=5 then 1 else 0) ps++[[(p:Int),(b:Int),((b+rl (.mk k own (zU ps)):Nat):Int)]]
noncomputable def Hg (k:Int)(m i b:Nat):a6 Nd->a6 (a6 Int)
 |[]=>[]
 |t::r=>Kf b t++Hg k m (i+1) (Ks k m i b (bare t)) r
end
mutual
noncomputable def FT:Nd->Nat
 | .mk _ _ _ ps=>1+BG ps
noncomputable def BG:a6 Nd->Nat
 |[]=>0
 |t::r=>FT t+BG r
end
noncomputable def Tc (k:Int)(m i b:Nat):a6 Tr->Nat
 |[]=>b
 |t::r=>Tc k m (i+1) (Ks k m i b t) r
theorem Ba: ∀(a b:a6 Nd),zU (a++b)=zU a++zU b
 |[],b=>by unfold zU;rfl
 |x::r,b=>by
  rw[xH];unfold zU;rw[Ba r b,xH];cases b<;>rfl
theorem IP (k:Int)(m:Nat): ∀(l:a6 Nd) (x:Nd) (i b:Nat),Hg k m i b (l++[x])=Hg k m i b l++Kf (Tc k m i b (zU l)) x
 |[],x,i,b=>by
  rw[kC];unfold Hg zU Tc;unfold Hg;rw[xJ,kC]
 |t::r,x,i,b=>by
  rw[xH];unfold Hg zU Tc;rw[IP k m r x,yS]
theorem kW (p:Tr)(r:a6 Tr):kD (p::r)=rl p+kD r:=by rw[kD]
theorem Al (p:Nd)(r:a6 Nd):BG (p::r)=FT p+BG r:=by rw[BG]
theorem uW (p:Tr)(r:a6 Tr):BF (p::r)=(Kl p/\BF r):=by rw[BF]
theorem IM: ∀a b:a6 Tr,kD (a++b)=kD a+kD b
 |[],b=>by
  rw[kC];show kD b=kD []+kD b;have:kD []=0:=by unfold kD;rfl
  lia
 |x::r,b=>by
  rw[xH,kW,kW,IM r b];lia
theorem IV: ∀a b:a6 Nd,BG (a++b)=BG a+BG b
 |[],b=>by
  rw[kC];have:BG []=0:=by unfold BG;rfl
  lia
 |x::r,b=>by
  rw[xH,Al,Al,IV r b];lia
theorem Ta (m:Nat): ∀(l:a6 Tr) (i b:Nat),Tc 3 m i b l=b+kD l+l.length
 |[],i,b=>by unfold Tc kD;rfl
 |t::r,i,b=>by
  unfold Tc kD;rw[Ta m r];unfold Ks;rw[zP (.inl rfl),zJ];lia
theorem SZ (h3:k≠3)(h4:k≠4)(h5:k≠5)(m:Nat): ∀(l:a6 Tr) (i b:Nat),Tc k m i b l=b+kD l
 |[],i,b=>by unfold Tc kD;rfl
 |t::r,i,b=>by
  unfold Tc kD;rw[SZ h3 h4 h5 m r];unfold Ks;rw[zO (),zO h4];lia
theorem Qm (m:Nat): ∀(l:a6 Tr) (i b:Nat),0<i->Tc 4 m i b l=b+kD l+l.length
 |[],i,b,_=>by unfold Tc kD;rfl
 |t::r,i,b,h=>by
  unfold Tc kD;rw[Qm m r _ _ (BX _)];unfold Ks;rw[zO (by decide),zP rfl,zO (),zJ];lia
theorem SQ: ∀a b:a6 Tr,BF (a++b)->BF a/\BF b
 |[],b,h=>#[by unfold BF;trivial,h]
 |x::r,b,h=>by
  rw[xH,uW]at h;obtain⟨h1,h2⟩:=h;obtain⟨a1,a2⟩:=SQ r b h2;rw[uW];exact#[#[h1,a1],a2]
theorem PD: ∀(l:a6 Tr) (x:Tr) (b:Nat),Kt b (l++[x])=Kt b l++Dl (b+kD l) x
 |[],x,b=>by
  rw[kC];unfold Kt kD;unfold Kt;rw[xJ];rfl
 |p::r,x,b=>by
  rw[xH];unfold Kt kD;rw[PD r x,yS,show b+rl p+kD r=b+(rl p+kD r)by lia]
theorem PJ: ∀(l:a6 Tr) (x:Tr) (b:Nat),Iz b false (l++[x])=Iz b false l++([3,0]::Dl (b+kD l+l.length+1) x)
 |[],x,b=>by
  rw[kC];unfold Iz kD;rw[zO (by decide)];unfold Iz;rw[xJ];rfl
 |p::r,x,b=>by
  rw[xH];unfold Iz kD;rw[zO (by decide),zO (by decide),PJ r x,zJ,xH,yS,show b+1+rl p+kD r+r.length+1=b+(rl p+kD r)+(r.length+1)+1 by lia]
theorem VV (p:Tr)(l:a6 Tr)(x:Tr)(b:Nat):Iz b true (p::l++[x])=Iz b true (p::l)++([3,0]::Dl (b+kD (p::l)+(p::l).length) x):=by
 rw[xH];unfold Iz;rw[zP rfl,zP rfl,PJ l x,yS];congr 4;rw[zJ];show b+rl p+kD l+l.length+1=b+(rl p+kD l)+(l.length+1);lia
theorem PF (la:Nat): ∀(l:a6 Tr) (x:Tr) (b:Nat),Ir b la false (l++[x])=Ir b la false l++([4,(la:Int)]::Dl (b+kD l+l.length+1) x)
 |[],x,b=>by
  rw[kC];unfold Ir kD;rw[zO (by decide)];unfold Ir;rw[xJ];rfl
 |p::r,x,b=>by
  rw[xH];unfold Ir kD;rw[zO (by decide),zO (by decide),PF la r x,zJ,xH,yS,show b+1+rl p+kD r+r.length+1=b+(rl p+kD r)+(r.length+1)+1 by lia]
theorem VT (la:Nat)(l:a6 Tr)(x:Tr)(b:Nat):Ir b la true (l++[x])=Ir b la true l++((if l.length=0 then[]else[[4,(la:Int)]])++Dl (b+kD l+l.length) x):=by
 cases l with
 |nil=>
  rw[kC];unfold Ir;rw[zP rfl];unfold Ir;rw[xJ,kC];have:kD []=0:=by unfold kD;rfl
  show Dl b x=[]++Dl (b+kD []+0) x;rw[this];rfl
 |cons p r=>
  rw[xH];unfold Ir;rw[zP rfl,zP rfl,PF la r x,yS,zJ,zO (),kW,show b+rl p+kD r+r.length+1=b+(rl p+kD r)+(r.length+1)by lia];rfl
theorem Pc: ∀(l:a6 Tr) (x:Tr) (b:Nat),Iq b false (l++[x])=Iq b false l++[b+kD l+l.length+1]
 |[],x,b=>by
  rw[kC];unfold Iq;rw[zO (by decide)];unfold Iq kD;rfl
 |p::r,x,b=>by
  rw[xH];unfold Iq kD;rw[zO (by decide),zO (by decide),Pc r x,zJ,xH,show b+1+rl p+kD r+r.length+1=b+(rl p+kD r)+(r.length+1)+1 by lia]
theorem Vk (l:a6 Tr)(x:Tr)(b:Nat):Iq b true (l++[x])=Iq b true l++[b+kD l+l.length]:=by
 cases l with
 |nil=>
  rw[kC];unfold Iq;rw[zP rfl];unfold Iq;have:kD []=0:=by unfold kD;rfl
  rw[this];rfl
 |cons p r=>
  rw[xH];unfold Iq;rw[zP rfl,zP rfl,Pc r x,xH,zJ,kW,show b+rl p+kD r+r.length+1=b+(rl p+kD r)+(r.length+1)by lia]
abbrev HW:=(Int×Int)×Nd
noncomputable def Fh:a6 HW->Nat
 |[]=>0
 |f::r=>rl (bare f.2)+1+Fh r
noncomputable def MF (b:Nat):a6 HW->a6 (a6 Int)
 |[]=>[]
 |f::r=>Dl b (bare f.2)++([7,0]::MF (b+rl (bare f.2)+1) r)
noncomputable def MN (b:Nat):a6 HW->a6 (a6 Int)
 |[]=>[]
 |f::r=>[(b:Int),f.1.1,f.1.2]::MN (b+rl (bare f.2)+1) r
noncomputable def Uv (b:Nat):a6 HW->a6 (a6 Int)
 |[]=>[]
 |f::r=>Kf b f.2++Uv (b+rl (bare f.2)+1) r
noncomputable def Mg:a6 HW->Nat
 |[]=>0
 |f::r=>FT f.2+Mg r
theorem NL: ∀a b:a6 HW,Fh (a++b)=Fh a+Fh b
 |[],b=>by rw[kC];show Fh b=0+Fh b;lia
 |x::r,b=>by
  show rl (bare x.2)+1+Fh (r++b)=rl (bare x.2)+1+Fh r+Fh b;rw[NL r b];lia
theorem Oe: ∀a b:a6 HW,Mg (a++b)=Mg a+Mg b
 |[],b=>by rw[kC];show Mg b=0+Mg b;lia
 |x::r,b=>by
  show FT x.2+Mg (r++b)=FT x.2+Mg r+Mg b;rw[Oe r b];lia
theorem PH: ∀(l:a6 HW) (x:HW) (b:Nat),MF b (l++[x])=MF b l++(Dl (b+Fh l) (bare x.2)++[[7,0]])
 |[],x,b=>rfl
 |f::r,x,b=>by
  show Dl b (bare f.2)++([7,0]::MF (b+rl (bare f.2)+1) (r++[x]))=Dl b (bare f.2)++([7,0]::MF (b+rl (bare f.2)+1) r)++(Dl (b+(rl (bare f.2)+1+Fh r)) (bare x.2)++[[7,0]]);rw[PH r x,show b+rl (bare f.2)+1+Fh r=b+(rl (bare f.2)+1+Fh r)by lia,yS];rfl
theorem PY: ∀(l:a6 HW) (x:HW) (b:Nat),MN b (l++[x])=MN b l++[[((b+Fh l:Nat):Int),x.1.1,x.1.2]]
 |[],x,b=>rfl
 |f::r,x,b=>by
  show _::MN (b+rl (bare f.2)+1) (r++[x])=_::MN (b+rl (bare f.2)+1) r++[[((b+(rl (bare f.2)+1+Fh r):Nat):Int),x.1.1,x.1.2]];rw[PY r x,show b+rl (bare f.2)+1+Fh r=b+(rl (bare f.2)+1+Fh r)by lia];rfl
theorem Pb: ∀(l:a6 HW) (x:HW) (b:Nat),Uv b (l++[x])=Uv b l++Kf (b+Fh l) x.2
 |[],x,b=>by show Kf b x.2++[]=[]++Kf (b+0) x.2;rw[xJ];rfl
 |f::r,x,b=>by
  show Kf b f.2++Uv (b+rl (bare f.2)+1) (r++[x])=Kf b f.2++Uv (b+rl (bare f.2)+1) r++Kf (b+(rl (bare f.2)+1+Fh r)) x.2;rw[Pb r x,show b+rl (bare f.2)+1+Fh r=b+(rl (bare f.2)+1+Fh r)by lia,yS]
end L2
namespace L2
open PySem PySem.Spec PyProof.Rows
theorem FG (n:Nat):Bg xs none (some (n:Int))=xs.take n:=by
 unfold Bg;rw[HT.sIx_none,HT.sIx_nat,BZ,Nat.sub_zero]
 by_cases h:n<=xs.length
 ·rw[Bw h]
 ·rw[Dc (),xZ,xW ()]
theorem AZ (n:Nat):Bg xs (some (n:Int)) none=xs.drop n:=by
 unfold Bg;rw[HT.sIx_none,HT.sIx_nat]
 by_cases h:n<=xs.length
 ·rw[Bw h,xW (by rw[jI];lia)]
 ·rw[Dc (),Ee,AN,List.drop_eq_nil_of_le ()]
section
variable {prog:i6}{w:i9}{A:j4}{E:a9->i5->Prop}{s:i5}
theorem Rm (hit:s.heap.IsTupleIter it t i)(ht:s.heap.IsTuple t j9)(hx:j9[i]? =some x)
  (q: ∀h',h'.IsTupleIter it t (i+1)->Heap.SameBut it s.heap h'->Q x {s with heap:=h'}):wpAny (model prog w) A (Builtin.SmallTypes.nextOf (.ref it)) Q E s:=by
 obtain⟨o,g,cl,da⟩:=id hit;obtain⟨ot,gt,_,nt,dt⟩:=ht;unfold Builtin.SmallTypes.nextOf;refine zD (jH (name:=Str.ofString "__next__") hit.typeIs jP (kE jP hit.typeIs vE (show wpAny _ _ (field (.ref it) 0>>=_) _ _ s from ?_) (wZ _)));refine zD (jF g da (x:=.ref t) rfl (show wpAny _ _ (if(Value.ref t==Value.none)=true then _ else _) _ _ s from ?_));rw[zO (by exact yT)];refine zD (m:=field (.ref it) 1) (jF g da (x:=.int i 0) rfl (zD (m:=seqItems? (.ref t)) (qT gt dt ?_)));simp only[xV,hx];refine zD (uX g da (by simp) (yB #[x,rfl,yB (q _ #[_,vT _ g (Ay (wM da _)),(Fe ..).trans cl,?_] (uU ..))]));rw[wM da]
 simp[rawInt]
theorem Hj (hh:A.handled=none)(hit:s.heap.IsTupleIter it t i)(ht:s.heap.IsTuple t j9)(hx:j9[i]? =none)
  (q: ∀h' e,Heap.ExtBut it s.heap h'->(∃o,h'.get? e=some o/\o.cls=.type "StopIteration")->E (.ref e) {s with heap:=h'}):wpAny (model prog w) A (Builtin.SmallTypes.nextOf (.ref it)) Q E s:=by
 obtain⟨o,g,cl,da⟩:=id hit;obtain⟨ot,gt,_,nt,dt⟩:=ht;unfold Builtin.SmallTypes.nextOf;refine zD (jH (name:=Str.ofString "__next__") hit.typeIs jP (kE jP hit.typeIs vE (show wpAny _ _ (field (.ref it) 0>>=_) _ _ s from ?_) (wZ _)));refine zD (jF g da (x:=.ref t) rfl (show wpAny _ _ (if(Value.ref t==Value.none)=true then _ else _) _ _ s from ?_));rw[zO (by exact yT)];refine zD (m:=field (.ref it) 1) (jF g da (x:=.int i 0) rfl (zD (m:=seqItems? (.ref t)) (qT gt dt ?_)));simp only[xV,hx];refine zD (EF (zD (uX g da (by simp) (show wpAny _ _ (newExc (.type "StopIteration") []>>=_) _ _ _ from zD ?_))));simp only[newExc,newTuple];refine zD (jV (zD (m:=firstArgMember _ _) (uH (a:=Value.none) (by first|rfl|(simp only[firstArgMember];rfl)) (jV ?_ (by size_fits)))) (by size_fits));simp only[raiseNew];refine zD (wpAny_handled ?_)
 first|rw[show A.in1.handled=none from hh]|rw[hh]
 exact zD (yB (wpAny_throw (q _ _ (((uU ..).extBut.push _).push _) #[_,yI _ rfl,rfl])))
theorem Ue (hh:A.handled=none)(it t:i3)(hne:t≠it)(j9:j6 a9):Draws prog w A it [it,t] j9.size (λi v=>j9[i]? =some v) (λi h=>h.IsTupleIter it t i/\h.IsTuple t j9) where
 live:=λ_ _ st=>by obtain⟨⟨o,ho,_⟩,_⟩:=st;exact#[o,ho]
 frame:=λ_ _ _ st hk=>by
  obtain⟨⟨o,ho,r⟩,o2,ho2,r2⟩:=st;exact#[#[o,hk it (by simp) _ ho,r],o2,hk t (by simp) _ ho2,r2]
 item:=λi s Q E hi st hQ=>Rm st.1 st.2 (x:=j9[i]) (by simp[hi]) λh' a b=>hQ _ h' s.toks (by simp[hi]) #[a,st.2.extBut b.extBut hne] b
 done:=λs Q E st hE=>Hj hh st.1 st.2 (by simp) hE
theorem PN (l:i3)(j9:j6 a9)(n:Nat)(dct:i4 i3)(sl:j6 (i4 a9)):Meets (Builtin.«enumerate.__new__» #[[.type "enumerate",.ref l],[]]) (λ_ R s=>s.heap.get? l=some {cls:=.type "tuple",dict:=dct,data:=.seq j9 n,slots:=sl}/\
  R (.ok (.ret (.ref (s.heap.push {cls:=.type "tuple_iterator",data:=.fields (List.toArray [.ref l,.int 0 0])}).objs.size))) {s with heap:=(s.heap.push {cls:=.type "tuple_iterator",data:=.fields (List.toArray [.ref l,.int 0 0])}).push {cls:=.type "enumerate",data:=.fields (List.toArray [.none,.bool false,.ref s.heap.objs.size,rawInt 0,.none,.none])}}):=
 .of_wp λprog w A R s h=>by
  obtain⟨hp,g,d,tk,os⟩:=s;obtain⟨hl,h⟩:=h;have hsub:=sub_enumerate;have tt:Heap.IsTuple (Shared.heap #[hp,g,d,tk,os]) l j9:=#[_,hl,rfl,n,rfl]
  wp_walk using wQ hl
  refine wpAny_stack_any λst=>yB ?_;split
  ·rename_i c _ _ _ _ _;cases(c==Value.type "enumerate")
   all_goals
    wp_walk using wQ hl,Ag tt
    exact#[-1,h]
  ·wp_walk using wQ hl,Ag tt
   exact#[-1,h]
theorem LK (hT:s.heap.IsTuple l j9)
  (q: ∀h',IsEnum h' (s.heap.objs.size+1) s.heap.objs.size 0 .none->h'.IsTupleIter s.heap.objs.size l 0->h'.objs.size=s.heap.objs.size+2->(∀b o,s.heap.get? b=some o->h'.get? b=some o)->Q (.ref (s.heap.objs.size+1)) {s with heap:=h'}):wpAny (model prog w) A (call (.type "enumerate") [.ref l]) Q E s:=by
 obtain⟨⟨c,dct,dt,sl⟩,hl,hc,n,hd⟩:=hT;dsimp only at hc hd;subst hc hd;refine callType_new F.called_enumerate (by decide) (F.typeCall_enumerate_1 _) (F.newCall_enumerate_1 _) (λobj=>F.args_object_init_2 obj _) F.entry_enumerate_new (PN l j9 n dct sl) #[hl,?_];have z1:(s.heap.push {cls:=.type "tuple_iterator",data:=.fields (List.toArray [.ref l,.int 0 0])}).objs.size =s.heap.objs.size+1:=vP ..;show _/\_;rw[z1];have he:IsEnum ((s.heap.push {cls:=.type "tuple_iterator",data:=.fields (List.toArray [.ref l,.int 0 0])}).push {cls:=.type "enumerate",data:=.fields (List.toArray [.none,.bool false,.ref s.heap.objs.size,rawInt 0,.none,.none])}) (s.heap.objs.size+1) s.heap.objs.size 0 .none:=by
  have:=yI (s.heap.push {cls:=.type "tuple_iterator",data:=.fields (List.toArray [.ref l,.int 0 0])}) (o:={cls:=.type "enumerate",data:=.fields (List.toArray [.none,.bool false,.ref s.heap.objs.size,rawInt 0,.none,.none])}) rfl;rw[z1]at this;exact this
 exact#[#[_,he,rfl],q _ he #[_,zL _ (yI _ rfl),rfl,rfl] (by rw[vP,z1]) λb o x=>zL _ (zL _ x)]
end
theorem QE (hh:A.in1.handled=none)(he:IsEnum s.heap e it k old)(hit:s.heap.IsTupleIter it t i)(ht:s.heap.IsTuple t j9)(hx:j9[i]? =none)
  (q: ∀h',Heap.ExtBut it s.heap h'->Q none {s with heap:=h'}):wpAny (model prog w) A (pyNext (.ref e)) Q E s:=by
 have ty:s.TypeIs (.ref e) "enumerate":=#[_,he,rfl];unfold pyNext;refine zD (Bp (jH (name:=Str.ofString "__next__") ty F.slot_enumerate_next (kE F.slot_enumerate_next ty F.entry_enumerate_next (show wpAny _ _ (field (.ref e) 2>>=_) _ _ _ from zD (jF he rfl (x:=.ref it) rfl (zD (Hj hh hit ht hx λh' x a b=>?_)))) (F.args_enumerate_next_1 _))));obtain⟨o,ho,hc⟩:=b;exact zD (CZ (T:="StopIteration") (b:=true) #[o,ho,hc] isSubtype_stop (yB (q _ a)))
noncomputable def RT (K:a7)(a:i3):It:=
 #[λi H=> ∃xs x,uZ K H a xs/\xs[i]? =some x,λi H y H'=> ∃t x,y=.ref t/\H t=none/\H'=upd H t (.tup [.int (i:Nat),x])/\ ∀xs,uZ K H a xs->xs[i]? =some x,λi H=> ∃xs,uZ K H a xs/\xs.length<=i]
theorem KB {P:i6}{w:i9}{K:a7}{elts:a6 j5}{x1:Nat}{pos:Pos}(a e it:i3)(hne:e≠it):
  LP P w K (.Tuple elts x1 pos) (RT K a) [e,it] e (λi h=>(∃old,IsEnum h e it (i:Nat) old)/\h.IsTupleIter it a i) where
 mem:=by simp
 obj:=λi h st b hb=>by
  obtain⟨⟨old,he⟩,o,e1,c,d⟩:=st
  rcases List.mem_cons.mp hb with z|z
  ·subst z;exact#[_,he,λv z=>by cases z]
  ·rw[List.mem_singleton.mp z];exact#[o,e1,λv z=>by rw[d]at z;cases z]
 keep:=λi h h' st k=>#[#[_,k e (by simp) _ st.1.choose_spec],(by obtain⟨o9,g9,r9⟩:=st.2;exact#[o9,k it (by simp) o9 g9,r9])]
 item:=by
  intro X hP hw hK hc i j8 s U H E I hf st hg;subst hP hw hK;obtain⟨xs,x,hq,hx⟩:=hg;obtain⟨its,rv,p,hz⟩:=I.tuple hq;obtain⟨u,hu,ru⟩:=rv.get hx;obtain⟨⟨old,he⟩,hit⟩:=st;have fe:=hf e (by simp);have fi:=hf it (by simp);have lt:i<its.toArray.size:=by
   have:=(List.getElem?_eq_some_iff.mp hu).1
   simpa using this
  have na:a≠it:=λz=>by
   obtain⟨o1,g1,c1,_⟩:=hit;obtain⟨o2,g2,c2,_⟩:=p;rw[z,g1]at g2;cases g2;rw[c1]at c2;injection c2 with c2
   exact absurd c2 (by decide)
  have ne':e≠a:=λz=>by
   obtain⟨o2,g2,c2,_⟩:=p;rw[<-z]at g2;have g3:=he.symm.trans g2;injection g3 with g3
   rw[<-g3]at c2;injection c2 with c2
   exact absurd c2 (by decide)
  refine wpAny_pyNext_enum_itemD (Ue (show X.A.in1.handled=none from I.ok.hd hc) it a na its.toArray) he #[hit,p] lt hne (by simp[hne,ne']) λx' h' tk px out st' htup hsz hk=>?_;have hit':=st'.1;have ex:x'=u:=by
   rw[show its.toArray[i]? =some u by simpa using hu]at px;injection px with px
   exact px.symm
  subst ex;have elt:e<s.heap.objs.size:=yN he;have ilt:it<s.heap.objs.size:=by
   obtain⟨o,ho,_⟩:=hit;exact yN ho
  refine#[.ref s.heap.objs.size,rfl,wpAny_letOwnedTupleGo_enum out λh'' he'' hs''=>?_];have fresh:=I.hok.fresh (zS s.heap.objs.size);have I1:=I.laid (a:=s.heap.objs.size) (o:=.tup [.int (i:Nat),x]) (h':=s.heap.push {cls:=.type "tuple",data:=.seq (List.toArray [.int (i:Nat) tk,x'])}) (t':=s.toks) (λb o q=>zL _ q) (zS _)
   #[sm2,[.int (i:Nat) tk,x'],.cons #[-1] (.cons ru .nil),IsTup.new _ _]
  have fe':Hv X j8 (upd H s.heap.objs.size (.tup [.int (i:Nat),x])) e:=#[by rw[yQ (xT elt)];exact fe.1,fe.2];have fi':Hv X j8 (upd H s.heap.objs.size (.tup [.int (i:Nat),x])) it:=#[by rw[yQ (xT ilt)];exact fi.1,fi.2];have I2:=I1.turned2 (h':=h'') (t':=tk+1) (λb o hbe hbi q=>?_) fe' fi'
  ·refine#[.ref s.heap.objs.size,_,I2,rfl,#[s.heap.objs.size,x,rfl,fresh,rfl,λys hy=>by rw[I.tuple_inj hy hq];exact hx],#[#[_,he''],(by obtain⟨o9,g9,r9⟩:=hit';exact#[o9,(hs''.2 it (Ne.symm hne)).trans g9,r9])],λb hb=>?_]
   rcases List.mem_cons.mp hb with z|z
   ·rw[z];exact fe'.1
   ·rw[List.mem_singleton.mp z];exact fi'.1
  ·rw[hs''.2 b hbe]
   by_cases hb:b=s.heap.objs.size
   ·subst hb;rw[htup];rw[<-q];exact(yI _ rfl).symm
   ·refine hk b o hbe hbi ?_
    rcases DC q with⟨z,_⟩|z
    ·exact absurd z hb
    ·exact z
 done:=by
  intro X hP hw hK hc i j8 s U H E I hf st hg;subst hP hw hK;obtain⟨xs,hq,hx⟩:=hg;obtain⟨its,rv,p,hz⟩:=I.tuple hq;obtain⟨⟨old,he⟩,hit⟩:=st;have hl:=rv.length;obtain⟨f0,f1,f2,f3,f4,f5⟩:=hf it (by simp);exact QE (show X.A.in1.handled=none from I.ok.hd hc) he hit p (by simp;lia) λh' eb=>#[rfl,I.turned (t':=s.toks) (λb o hb q=>eb b o hb q) f0 f1 f3 f4 f5]
 self:=λ_ _ _ _ _ st h=>by
  obtain⟨⟨old,he⟩,_⟩:=st;exact uG he h
inductive SM (K:a7) (vs:List V) (H1:Hp) (R:It->Hp->Prop):Prop
 |mk (a xs:_) (h0:vs=[.ref a]) (h1:uZ K H1 a xs) (h2:R (RT K a) H1):SM K vs H1 R
def zAd (K:a7)(ta:TA):TI:=λU H R=>ta U H λvs H1=>SM K vs H1 R
theorem Lh {X:Cx}{elts:a6 j5}{x1:Nat}{tpos:Pos}{l:j5}{ta:TA}{p pos:Pos}(hg:Gl X "enumerate")(hm:X.mg "enumerate"=none)(ha:PA X [l] ta)(hs:autoParam (starEach [l] X.env=[(false,eval l X.env)]) L2.aE._auto_1):PI X (.Tuple elts x1 tpos) (.Call (.Name "enumerate" p) [l] [] pos) (zAd X.K ta):=by
 refine#[?_];intro j8 s U H R I h;refine Call_ (Eu I hg hm Gs (jG (wO (ha pos j8 s U H _ I h) λus s1 ⟨vs,H1,I1,r1,q1⟩=>?_) hs rfl));obtain⟨a,xs,e,hq,q⟩:=q1;subst e;obtain⟨u,rfl,ru⟩:=GD r1;cases ru;obtain⟨its,rv,pl,hz⟩:=I1.tuple hq;refine LK pl λh' he hit hsz hk=>?_;refine uG (s:={s1 with heap:=h'}) he ?_;have I2:xY X j8 U H1 {s1 with heap:=h'}:=I1.kept (t':=s1.toks) hk;refine#[_,[s1.heap.objs.size+1,s1.heap.objs.size],_,_,H1,rfl,I2,KB a (s1.heap.objs.size+1) s1.heap.objs.size (Db _),#[#[_,he],hit],λb hb=>?_,q]
 rcases List.mem_cons.mp hb with z|z
 ·rw[z];exact I1.fpOk (vF _) (I1.hok.fresh (vF _))
 ·rw[List.mem_singleton.mp z];exact I1.fpOk (zS _) (I1.hok.fresh (zS _))
theorem HL {K:a7}{a:i3}{xs:a6 V}{g:TG}{tb:TS}{D:FI}{U:St}{H:Hp}(Pv:Nat->St->Hp->Prop)(h0:Pv 0 U H)(hl: ∀i U H,i<=xs.length->Pv i U H->uZ K H a xs)
  (hs: ∀i x U H t,xs[i]? =some x->Pv i U H->H t=none->g (.ref t) U (upd H t (.tup [.int (i:Nat),x])) λU2 H2=>tb {D with nx:=Pv (i+1),ct:=Pv (i+1),bk:=D.nx} U2 H2) (hd: ∀U H,Pv xs.length U H->D.nx U H):
  ∃W:Nat->Nat->St->Hp->Prop,(∃m,W 0 m U H)/\ ∀i m U H,W i m U H->
   ((RT K a).stop i H/\D.nx U H)\/((RT K a).go i H/\ ∃N:St->Hp->Prop,(∀U' H',N U' H'-> ∃m',m'<m/\W (i+1) m' U' H')/\ ∀x H',(RT K a).yld i H x H'->g x U H' λU2 H2=>tb {D with nx:=N,ct:=N,bk:=D.nx} U2 H2):=by
 refine#[λi m U H=>m=xs.length-i/\i<=xs.length/\Pv i U H,#[xs.length,by simp,xG _,h0],?_];rintro i m U H ⟨rfl,hi,p⟩;have q:=hl i U H hi p
 by_cases o5:i<xs.length
 ·refine .inr #[#[xs,xs[i],q,zF o5],Pv (i+1),λU' H' p'=>#[xs.length-(i+1),(),rfl,o5,p'],λy H' yd=>?_];obtain⟨t,x,rfl,ht,rfl,hx⟩:=yd;exact hs i x U H t (hx xs q) p ht
 ·have e:i=xs.length:=()
  subst e;exact .inl #[#[xs,q,zS _],hd U H p]
def zAe (K:a7)(ta:TA):TI:=λU H R=>ta U H λvs H1=> ∃a,vs=[.ref a]/\((∃xs,kF K H1 a xs)/\R (Ite K a) H1\/(∃xs,uZ K H1 a xs)/\R (RT K a) H1)
theorem Vp (hg:Gl X "enumerate")(hm:X.mg "enumerate"=none)(ha:PA X [l] ta)(hs:autoParam (starEach [l] X.env=[(false,eval l X.env)]) L2.aE._auto_1):PI X (.Tuple elts x1 tpos) (.Call (.Name "enumerate" p) [l] [] pos) (zAe X.K ta):=by
 refine#[?_];intro j8 s U H R I h;refine Call_ (Eu I hg hm Gs (jG (wO (ha pos j8 s U H _ I h) λus s1 ⟨vs,H1,I1,r1,q1⟩=>?_) hs rfl));obtain⟨a,e,q⟩:=q1;subst e;obtain⟨u,rfl,ru⟩:=GD r1;cases ru;have fp: ∀b∈[s1.heap.objs.size+1,s1.heap.objs.size],Hv X j8 H1 b:=λb hb=>by
  rcases List.mem_cons.mp hb with z|z
  ·rw[z];exact I1.fpOk (vF _) (I1.hok.fresh (vF _))
  ·rw[List.mem_singleton.mp z];exact I1.fpOk (zS _) (I1.hok.fresh (zS _))
 rcases q with⟨⟨xs,hq⟩,q⟩|⟨⟨xs,hq⟩,q⟩
 ·obtain⟨its,rv,pl,hz⟩:=I1.list hq;refine call_enumerate_list pl.isList λh' he hit hsz hk=>uG (s:={s1 with heap:=h'}) he ?_;exact#[_,[s1.heap.objs.size+1,s1.heap.objs.size],_,_,H1,rfl,I1.kept (t':=s1.toks) hk,Mu a (s1.heap.objs.size+1) s1.heap.objs.size (Db _),#[#[_,he],hit],fp,q]
 ·obtain⟨its,rv,pl,hz⟩:=I1.tuple hq;refine LK pl λh' he hit hsz hk=>uG (s:={s1 with heap:=h'}) he ?_;exact#[_,[s1.heap.objs.size+1,s1.heap.objs.size],_,_,H1,rfl,I1.kept (t':=s1.toks) hk,KB a (s1.heap.objs.size+1) s1.heap.objs.size (Db _),#[#[_,he],hit],fp,q]
theorem Ud {K:a7}{a:i3}{xs:a6 V}{g:TG}{tb:TS}{D:FI}{U:St}{H0 H:Hp}(hq:Sq K H0 a xs)(Pv:Nat->St->Hp->Prop)(h0:Pv 0 U H)(hl: ∀i U H',i<=xs.length->Pv i U H'->xK H0 H')
  (hs: ∀i x U H t,xs[i]? =some x->Pv i U H->H t=none->g (.ref t) U (upd H t (.tup [.int (i:Nat),x])) λU2 H2=>tb {D with nx:=Pv (i+1),ct:=Pv (i+1),bk:=D.nx} U2 H2) (hd: ∀U H,Pv xs.length U H->D.nx U H):
  (∃xs,kF K H a xs)/\Wk (Ite K a) g tb D U H\/(∃xs,uZ K H a xs)/\Wk (RT K a) g tb D U H:=by
 rcases hq with hq|hq
 ·exact .inl #[#[xs,(hl 0 _ _ (xG _) h0).seq hq],Ly Pv h0 (λi U' H' hi p=>(hl i U' H' hi p).seq hq) hs hd]
 ·exact .inr #[#[xs,xK.seqT (hl 0 _ _ (xG _) h0) hq],HL Pv h0 (λi U' H' hi p=>xK.seqT (hl i U' H' hi p) hq) hs hd]
end L2
namespace L2
open PySem
def HP (v:Int):Prop:= -LQ<v/\v<LQ
theorem HP.big (h:HP v):v.natAbs<2^2000:=by
 have:v.natAbs<(10000000000000000000000000000000000000000000000000000000000000000000000000000000000000000000000000000:Nat):=by
  unfold HP LQ at h;omega
 exact Nat.lt_trans this (by decide)
noncomputable instance (v:Int):Decidable (HP v):=inferInstanceAs (Decidable (_/\_))
noncomputable def rk (k a b:Int):i4 Int:=
 if k=8 then(if HP (a+b)then some (a+b)else none)else if k=9 then(if HP (a-b)then some (a-b)else none)else if k=10 then(if HP (a*b)then some (a*b)else none)
 else if k=13 then some (if a<b then 1 else 0)else if k=14 then some (if a=b then 1 else 0)else if b=0 then none else if k=11 then some (a.fdiv b)else some (a.fmod b)
theorem zBg (v:Int):(HP v/\wV v=[.non,.int v])\/(¬HP v/\wV v=[.str "great",.int 0]):=by
 unfold wV
 by_cases h:v ≥ LQ\/v<= -LQ
 ·rw[zP h];exact .inr #[λz=>by unfold HP at z;lia,rfl]
 ·rw[zO h];exact .inl #[by unfold HP;lia,rfl]
theorem Xs (k a b:Int):(∃v,rk k a b=some v/\Gx k a b=[.non,.int v])\/(rk k a b=none/\ ∃z,Gx k a b=[.str z,.int 0]):=by
 have two: ∀v:Int,(∃u,(if HP v then some v else none)=some u/\wV v=[.non,.int u])\/((if HP v then some v else none)=none/\ ∃z,wV v=[.str z,.int 0]):=λv=>by
  rcases zBg v with⟨h,e⟩|⟨h,e⟩
  ·exact .inl #[v,zP h,e]
  ·exact .inr #[zO h,_,e]
 unfold rk Gx
 by_cases h8:k=8
 ·simp only[zP h8];exact two _
 by_cases h9:k=9
 ·simp only[zO h8,zP h9];exact two _
 by_cases h10:k=10
 ·simp only[zO h8,zO h9,zP h10];exact two _
 simp only[zO h8,zO h9,zO h10]
 by_cases h13:k=13
 ·simp only[zP h13];exact .inl #[-1,rfl]
 by_cases h14:k=14
 ·simp only[zO h13,zP h14];exact .inl #[-1,rfl]
 simp only[zO h13,zO h14]
 by_cases hb:b=0
 ·rw[zP hb,zP hb];exact .inr #[rfl,-1]
 by_cases h11:k=11
 ·simp only[zO hb,zP h11];exact .inl #[-1,rfl]
 ·simp only[zO hb,zO h11];exact .inl #[-1,rfl]
theorem WF (ha:HP a):HP (a.fdiv b):=by
 have e:=EL a b;unfold HP at *
 omega
theorem WD {a b:Int}(hb:HP b)(h0:b≠0):HP (a.fmod b):=by
 unfold HP at *
 rcases Int.lt_or_gt_of_ne h0 with h|h
 ·have h1:=Ap a h0;have h2:=Int.emod_lt_of_neg a h;rw[Int.fmod_eq_emod];split
  ·lia
  ·lia
 ·have h1:=Int.fmod_nonneg_of_pos a h;have h2:=Int.fmod_lt_of_pos a h;omega
theorem Zv (ha:HP a)(hb:HP b)(h:rk k a b=some v):HP v:=by
 have one: ∀p:Prop,[Decidable p]->HP (if p then 1 else 0):=λp _=>by
  unfold HP;split<;>decide
 have two: ∀u:Int,(if HP u then some u else none)=some v->HP v:=λu z=>by
  split at z
  ·cases z;assumption
  ·cases z
 unfold rk at h;split at h
 ·exact two _ h
 split at h
 ·exact two _ h
 split at h
 ·exact two _ h
 split at h
 ·cases h;exact one _
 split at h
 ·cases h;exact one _
 split at h
 ·cases h
 rename_i h0;split at h
 ·cases h;exact WF ha
 ·cases h;exact WD hb h0
mutual
noncomputable def kP:Tr->i4 Int
 | .mk k own ps=>if k=0 then own.head? else if k<8\/14<k then none else
  match GF ps with
  |[some a,some b]=>rk k a b
  |_=>none
noncomputable def GF:a6 Tr->a6 (i4 Int)
 |[]=>[]
 |a::r=>kP a::GF r
end
def OC:Nat->Tr->Prop
 |0,_=>False
 |d+1,.mk k own ps=>(k=0-> ∃n,own=[n]/\HP n)/\(8<=k->k<=14->ps.length=2)/\ ∀p,p∈ps->OC d p
theorem Km: ∀(d:Nat) (t:Tr) (v:Int),OC d t->kP t=some v->HP v
 |0,_,_,h,_=>h.elim
 |d+1,.mk k own ps,v,⟨h0,h2,hp⟩,e=>by
  unfold kP at e;split at e
  ·rename_i hk;obtain⟨n,rfl,fn⟩:=h0 hk;cases e;exact fn
  split at e
  ·cases e
  rename_i hk;have l2:=h2 () ()
  match ps,l2,hp,e with
  |[p,q],_,hp,e=>
   simp only[GF]at e;split at e
   ·rename_i a b z;injection z with z1 z2
    injection z2 with z2 _
    exact Zv (Km d p a (hp p (by simp)) z1) (Km d q b (hp q (by simp)) z2) e
   ·cases e
theorem Xf (k0:k≠0)(k8:8<=k)(k14:k<=14)(p1 p2:Tr):kP (.mk k own [p1,p2])=match[kP p1,kP p2]with
  |[some a,some b]=>rk k a b
  |_=>none:=by
 show(if k=0 then own.head? else if k<8\/14<k then none else match GF [p1,p2]with
  |[some a,some b]=>rk k a b
  |_=>none)=_
 rw[zO k0,zO ()];rfl
noncomputable def oZ:i4 Int->V
 |none=>.non
 |some n=>.int n
inductive FW (d:Nat) (vs:List V) (H:Hp) (Q:VK) (E:XK):Prop
 |mk (v:V) (t:Tr) (h0:vs=[v]) (h1:Jl H d v t) (h2:OC d t) (h3: ∀H',xK H H'->Q (oZ (kP t)) H'):FW d vs H Q E
theorem Ky (h: ∀vs H Q E,¬sp vs H Q E):Dx P w K mg base CX k f fd ps sp:=
 #[λ_ _ _ _ z=>(h _ _ _ _ z).elim,λ_ _ _ _ _ _ _ _ _ _ _ _ _ z=>(h _ _ _ _ z).elim]
end L2
namespace L2
open PySem PySem.Spec
section
variable {X:Cx}
inductive YG (K:a7) (x:V) (y:V) (H:Hp) (Q:VK):Prop
 |mk (a b:i3) (i j k:Int) (z:V) (h0:x=.ref a) (h1:y=.ref b) (h2:uZ K H a [.int i,.int j]) (h3:uZ K H b [.int k,z]) (h4:DR z=true) (h5:Q (.bl (!(i==k&&Fs (.int j) z))) H):YG K x y H Q
theorem IT (hr:Am k X.A):Hu X (compareOp .NotEq) (YG X.K):=by
 intro j8 s U H x y v u Q I rx ry h;obtain⟨a,b,i,j,k',z,rfl,rfl,ha,hb,fz,q⟩:=h;cases rx;cases ry;have hu:=hr.un;obtain⟨us,r,pa,_⟩:=I.tuple ha;obtain⟨vs,q',pb,_⟩:=I.tuple hb;obtain⟨u1,u2,rfl,r1,r2⟩:=r.two;obtain⟨w1,w2,rfl,t1,t2⟩:=q'.two;have:=SeqAt.RcNeAt.tuples (A:=X.A) (s:=s) (e:=λn=>if n=0 then Fs (.int i) (.int k')else Fs (.int j) z) pa pb () (λn h1 h2=>by
  have h1:n<2:=h1
  rcases(by lia:n=0\/n=1)with rfl|rfl
  ·exact Gr r1 t1 rfl rfl
  ·exact Gr r2 t2 rfl fz)
 have e:(!((List.range (min 2 2)).all (λn=>if n=0 then Fs (.int i) (.int k')else Fs (.int j) z)&&(2==2)))=!(i==k'&&Fs (.int j) z):=by
  show(!((Fs (.int i) (.int k')&&(Fs (.int j) z&&true))&&true))=_;rw[uP,uP];rfl
 have this:SeqAt.RcNeAt X.A s (Value.ref a) (Value.ref b) (!(i==k'&&Fs (.int j) z)):=e▸this;exact this _ _ _ _ #[.bl _,H,I,rfl,q]
end
noncomputable def BO (rs:vS)(a:i4 Nat):i4 Nat:=a.bind λi=>if i<rs.length then Mh rs i else none
noncomputable def xO (rs:vS)(a b:i4 Nat):i7:=(BO rs a).isSome&&decide (BO rs a=BO rs b)
noncomputable def kR (rs:vS)(a:i4 Nat)(op n:Int):i4 Nat:=(BO rs a).bind λl=>if rs[l]? =some (op,n)then some (l+1)else none
theorem ZU (h:Mh rs i=some l):l<rs.length:=by
 unfold Mh at h;split at h
 ·rename_i c;cases h;exact c.1
 ·cases h
theorem Fg (h:BO rs a=some l):l<rs.length:=by
 cases a with
 |none=>cases h
 |some i=>
  have h:(if i<rs.length then Mh rs i else none)=some l:=h;split at h
  ·exact ZU h
  ·cases h
noncomputable def CkO (C dx r l d q:i3):HO:=.ins C dx [("rows",.ref r),("leads",.ref l),("lines",.ref d),("right",.ref q)]
def Yv (H:Hp):i4 V->i4 (Nat×Nat)->Prop
 |none,none=>True
 |some v,some be=> ∃t,v=.ref t/\H t=some (.tup [.int (be.1:Nat),.int (be.2:Nat)])
 |_,_=>False
structure Iy (C:i3)(H:Hp)(c dx r l d q:i3)(rs:vS)(L:Int->Option (Nat×Nat))(R:Int->Option i7):Prop where
 ob:H c=some (CkO C dx r l d q)
 rows:qS H r (Jo rs)
 leads:H l=some (.lst ((List.range rs.length).map λi=>oI (Mh rs i)))
 lines: ∃kvs:List (Bk×V),H d=some (.dK kvs)/\ ∀p:Int,Yv H (Ak kvs (.inl p)) (L p)
 right: ∃kvs:List (Bk×V),H q=some (.dK kvs)/\ ∀p:Int,Ak kvs (.inl p)=(R p).map V.bl
theorem Yv.same (s:xK H H'): ∀{o:i4 V} {b:i4 (Nat×Nat)},Yv H o b->Yv H' o b
 |none,none,_=>trivial
 |some _,some _,⟨t,e,h⟩=>#[t,e,s _ _ h]
 |none,some _,h=>h.elim
 |some _,none,h=>h.elim
theorem Iy.same (s:xK H H')(h:Iy C H c dx r l d q rs L R):Iy C H' c dx r l d q rs L R:=by
 obtain⟨kv,e1,e2⟩:=h.lines;obtain⟨kr,e3,e4⟩:=h.right;obtain⟨vs,e5,e6⟩:=h.rows;exact#[s _ _ h.ob,#[vs,s _ _ e5,Paired.imp (λ_ _ ⟨t,a,b⟩=>#[t,a,s _ _ b]) e6],s _ _ h.leads,#[kv,s _ _ e1,λp=>(e2 p).same s],#[kr,s _ _ e3,e4]]
theorem Iy.line (h:Iy C H c dx r l d q rs L R)(hp:L p=some (b,e)): ∃t,EC H d (.int p) (some (.ref t))/\H t=some (.tup [.int (b:Nat),.int (e:Nat)]):=by
 obtain⟨kv,e1,e2⟩:=h.lines;have z:=e2 p;rw[hp]at z;cases w:Ak kv (.inl p)with
 |none=>rw[w]at z;exact z.elim
 |some v=>
  rw[w]at z;obtain⟨t,rfl,et⟩:=z;exact#[t,w▸EC.k (k:=.inl p) e1,et]
theorem Iy.has (h:Iy C H c dx r l d q rs L R)(p:Int): ∃o,EC H d (.int p) o/\o.isSome=(L p).isSome:=by
 obtain⟨kv,e1,e2⟩:=h.lines;refine#[Ak kv (.inl p),EC.k (k:=.inl p) e1,?_];have z:=e2 p;cases w:Ak kv (.inl p)<;>cases y:L p<;>rw[w,y]at z<;>first|rfl|exact z.elim
theorem Iy.rt (h:Iy C H c dx r l d q rs L R)(hp:R p=some b):EC H q (.int p) (some (.bl b)):=by
 obtain⟨kv,e1,e2⟩:=h.right;have z:=e2 p;rw[hp]at z;have z:Ak kv (.inl p)=some (.bl b):=z;exact z▸EC.k (k:=.inl p) e1
theorem Iy.lead (h:Iy C H c dx r l d q rs L R)(hi:i<rs.length):((List.range rs.length).map λi=>oI (Mh rs i))[i]? =some (oI (Mh rs i)):=by
 rw[yJ,vB hi];rfl
inductive Ef (C:i3) (vs:List V) (H:Hp) (Q:VK) (E:XK):Prop
 |mk (c dx r l d q:i3) (rs:vS) (L:Int->Option (Nat×Nat)) (R:Int->Option i7) (a:Option Nat) (h0:vs=[.ref c,oI a]) (h1:Iy C H c dx r l d q rs L R) (h2:Q (oI (BO rs a)) H):Ef C vs H Q E
inductive Eg (C:i3) (vs:List V) (H:Hp) (Q:VK) (E:XK):Prop
 |mk (c dx r l d q:i3) (rs:vS) (L:Int->Option (Nat×Nat)) (R:Int->Option i7) (a b:Option Nat) (h0:vs=[.ref c,oI a,oI b]) (h1:Iy C H c dx r l d q rs L R) (h2:Q (.bl (xO rs a b)) H):Eg C vs H Q E
noncomputable def Ow (rs:vS)(a:i4 Nat)(op:Int)(n:i4 Int):i4 Nat:=n.bind λm=>kR rs a op m
inductive Dp (C:i3) (vs:List V) (H:Hp) (Q:VK) (E:XK):Prop
 |mk (c dx r l d q:i3) (rs:vS) (L:Int->Option (Nat×Nat)) (R:Int->Option i7) (a:Option Nat) (t:i3) (op:Int) (n:Option Int) (h0:vs=[.ref c,oI a,.ref t]) (h1:Iy C H c dx r l d q rs L R) (h2:H t=some (.tup [.int op,oZ n])) (h3:Q (oI (Ow rs a op n)) H):Dp C vs H Q E
inductive Av (C:i3) (f:Nat×Nat->Nat) (vs:List V) (H:Hp) (Q:VK) (E:XK):Prop
 |mk (c dx r l d q:i3) (rs:vS) (L:Int->Option (Nat×Nat)) (R:Int->Option i7) (tn:i3) (k p:Int) (x y:V) (be:Nat×Nat) (h0:vs=[.ref c,.ref tn]) (h1:Iy C H c dx r l d q rs L R) (h2:H tn=some (.tup [.int k,.int p,x,y])) (h3:L p=some be) (h4:Q (.int (f be:Nat)) H):Av C f vs H Q E
inductive BI (C:i3) (f:Nat×Nat->Nat) (vs:List V) (H:Hp) (Q:VK) (E:XK):Prop
 |mk (c dx r l d q:i3) (rs:vS) (L:Int->Option (Nat×Nat)) (R:Int->Option i7) (tn tp:i3) (k p k' p':Int) (x y x' y':V) (be be':Nat×Nat) (h0:vs=[.ref c,.ref tn,.ref tp]) (h1:Iy C H c dx r l d q rs L R) (h2:H tn=some (.tup [.int k,.int p,x,y])) (h3:L p=some be) (h4:H tp=some (.tup [.int k',.int p',x',y'])) (h5:L p'=some be') (h6:Q (.bl (xO rs (some (f be')) (some (f be)))) H):BI C f vs H Q E
def RtV (H:Hp)(R:Int->i4 i7)(v:V)(b:i7):Prop:= ∃(t:i3) (k p:Int) (x y:V),v=.ref t/\H t=some (.tup [.int k,.int p,x,y])/\R p=some b
inductive HZ (C:i3) (vs:List V) (H:Hp) (Q:VK) (E:XK):Prop
 |mk (c dx r l d q:i3) (rs:vS) (L:Int->Option (Nat×Nat)) (R:Int->Option i7) (pt:i3) (m6:List V) (bs:List i7) (h0:vs=[.ref c,.ref pt]) (h1:Iy C H c dx r l d q rs L R) (h2:H pt=some (.tup m6)) (h3:Paired (RtV H R) m6 bs) (h4:m6.length<=1000) (h5: ∀H',xK H H'->Q (.bl (bs.all id)) H'):HZ C vs H Q E
noncomputable def Bn (rs:vS)(a:i4 Nat):i4 Nat:=(BO rs a).bind λl=>match rs[l]? with
 |some (5,n)=>some n.toNat
 |_=>none
def UOk (rs:vS):Prop:= ∀(i:Nat) (n:Int),rs[i]? =some (5,n)->0<=n
inductive QI (C:i3) (vs:List V) (H:Hp) (Q:VK) (E:XK):Prop
 |mk (c dx r l d q:i3) (rs:vS) (L:Int->Option (Nat×Nat)) (R:Int->Option i7) (a:Option Nat) (h0:vs=[.ref c,oI a]) (h1:Iy C H c dx r l d q rs L R) (h2:UOk rs) (h3:Q (oI (Bn rs a)) H):QI C vs H Q E
def LnP (H:Hp)(L:Int->i4 (Nat×Nat))(v:V)(be:Nat×Nat):Prop:= ∃(t:i3) (k p:Int) (x y:V),v=.ref t/\H t=some (.tup [.int k,.int p,x,y])/\L p=some be
noncomputable def NQ (rs:vS)(be:Nat×Nat)(v:Int):i7:=xO rs (kR rs (some be.1) 0 v) (some be.2)
noncomputable def AJ (rs:vS)(at_:Nat):a6 (Nat×Nat)->i4 Nat
 |[]=>some at_
 |b::r=>if xO rs (some at_) (some b.1)=true then AJ rs b.2 r else none
inductive Nl (C:i3) (vs:List V) (H:Hp) (Q:VK) (E:XK):Prop
 |mk (c dx r l d q:i3) (rs:vS) (L:Int->Option (Nat×Nat)) (R:Int->Option i7) (tn:i3) (k p:Int) (x:V) (pt:i3) (m6:List V) (be:Nat×Nat) (o6:List (Nat×Nat)) (h0:vs=[.ref c,.ref tn]) (h1:Iy C H c dx r l d q rs L R) (h2:H tn=some (.tup [.int k,.int p,x,.ref pt])) (h3:H pt=some (.tup m6)) (h4:L p=some be) (h5:Paired (LnP H L) m6 o6) (h6:Q (oI (AJ rs be.1 o6)) H):Nl C vs H Q E
noncomputable def Ss (rs:vS)(be:Nat×Nat):i4 Int->i7
 |none=>false
 |some n=>NQ rs be n
inductive KF (C:i3) (e:Nat) (vs:List V) (H:Hp) (Q:VK) (E:XK):Prop
 |mk (c dx r l d q:i3) (rs:vS) (L:Int->Option (Nat×Nat)) (R:Int->Option i7) (tn:i3) (k p:Int) (x y:V) (t:Tr) (be:Nat×Nat) (h0:vs=[.ref c,.ref tn]) (h1:Iy C H c dx r l d q rs L R) (h2:H tn=some (.tup [.int k,.int p,x,y])) (h3:Jl H e (.ref tn) t) (h4:OC e t) (h5:L p=some be) (h6: ∀H',xK H H'->Q (.bl (Ss rs be (kP t))) H'):KF C e vs H Q E
noncomputable def Pd (v:Int)(n:Nat):Nat:=if v<0\/v ≥ (n:Int)-1 then n-1 else 1+v.toNat
theorem Vl (h:0<n):Pd v n<n:=by
 unfold Pd;split
 ·lia
 ·lia
inductive KG (vs:List V) (H:Hp) (Q:VK) (E:XK):Prop
 |mk (v:Int) (pt:i3) (m6:List V) (x:V) (h0:vs=[.int v,.ref pt]) (h1:H pt=some (.tup m6)) (h2:0<m6.length) (h3:m6[Pd v m6.length]? =some x) (h4:Q x H):KG vs H Q E
def PtV (H:Hp)(L:Int->i4 (Nat×Nat))(R:Int->i4 i7)(v:V)(i:i7×Nat×Nat):Prop:= ∃(t:i3) (k p:Int) (x y:V),v=.ref t/\H t=some (.tup [.int k,.int p,x,y])/\R p=some i.1/\(i.1=true->L p=some i.2)
noncomputable def RL (rs:vS)(be:Nat×Nat)(is:a6 (i7×Nat×Nat)):i4 Int->i7
 |none=>false
 |some v=>match is[Pd v is.length]? with
  |some i=>i.1&&(xO rs (some i.2.1) (some be.1)&&xO rs (some i.2.2) (some be.2))
  |none=>false
inductive KL (C:i3) (e:Nat) (vs:List V) (H:Hp) (Q:VK) (E:XK):Prop
 |mk (c dx r l d q:i3) (rs:vS) (L:Int->Option (Nat×Nat)) (R:Int->Option i7) (tn:i3) (k p:Int) (x:V) (pt:i3) (m6:List V) (is:List (i7×Nat×Nat)) (v0:V) (t0:Tr) (be:Nat×Nat) (h0:vs=[.ref c,.ref tn]) (h1:Iy C H c dx r l d q rs L R) (h2:H tn=some (.tup [.int k,.int p,x,.ref pt])) (h3:H pt=some (.tup m6)) (h4:L p=some be) (h5:Paired (PtV H L R) m6 is) (h6:m6[0]? =some v0) (h7:Jl H e v0 t0) (h8:OC e t0) (h9: ∀H',xK H H'->Q (.bl (RL rs be is (kP t0))) H'):KL C e vs H Q E
noncomputable def IS (rs:vS)(be:Nat×Nat)(o6:a6 (Nat×Nat))(k:Int)(g:a6 Int):i7:=
 let after:=kR rs (AJ rs be.1 o6) (g.headD 0) (g.getD 1 0)
 if k=7 then after.isSome else xO rs after (some be.2)
end L2
namespace L2
open PySem PySem.Spec PyProof.Rows
structure Nx (prog:i6)(w:i9)(it a:i3)(xs:Array a9)(St:Nat->j3->Prop):Prop where
 item: ∀{A:j4} {E:a9->i5->Prop} {k:Nat} {s:i5} {x:a9} {Q:a9->i5->Prop},St k s.heap->xs[k]? =some x->(∀h',St (k+1) h'->Heap.SameBut it s.heap h'->Q x {s with heap:=h'})->wpAny (model prog w) A (Builtin.SmallTypes.nextOf (.ref it)) Q E s
 stop: ∀{A:j4} {E:a9->i5->Prop} {k:Nat} {s:i5} {Q:a9->i5->Prop},A.handled=none->St k s.heap->xs[k]? =none->(∀h' e,Heap.ExtBut it s.heap h'->(∃o,h'.get? e=some o/\o.cls=.type "StopIteration")->E (.ref e) {s with heap:=h'})->wpAny (model prog w) A (Builtin.SmallTypes.nextOf (.ref it)) Q E s
 keep: ∀{k:Nat} {h h':j3},St k h->(∀o,h.get? it=some o->h'.get? it=some o)->(∀o,h.get? a=some o->h'.get? a=some o)->St k h'
 here: ∀{k:Nat} {h:j3},St k h->(∃o,h.get? it=some o/\ ∀v,o.data≠ .cell v)/\ ∃o,h.get? a=some o
section
variable {prog:i6}{w:i9}{it a:i3}{xs:j6 a9}
theorem Nx.list (ne:a≠it):Nx prog w it a xs (λk h=>h.IsListIter it a k/\h.IsList a xs) where
 item:=λst hx q=>wpAny_nextOf_list_item st.1 st.2 hx λh' i sb=>q h' #[i,st.2.extBut sb.extBut ne] sb
 stop:=λhh st hx q=>wpAny_nextOf_list_end hh st.1 st.2 hx q
 keep:=λst k1 k2=>by
  obtain⟨⟨o,e,r⟩,o2,e2,r2⟩:=st;exact#[#[o,k1 o e,r],o2,k2 o2 e2,r2]
 here:=λst=>by
  obtain⟨⟨o,e,r1,r2⟩,o2,e2,_⟩:=st;exact#[#[o,e,λv z=>by rw[r2]at z;cases z],o2,e2]
theorem Rl (hit:s.heap.IsTupleIter it a k)(ht:s.heap.IsTuple a xs)(hx:xs[k]? =some x)(q: ∀h',h'.IsTupleIter it a (k+1)->Heap.SameBut it s.heap h'->Q x {s with heap:=h'}):
  wpAny (model prog w) A (Builtin.SmallTypes.nextOf (.ref it)) Q E s:=by
 obtain⟨o,ho,hc,hd⟩:=id hit;obtain⟨ol,hol,_,nl,hdl⟩:=ht;unfold Builtin.SmallTypes.nextOf;refine zD (jH (name:=Str.ofString "__next__") hit.typeIs jP (kE jP hit.typeIs vE ?_ (wZ _)));show wpAny _ _ (field (.ref it) 0>>=_) _ _ s;refine zD (jF ho hd (x:=.ref a) rfl ?_);show wpAny _ _ (if(Value.ref a==Value.none)=true then _ else _) _ _ s;rw[zO (show ¬((Value.ref a==Value.none)=true)from yT)];show wpAny _ _ (field (.ref it) 1>>=_) _ _ s;refine zD (jF ho hd (x:=.int k 0) rfl ?_);show wpAny _ _ (seqItems? (.ref a)>>=_) _ _ s;refine zD (qT hol hdl ?_);simp only[xV,hx];refine zD (uX ho hd (by simp) (yB #[x,rfl,yB (q _ ?_ (uU ..))]));exact#[_,vT _ ho (Ay (wM hd _)),(Fe ..).trans hc,by rw[wM hd];simp[rawInt]]
theorem QD (hh:A.handled=none)(hit:s.heap.IsTupleIter it a k)(ht:s.heap.IsTuple a xs)(hx:xs[k]? =none)
  (q: ∀h' e,Heap.ExtBut it s.heap h'->(∃o,h'.get? e=some o/\o.cls=.type "StopIteration")->E (.ref e) {s with heap:=h'}):wpAny (model prog w) A (Builtin.SmallTypes.nextOf (.ref it)) Q E s:=by
 obtain⟨o,ho,hc,hd⟩:=id hit;obtain⟨ol,hol,_,nl,hdl⟩:=ht;unfold Builtin.SmallTypes.nextOf;refine zD (jH (name:=Str.ofString "__next__") hit.typeIs jP (kE jP hit.typeIs vE ?_ (wZ _)));show wpAny _ _ (field (.ref it) 0>>=_) _ _ s;refine zD (jF ho hd (x:=.ref a) rfl ?_);show wpAny _ _ (if(Value.ref a==Value.none)=true then _ else _) _ _ s;rw[zO (show ¬((Value.ref a==Value.none)=true)from yT)];show wpAny _ _ (field (.ref it) 1>>=_) _ _ s;refine zD (jF ho hd (x:=.int k 0) rfl ?_);show wpAny _ _ (seqItems? (.ref a)>>=_) _ _ s;refine zD (qT hol hdl ?_);simp only[xV,hx];refine zD (EF (zD (uX ho hd (by simp) ?_)));show wpAny _ _ (newExc (.type "StopIteration") []>>=_) _ _ _;refine zD ?_;simp only[newExc,newTuple];refine zD (jV ?_ (by size_fits));refine zD (m:=firstArgMember _ _) (uH (a:=Value.none) (by first|rfl|(simp only[firstArgMember];rfl)) ?_);refine jV ?_ (by size_fits);simp only[raiseNew];refine zD (wpAny_handled ?_);rw[show A.in1.handled=none from hh];refine zD (yB (wpAny_throw ?_));exact q _ _ (((uU ..).extBut.push _).push _) #[_,yI _ rfl,rfl]
theorem Nx.tuple (ne:a≠it):Nx prog w it a xs (λk h=>h.IsTupleIter it a k/\h.IsTuple a xs) where
 item:=λst hx q=>Rl st.1 st.2 hx λh' i sb=>q h' #[i,st.2.extBut sb.extBut ne] sb
 stop:=λhh st hx q=>QD hh st.1 st.2 hx q
 keep:=λst k1 k2=>by
  obtain⟨⟨o,e,r⟩,o2,e2,r2⟩:=st;exact#[#[o,k1 o e,r],o2,k2 o2 e2,r2]
 here:=λst=>by
  obtain⟨⟨o,e,r1,r2⟩,o2,e2,_⟩:=st;exact#[#[o,e,λv z=>by rw[r2]at z;cases z],o2,e2]
end
structure ZA (z TI TO i1 i2 a1 a2:i3):Prop where
 TIz:TI≠z
 TOz:TO≠z
 i1z:i1≠z
 i2z:i2≠z
 TITO:TI≠TO
 TIi1:TI≠i1
 TIi2:TI≠i2
 TOi1:TO≠i1
 TOi2:TO≠i2
 i12:i1≠i2
 a1z:a1≠z
 a1TO:a1≠TO
 a1i1:a1≠i1
 a1i2:a1≠i2
 a2z:a2≠z
 a2TO:a2≠TO
 a2i1:a2≠i1
 a2i2:a2≠i2
section
variable {prog:i6}{w:i9}{A:j4}{E:a9->i5->Prop}{s:i5}{z TI TO i1 i2 a1 a2:i3}{xs ys:j6 a9}{S1 S2:Nat->j3->Prop}{k:Nat}{u v:a9}
def K4 (z TO i1 i2:i3)(h h':j3):Prop:= ∀c o,c≠z->c≠TO->c≠i1->c≠i2->h.get? c=some o->h'.get? c=some o
theorem UC (D:ZA z TI TO i1 i2 a1 a2)(N1:Nx prog w i1 a1 xs S1)(N2:Nx prog w i2 a2 ys S2){x y:a9}{Q:a9->i5->Prop}(hz:IsZip s.heap z TI TO .none)(hTI:IsPair s.heap TI (.ref i1) (.ref i2))(hTO:IsPair s.heap TO u v)
  (s1:S1 k s.heap) (s2:S2 k s.heap) (hx:xs[k]? =some x) (hy:ys[k]? =some y)
  (q: ∀h',IsZip h' z TI TO (rawInt s.heap.objs.size)->IsPair h' TO x y->S1 (k+1) h'->S2 (k+1) h'->IsPair h' s.heap.objs.size x y->K4 z TO i1 i2 s.heap h'->Q (.ref s.heap.objs.size) {s with heap:=h'}):
  wpAny (model prog w) A (Builtin.«zip.__next__» #[[.ref z],[]]) (λfin s'=> ∃v,fin=.done (.ret v)/\Q v s') E s:=by
 show wpAny _ _ (field (.ref z) 2>>=_) _ _ _;refine zD (jF hz rfl (x:=.bool false) rfl ?_);show wpAny _ _ (field (.ref z) 3>>=_) _ _ _;refine zD (jF hz rfl (x:=.ref TI) rfl (zD (qT hTI rfl ?_)));show wpAny _ _ (Builtin.SmallTypes.ownedTupleIsFree (.ref z)>>=_) _ _ _;unfold Builtin.SmallTypes.ownedTupleIsFree;refine zD (zD (jF hz rfl (x:=.none) rfl (yB ?_)));simp only[EZ];refine zD (EF (zD (jF hz rfl (x:=.ref TO) rfl (zD (vL hz (by simp) λh1 z1 b1=>zD ?_)))));have z1:IsZip h1 z TI TO .ellipsis:=z1;simp only[List.zipIdx_cons,List.zipIdx_nil,DO,List.forIn_nil];refine zD (zD (Fk ?_));show wpAny _ _ (Builtin.SmallTypes.nextOf (.ref i1)>>=_) _ _ _;have p1:S1 k h1:=N1.keep s1 (λo e=>b1.extBut _ _ D.i1z e) (λo e=>b1.extBut _ _ D.a1z e);refine zD (N1.item p1 hx λh2 p2 b2=>yB ?_);have t2:IsPair h2 TO u v:=b2.extBut _ _ D.TOi1 (b1.extBut _ _ D.TOz hTO);refine zD (qT t2 rfl (zD (Dy t2 λh3 t3 b3=>zD (wpAny_letGo (yB ?_)))));have t3:IsPair h3 TO x v:=t3;refine zD (zD (Fk ?_));show wpAny _ _ (Builtin.SmallTypes.nextOf (.ref i2)>>=_) _ _ _;have r3:S2 k h3:=N2.keep s2 (λo e=>b3.extBut _ _ (Ne.symm D.TOi2) (b2.extBut _ _ (Ne.symm D.i12) (b1.extBut _ _ D.i2z e))) (λo e=>b3.extBut _ _ D.a2TO (b2.extBut _ _ D.a2i1 (b1.extBut _ _ D.a2z e)));refine zD (N2.item r3 hy λh4 r4 b4=>yB ?_);have t4:IsPair h4 TO x v:=b4.extBut _ _ D.TOi2 t3;refine zD (qT t4 rfl (zD (Dy t4 λh5 t5 b5=>zD (wpAny_letGo (yB (yB ?_))))));have t5:IsPair h5 TO x y:=t5;refine zD (qT t5 rfl (zD (wpAny_newTuple ?_)));have sz:h5.objs.size=s.heap.objs.size:=by rw[b5.1,b4.1,b3.1,b2.1,b1.1]
 have z5:IsZip h5 z TI TO .ellipsis:=b5.extBut _ _ (Ne.symm D.TOz) (b4.extBut _ _ (Ne.symm D.i2z) (b3.extBut _ _ (Ne.symm D.TOz) (b2.extBut _ _ (Ne.symm D.i1z) z1)));have k5:K4 z TO i1 i2 s.heap h5:=λc o c1 c2 c3 c4 e=>b5.extBut _ _ c2 (b4.extBut _ _ c4 (b3.extBut _ _ c2 (b2.extBut _ _ c3 (b1.extBut _ _ c1 e))));have p5:S1 (k+1) h5:=N1.keep p2 (λo e=>b5.extBut _ _ (Ne.symm D.TOi1) (b4.extBut _ _ D.i12 (b3.extBut _ _ (Ne.symm D.TOi1) e))) (λo e=>b5.extBut _ _ D.a1TO (b4.extBut _ _ D.a1i2 (b3.extBut _ _ D.a1TO e)));have r5:S2 (k+1) h5:=N2.keep r4 (λo e=>b5.extBut _ _ (Ne.symm D.TOi2) e) (λo e=>b5.extBut _ _ D.a2TO e);have zl:z<h5.objs.size:=yN z5;show wpAny _ _ (Builtin.SmallTypes.ownedTupleHandOut (.ref z) (.ref h5.objs.size)>>=_) _ _ _;unfold Builtin.SmallTypes.ownedTupleHandOut;have z6:IsZip (h5.push {cls:=.type "tuple",data:=.seq (List.toArray [x,y])}) z TI TO .ellipsis:=zL _ z5;refine zD (zD (vL z6 (by simp) λh7 z7 b7=>?_));have z7:IsZip h7 z TI TO (rawInt h5.objs.size):=z7;refine vL z7 (by simp) λh8 z8 b8=>?_;have z8:IsZip h8 z TI TO (rawInt h5.objs.size):=z8;have up: ∀c o,c≠z->h5.get? c=some o->h8.get? c=some o:=λc o c1 e=>b8.extBut _ _ c1 (b7.extBut _ _ c1 (zL _ e));have t8:IsPair h8 h5.objs.size x y:=b8.extBut _ _ (Nat.ne_of_gt zl) (b7.extBut _ _ (Nat.ne_of_gt zl) (yI _ rfl));rw[sz]at z8 t8;refine yB #[-1,?_];show Q (.ref h5.objs.size) _;rw[sz];exact q h8 z8 (up _ _ D.TOz t5) (N1.keep p5 (λo e=>up _ o D.i1z e) (λo e=>up _ o D.a1z e)) (N2.keep r5 (λo e=>up _ o D.i2z e) (λo e=>up _ o D.a2z e)) t8 λc o c1 c2 c3 c4 e=>up c o c1 (k5 c o c1 c2 c3 c4 e)
theorem UB (hh:A.handled=none)(D:ZA z TI TO i1 i2 a1 a2)(N1:Nx prog w i1 a1 xs S1)(N2:Nx prog w i2 a2 ys S2)(hz:IsZip s.heap z TI TO .none)(hTI:IsPair s.heap TI (.ref i1) (.ref i2))(hTO:IsPair s.heap TO u v)
  (s1:S1 k s.heap) (s2:S2 k s.heap) (he:xs[k]? =none\/ys[k]? =none)
  (q: ∀h' e,K4 z TO i1 i2 s.heap h'->(∃o,h'.get? e=some o/\o.cls=.type "StopIteration")->E (.ref e) {s with heap:=h'}):wpAny (model prog w) A (Builtin.«zip.__next__» #[[.ref z],[]]) Q E s:=by
 show wpAny _ _ (field (.ref z) 2>>=_) _ _ _;refine zD (jF hz rfl (x:=.bool false) rfl ?_);show wpAny _ _ (field (.ref z) 3>>=_) _ _ _;refine zD (jF hz rfl (x:=.ref TI) rfl (zD (qT hTI rfl ?_)));show wpAny _ _ (Builtin.SmallTypes.ownedTupleIsFree (.ref z)>>=_) _ _ _;unfold Builtin.SmallTypes.ownedTupleIsFree;refine zD (zD (jF hz rfl (x:=.none) rfl (yB ?_)));simp only[EZ];refine zD (EF (zD (jF hz rfl (x:=.ref TO) rfl (zD (vL hz (by simp) λh1 z1 b1=>zD ?_)))));have z1:IsZip h1 z TI TO .ellipsis:=z1;simp only[List.zipIdx_cons,List.zipIdx_nil,DO,List.forIn_nil];refine zD (zD (Fk ?_));show wpAny _ _ (Builtin.SmallTypes.nextOf (.ref i1)>>=_) _ _ _;have p1:S1 k h1:=N1.keep s1 (λo e=>b1.extBut _ _ D.i1z e) (λo e=>b1.extBut _ _ D.a1z e);cases hx:xs[k]? with
 |none=>
  refine zD (N1.stop hh p1 hx λh2 e b2 m7=>?_);obtain⟨oe,hoe,hce⟩:=m7;have z2:IsZip h2 z TI TO .ellipsis:=b2 _ _ (Ne.symm D.i1z) z1;have ez:e≠z:=λx=>by subst x;rw[z2]at hoe;cases hoe;simp at hce
  exact vL z2 (by simp) λh3 _ b3=>q h3 e (λc o c1 _ c3 _ x=>b3.extBut _ _ c1 (b2 _ _ c3 (b1.extBut _ _ c1 x))) #[oe,b3.extBut _ _ ez hoe,hce]
 |some x=>
  have hy:ys[k]? =none:=he.resolve_left (by rw[hx];exact λz=>nomatch z);refine zD (N1.item p1 hx λh2 p2 b2=>yB ?_);have t2:IsPair h2 TO u v:=b2.extBut _ _ D.TOi1 (b1.extBut _ _ D.TOz hTO);refine zD (qT t2 rfl (zD (Dy t2 λh3 t3 b3=>zD (wpAny_letGo (yB ?_)))));refine zD (zD (Fk ?_));show wpAny _ _ (Builtin.SmallTypes.nextOf (.ref i2)>>=_) _ _ _;have r3:S2 k h3:=N2.keep s2 (λo e=>b3.extBut _ _ (Ne.symm D.TOi2) (b2.extBut _ _ (Ne.symm D.i12) (b1.extBut _ _ D.i2z e))) (λo e=>b3.extBut _ _ D.a2TO (b2.extBut _ _ D.a2i1 (b1.extBut _ _ D.a2z e)));refine zD (N2.stop hh r3 hy λh4 e b4 m7=>?_);obtain⟨oe,hoe,hce⟩:=m7;have z4:IsZip h4 z TI TO .ellipsis:=b4 _ _ (Ne.symm D.i2z) (b3.extBut _ _ (Ne.symm D.TOz) (b2.extBut _ _ (Ne.symm D.i1z) z1));have ez:e≠z:=λx=>by subst x;rw[z4]at hoe;cases hoe;simp at hce
  exact vL z4 (by simp) λh5 _ b5=>q h5 e (λc o c1 c2 c3 c4 x=>b5.extBut _ _ c1 (b4 _ _ c4 (b3.extBut _ _ c2 (b2.extBut _ _ c3 (b1.extBut _ _ c1 x))))) #[oe,b5.extBut _ _ ez hoe,hce]
theorem VO (D:ZA z TI TO i1 i2 a1 a2)(N1:Nx prog w i1 a1 xs S1)(N2:Nx prog w i2 a2 ys S2)(hz:IsZip s.heap z TI TO .none)(hTI:IsPair s.heap TI (.ref i1) (.ref i2))(hTO:IsPair s.heap TO u v)
  (s1:S1 k s.heap) (s2:S2 k s.heap) (hx:xs[k]? =some x) (hy:ys[k]? =some y)
  (q: ∀h',IsZip h' z TI TO (rawInt s.heap.objs.size)->IsPair h' TO x y->S1 (k+1) h'->S2 (k+1) h'->IsPair h' s.heap.objs.size x y->K4 z TO i1 i2 s.heap h'->Q (some (.ref s.heap.objs.size)) {s with heap:=h'}):
  wpAny (model prog w) A (pyNext (.ref z)) Q E s:=by
 have hT:s.TypeIs (.ref z) "zip":=#[_,hz,rfl];unfold pyNext;exact zD (Bp (jH (name:=Str.ofString "__next__") hT DQ (kE DQ hT F.entry_zip_next
  (UC D N1 N2 hz hTI hTO s1 s2 hx hy λh' e1 e2 e3 e4 e5 e6=>yB (q h' e1 e2 e3 e4 e5 e6)) (F.args_zip_next_1 _))))
theorem Yh (hh:A.handled=none)(D:ZA z TI TO i1 i2 a1 a2)(N1:Nx prog w i1 a1 xs S1)(N2:Nx prog w i2 a2 ys S2)(hz:IsZip s.heap z TI TO .none)(hTI:IsPair s.heap TI (.ref i1) (.ref i2))(hTO:IsPair s.heap TO u v)
  (s1:S1 k s.heap) (s2:S2 k s.heap) (he:xs[k]? =none\/ys[k]? =none) (q: ∀h',K4 z TO i1 i2 s.heap h'->Q none {s with heap:=h'}):wpAny (model prog w) A (pyNext (.ref z)) Q E s:=by
 have hT:s.TypeIs (.ref z) "zip":=#[_,hz,rfl];unfold pyNext;refine zD (Bp (jH (name:=Str.ofString "__next__") hT DQ (kE DQ hT F.entry_zip_next
  (UB (A:=A.in1) hh D N1 N2 hz hTI hTO s1 s2 he λh' e hk ⟨o,ho,hc⟩=>?_) (F.args_zip_next_1 _))))
 refine zD (CZ (T:="StopIteration") (b:=true) #[o,ho,hc] isSubtype_stop ?_);exact yB (q _ hk)
end
def RN (b:i7)(K:a7)(H:Hp)(a:i3)(xs:a6 V):Prop:=if b=true then uZ K H a xs else kF K H a xs
def Iv (b:i7)(h:j3)(a:i3)(xs:j6 a9):Prop:=if b=true then h.IsTuple a xs else h.IsList a xs
def SI (b:i7)(h:j3)(it a:i3)(k:Nat):Prop:=if b=true then h.IsTupleIter it a k else h.IsListIter it a k
noncomputable def PX (b:i7)(a:i3):j7:={cls:=.type (if b=true then "tuple_iterator" else "list_iterator"),data:=.fields (List.toArray [.ref a,.int 0 0])}
section
variable {prog:i6}{w:i9}{A:j4}{E:a9->i5->Prop}{s:i5}{b:i7}{it a:i3}{xs:j6 a9}{k:Nat}{h h':j3}
theorem SL (hl:Iv b s.heap a xs)(hQ:Q (.ref s.heap.objs.size) {s with heap:=s.heap.push (PX b a)}):wpAny (model prog w) A (pyIter (.ref a)) Q E s:=by
 cases b with
 |true=>exact Ag (show s.heap.IsTuple a xs from hl) hQ
 |false=>exact uF (show s.heap.IsList a xs from hl) hQ
theorem Nx.sq (ne:a≠it):Nx prog w it a xs (λk h=>SI b h it a k/\Iv b h a xs):=by
 cases b with
 |true=>exact Nx.tuple ne
 |false=>exact Nx.list ne
theorem SI.keep (st:SI b h it a k)(k1: ∀o,h.get? it=some o->h'.get? it=some o):SI b h' it a k:=by
 cases b with
 |true=>obtain⟨o,e,r⟩:=(show h.IsTupleIter it a k from st);exact#[o,k1 o e,r]
 |false=>obtain⟨o,e,r⟩:=(show h.IsListIter it a k from st);exact#[o,k1 o e,r]
theorem SI.obj (st:SI b h it a k): ∃o,h.get? it=some o/\ ∀v,o.data≠ .cell v:=by
 cases b with
 |true=>obtain⟨o,e,_,r⟩:=(show h.IsTupleIter it a k from st);exact#[o,e,λv z=>by rw[r]at z;cases z]
 |false=>obtain⟨o,e,_,r⟩:=(show h.IsListIter it a k from st);exact#[o,e,λv z=>by rw[r]at z;cases z]
theorem SI.new (g:h.get? it=some (PX b a)):SI b h it a 0:=by
 cases b with
 |true=>exact#[_,g,rfl,rfl]
 |false=>exact#[_,g,rfl,rfl]
theorem Iv.push (x:Iv b h a xs):Iv b (h.push o) a xs:=by
 cases b with
 |true=>obtain⟨q,e,r⟩:=(show h.IsTuple a xs from x);exact#[q,zL _ e,r]
 |false=>obtain⟨q,e,r⟩:=(show h.IsList a xs from x);exact#[q,zL _ e,r]
theorem Iv.lt (x:Iv b h a xs):a<h.objs.size:=by
 cases b with
 |true=>obtain⟨q,e,r⟩:=(show h.IsTuple a xs from x);exact yN e
 |false=>obtain⟨q,e,r⟩:=(show h.IsList a xs from x);exact yN e
end
section
variable {X:Cx}{j8:a6 (i3×j7)}{U:St}{H:Hp}{s:i5}{b:i7}{a:i3}{xs ys:a6 V}
theorem xY.sq (I:xY X j8 U H s)(h:RN b X.K H a xs): ∃its:a6 a9,jU xs its/\Iv b s.heap a its.toArray/\xs.length<=sizeLine:=by
 cases b with
 |true=>
  obtain⟨its,r,p,z⟩:=I.tuple (show uZ X.K H a xs from h);exact#[its,r,p,z]
 |false=>
  obtain⟨its,r,p,z⟩:=I.list (show kF X.K H a xs from h);exact#[its,r,p.isList,z]
theorem xY.sq_inj (I:xY X j8 U H s)(h:RN b X.K H a xs)(h':RN b X.K H a ys):xs=ys:=by
 cases b with
 |true=>exact I.tuple_inj h h'
 |false=>exact I.list_inj h h'
theorem xY.turnedL {h':j3}{t':Nat}{L:a6 i3}(I:xY X j8 U H s)(k: ∀b o,b∉L->s.heap.get? b=some o->h'.get? b=some o)(f: ∀b∈L,Hv X j8 H b):xY X j8 U H {s with heap:=h',toks:=t'}:=by
 have ne: ∀b u,H b=some u->b∉L:=λb u q z=>by
  have:=(f b z).1;rw[this]at q;cases q
 have nl:X.env.locals∉L:=λz=>(f _ z).2.1 rfl;refine I.step (g':=s.gens) (d':=s.drawn) (ch:=L) (λb hb=>#[(f b hb).2.2.2.1,(f b hb).2.1,(f b hb).2.2.2.2.1,(f b hb).2.2.2.2.2]) (λb o _ _ hc q _=>k b o hc q) (λb o _ _ hc q _=>#[o.slots,k b o hc q]) (λ_ _ _ _ n=>n)
  (λb o hc q=>#[o,k b o hc q]) (λ_ _ q=>q) (λ_ _ _ q=>q) (λb ps q=>#[#[],by rw[q];simp]) (λm hm=>?_) (λb u q=>?_) I.bare
 ·obtain⟨o,es,ep,ho,r⟩:=hm;exact#[o,es,ep,k _ o nl ho,r]
 ·refine(I.hok b u q).stay (λc v hc x=>k c v ?_ x) (λ_ x=>x) λ_ _ x=>x
  rcases hc with z|z
  ·rw[z];exact ne b u q
  ·exact ne c _ z
end
noncomputable def Itz (K : a7) (b1 b2 : i7) (a1 a2 : i3) : It :=
  #[λi H => ∃ xs ys x y, RN b1 K H a1 xs /\ RN b2 K H a2 ys /\ xs[i]? = some x /\ ys[i]? = some y, λi H v H' => ∃ t x y, v = .ref t /\ H t = none /\ H' = upd H t (.tup [x, y]) /\ ∀ xs ys, RN b1 K H a1 xs -> RN b2 K H a2 ys -> xs[i]? = some x /\ ys[i]? = some y,
   λi H => ∃ xs ys, RN b1 K H a1 xs /\ RN b2 K H a2 ys /\ (xs.length <= i \/ ys.length <= i)]
def ZSt (b1 b2:i7)(z TI TO i1 i2 a1 a2:i3)(i:Nat)(h:j3):Prop:=IsZip h z TI TO .none/\IsPair h TI (.ref i1) (.ref i2)/\(∃u v,IsPair h TO u v)/\SI b1 h i1 a1 i/\SI b2 h i2 a2 i
theorem UG {P:i6}{w:i9}{K:a7}{elts:a6 j5}{x1:Nat}{pos:Pos}{b1 b2:i7}{z TI TO i1 i2 a1 a2:i3}(D:ZA z TI TO i1 i2 a1 a2):
  LP P w K (.Tuple elts x1 pos) (Itz K b1 b2 a1 a2) [z,TI,TO,i1,i2] z (ZSt b1 b2 z TI TO i1 i2 a1 a2) where
 mem:=by simp
 obj:=λi h st b hb=>by
  obtain⟨hz,hTI,⟨u,v,hTO⟩,s1,s2⟩:=st
  rcases List.mem_cons.mp hb with e|hb
  ·rw[e];exact#[_,hz,λv z=>by cases z]
  rcases List.mem_cons.mp hb with e|hb
  ·rw[e];exact#[_,hTI,λv z=>by cases z]
  rcases List.mem_cons.mp hb with e|hb
  ·rw[e];exact#[_,hTO,λv z=>by cases z]
  rcases List.mem_cons.mp hb with e|hb
  ·rw[e];exact s1.obj
  ·rw[List.mem_singleton.mp hb];exact s2.obj
 keep:=λi h h' st k=>by
  obtain⟨hz,hTI,⟨u,v,hTO⟩,s1,s2⟩:=st;exact#[k z (by simp) _ hz,k TI (by simp) _ hTI,#[u,v,k TO (by simp) _ hTO],s1.keep λo e=>k i1 (by simp) o e,s2.keep λo e=>k i2 (by simp) o e]
 item:=by
  intro X hP hw hK hc i j8 s U H E I hf st hg;subst hP hw hK;obtain⟨xs,ys,x,y,q1,q2,hx,hy⟩:=hg;obtain⟨hz,hTI,⟨u,v,hTO⟩,s1,s2⟩:=st;obtain⟨its1,r1,p1,z1⟩:=I.sq q1;obtain⟨its2,r2,p2,z2⟩:=I.sq q2;obtain⟨u1,hu1,ru1⟩:=r1.get hx;obtain⟨u2,hu2,ru2⟩:=r2.get hy;refine VO D (Nx.sq (b:=b1) (xs:=its1.toArray) D.a1i1) (Nx.sq (b:=b2) (xs:=its2.toArray) D.a2i2) hz hTI hTO #[s1,p1] #[s2,p2] (x:=u1) (y:=u2) (by simpa using hu1) (by simpa using hu2) λh' z' t' n1 n2 tp k4=>?_;refine#[.ref s.heap.objs.size,rfl,wpAny_letOwnedTupleGo_zip z' λh'' z'' sb=>?_];have fresh:=I.hok.fresh (zS s.heap.objs.size);have I1:=I.laid (a:=s.heap.objs.size) (o:=.tup [x,y]) (h':=s.heap.push {cls:=.type "tuple",data:=.seq (List.toArray [u1,u2])}) (t':=s.toks) (λb o q=>zL _ q) (zS _)
   #[sm2,[u1,u2],.cons ru1 (.cons ru2 .nil),IsTup.new _ _]
  have lt: ∀b∈[z,TI,TO,i1,i2],b<s.heap.objs.size:=λb hb=>by
   rcases List.mem_cons.mp hb with e|hb
   ·rw[e];exact yN hz
   rcases List.mem_cons.mp hb with e|hb
   ·rw[e];exact yN hTI
   rcases List.mem_cons.mp hb with e|hb
   ·rw[e];exact yN hTO
   rcases List.mem_cons.mp hb with e|hb
   ·rw[e];obtain⟨o,e,_⟩:=s1.obj;exact yN e
   ·rw[List.mem_singleton.mp hb];obtain⟨o,e,_⟩:=s2.obj;exact yN e
  have f': ∀b∈[z,TI,TO,i1,i2],Hv X j8 (upd H s.heap.objs.size (.tup [x,y])) b:=λb hb=>#[by rw[yQ (xT (lt b hb))];exact(hf b hb).1,(hf b hb).2];have I2:=I1.turnedL (h':=h'') (t':=s.toks) (L:=[z,TI,TO,i1,i2]) (λb o hb q=>?_) f'
  ·refine#[.ref s.heap.objs.size,_,I2,rfl,#[s.heap.objs.size,x,y,rfl,fresh,rfl,λxs' ys' e1 e2=>?_],#[z'',sb.extBut _ _ D.TIz (k4 _ _ D.TIz D.TITO D.TIi1 D.TIi2 hTI),#[_,_,sb.extBut _ _ D.TOz t'],n1.1.keep λo e=>sb.extBut _ _ D.i1z e,n2.1.keep λo e=>sb.extBut _ _ D.i2z e],λb hb=>(f' b hb).1];rw[I.sq_inj e1 q1,I.sq_inj e2 q2];exact#[hx,hy]
  ·have nz:b≠z:=λe=>hb (by simp[e]);refine sb.extBut _ _ nz ?_
   by_cases e:b=s.heap.objs.size
   ·subst e;rw[tp,<-q];exact(yI _ rfl).symm
   ·rcases DC q with⟨c,_⟩|c
    ·exact absurd c e
    ·exact k4 b o nz (λe=>hb (by simp[e])) (λe=>hb (by simp[e])) (λe=>hb (by simp[e])) c
 done:=by
  intro X hP hw hK hc i j8 s U H E I hf st hg;subst hP hw hK;obtain⟨xs,ys,q1,q2,he⟩:=hg;obtain⟨hz,hTI,⟨u,v,hTO⟩,s1,s2⟩:=st;obtain⟨its1,r1,p1,z1⟩:=I.sq q1;obtain⟨its2,r2,p2,z2⟩:=I.sq q2;have l1:=r1.length;have l2:=r2.length;refine Yh (I.ok.hd hc) D (Nx.sq (b:=b1) (xs:=its1.toArray) D.a1i1) (Nx.sq (b:=b2) (xs:=its2.toArray) D.a2i2) hz hTI hTO #[s1,p1] #[s2,p2] (he.imp (λh=>by simp;lia) (λh=>by simp;lia)) λh' k4=>#[rfl,I.turnedL (t':=s.toks) (L:=[z,TI,TO,i1,i2]) (λb o hb q=>?_) hf];exact k4 b o (λe=>hb (by simp[e])) (λe=>hb (by simp[e])) (λe=>hb (by simp[e])) (λe=>hb (by simp[e])) q
 self:=λ_ _ _ _ _ st h=>wpAny_pyIter_zip st.1 h
theorem zBf {n a1 a2:Nat}(m1:a1<n)(m2:a2<n):ZA (n+4) (n+2) (n+3) n (n+1) a1 a2:=by
 constructor<;>(show _≠(_:Nat);lia)
noncomputable abbrev zq1 (h:j3)(b1:i7)(a1:i3):j3:=h.push (PX b1 a1)
noncomputable abbrev zq2 (h:j3)(b1 b2:i7)(a1 a2:i3):j3:=(zq1 h b1 a1).push (PX b2 a2)
noncomputable abbrev zq3 (h:j3)(b1 b2:i7)(a1 a2:i3):j3:=(zq2 h b1 b2 a1 a2).push {cls:=.type "tuple",data:=.seq (List.toArray [.ref h.objs.size,.ref (zq1 h b1 a1).objs.size])}
noncomputable abbrev zq4 (h:j3)(b1 b2:i7)(a1 a2:i3):j3:=(zq3 h b1 b2 a1 a2).push {cls:=.type "tuple",data:=.seq (List.toArray [.none,.none])}
noncomputable abbrev Za (h:j3)(b1 b2:i7)(a1 a2:i3):j3:=(zq4 h b1 b2 a1 a2).push {cls:=.type "zip",data:=.fields (List.toArray [.none,.bool false,.bool false,.ref (zq2 h b1 b2 a1 a2).objs.size,.ref (zq3 h b1 b2 a1 a2).objs.size])}
theorem Rt (b1 b2:i7)(a1 a2:i3)(xs ys:j6 a9):Meets (Builtin.«zip.__new__» #[[.type "zip",.ref a1,.ref a2],[]]) (λ_ R s=>Iv b1 s.heap a1 xs/\Iv b2 s.heap a2 ys/\
  R (.ok (.ret (.ref (zq4 s.heap b1 b2 a1 a2).objs.size))) {s with heap:=Za s.heap b1 b2 a1 a2}):=
 .of_wp λprog w A R s h=>by
  obtain⟨hp,g,d,tk,os⟩:=s;obtain⟨l1,l2,h⟩:=h;have hsub:=sub_zip;have L1:Iv b1 (Shared.heap #[hp,g,d,tk,os]) a1 xs:=l1;have L2:Iv b2 (Shared.heap #[hp.push (PX b1 a1),g,d,tk,os]) a2 ys:=Iv.push l2
  wp_walk using SL L1,SL L2
  exact#[-1,h]
section
variable {prog:i6}{w:i9}{A:j4}{E:a9->i5->Prop}{s:i5}{b1 b2:i7}{a1 a2:i3}{xs ys:j6 a9}
theorem Uk (l1:Iv b1 s.heap a1 xs)(l2:Iv b2 s.heap a2 ys)
  (q: ∀h' z TI TO i1 i2,ZA z TI TO i1 i2 a1 a2->ZSt b1 b2 z TI TO i1 i2 a1 a2 0 h'->(∀c∈[z,TI,TO,i1,i2],s.heap.objs.size<=c)->(∀c o,s.heap.get? c=some o->h'.get? c=some o)->Q (.ref z) {s with heap:=h'}):
  wpAny (model prog w) A (call (.type "zip") [.ref a1,.ref a2]) Q E s:=by
 refine callType_new F.called_zip (by decide) (F.typeCall_zip_2 _ _) (F.newCall_zip_2 _ _) (λobj=>F.args_object_init_3 obj _ _) F.entry_zip_new (Rt b1 b2 a1 a2 xs ys) #[l1,l2,?_];have z1:(zq1 s.heap b1 a1).objs.size =s.heap.objs.size+1:=vP ..;have z2:(zq2 s.heap b1 b2 a1 a2).objs.size =s.heap.objs.size+2:=by rw[vP,z1]
 have z3:(zq3 s.heap b1 b2 a1 a2).objs.size =s.heap.objs.size+3:=by rw[vP,z2]
 have z4:(zq4 s.heap b1 b2 a1 a2).objs.size =s.heap.objs.size+4:=by rw[vP,z3]
 have g5:(Za s.heap b1 b2 a1 a2).get? (zq4 s.heap b1 b2 a1 a2).objs.size =some _:=yI _ rfl;have g4:(Za s.heap b1 b2 a1 a2).get? (zq3 s.heap b1 b2 a1 a2).objs.size =some _:=zL _ (yI _ rfl);have g3:(Za s.heap b1 b2 a1 a2).get? (zq2 s.heap b1 b2 a1 a2).objs.size =some _:=zL _ (zL _ (yI _ rfl));have g2:(Za s.heap b1 b2 a1 a2).get? (zq1 s.heap b1 a1).objs.size =some _:=zL _ (zL _ (zL _ (yI _ (by cases b2<;>rfl))));have g1:(Za s.heap b1 b2 a1 a2).get? s.heap.objs.size=some _:=zL _ (zL _ (zL _ (zL _ (yI _ (by cases b1<;>rfl)))));have m1:=l1.lt;have m2:=l2.lt;have up: ∀c o,s.heap.get? c=some o->(Za s.heap b1 b2 a1 a2).get? c=some o:=λc o x=>zL _ (zL _ (zL _ (zL _ (zL _ x))));rw[z2,z3,z4]at g5;rw[z1,z2]at g3;rw[z3]at g4;rw[z1]at g2;show _/\_;rw[z4];refine#[#[_,g5,rfl],q _ (s.heap.objs.size+4) (s.heap.objs.size+2) (s.heap.objs.size+3) s.heap.objs.size (s.heap.objs.size+1) ?_ #[g5,g3,#[_,_,g4],SI.new g1,SI.new g2] (λc hc=>?_) up]
 ·exact zBf m1 m2
 ·simp at hc
  rcases hc with e|e|e|e|e<;>(rw[e];lia)
end
theorem zAl:bootBuiltins "zip"=some (.type "zip"):=by decide+kernel
inductive YO (K:a7) (b1 b2:i7) (vs:List V) (H1:Hp) (R:It->Hp->Prop):Prop
 |mk (a1 a2 xs ys:_) (h0:vs=[.ref a1,.ref a2]) (h1:RN b1 K H1 a1 xs) (h2:RN b2 K H1 a2 ys) (h3:R (Itz K b1 b2 a1 a2) H1):YO K b1 b2 vs H1 R
def zGr (K:a7)(b1 b2:i7)(ta:TA):TI:=λU H R=>ta U H λvs H1=>YO K b1 b2 vs H1 R
section
variable {X:Cx}
theorem Vo (b1 b2:i7)(hg:Gl X "zip")(hm:X.mg "zip"=none)(ha:PA X [l,m] ta)(hs:autoParam (starEach [l,m] X.env=(false,eval l X.env)::starEach [m] X.env) L2.aE._auto_1)(hpl:autoParam ((backTo pos (starEach [m] X.env)).any (·.1)=false) L2.aE._auto_1):
  PI X (.Tuple elts x1 tpos) (.Call (.Name "zip" p) [l,m] [] pos) (zGr X.K b1 b2 ta):=by
 refine#[?_];intro j8 s U H R I h;refine Call_ (Eu I hg hm zAl (jG (wO (ha pos j8 s U H _ I h) λus s1 ⟨vs,H1,I1,r1,q1⟩=>?_) hs hpl));obtain⟨a1,a2,xs,ys,e,k1,k2,q⟩:=q1;subst e;obtain⟨u1,u2,rfl,ru1,ru2⟩:=JV r1;cases ru1;cases ru2;obtain⟨i1,r1,p1,z1⟩:=I1.sq k1;obtain⟨i2,r2,p2,z2⟩:=I1.sq k2;refine Uk p1 p2 λh' z TI TO j1 j2 D st lt hk=>?_;refine wpAny_pyIter_zip (s:={s1 with heap:=h'}) st.1 ?_;exact#[z,[z,TI,TO,j1,j2],_,_,H1,rfl,I1.kept (t':=s1.toks) hk,UG D,st,λb hb=>I1.fpOk (lt b hb) (I1.hok.fresh (lt b hb)),q]
theorem WN {K:a7}{b1 b2:i7}{a1 a2 p:i3}{xs ys:a6 V}{g:TG}{tt:TT}{te:TE}{R:Hp->Prop}{U0:St}{H0:Hp}(Pv:Nat->St->Hp->Prop)(h0:Pv 0 U0 H0)(hle:xs.length=ys.length)(hl: ∀i U H,i<=xs.length->Pv i U H->RN b1 K H a1 xs/\RN b2 K H a2 ys)
  (hs: ∀i x y U H t,i<xs.length->xs[i]? =some x->ys[i]? =some y->Pv i U H->H t=none->g (.ref t) U (upd H t (.tup [x,y])) λU3 H3=>tt U3 H3 λb H4=>
   if b=true then te U3 H4 λv H5=> ∃us,H5 p=some (.lst us)/\us.length<sizeLine/\ ∃m',m'<xs.length-i/\CW xs.length Pv (i+1) m' U3 (upd H5 p (.lst (us++[v])))
   else ∃m',m'<xs.length-i/\CW xs.length Pv (i+1) m' U3 H4)
  (hd: ∀U H,Pv xs.length U H->R H):JU (Itz K b1 b2 a1 a2) p U0 H0 g tt te R:=by
 refine#[CW xs.length Pv,#[_,xG _,rfl,h0],λi m U' H' w=>?_];obtain⟨hi,rfl,hp⟩:=w;obtain⟨q1,q2⟩:=hl i U' H' hi hp
 by_cases o5:i<xs.length
 ·refine .inr #[#[xs,ys,xs[i],ys[i],q1,q2,zF o5,zF (by omega)],λv H2 yd=>?_];obtain⟨t,x,y,rfl,ht,rfl,hx⟩:=yd;obtain⟨e1,e2⟩:=hx xs ys q1 q2;exact hs i x y U' H' t o5 e1 e2 hp ht
 ·have e:i=xs.length:=()
  subst e;exact .inl #[#[xs,ys,q1,q2,.inl (zS _)],hd U' H' hp]
end
end L2
namespace L2
open PySem
theorem WA {K:a7}{b1 b2:i7}{a1 a2:i3}{xs ys:a6 V}{g:TG}{tb:TS}{D:FI}{U:St}{H:Hp}(Pv:Nat->St->Hp->Prop)(h0:Pv 0 U H)(hle:ys.length<=xs.length)(hl: ∀i U H,i<=ys.length->Pv i U H->RN b1 K H a1 xs/\RN b2 K H a2 ys)
  (hs: ∀i x y U H t,xs[i]? =some x->ys[i]? =some y->Pv i U H->H t=none->g (.ref t) U (upd H t (.tup [x,y])) λU2 H2=>tb {D with nx:=Pv (i+1),ct:=Pv (i+1),bk:=D.nx} U2 H2) (hd: ∀U H,Pv ys.length U H->D.nx U H):
  ∃W:Nat->Nat->St->Hp->Prop,(∃m,W 0 m U H)/\ ∀i m U H,W i m U H->
   ((Itz K b1 b2 a1 a2).stop i H/\D.nx U H)\/((Itz K b1 b2 a1 a2).go i H/\ ∃N:St->Hp->Prop,(∀U' H',N U' H'-> ∃m',m'<m/\W (i+1) m' U' H')/\ ∀x H',(Itz K b1 b2 a1 a2).yld i H x H'->g x U H' λU2 H2=>tb {D with nx:=N,ct:=N,bk:=D.nx} U2 H2):=by
 refine#[λi m U H=>m=ys.length-i/\i<=ys.length/\Pv i U H,#[ys.length,by simp,xG _,h0],?_];rintro i m U H ⟨rfl,hi,p⟩;obtain⟨q1,q2⟩:=hl i U H hi p
 by_cases o5:i<ys.length
 ·refine .inr #[#[xs,ys,xs[i],ys[i],q1,q2,zF (by omega),zF o5],Pv (i+1),λU' H' p'=>#[ys.length-(i+1),(),rfl,o5,p'],λv H' yd=>?_];obtain⟨t,x,y,rfl,ht,rfl,hx⟩:=yd;obtain⟨e1,e2⟩:=hx xs ys q1 q2;exact hs i x y U H t e1 e2 p ht
 ·have e:i=ys.length:=()
  subst e;exact .inl #[#[xs,ys,q1,q2,.inr (zS _)],hd U H p]
end L2
namespace L2
open PySem PySem.Spec PyProof.Rows
noncomputable def Itw (K:a7)(a:i3)(n:Nat):It:=
 #[λi H=> ∃xs x,kF K H a xs/\xs.length=n/\xs.reverse[i]? =some x,λi H x H'=>H'=H/\ ∀xs,kF K H a xs->xs.reverse[i]? =some x,λi H=>(∃xs,kF K H a xs/\xs.length=n)/\n<=i]
theorem Th {P:i6}{w:i9}{K:a7}{tg:j5}(a it:i3)(n:Nat):LP P w K tg (Itw K a n) [it] it (λi h=>i<=n/\Heap.IsRevIter h it a ((n:Int)-1-(i:Int))) where
 mem:=by simp
 obj:=λi h st b hb=>by
  have e:b=it:=by simpa using hb
  subst e;obtain⟨_,o,e,c,d⟩:=st;exact#[o,e,λv z=>by rw[d]at z;cases z]
 keep:=λi h h' st k=>#[st.1,st.2.at λo e=>k it (by simp) o e]
 item:=by
  intro X hP hw hK hc i j8 s U H E I hf st hg;subst hP hw hK;obtain⟨xs,x,hq,hn,hx⟩:=hg;obtain⟨its,rv,p,hz⟩:=I.list hq;have hi:i<xs.length:=by
   have:=(List.getElem?_eq_some_iff.mp hx).1
   simpa using this
  have hx':xs[n-1-i]? =some x:=by
   rw[CJ hi,hn]at hx;exact hx
  obtain⟨u,hu,ru⟩:=rv.get hx';obtain⟨f0,f1,f2,f3,f4,f5⟩:=hf it (by simp);have e1:(n:Int)-1-(i:Int)=((n-1-i:Nat):Int):=()
  have hl:=rv.length;have h63:=Gp;refine wpAny_pyNext_rev_item (i:=n-1-i) (by rw[<-e1];exact st.2) (show s.heap.IsList a its.toArray from p.isList) (x:=u) (by simpa using hu) λh' st' sb=>?_;have I1:xY X j8 U H {s with heap:=h'}:=I.turned (t':=s.toks) (λb o hb e=>(sb.2 b hb).trans e) f0 f1 f3 f4 f5;obtain⟨o,e,c,d⟩:=id st';have e2:((n-1-i:Nat):Int)-1=(n:Int)-1-((i+1:Nat):Int):=()
  rw[e2]at st';exact#[u,rfl,MP (s:={s with heap:=h'}) e c d (by decide) #[x,H,I1,ru,#[rfl,λys hy=>by rw[I.list_inj hy hq];exact hx],#[(by clear st;lia),st'],λb hb=>(hf b hb).1]]
 done:=by
  intro X hP hw hK hc i j8 s U H E I hf st hg;subst hP hw hK;obtain⟨f0,f1,f2,f3,f4,f5⟩:=hf it (by simp);have hi:i=n:=by have:=st.1;have:=hg.2;(clear st;lia)
  have e1:(n:Int)-1-(i:Int)= -1:=()
  have st2:=st.2;rw[e1]at st2;exact wpAny_pyNext_rev_end (I.ok.hd hc) st2 λh' eb=>#[rfl,I.turned (t':=s.toks) (λb o hb e=>eb b o hb e) f0 f1 f3 f4 f5]
 self:=λ_ _ _ _ _ st h=>wpAny_pyIter_revIter st.2 h
inductive Wq (K:a7) (vs:List V) (H1:Hp) (R:It->Hp->Prop):Prop
 |mk (a xs:_) (h0:vs=[.ref a]) (h1:kF K H1 a xs) (h2:R (Itw K a xs.length) H1):Wq K vs H1 R
def zCs (K:a7)(ta:TA):TI:=λU H R=>ta U H λvs H1=>Wq K vs H1 R
theorem Xv {X:Cx}{tg a:j5}{ta:TA}{p pos:Pos}(hg:Gl X "reversed")(hm:X.mg "reversed"=none)(ha:PA X [a] ta)(hs:autoParam (starEach [a] X.env=[(false,eval a X.env)]) L2.aE._auto_1):PI X tg (.Call (.Name "reversed" p) [a] [] pos) (zCs X.K ta):=by
 refine#[?_];intro j8 s U H R I h;refine Call_ (Eu I hg hm Kb (jG (wO (ha pos j8 s U H _ I h) λus s1 ⟨vs,H1,I1,r1,q1⟩=>?_) hs rfl));obtain⟨b,xs,e,hq,q⟩:=q1;subst e;cases r1 with
 |cons r rr=>
  cases rr;cases r;obtain⟨its,rv,pl,hz⟩:=I1.list hq;have hl:=rv.length;have h63:=Gp;refine call_reversed_list (show s1.heap.IsList b its.toArray from pl.isList) ?_;have I2:xY X j8 U H1 {s1 with heap:=s1.heap.push (revObj b (((its.toArray).size:Int)-1))}:=I1.kept λb o e=>zL _ e;have st:Heap.IsRevIter (s1.heap.push (revObj b (((its.toArray).size:Int)-1))) s1.heap.objs.size b ((xs.length:Int)-1-((0:Nat):Int)):=#[_,yI _ rfl,rfl,by rw[yH,hl];simp[revObj]];refine wpAny_pyIter_revIter (s:={s1 with heap:=s1.heap.push (revObj b (((its.toArray).size:Int)-1))}) st ?_;refine#[s1.heap.objs.size,[s1.heap.objs.size],_,_,H1,rfl,I2,Th b _ xs.length,#[xG _,st],λc hc=>?_,q];have e:c=s1.heap.objs.size:=by simpa using hc
  subst e;exact I1.fpOk (zS _) (I1.hok.fresh (zS _))
theorem WB {K:a7}{a:i3}{xs:a6 V}{g:TG}{tb:TS}{D:FI}{U:St}{H:Hp}(Pv:Nat->St->Hp->Prop)(h0:Pv 0 U H)(hl: ∀i U H,i<=xs.length->Pv i U H->kF K H a xs)
  (hs: ∀i x U H,xs.reverse[i]? =some x->Pv i U H->g x U H λU2 H2=>tb {D with nx:=Pv (i+1),ct:=Pv (i+1),bk:=D.nx} U2 H2) (hd: ∀U H,Pv xs.length U H->D.nx U H):
  ∃W:Nat->Nat->St->Hp->Prop,(∃m,W 0 m U H)/\ ∀i m U H,W i m U H->
   ((Itw K a xs.length).stop i H/\D.nx U H)\/((Itw K a xs.length).go i H/\ ∃N:St->Hp->Prop,(∀U' H',N U' H'-> ∃m',m'<m/\W (i+1) m' U' H')/\ ∀x H',(Itw K a xs.length).yld i H x H'->g x U H' λU2 H2=>tb {D with nx:=N,ct:=N,bk:=D.nx} U2 H2):=by
 refine#[λi m U H=>m=xs.length-i/\i<=xs.length/\Pv i U H,#[xs.length,by simp,xG _,h0],?_];rintro i m U H ⟨rfl,hi,p⟩;have q:=hl i U H hi p
 by_cases o5:i<xs.length
 ·refine .inr #[#[xs,xs.reverse[i]'(by simpa using o5),q,rfl,by simp[o5]],Pv (i+1),λU' H' p'=>#[xs.length-(i+1),(),rfl,o5,p'],λx H' y=>?_];obtain⟨e,y⟩:=y;subst e;exact hs i x U _ (y xs q) p
 ·have e:i=xs.length:=()
  subst e;exact .inl #[#[#[xs,q,rfl],zS _],hd U H p]
theorem Lo:typeLookup (.type "list") "keys"=pure none:=am_miss_of_fast (by decide+kernel)
section
variable {prog:i6}{w:i9}{A:j4}{E:a9->i5->Prop}{s:i5}{a:i3}
theorem TX (hA:A.handled=none)(hx:s.heap.get? a=some {cls:=.type "list",dict:=none,data:=.seq xs k,slots:=sl})
  (h: ∀h' tk e,Heap.NewExcOf s.heap h' e "AttributeError"->Q none {s with heap:=h',toks:=tk}):wpAny (model prog w) A (getAttr? (.ref a) "keys") Q E s:=by
 obtain⟨hp,g,d,tk,os⟩:=s;have hT: ∀tk',(#[hp,g,d,tk',os]:i5).TypeIs (.ref a) "list":=λ_=>#[_,hx,rfl];have f1:=sub_AttributeError;have f3:=F.slot_list_getattribute.lookup;have f4:=F.slot_list_getattribute.bind (.ref a);have f5:=am_list_getattr_none;unfold getAttr? getAttrBy? getAttrBy
 repeat (any_goals (first|assumption|exact hT _|((with_reducible show wpAny _ _ (call (Value.builtin "list.__getattribute__") _ _) _ _ _);refine EG F.slot_list_getattribute (hT _) am_entry_list_getattribute (F.args_list_getattribute_2 _ _) (meets_getattribute_miss_list a xs k sl "keys" _ Lo (by decide+kernel) (by decide+kernel)) #[hx,hA,λh' tk' e hx'=>?_])|wp_step))
 obtain⟨t',u',he⟩:=hx'.there;show wpAny _ _ (getattributeRaised _ _ _ _ _ _ _) _ _ _;unfold getattributeRaised
 repeat (any_goals (first|assumption|wp_step))
 exact h _ _ _ hx'.of
end
theorem QC {K:Type}[DecidableEq K](vs:a6 (K×a9))(k:K)(v:a9):(stored vs k v).length<=vs.length+1:=by
 unfold stored;split
 ·rw[zM];exact vF _
 ·rw[zG];exact zS _
structure PNx (prog:i6)(w:i9)(d it:i3)(fp:List i3)(ps:List (a9×a9))(St:Nat->j3->Prop):Prop where
 item: ∀{A:j4} {E:a9->i5->Prop} {i:Nat} {s:i5} {k v:a9} {Q:Option a9->i5->Prop},St i s.heap->ps[i]? =some (k,v)->(∀h' t,St (i+1) h'->h'.IsTuple t (List.toArray [k,v])->(∀c o,c∉fp->s.heap.get? c=some o->h'.get? c=some o)->Q (some (.ref t)) {s with heap:=h'})->
  wpAny (model prog w) A (pyNext (.ref it)) Q E s
 stop: ∀{A:j4} {E:a9->i5->Prop} {s:i5} {Q:Option a9->i5->Prop},A.handled=none->St ps.length s.heap->(∀h',(∀c o,c∉fp->s.heap.get? c=some o->h'.get? c=some o)->Q none {s with heap:=h'})->wpAny (model prog w) A (pyNext (.ref it)) Q E s
 keep: ∀{i:Nat} {h h':j3},St i h->(∀c o,c≠d->h.get? c=some o->h'.get? c=some o)->(∃o,h'.get? d=some o)->St i h'
 out:d∉fp
theorem BT:entryFor table "dict.update.loop"=some Builtin.«dict.update.loop»:=entryFor_of_tree (by kernel_rfl)
theorem vD:plainId "dict.update.loop"=true:=by decide+kernel
section
variable {prog:i6}{w:i9}{K:Type}[DecidableEq K]{knd:KeyKind prog w K}{A:j4}{d it:i3}{fp:a6 i3}{St:Nat->j3->Prop}
theorem Uf {ps:a6 (a9×a9)}(N:PNx prog w d it fp ps St)(hh:A.in1.handled=none){ks:a6 K}(hl:ks.length=ps.length)(hk: ∀(i:Nat) (k:K) (p:a9×a9),ks[i]? =some k->ps[i]? =some p->knd.is k p.1=true){R:Result->i5->Prop}:
  ∀(m i:Nat) (s:i5) (vs:a6 (K×a9)),ps.length-i=m->i<=ps.length->St i s.heap->s.heap.DictOf knd d vs->vs.length+m<=sizeLine->
  (∀(h':j3) (t':Nat),h'.DictOf knd d (((ks.zip (ps.map (·.2))).drop i).foldl (λacc x=>stored acc x.1 x.2) vs)->(∀c o,c≠d->c∉fp->s.heap.get? c=some o->h'.get? c=some o)->R (.ok (.ret .none)) {s with heap:=h',toks:=t'})->
  codeAny (model prog w) A (.builtin "dict.update.loop" #[[.ref d,.ref it,rawInt i,.none],[]]) R s:=by
 intro m
 induction m with
 |zero=>
  intro i s vs hm hi st hd hz hR;have e:i=ps.length:=()
  subst e;refine codeAny_builtin BT ?_;rw[DE vD _];show wpAny _ A.in1 (pyNext (.ref it)>>=_) _ _ s;refine zD (N.stop hh st λh' hk'=>?_);show wpAny _ A.in1 (Builtin.Dict.addKeywords d []>>=_) _ _ _;refine zD (yB (yB ?_));refine hR h' s.toks ?_ λc o _ c2 e=>hk' c o c2 e;rw[kL (by rw[jS,zM];lia)];obtain⟨o,es,ep,ho,r⟩:=hd;exact#[o,es,ep,hk' d o N.out ho,r]
 |succ m ih=>
  intro i s vs hm hi st hd hz hR;have hi2:i<ps.length:=()
  rcases hp:ps[i]with⟨k,v⟩
  have ep:ps[i]? =some (k,v):=by rw[zF hi2,hp]
  have ek:ks[i]? =some ks[i]:=zF (by omega);have hkk:=hk i _ _ ek ep;have ed:(ks.zip (ps.map (·.2))).drop i=(ks[i],v)::(ks.zip (ps.map (·.2))).drop (i+1):=by
   have lz:i<(ks.zip (ps.map (·.2))).length:=by rw[jS,zM];(clear hm;lia)
   rw[yR lz];congr 1;rw[List.getElem_zip,List.getElem_map,hp]
  rw[ed,DP]at hR;refine codeAny_builtin BT ?_;rw[DE vD _];show wpAny _ A.in1 (pyNext (.ref it)>>=_) _ _ s;refine zD (N.item st ep λh1 t st1 ht hk1=>?_);have hd1:h1.DictOf knd d vs:=by
   obtain⟨o,es,ep,ho,r⟩:=hd;exact#[o,es,ep,hk1 d o N.out ho,r]
  obtain⟨ot,hot,hct,nt,hdt⟩:=ht;have hT:({s with heap:=h1}:i5).TypeIs (.ref t) "tuple":=#[_,hot,hct];show wpAny _ A.in1 (holding [.ref t] _>>=_) _ _ _;refine zD (qC (zD (wpAny_tryCatch ?_)));unfold Builtin.Dict.pairItems;refine zD (wpAny_typeOf hT ?_);rw[zP (by decide)];refine zD (qT hot hdt (yB ?_));show wpAny _ _ (holding [k,v] (dictSet d k v)) _ _ _;refine qC (wpAny_dictSet_pairs (hsz:=()) hkk hd1 λh2 hd2 sb=>?_);refine yB #[plainId_quiet vD _,?_];have ln:(stored vs ks[i] v).length<=vs.length+1:=QC _ _ _;refine ih (i+1) _ _ () hi2 (N.keep st1 (λc o c1 e=>(sb.2 c c1).trans e) (by obtain⟨o,es,ep,ho,r⟩:=hd2;exact#[o,ho])) hd2 () λh' t' hd' hk'=>?_;exact hR h' t' hd' λc o c1 c2 e=>hk' c o c1 c2 ((sb.2 c c1).trans (hk1 c o c2 e))
end
theorem KV.fold: ∀{ks:a6 Bk} {vs:a6 V} {us:a6 a9} {kvs:a6 (Bk×V)} {ws:a6 (Bk×a9)},jU vs us->KV kvs ws->KV ((ks.zip vs).foldl (λacc x=>Ea acc x.1 x.2) kvs) ((ks.zip us).foldl (λacc x=>stored acc x.1 x.2) ws)
 |[],_,_,_,_,_,h=>h
 |k::ks,_,_,_,_,.nil,h=>h
 |k::ks,_,_,_,_,.cons r t,h=>by
  rw[qA,qA,DP,DP];exact KV.fold t (KV.put h k r)
theorem Qa: ∀(xs:a6 (Bk×V)) (acc:a6 (Bk×V)),(xs.foldl (λacc x=>Ea acc x.1 x.2) acc).length<=acc.length+xs.length
 |[],acc=>zS _
 |x::r,acc=>by
  rw[DP,zJ];have h1:=Qa r (Ea acc x.1 x.2);have h2:=AK acc x.1 x.2;lia
section
variable {prog:i6}{w:i9}
theorem PNx.list {d it src:i3}{as:a6 i3}{ps:a6 (a9×a9)}(hl:as.length=ps.length)(nd:d≠it)(ns:src≠it)(nsd:src≠d)(na: ∀a∈as,a≠it/\a≠d):
  PNx prog w d it [it] ps (λi h=>h.IsListIter it src i/\h.IsList src (as.map Value.ref).toArray/\ ∀(j:Nat) (a:i3) (p:a9×a9),as[j]? =some a->ps[j]? =some p->h.IsTuple a (List.toArray [p.1,p.2])) where
 item:=fun{A E i s k v Q} st hp q=>by
  obtain⟨h1,h2,h3⟩:=st;have hi:=(List.getElem?_eq_some_iff.mp hp).1;have ea:as[i]? =some as[i]:=zF (by omega);refine BV h1 h2 (x:=.ref as[i]) (by simp[show i<as.length by lia]) λh' i' sb=>?_;have up: ∀{c:i3} {o:j7},c≠it->s.heap.get? c=some o->h'.get? c=some o:=λn e=>sb.extBut _ _ n e;have tu: ∀(j:Nat) (a:i3) (p:a9×a9),as[j]? =some a->ps[j]? =some p->h'.IsTuple a (List.toArray [p.1,p.2]):=λj a p e1 e2=>by
   obtain⟨o,e,r⟩:=h3 j a p e1 e2;exact#[o,up (na a (xP e1)).1 e,r]
  exact q h' as[i] #[i',h2.extBut sb.extBut ns,tu] (tu i _ _ ea hp) λc o n e=>up (λz=>n (by simp[z])) e
 stop:=fun{A E s Q} hh st q=>by
  obtain⟨h1,h2,h3⟩:=st;exact CH hh h1 h2 (by simp[hl]) λh' eb=>q h' λc o n e=>eb c o (λz=>n (by simp[z])) e
 keep:=fun{i h h'} st k _=>by
  obtain⟨⟨o,e,r⟩,⟨o2,e2,r2⟩,h3⟩:=st;refine#[#[o,k _ _ (Ne.symm nd) e,r],#[o2,k _ _ nsd e2,r2],λj a p e1 e2=>?_];obtain⟨o,e,r⟩:=h3 j a p e1 e2;exact#[o,k _ _ (na a (xP e1)).2 e,r]
 out:=by simp[nd]
end
section
variable {prog:i6}{w:i9}{A:j4}{E:a9->i5->Prop}{s:i5}{src:i3}{ps:a6 (a9×a9)}
structure Src (prog:i6)(w:i9)(s:i5)(src:i3)(fp0:List i3)(ps:List (a9×a9)):Prop where
 ty: ∃T,s.TypeIs (.ref src) T/\(Value.type T != .type "dict")=true
 keys: ∀{B:j4} {E:a9->i5->Prop} {s':i5} {Q:Option a9->i5->Prop},B.handled=none->(∀c o,s.heap.get? c=some o->s'.heap.get? c=some o)->(∀h' tk,(∀c o,s'.heap.get? c=some o->h'.get? c=some o)->Q none {s' with heap:=h',toks:=tk})->
  wpAny (model prog w) B (getAttr? (.ref src) "keys") Q E s'
 iter: ∀{B:j4} {E:a9->i5->Prop} {s':i5} {Q:a9->i5->Prop},(∀c o,s.heap.get? c=some o->s'.heap.get? c=some o)->(∃o,s'.heap.get? s.heap.objs.size=some o)->(∀h' it fp St,PNx prog w s.heap.objs.size it fp ps St->St 0 h'->(∀c∈fp,c∈fp0\/s.heap.objs.size<c)->(∀c o,s'.heap.get? c=some o->h'.get? c=some o)->Q (.ref it) {s' with heap:=h'})->
  wpAny (model prog w) B (pyIter (.ref src)) Q E s'
theorem Oq {fp0:a6 i3}(S:Src prog w s src fp0 ps){ks:a6 Bk}(hA:A.handled=none)(hl:ks.length=ps.length)(hk: ∀(i:Nat) (k:Bk) (p:a9×a9),ks[i]? =some k->ps[i]? =some p->(wT prog w).is k p.1=true)(hz:ps.length<=sizeLine)
  {Q:a9->i5->Prop} (q: ∀h' t',h'.DictOf (wT prog w) s.heap.objs.size ((ks.zip (ps.map (·.2))).foldl (λacc x=>stored acc x.1 x.2) [])->(∀c o,c∉fp0->s.heap.get? c=some o->h'.get? c=some o)->Q (.ref s.heap.objs.size) {s with heap:=h',toks:=t'}):
  wpAny (model prog w) A (call (.type "dict") [.ref src]) Q E s:=by
 refine callType_codes (Q₁:=λobj s₁=>obj=.ref s.heap.objs.size/\s₁={s with heap:=s.heap.push {cls:=.type "dict",data:=.dict #[]}}) F.kt_called_dict (F.kt_typeCall_dict_1 _) F.entry_dict_init (kt_code_dict_new _ #[rfl,rfl]) ?_;rintro obj s₁ ⟨rfl,rfl⟩;have hnew:(s.heap.push {cls:=.type "dict",data:=.dict #[]}).DictOf (wT prog w) s.heap.objs.size []:=Heap.DictOf.new s.heap;refine#[hnew.typeIs,F.args_dict_init_2 _ _,?_];unfold Builtin.«dict.__init__»;refine zD ?_;unfold Builtin.Dict.selfAndRest;refine zD (wpAny_notOrdered_dict hnew.typeIs ?_);show wpAny _ _ (pure (s.heap.objs.size,[Value.ref src])) _ _ _;refine yB ?_;show wpAny _ _ (Builtin.Dict.updateFrom "dict.__init__" s.heap.objs.size (.ref src) [] .none) _ _ _;unfold Builtin.Dict.updateFrom;obtain⟨T,hT,hnT⟩:=S.ty;obtain⟨oT,hoT,hcT⟩:=hT;have k1: ∀c o,s.heap.get? c=some o->(s.heap.push {cls:=.type "dict",data:=.dict #[]}).get? c=some o:=λc o e=>zL _ e;refine zD (wpAny_typeOf (s:={s with heap:=s.heap.push {cls:=.type "dict",data:=.dict #[]}}) #[oT,k1 _ _ hoT,hcT] ?_);rw[zP hnT];refine zD (S.keys (B:=A.in1.in1) (s':={s with heap:=s.heap.push {cls:=.type "dict",data:=.dict #[]}}) hA k1 λh1 tk1 k2=>?_);rw[zP (show(none:i4 a9).isNone =true from rfl)];refine zD (EF ?_);have g1:h1.get? s.heap.objs.size=some {cls:=.type "dict",data:=.dict #[]}:=k2 _ _ (yI _ rfl);refine zD (S.iter (s':={s with heap:=h1,toks:=tk1}) (λc o e=>k2 c o (k1 c o e)) #[_,g1] λh2 it fp St N st fp1 k3=>?_);refine yB #[plainId_quiet vD _,?_];have hd:h2.DictOf (wT prog w) s.heap.objs.size []:=by
  obtain⟨o,es,ep,ho,r⟩:=hnew;exact#[o,es,ep,k3 _ _ (k2 _ _ ho),r]
 refine Uf (A:=A.in1) N hA hl hk ps.length 0 _ [] (Nat.sub_zero _) (xG _) st hd (by show 0+_<=_;lia) λh' t' hd' hk'=>#[rfl,?_];rw[BZ]at hd';refine q h' t' hd' λc o n e=>hk' c o (xT (yN e)) (λz=>?_) (k3 _ _ (k2 _ _ (k1 _ _ e)))
 rcases fp1 c z with y|y
 ·exact n y
 ·exact absurd (yN e) (Nat.not_lt_of_gt y)
end
section
variable {prog:i6}{w:i9}{s:i5}
theorem UQ {src:i3}{as:a6 i3}{n:Nat}{sl:j6 (i4 a9)}{ps:a6 (a9×a9)}(hs:s.heap.get? src=some {cls:=.type "list",dict:=none,data:=.seq (as.map Value.ref).toArray n,slots:=sl})(hl:as.length=ps.length)(ht: ∀(j:Nat) (a:i3) (p:a9×a9),as[j]? =some a->ps[j]? =some p->s.heap.IsTuple a (List.toArray [p.1,p.2])):Src prog w s src [] ps where
 ty:=#["list",#[_,hs,rfl],by decide]
 keys:=λhA k q=>TX hA (k _ _ hs) λh' tk e x=>q h' tk x.keeps
 iter:=fun{B E s' Q} k ⟨ob,gb⟩ q=>by
  have lt:=yN gb;have hl':s'.heap.IsList src (as.map Value.ref).toArray:=#[_,k _ _ hs,rfl,-1];refine uF hl' ?_;have ls:=yN hs;have la: ∀a∈as,a<s.heap.objs.size:=λa ha=>by
   obtain⟨j,hj⟩:=uL ha;have hjl:=(List.getElem?_eq_some_iff.mp hj).1;obtain⟨o,e,_⟩:=ht j a _ hj (zF ());exact yN e
  refine q _ s'.heap.objs.size [s'.heap.objs.size] _ (PNx.list (src:=src) (as:=as) hl (xT lt) (xT (Nat.lt_trans ls lt)) (xT ls) λa ha=>#[xT (Nat.lt_trans (la a ha) lt),xT (la a ha)]) #[#[_,yI _ rfl,rfl,rfl],hl'.push _,λj a p e1 e2=>?_] (λc hc=>.inr (by rw[List.mem_singleton.mp hc];exact lt)) λc o e=>zL _ e;obtain⟨o,e,r⟩:=ht j a p e1 e2;exact#[o,zL _ (k _ _ e),r]
end
noncomputable def Hf (kvs:a6 (Bk×V)):a6 (Bk×V):=kvs.foldl (λacc x=>Ea acc x.1 x.2) []
theorem Tf (kvs:a6 (Bk×V)):(kvs.map (·.1)).zip (kvs.map (·.2))=kvs:=by
 induction kvs with
 |nil=>rfl
 |cons x r ih=>rw[yO,yO,qA,ih]
section
variable {X:Cx}
theorem Ug {j8:a6 (i3×j7)}{U:St}{H:Hp}{s0:i5}{kvs:a6 (Bk×V)}{us:a6 a9}{Q:VK}{h':j3}{t':Nat}{d:i3}(I:xY X j8 U H s0)(ru:jU (kvs.map (·.2)) us)(hz:kvs.length<=sizeLine)(hd:s0.heap.objs.size<=d)
  (dd:h'.DictOf (wT X.prog X.w) d (((kvs.map (·.1)).zip us).foldl (λacc x=>stored acc x.1 x.2) [])) (k: ∀c o,s0.heap.get? c=some o->h'.get? c=some o) (q: ∀p,H p=none->Q (.ref p) (upd H p (.dK (Hf kvs)))):EP X j8 U Q (.ref d) {s0 with heap:=h',toks:=t'}:=by
 have rel:KV (Hf kvs) (((kvs.map (·.1)).zip us).foldl (λacc x=>stored acc x.1 x.2) []):=by
  have:=KV.fold (ks:=kvs.map (·.1)) (kvs:=[]) (ws:=[]) ru .nil;rw[Tf]at this;exact this
 have hl:(Hf kvs).length<=sizeLine:=by
  have:=Qa kvs [];show(kvs.foldl _ []).length<=_;have e:([]:a6 (Bk×V)).length =0:=rfl;lia
 have ns:(d==sysModules)=false:=by
  have h1:sysModules<d:=xR I.big hd;have h2:d≠sysModules:=Nat.ne_of_gt h1
  simpa using h2
 exact#[.ref d,_,I.laid (o:=.dK (Hf kvs)) k hd (WJ hl ns rel dd),rfl,q d (I.hok.fresh hd)]
theorem RK (hc:X.calm=true):EE X (.type "dict") (λxs H Q=> ∃(l:i3) (as:a6 i3) (kvs:a6 (Bk×V)),xs=[.ref l]/\H l=some (.lst (as.map V.ref))/\Paired (λa kv=>H a=some (.tup [kV kv.1,kv.2])) as kvs/\ ∀p,H p=none->Q (.ref p) (upd H p (.dK (Hf kvs)))):=by
 intro j8 s U H xs us Q I r h;obtain⟨l,as,kvs,rfl,hl,ha,q⟩:=h;obtain⟨u,rfl,ru⟩:=GD r;cases ru;obtain⟨zl,its,n,rv,hli,he⟩:=I.lstM hl;have e0:=JK rv;subst e0;have key: ∀{as:a6 i3} {kvs:a6 (Bk×V)},Paired (λa kv=>H a=some (.tup [kV kv.1,kv.2])) as kvs-> ∃ps:a6 (a9×a9),as.length=ps.length/\kvs.length=ps.length/\jU (kvs.map (·.2)) (ps.map (·.2))/\(∀(j:Nat) (a:i3) (p:a9×a9),as[j]? =some a->ps[j]? =some p->s.heap.IsTuple a (List.toArray [p.1,p.2]))/\
   ∀(i:Nat) (k:Bk) (p:a9×a9),(kvs.map (·.1))[i]? =some k->ps[i]? =some p->(wT X.prog X.w).is k p.1=true:=fun{as kvs} h=>by
  induction h with
  |nil=>exact#[[],rfl,rfl,.nil,λj a p h=>by simp at h,λi k p h=>by simp at h]
  |@cons a kv as kvs h t ih=>
   obtain⟨ps,e1,e2,rs,g1,g2⟩:=ih;obtain⟨zz,its,rt,pt⟩:=(show vV X.prog X.w H s.heap a (.tup [kV kv.1,kv.2])from I.hok a _ h);obtain⟨u1,u2,rfl,r1,r2⟩:=JV rt;refine#[(u1,u2)::ps,by rw[zJ,zJ,e1],by rw[zJ,zJ,e2],.cons r2 rs,λj b p h1 h2=>?_,λi k p h1 h2=>?_]
   ·cases j with
    |zero=>
     have e1:a=b:=by simpa using h1
     have e2:(u1,u2)=p:=by simpa using h2
     subst e1 e2;exact pt
    |succ j=>exact g1 j b p (by simpa using h1) (by simpa using h2)
   ·cases i with
    |zero=>
     have e1:kv.1=k:=by simpa using h1
     have e2:(u1,u2)=p:=by simpa using h2
     subst e1 e2;exact MJ r1
    |succ i=>exact g2 i k p (by simpa using h1) (by simpa using h2)
 obtain⟨ps,e1,e2,rs,g1,g2⟩:=key ha;have hlk:=Paired.len ha;rw[zM]at zl;refine Oq (ks:=kvs.map (·.1)) (UQ he e1 g1) (I.ok.hd hc) (by rw[zM,e2]) g2 () λh' t' dd k=>?_;exact Ug I rs () (zS _) dd (λc o e=>k c o (λz=>nomatch z) e) q
theorem Ym:bootBuiltins "dict"=some (.type "dict"):=by decide+kernel
end
end L2
namespace L2
open PySem PySem.Spec
section
variable {X:Cx}{j8:a6 (i3×j7)}{U:St}{H:Hp}{s:i5}
def Qp (H:Hp)(v:V)(p:Int×Int):Prop:= ∃t,v=.ref t/\H t=some (.tup [.int p.1,.int p.2])
theorem zAh (I:xY X j8 U H s)(A:j4)(hx:Qp H x p)(hy:Qp H y q)(rx:kS x u)(ry:kS y v)(hu:A.units<cLine):SeqAt.EqAt A s u v (decide (p=q)):=by
 obtain⟨a,rfl,ha⟩:=hx;obtain⟨b,rfl,hb⟩:=hy;cases rx;cases ry
 by_cases hab:a=b
 ·subst hab;rw[ha]at hb;injection hb with hb
  injection hb with hb
  injection hb with e1 hb
  injection hb with e2 _
  injection e1 with e1
  injection e2 with e2
  rw[zQ (Prod.ext e1 e2)];exact SeqAt.EqAt.same _
 refine SeqAt.EqAt.of_refs hab ?_;obtain⟨us,r,pa,_⟩:=I.tuple (uZ.of ha);obtain⟨vs,q',pb,_⟩:=I.tuple (uZ.of hb);obtain⟨u1,u2,rfl,r1,r2⟩:=r.two;obtain⟨w1,w2,rfl,t1,t2⟩:=q'.two;have:=Fb (A:=A) (s:=s) (e:=λn=>if n=0 then Fs (.int p.1) (.int q.1)else Fs (.int p.2) (.int q.2)) pa pb hu (λn h1 h2=>by
  have h1:n<2:=h1
  rcases(by lia:n=0\/n=1)with rfl|rfl
  ·exact Gr r1 t1 rfl rfl
  ·exact Gr r2 t2 rfl rfl)
 have e:((List.range (min 2 2)).all (λn=>if n=0 then Fs (.int p.1) (.int q.1)else Fs (.int p.2) (.int q.2))&&(2==2))=decide (p=q):=by
  show((p.1==q.1)&&((p.2==q.2)&&true)&&true)=_;rw[uP,uP,jT,wN,Da,Da,jZ,Prod.ext_iff]
 exact e▸this
inductive zCd (K:a7) (x:V) (y:V) (H:Hp) (Q:VK):Prop
 |mk (a b:i3) (xs ys:List V) (gs hs:List (Int×Int)) (h0:x=.ref a) (h1:y=.ref b) (h2:kF K H a xs) (h3:kF K H b ys) (h4:Paired (Qp H) xs gs) (h5:Paired (Qp H) ys hs) (h6:Q (.bl (decide (gs=hs))) H):zCd K x y H Q
theorem ZN (hr:Am k X.A):Hu X (compareOp .Eq) (zCd X.K):=by
 intro j8 s U H x y v u Q I rx ry h;obtain⟨a,b,xs,ys,gs,hs,rfl,rfl,ha,hb,pg,ph,q⟩:=h;cases rx;cases ry;have hu:=hr.un;obtain⟨us,r,pa,_⟩:=I.list ha;obtain⟨vs,q',pb,_⟩:=I.list hb;have l1:=r.length;have l2:=q'.length;have l3:=Paired.len pg;have l4:=Paired.len ph
 by_cases hl:us.length=vs.length
 ·have:=SeqAt.RcAt.lists (A:=X.A) (s:=s) (e:=λj=>decide (gs[j]? =hs[j]?)) pa.isList pb.isList (by simpa using hl) () (λj h1 h2=>by
   have k1:j<us.length:=by simpa using h1
   have k2:j<vs.length:=by simpa using h2
   have g1:xs[j]? =some xs[j]:=zF (by omega);have g2:ys[j]? =some ys[j]:=zF (by omega);obtain⟨p1,e1,f1⟩:=Paired.yonder pg g1;obtain⟨p2,e2,f2⟩:=Paired.yonder ph g2;have z:=zAh I X.A.in1 f1 f2 (Paired.get r j _ _ g1 (zF k1)) (Paired.get q' j _ _ g2 (zF k2)) (by show X.A.units+1<_;lia);have e3:decide (gs[j]? =hs[j]?)=decide (p1=p2):=by
    rw[e1,e2,jT,jZ,jZ,Option.some.injEq]
   simp only[List.getElem_toArray];rw[e3];exact z)
  have e:(List.range us.toArray.size).all (λj=>decide (gs[j]? =hs[j]?))=decide (gs=hs):=by
   rw[jT,vJ,jZ];refine#[λz=>List.ext_getElem? λj=>?_,λz j _=>by rw[z];exact zQ rfl]
   by_cases hj:j<us.length
   ·exact yG (z j (by rw[List.mem_range];simpa using hj))
   ·rw[wK (),wK ()]
  rw[e]at this;exact this _ _ _ _ #[.bl _,H,I,rfl,q]
 ·have:=SeqAt.RcAt.lists_lengths (A:=X.A) (s:=s) pa.isList pb.isList (by simpa using hl) ();have e:decide (gs=hs)=false:=zR λz=>hl (by rw[z]at l3;lia);rw[e]at q;exact this _ _ _ _ #[.bl _,H,I,rfl,q]
end
end L2
namespace L2
open PySem
def uE (K:a7)(H:Hp)(st:i3)(w:Int):Prop:= ∃a ns k c,H st=some (.lst [.ref a,.int k,.int c,.int w])/\Te K H a ns/\ns.length<=63/\0<=k/\0<=c
structure kI (K:a7)(st:i3)(w:Int)(H H':Hp):Prop where
 draw:uE K H' st w
 keep:qJ st H H'
section
variable {K:a7}{st b p:i3}{w w':Int}{H H1 H':Hp}
theorem kI.trans (a:kI K st w H H1)(b:kI K st w' H1 H'):kI K st w' H H':=#[b.draw,a.keep.trans b.keep]
theorem uE.refl (d:uE K H st w):kI K st w H H:=#[d,qJ.refl st H]
theorem uE.is (d:uE K H st w): ∃xs,H st=some (.lst xs):=by
 obtain⟨a,ns,k,c,e,_⟩:=d;exact#[_,e]
theorem uE.ne (d:uE K H st w)(h:H b=none):st≠b:=by
 obtain⟨xs,e⟩:=d.is;exact xB e h
theorem uE.same (d:uE K H st w)(h:xK H H'):uE K H' st w:=by
 obtain⟨a,ns,k,c,e,s,r⟩:=d;exact#[a,ns,k,c,h _ _ e,s.keep e (qJ.same h),r]
theorem uE.more (d:uE K H st w)(g:xK H H'):kI K st w H H':=#[d.same g,qJ.same g]
theorem uE.new (d:uE K H st w)(h:H p=none)(o:HO):kI K st w H (upd H p o):=d.more (zN h o)
theorem uE.put (d:uE K H st w)(hp:H p=some (.lst xs))(n:p≠st):uE K (upd H p (.lst ys)) st w:=by
 obtain⟨a,ns,k,c,e,s,r⟩:=d;refine#[a,ns,k,c,(by rw[yQ (Ne.symm n)];exact e),?_,r]
 rcases s with⟨o,s⟩|s
 ·exact .inl #[o,by rw[yQ (λz=>by rw[z,hp]at s;cases s)];exact s]
 ·exact .inr s
theorem uE.pay (d:uE K H st w): ∃xs,H st=some (.lst xs)/\xs.length=4/\Gv xs 3=some (.int w)/\ ∀w',kI K st w' H (upd H st (.lst (xs.set 3 (.int w')))):=by
 obtain⟨a,ns,k,c,e,s,r⟩:=d;exact#[_,e,rfl,rfl,λw'=>#[#[a,ns,k,c,zE,s.keep e qJ.upd,r],qJ.upd]]
theorem kI.free (h:kI K st w H H')(e:H' b=none):H b=none:=by
 cases z:H b with
 |none=>rfl
 |some o=>rw[h.keep b o (Ne.symm (h.draw.ne e)) z]at e;cases e
theorem kI.tups (d:uE K H st w)(h:kI K st w' H H'):qE H H':=by
 obtain⟨xs,e⟩:=d.is;exact λb vs z=>h.keep b _ (λy=>by rw[y,e]at z;cases z) z
end
inductive Nr (K:a7) (vs:List V) (H:Hp) (Q:VK) (E:XK):Prop
 |mk (a:i3) (ns:List Int) (k:Int) (h0:vs=[.ref a,.int k]) (h1:Te K H a ns) (h2:0<=k) (h3: ∀r:Int,Q (.int r) H):Nr K vs H Q E
inductive DV (K:a7) (vs:List V) (H:Hp) (Q:VK) (E:XK):Prop
 |mk (st:i3) (many w:Int) (h0:vs=[.ref st,.int many]) (h1:0<many) (h2:many<1073741824) (h3:uE K H st w) (h4: ∀(r:Int) (H':Hp),0<=r->r<many->kI K st w H H'->Q (.int r) H'):DV K vs H Q E
theorem nxg {t:TS}{nx bk ct:St->Hp->Prop}{rt:VK}{U:St}{H:Hp}(h: ∀N B C,(∀U H,nx U H->N U H)->t #[N,rt,B,C] U H):t #[nx,rt,bk,ct] U H:=h _ _ _ λ_ _ z=>z
end L2
namespace L2
open PySem PySem.Spec PyProof.Rows
section
variable {X:Cx}{pos p:Pos}{x:Str}{e a b:j5}{es:a6 j5}{te ta tb:TE}{t:TA}
theorem cN (C:Qt X.prog X.w X.K X.mg X.base (GC P w) k x ps sp)(hr:Am n X.A)(ha:PA X (e::es) t)(hg:autoParam (Gl X x) L2.aE._auto_1)(hk:autoParam (k<=n) L2.aH._auto_1)(hdb:autoParam ((x==("__debug__":Str))=false) L2.aB._auto_1)
  (he:autoParam (starEach (e::es) X.env=(false,eval e X.env)::starEach es X.env) L2.aE._auto_1) (hpl:autoParam ((backTo pos (starEach es X.env)).any (·.1)=false) L2.aE._auto_1):PE X (.Call (.Name x p) (e::es) [] pos) (Sc sp [] E0 t):=zK C hr hg ha zX hk hdb he hpl
end
abbrev kB (P:i6)(w:i9)(K:a7)(mg:Str->i4 a9)(base:j3):=Qt P w K mg base (GC P w)
abbrev vX (P:i6)(w:i9)(K:a7)(mg:Str->i4 a9)(base:j3):=Dx P w K mg base (GC P w)
section
variable {P:i6}{w:i9}{K:a7}{mg:Str->i4 a9}{base:j3}
theorem qZ.oN {CX:Mm}{x qual:Str}{st:i8}{f:i3}{fd:FuncData}{N ps:a6 Str}{k:Nat}{sp:Sp}(F:qZ K x qual st f fd)(S:xA N ps (zW st))
  (hbody: ∀(cdv:a9) (A:j4) (outer:a6 Env) (s:i5) (H:Hp) (vs:a6 V) (Q:VK) (E:XK),Am k (A.deeper (envOfC qual (zW st) s.heap.objs.size f cdv))->sp vs H Q E->
   ∃t,Qw (Qj CX P w K mg base N qual (zW st) f cdv A outer s H E).nox (vR st) t/\t {nx:=λ_ H'=>Q .non H',rt:=Q} (ID N vs) H) (len: ∀vs H Q E,sp vs H Q E->vs.length=ps.length:=by intro _ _ _ _ h;cases h;subst_vars;rfl):Dx P w K mg base CX (k+1) f fd ps sp:=F.okN S len hbody
end
end L2
namespace L2
open PySem PySem.W PySem.W.X
theorem walkX_of {q:i6}{loose:a6 Str}{XP:(Str->i4 a9)->j3->Prop}{as:a6 i3}{K:Params->Frag}{n t:Nat}{r:RowW}{d:DefRec}{kwd:a6 (Str×j5)}{run:a9->a6 a9->Sem a9}(e: ∀P,as=(K P).map (·.1))
  (h:WalkO q loose XP (λw h=>(K w.params).In h) r d kwd run):WalkX q loose XP (obsZ as) (valZ K n t) r d kwd run:=by
 intro w s₀ s₁ mg mb G y a o pm cd doc dV kV h1 h2 h3 h4 h5 h6 args o7 as' L h7 h8 h9 h10 h11;have Y:(K w.params).In s₁.heap:=InK.keeps (K:=K) w s₀.heap s₁.heap (z_facts e y).2.1 L.keeps;exact h w s₀ s₁ mg mb G Y a o pm cd doc dV kV h1 h2 h3 h4 h5 h6 args o7 as' h7 h8 h9 h10 h11
end L2
namespace OcL
open PySem L2
noncomputable def top (i:Nat):i8:=PySem.Challenge.pw_ownchain_k35_papers_let_by_or_not.main.body.getD i (.Pass #[0,0,0,0])
noncomputable abbrev Ig:i8:=top 24
theorem ON:xA ["kind"] ["kind"] (zW Ig):=.of
noncomputable abbrev Ge:i8:=top 33
theorem JX:xA ["thing"] ["thing"] (zW Ge):=.of
noncomputable abbrev DI:i8:=Jd (top 34) 0
theorem JE:xA ["self","numbers"] ["self","numbers"] (zW DI):=.of
noncomputable abbrev Hc:i8:=Jd (top 34) 1
theorem IJ:xA ["self","number"] ["self"] (zW Hc):=.of
noncomputable abbrev BA:i8:=Jd (top 34) 2
theorem Bd:xA ["self","least","most","place","number"] ["self","least","most"] (zW BA):=.of
noncomputable abbrev Ga:i8:=top 35
theorem Ar:xA ["look","heads","most_params","function","params"] ["look"] (zW Ga):=.of
noncomputable abbrev Ic:i8:=top 36
theorem OL:xA ["look","kind","heads","boxes"] ["look","kind","heads","boxes"] (zW Ic):=.of
noncomputable abbrev GS:i8:=top 37
theorem ND:xA ["kind","numbers","heads"] ["kind","numbers","heads"] (zW GS):=.of
noncomputable abbrev EQ:i8:=top 38
theorem AO:xA ["look","heads","boxes","deep","place","kind","numbers","parts","part"] ["look","heads","boxes","deep"] (zW EQ):=.of
noncomputable abbrev GW:i8:=top 39
theorem AR:xA ["sheet","look","heads","told","params","boxes"] ["sheet"] (zW GW):=.of
noncomputable abbrev Ih:i8:=top 40
theorem Dr:xA ["body","told","waiting","node","part"] ["body"] (zW Ih):=.of
noncomputable abbrev NI:i8:=top 41
theorem GN:xA ["sheet","told","params","boxes","body"] ["sheet"] (zW NI):=.of
noncomputable abbrev JI:i8:=top 57
theorem Ej:xA ["head","function","many_rows","start","params","boxes","most_params"] ["head","function","many_rows"] (zW JI):=.of
noncomputable abbrev Em:i8:=top 58
theorem Kd:xA ["op"] ["op"] (zW Em):=.of
noncomputable abbrev KS:i8:=top 59
theorem JD:xA ["row","many_functions","many_rows","op","number"] ["row","many_functions","many_rows"] (zW KS):=.of
noncomputable abbrev HD:i8:=top 60
theorem QP:xA ["numbers","size"] ["numbers","size"] (zW HD):=.of
noncomputable abbrev Il:i8:=top 61
theorem OP:xA ["numbers"] ["numbers"] (zW Il):=.of
noncomputable abbrev JG:i8:=top 62
theorem QN:xA ["numbers"] ["numbers"] (zW JG):=.of
noncomputable abbrev uS:i8:=top 63
theorem GQ:xA ["thing"] ["thing"] (zW uS):=.of
noncomputable abbrev HC:i8:=top 64
theorem Ek:xA ["thing","many_numbers","many_rows","function","head"] ["thing"] (zW HC):=.of
noncomputable abbrev Ik:i8:=top 65
theorem OO:xA ["code"] ["code"] (zW Ik):=.of
noncomputable abbrev JF:i8:=top 66
theorem QM:xA ["code"] ["code"] (zW JF):=.of
noncomputable abbrev KR:i8:=top 67
theorem JC:xA ["things","size","numbers","thing"] ["things","size"] (zW KR):=.of
noncomputable abbrev JJ:i8:=top 68
theorem Ia:xA ["heads","rows","numbers","code"] ["heads","rows"] (zW JJ):=.of
noncomputable abbrev KP:i8:=top 71
theorem Tk:xA ["value"] ["value"] (zW KP):=.of
noncomputable abbrev Ie:i8:=top 72
theorem OM:xA ["kind","first","second"] ["kind","first","second"] (zW Ie):=.of
noncomputable abbrev LW:i8:=top 73
noncomputable abbrev NH:i8:=top 74
theorem UU:xA ["kind","values","rows"] ["kind","values","rows"] (zW NH):=.of
noncomputable abbrev BM:i8:=Jd (top 76) 0
theorem Ib:xA ["self"] ["self"] (zW BM):=.of
noncomputable abbrev Gc:i8:=top 77
theorem JW:xA ["making","parts","part"] ["making","parts"] (zW Gc):=.of
noncomputable abbrev ET:i8:=top 78
theorem Ac:xA ["making","parts","many","first_jump","last_jump","jump","number","part"] ["making","parts"] (zW ET):=.of
noncomputable abbrev EV:i8:=top 79
theorem FX:xA ["making","parts","around","unless"] ["making","parts"] (zW EV):=.of
noncomputable abbrev JH:i8:=top 80
theorem QO:xA ["kind","numbers"] ["kind","numbers"] (zW JH):=.of
noncomputable abbrev EU:i8:=top 81
theorem Ad:xA ["making","node","kind","place","numbers","parts","begin","part"] ["making","node"] (zW EU):=.of
noncomputable abbrev GU:i8:=top 82
theorem BJ:xA ["program","making","params","boxes","body"] ["program"] (zW GU):=.of
noncomputable abbrev QR:i8:=top 83
theorem Sm:xA ["sheet","making"] ["sheet"] (zW QR):=.of
noncomputable abbrev Gd:i8:=top 84
theorem LU:xA ["sheet"] ["sheet"] (zW Gd):=.of
noncomputable abbrev KQ:i8:=top 86
theorem Mx:xA ["value","parts","last"] ["value","parts"] (zW KQ):=.of
noncomputable abbrev NJ:i8:=top 89
theorem KO:xA ["rows","at","jump"] ["rows","at"] (zW NJ):=.of
noncomputable abbrev IK:i8:=top 90
theorem Dt:xA ["node","kind","place","numbers","parts","values","fault","value"] ["node"] (zW IK):=.of
noncomputable abbrev AS:i8:=Jd (top 91) 0
theorem AA:xA ["self","rows","paper","place","begin","end"] ["self","rows","paper"] (zW AS):=.of
noncomputable abbrev Im:i8:=top 92
theorem OQ:xA ["check","node"] ["check","node"] (zW Im):=.of
noncomputable abbrev KU:i8:=top 93
theorem Tl:xA ["check","node"] ["check","node"] (zW KU):=.of
noncomputable abbrev GR:i8:=top 94
theorem NA:xA ["check","at"] ["check","at"] (zW GR):=.of
noncomputable abbrev QQ:i8:=top 95
theorem Sl:xA ["check","first","second","lead"] ["check","first","second"] (zW QQ):=.of
noncomputable abbrev KW:i8:=top 96
theorem My:xA ["check","at","row","lead"] ["check","at","row"] (zW KW):=.of
noncomputable abbrev EW:i8:=top 97
theorem NE:xA ["check","parts"] ["check","parts"] (zW EW):=.of
noncomputable abbrev Eo:i8:=top 98
theorem Ke:xA ["check","node","part"] ["check","node","part"] (zW Eo):=.of
noncomputable abbrev Gf:i8:=top 99
theorem LV:xA ["check","node","part"] ["check","node","part"] (zW Gf):=.of
noncomputable abbrev GV:i8:=top 100
theorem IG:xA ["check","node","value"] ["check","node"] (zW GV):=.of
noncomputable abbrev En:i8:=top 101
theorem Bs:xA ["check","node","parts","part","following"] ["check","node"] (zW En):=.of
noncomputable abbrev DF:i8:=top 102
theorem vG:xA ["check","node","first","others","entry","number","part"] ["check","node"] (zW DF):=.of
noncomputable abbrev BK:i8:=top 103
theorem Bz:xA ["check","node","value","part"] ["check","node"] (zW BK):=.of
noncomputable abbrev CP:i8:=top 104
theorem EO:xA ["check","at","lead"] ["check","at"] (zW CP):=.of
noncomputable abbrev DH:i8:=top 105
theorem AQ:xA ["check","node","first","second","out"] ["check","node"] (zW DH):=.of
noncomputable abbrev Gb:i8:=top 106
theorem Dh:xA ["check","node","at","part"] ["check","node"] (zW Gb):=.of
noncomputable abbrev Aw:i8:=top 107
theorem qG:xA ["check","node","kind","place","numbers","parts","after"] ["check","node"] (zW Aw):=.of
noncomputable abbrev Ii:i8:=top 108
theorem Ds:xA ["check","node","kind","place","numbers","parts"] ["check","node"] (zW Ii):=.of
noncomputable abbrev Be:i8:=top 109
theorem GO:xA ["check","start","body"] ["check","start","body"] (zW Be):=.of
noncomputable abbrev HB:i8:=top 110
theorem FY:xA ["line","places","many_rows","place","begin","end"] ["line","places","many_rows"] (zW HB):=.of
noncomputable abbrev Ij:i8:=top 111
theorem GP:xA ["paper","places","many_rows","there","line"] ["paper","places","many_rows"] (zW Ij):=.of
noncomputable abbrev uB:i8:=top 112
theorem El:xA ["program","heads","asked"] ["program","heads"] (zW uB):=.of
noncomputable abbrev Fw:i8:=top 113
theorem By:xA ["sheet","code","paper","program","heads","rows","told","check","node"] ["sheet","code","paper"] (zW Fw):=.of
noncomputable abbrev Hb:i8:=top 115
theorem NG:xA ["_law_script","_law_k"] ["_law_script","_law_k"] (zW Hb):=.of
noncomputable abbrev GX:i8:=top 116
theorem uA:xA ["_law_state","_law_most","_law_script","_law_at","_law_left","_law_cell_here","_law_number"] ["_law_state","_law_most"] (zW GX):=.of
noncomputable abbrev EY:i8:=top 117
theorem wB:xA ["_law_state","_law_heads","_law_boxes","_law_deep","_law_kind","_law_found","_law_many","_law_k"] ["_law_state","_law_heads","_law_boxes","_law_deep"] (zW EY):=.of
noncomputable abbrev Gg:i8:=top 118
theorem qP:xA ["_law_state","_law_heads","_law_k","_law_params","_law_found","_law_boxes"] ["_law_state"] (zW Gg):=.of
noncomputable abbrev EX:i8:=top 119
theorem IH:xA ["_law_code","_law_behind"] ["_law_code"] (zW EX):=.of
noncomputable abbrev GZ:i8:=top 120
theorem FZ:xA ["_law_rows_here","_law_at","_law_turn"] ["_law_rows_here","_law_at"] (zW GZ):=.of
noncomputable abbrev GY:i8:=top 121
theorem NF:xA ["_law_rows_here","_law_one","_law_other"] ["_law_rows_here","_law_one","_law_other"] (zW GY):=.of
noncomputable abbrev Ha:i8:=top 122
theorem II:xA ["_law_rows_here","_law_at","_law_row","_law_behind","_law_here"] ["_law_rows_here","_law_at","_law_row","_law_behind"] (zW Ha):=.of
noncomputable abbrev DW:i8:=top 123
theorem uM:xA ["_law_node_here","_law_kind","_law_place","_law_numbers","_law_parts_here","_law_one","_law_other"] ["_law_node_here"] (zW DW):=.of
noncomputable abbrev DY:i8:=top 124
theorem wP:xA ["_law_look","_law_parts_here","_law_begin","_law_drops","_law_rows_here","_law_spans","_law_at","_law_k","_law_part","_law_here"] ["_law_look","_law_parts_here","_law_begin","_law_drops"] (zW DY):=.of
noncomputable abbrev Di:i8:=top 125
theorem kM:xA ["_law_look","_law_many","_law_parts_here","_law_begin","_law_end","_law_rows_here","_law_spans","_law_first","_law_one","_law_here","_law_k","_law_part","_law_other"] ["_law_look","_law_many","_law_parts_here","_law_begin","_law_end"] (zW Di):=.of
noncomputable abbrev Dj:i8:=top 126
theorem AH:xA ["_law_look","_law_parts_here","_law_begin","_law_end","_law_rows_here","_law_spans","_law_here","_law_asks"] ["_law_look","_law_parts_here","_law_begin","_law_end"] (zW Dj):=.of
noncomputable abbrev DX:i8:=top 127
theorem kQ:xA ["_law_look","_law_node_here","_law_rows_here","_law_spans","_law_kind","_law_place","_law_numbers","_law_parts_here","_law_begin","_law_end","_law_value","_law_at","_law_row"] ["_law_look","_law_node_here"] (zW DX):=.of
noncomputable abbrev Ip:i8:=top 128
theorem kY:xA ["_law_told","_law_code","_law_paper","_law_rows_here","_law_spans","_law_place","_law_begin","_law_end","_law_look","_law_k","_law_one","_law_params","_law_boxes","_law_body","_law_here"] ["_law_told","_law_code","_law_paper"] (zW Ip):=.of
noncomputable abbrev CQ:i8:=top 129
theorem wC:xA ["_law_state","_law_code","_law_found","_law_many","_law_at","_law_way","_law_spot"] ["_law_state","_law_code"] (zW CQ):=.of
noncomputable abbrev BL:i8:=top 130
theorem jX:xA ["_law_state","_law_rows_here","_law_paper","_law_k","_law_place","_law_begin","_law_end","_law_way","_law_by","_law_goal_here","_law_line"] ["_law_state","_law_rows_here","_law_paper"] (zW BL):=.of
noncomputable abbrev Bl:i8:=top 131
theorem wA:xA ["_law_state","_law_told","_law_code","_law_paper","_law_some","_law_node_here","_law_spot","_law_value","_law_at","_law_last","_law_found"] ["_law_state","_law_told","_law_code","_law_paper"] (zW Bl):=.of
noncomputable abbrev UV:i8:=top 132
theorem CO:xA ["_law_script","_law_state","_law_sheet_here","_law_told","_law_code","_law_paper","_law_turn","_law_way","_law_handed","_law_found"] ["_law_script"] (zW UV):=.of
structure GB (K:a7)(mg:Str->Option a9):Prop where
 n_len:mg "len"=none
 n_range:mg "range"=none
 n_all:mg "all"=none
 n_max:mg "max"=none
 n_enumerate:mg "enumerate"=none
 n_isinstance:mg "isinstance"=none
 n_int:mg "int"=none
 n_bool:mg "bool"=none
 n_tuple:mg "tuple"=none
 n_list:mg "list"=none
 m_ADD:kN mg "ADD" 8
 m_NEW:kN mg "NEW" 19
 m_MOST_FUNCTIONS:kN mg "MOST_FUNCTIONS" 16
 m_MOST_PARAMS:kN mg "MOST_PARAMS" 4
 m_MOST_BOXES:kN mg "MOST_BOXES" 12
 m_MOST_MANY:kN mg "MOST_MANY" 12
 m_LEAST_PICK:kN mg "LEAST_PICK" 2
 m_OP_PUSH:kN mg "OP_PUSH" 0
 m_OP_GET:kN mg "OP_GET" 1
 m_OP_SET:kN mg "OP_SET" 2
 m_OP_DROP:kN mg "OP_DROP" 3
 m_OP_JUMP:kN mg "OP_JUMP" 4
 m_OP_UNLESS:kN mg "OP_UNLESS" 5
 m_OP_CALL:kN mg "OP_CALL" 6
 m_OP_BACK:kN mg "OP_BACK" 7
 m_OP_FAIL:kN mg "OP_FAIL" 8
 m_OP_BREATH:kN mg "OP_BREATH" 9
 m_OP_DO:kN mg "OP_DO" 10
 m_OP_PICK:kN mg "OP_PICK" 11
 m_HEAD_SIZE:kN mg "HEAD_SIZE" 3
 m_ROW_SIZE:kN mg "ROW_SIZE" 2
 kint:PySem.W.kitOne K (.type "int") (.type "int")=some true
 kbool:PySem.W.kitOne K (.type "int") (.type "bool")=some false
 klist:PySem.W.kitOne K (.type "list") (.type "list")=some true
 kal:PySem.W.kitAny K (.type "list") [.type "list",.type "tuple"]=some true
 kat:PySem.W.kitAny K (.type "tuple") [.type "list",.type "tuple"]=some true
 ktup:PySem.W.kitOne K (.type "tuple") (.type "tuple")=some true
structure Jk (K:a7)(mg:Str->Option a9)(aP CL:i3):Prop where
 n_len:mg "len"=none
 n_range:mg "range"=none
 n_isinstance:mg "isinstance"=none
 n_int:mg "int"=none
 n_bool:mg "bool"=none
 n_tuple:mg "tuple"=none
 m_NUMBER:kN mg "NUMBER" 0
 m_GET:kN mg "GET" 1
 m_SET:kN mg "SET" 2
 m_ALL:kN mg "ALL" 3
 m_PICK:kN mg "PICK" 4
 m_LOOP:kN mg "LOOP" 5
 m_CALL:kN mg "CALL" 6
 m_FAIL:kN mg "FAIL" 7
 m_NEW:kN mg "NEW" 19
 m_MOST_FUNCTIONS:kN mg "MOST_FUNCTIONS" 16
 m_MOST_PARAMS:kN mg "MOST_PARAMS" 4
 m_MOST_BOXES:kN mg "MOST_BOXES" 12
 m_MOST_DEEP:kN mg "MOST_DEEP" 10
 m_MOST_MANY:kN mg "MOST_MANY" 12
 m_LEAST_ALL:kN mg "LEAST_ALL" 1
 m_LEAST_PICK:kN mg "LEAST_PICK" 2
 m_PARTS:mg "PARTS"=some (.ref aP)
 parts: ∀H,uZ K H aP (partsN.map V.int)
 kint:PySem.W.kitOne K (.type "int") (.type "int")=some true
 kbool:PySem.W.kitOne K (.type "int") (.type "bool")=some false
 look:RX K CL
 lnum:Bh K CL "numbers"
 lplace:Bh K CL "place"
section
variable {P:i6}{w:i9}{K:a7}{mg:Str->i4 a9}{base:j3}{f:i3}{fd:FuncData}{aP CL CN CM CK:i3}
mutual
noncomputable def Uw (p:Nat):Tr->Nd
 | .mk k own ps=>.mk k p own (Jp (p+1+own.length) ps)
noncomputable def Jp (p:Nat):a6 Tr->a6 Nd
 |[]=>[]
 |a::r=>Uw p a::Jp (p+(Gn a).length) r
end
mutual
theorem Yn: ∀(t:Tr) (p:Nat),bare (Uw p t)=t
 | .mk k own ps,p=>by
  rw[Uw];show Tr.mk k own (zU _)=_;rw[LN]
theorem LN: ∀(ts:a6 Tr) (p:Nat),zU (Jp p ts)=ts
 |[],p=>by rw[Jp];rfl
 |a::r,p=>by
  rw[Jp];show bare _::zU _=_;rw[Yn,LN]
end
theorem Sw: ∀(ts:a6 Tr) (p:Nat),(Jp p ts).length =ts.length
 |[],p=>by rw[Jp];rfl
 |a::r,p=>by rw[Jp,zJ,Sw,zJ]
structure Shw (ns:List Int)(hs:DJ)(ts:List Tr):Prop where
 n0:ns[0]? =some (hs.length:Int)
 hd: ∀(i:Nat) (h:Int×Int),hs[i]? =some h->ns[1+2*i]? =some h.1/\ns[1+2*i+1]? =some h.2
 sb:Sub ns (1+2*hs.length) (qQ ts)
 ln:ts.length=hs.length
 en:ns.length=1+2*hs.length+(qQ ts).length
 good:HN hs
 fit: ∀(i:Nat) (h:Int×Int) (t:Tr),hs[i]? =some h->ts[i]? =some t->vU hs h.2 10 t
def Shr (ns:a6 Int)(r:DJ×a6 Nd):Prop:= ∃ts,Shw ns r.1 ts/\r.2=Jp (1+2*r.1.length) ts
inductive Sf (CL:i3) (vs:List V) (H:Hp) (Q:VK) (E:XK):Prop
 |mk (lk dx a:i3) (p:Nat) (ns:List Int) (n:Int) (h0:vs=[.ref lk]) (h1:Looks CL H lk dx a p ns) (h2:ns[p]? =some n) (h3:Q (.int n) (upd H lk (Bo CL dx a (p+1)))):Sf CL vs H Q E
inductive Jq (CL:i3) (vs:List V) (H:Hp) (Q:VK) (E:XK):Prop
 |mk (lk dx a:i3) (p:Nat) (ns:List Int) (lo hi n:Int) (h0:vs=[.ref lk,.int lo,.int hi]) (h1:Looks CL H lk dx a p ns) (h2:ns[p]? =some n) (h3:lo<=n) (h4:n<=hi) (h5:Q (.int n) (upd H lk (Bo CL dx a (p+1)))):Jq CL vs H Q E
inductive QJ (CL:i3) (vs:List V) (H:Hp) (Q:VK) (E:XK):Prop
 |mk (lk dx a:i3) (ns:List Int) (hs:DJ) (ts:List Tr) (h0:vs=[.ref lk]) (h1:Looks CL H lk dx a 0 ns) (h2:Shw ns hs ts) (h3: ∀hd H',qJ lk H H'->H' lk=some (Bo CL dx a (1+2*hs.length))->Gw H' hd hs->Q (.ref hd) H'):QJ CL vs H Q E
inductive Nk (CL:i3) (vs:List V) (H:Hp) (Q:VK) (E:XK):Prop
 |mk (lk dx a:i3) (p:Nat) (ns:List Int) (hd:i3) (hs:DJ) (boxes k:Int) (own:List Int) (h0:vs=[.ref lk,.int k,.ref hd,.int boxes]) (h1:Looks CL H lk dx a p ns) (h2:Gw H hd hs) (h3:EA hs boxes k own) (h4:Sub ns p own) (h5: ∀t H',qJ lk H H'->H' lk=some (Bo CL dx a (p+own.length))->H' t=some (.tup (own.map V.int))->Q (.ref t) H'):Nk CL vs H Q E
inductive Jv (CL:i3) (d:Nat) (vs:List V) (H:Hp) (Q:VK) (E:XK):Prop
 |mk (lk dx a:i3) (p:Nat) (ns:List Int) (hd:i3) (hs:DJ) (boxes:Int) (t:Tr) (h0:vs=[.ref lk,.ref hd,.int boxes,.int (11-(d:Int))]) (h1:Looks CL H lk dx a p ns) (h2:Gw H hd hs) (h3:WW hs) (h4:vU hs boxes d t) (h5:Sub ns p (Gn t)) (h6:d<=10) (h7: ∀v H',qJ lk H H'->H' lk=some (Bo CL dx a (p+(Gn t).length))->jK H' d v (Uw p t)->Q v H'):Jv CL d vs H Q E
inductive HY (vs:List V) (H:Hp) (Q:VK) (E:XK):Prop
 |mk (a:i3) (ns:List Int) (r:DJ×List Nd) (h0:vs=[.ref a]) (h1:H a=some (.lst (ns.map V.int))) (h2:Shr ns r) (h3: ∀l H',xK H H'->H l=none->Jm H' l r->Q (.ref l) H'):HY vs H Q E
set_option hygiene false in
local macro_rules|`(tactic|exists $x)=>`(tactic|refine F.oN $x λcdv A outer s H vs Q E hr h=>?_)
local macro_rules|`(tactic|exists _,$x)=>`(tactic|(refine⟨_,$x,?_⟩;try dsimp only[Cx.nox,Cx.exc,Cx.wish,xI]))
theorem VE (T:Jk K mg aP CL)(F:qZ K "__init__" "Look.__init__" DI f fd):vX P w K mg base 1 f fd ["self","numbers"] (Np CL):=by
 exists JE;obtain⟨x,dx,a,rfl,hx,q⟩:=h;exists _,(zB (Gi (pv 0) (pv 1) rfl)
   (zI (Gi (pv 0) zH rfl)))
 refine#[-2,x,CL,dx,-1,hx,T.look,T.lnum,(show 0<1000 by decide),?_];refine#[-1,x,CL,dx,-1,zE,T.look,T.lplace,(show 1<1000 by decide),?_];refine q _ (λb o nb e=>?_) zE;rw[yQ nb,yQ nb];exact e
theorem Vx (T:Jk K mg aP CL)(F:qZ K "is_whole" "is_whole" Ge f fd):vX P w K mg base 1 f fd ["thing"] Hx:=by
 exists JX;obtain⟨i,rfl,q⟩:=h;exists _,(zI (zV (Af (xF Dw rfl T.n_isinstance qY (zA (pv 0) (zA (Bt (v:=.ty "int") rfl T.n_int Ot rfl) zC))) (BP (Vq (xF Dw rfl T.n_isinstance qY (zA (pv 0) (zA (Bt (v:=.ty "bool") rfl T.n_bool Ou rfl) zC))))))))
 refine#[-1,.inl #[_,_,_,true,rfl,.int i,T.kint,-1,jC ?_]];exact#[-1,.inl #[_,_,_,false,rfl,.int i,T.kbool,-1,q]]
theorem zCh (T:Jk K mg aP CL)(F:qZ K "take" "Look.take" Hc f fd)(Cy:kB P w K mg base 1 "is_whole" ["thing"] Hx):vX P w K mg base 3 f fd ["self"] (Sf CL):=by
 exists IJ;obtain⟨lk,dx,a,p,ns,n,rfl,⟨hl,ha⟩,ep,q⟩:=h;exists _,(zB (xC (zT Fz (jL (pv 0) rfl) (xF yX rfl T.n_len jY (zA (jL (pv 0) rfl) zC)) (zY _)) (zI Bm) yD)
   (zB (yP 1 IJ.nd (yZ xQ (jL (pv 0) rfl) (jL (pv 0) rfl) (λ_ _=>rfl)))
   (zB (xC (qK (kT (zK Cy hr rfl (zA (pv 1) zC) zX))) (zI Bm) yD)
   (zB (To (pv 0) zH zAc)
   (zI (zV (pv 1)))))))
 have hp:=(List.getElem?_eq_some_iff.mp ep).1;have hz:(ns.map V.int).length =ns.length:=zM ..;refine#[-1,lk,CL,dx,_,-1,hl,T.look,T.lplace,rfl,-1,lk,CL,dx,_,-1,hl,T.look,T.lnum,rfl,a,-1,.inl (.of ha),_,-1,rfl,-1,?_];rw[show decide (((ns.map V.int).length:Int)<=(p:Int))=false from zR ()];refine xX #[-1,lk,CL,dx,_,-1,hl,T.look,T.lnum,rfl,-1,lk,CL,dx,_,-1,hl,T.look,T.lplace,rfl,a,_,_,-1,rfl,.of ha,kG (by rw[yJ,ep];rfl),?_];refine#[-1,n,rfl,-1,xX ?_];exact#[-1,lk,CL,dx,_,-1,hl,T.look,T.lplace,rfl,_,-1,rfl,dx,_,hl,(show 2<1000 by decide),-1,q]
theorem Tu (T:Jk K mg aP CL)(F:qZ K "take_within" "Look.take_within" BA f fd)(Mtake:Ml P w K mg base (GC P w) 3 CL "take" ["self"] (Sf CL)):vX P w K mg base 4 f fd ["self","least","most"] (Jq CL):=by
 exists Bd;obtain⟨lk,dx,a,p,ns,lo,hi,n,rfl,⟨hl,ha⟩,ep,n0,n1,q⟩:=h;exists _,(zB (yP 3 Bd.nd (jL (pv 0) rfl))
   (zB (yP 4 Bd.nd (MA (pv 0) Mtake hr zX))
   (zB (xC (PW.pt (qF (zT wR (pv 4) (pv 1) (zY _)) (kK (zT Gz (pv 4) (pv 2) (zY _))))) (zI Bm) yD)
   (zI (zV (pv 4))))))
 refine#[-1,lk,CL,dx,_,-1,hl,T.look,T.lplace,rfl,?_];refine#[-1,lk,dx,-1,hl,rfl,lk,dx,a,p,ns,n,rfl,#[hl,ha],ep,?_];refine#[-2,_,-1,rfl,-1,?_];rw[show decide (n<lo)=false from zR ()];refine xX #[-2,_,-1,rfl,-1,?_];rw[show decide (hi<n)=false from zR ()];exact xX #[-1,q]
theorem VG (T:Jk K mg aP CL)(F:qZ K "take_heads" "take_heads" Ga f fd)(o4:Ml P w K mg base (GC P w) 4 CL "take_within" ["self","least","most"] (Jq CL)):vX P w K mg base 5 f fd ["look"] (QJ CL):=by
 exists Ar;obtain⟨lk,dx,a,ns,hs,ts,rfl,⟨hl,ha⟩,S,q⟩:=h;exists _,(zB (yP 1 Ar.nd (kU zC))
   (zB (yP 2 Ar.nd zH)
   (zB (wD xE rfl (AU rfl T.n_range (zA (Du (pv 0) o4 hr (zA zH (zA (yK rfl T.m_MOST_FUNCTIONS) zC)) zX) zC)) (yA 3 Ar.nd) (zB (yP 4 Ar.nd (Du (pv 0) o4 hr (zA zH (zA (pv 2) zC)) zX))
   (zB (jM (uQ yF yM yL jQ (pv 1) (zA (xM (zA (pv 4) (zA (Du (pv 0) o4 hr (zA (pv 4) (zA (yK rfl T.m_MOST_BOXES) zC)) zX) zC))) zC)))
   (zI (yP 2 Ar.nd (yK rfl T.m_MOST_PARAMS))))))
   (zI (zV (pv 1))))))
 refine#[zz0,λhd hhd=>?_];have nlh:lk≠hd:=xB hl hhd;have k1:qJ lk H (upd H hd (.lst [])):=qJ.new _ hhd;have l1:Looks CL (upd H hd (.lst [])) lk dx a 0 ns:=Looks.go #[hl,ha] k1 (by rw[yQ nlh];exact hl);have g1:=S.good.lo;have g16:=S.good.hi;refine#[-1,lk,dx,-1,l1.1,rfl,lk,dx,a,0,ns,1,16,hs.length,rfl,l1,S.n0,(),(),?_];refine#[-1,(),(),AY (lo:=0) (n:=hs.length) (λi U' H'=> ∃(rs:a6 V) (most:Int) (v3 v4:i4 V),U'=[some (.ref lk),some (.ref hd),some (.int most),v3,v4]/\(i≠0->most=4)/\0<=most/\qJ lk H H'/\H' lk=some (Bo CL dx a (1+2*i))/\H' hd=some (.lst rs)/\Paired (JS H') rs (hs.take i)) #[[],0,_,-1,λz=>absurd rfl z,by decide,k1.trans qJ.upd,zE,?_,.nil] ?_ ?_]
 ·rw[yQ (Ne.symm nlh)];exact zE
 ·rintro i U' H' hi ⟨rs,most,v3,v4,rfl,hm,m0,kp,el,eh',pr⟩;obtain⟨⟨x,y⟩,hx⟩: ∃h,hs[i]? =some h:=#[_,zF hi];obtain⟨ex,ey⟩:=S.hd i _ hx;obtain⟨x0,x4,xy,y12,xz⟩:=S.good.all i _ hx;have L1:Looks CL H' lk dx a (1+2*i) ns:=Looks.go #[hl,ha] kp el;have L2':Looks CL (upd H' lk (Bo CL dx a (1+2*i+1))) lk dx a (1+2*i+1) ns:=L1.go qJ.upd zE;have eh2:(upd H' lk (Bo CL dx a (1+2*i+1))) hd=some (.lst rs):=by rw[yQ (Ne.symm nlh)];exact eh'
  refine#[-1,lk,dx,-1,el,rfl,-1,lk,dx,a,_,ns,0,most,x,rfl,L1,ex,x0,?_,?_]
  ·show x<=most
   by_cases c:i=0
   ·rw[show x=0 from xz c];exact m0
   ·rw[hm c];exact x4
  refine#[-1,.inl #[rfl,_,.of eh2],-2,lk,dx,-1,zE,rfl,-1,lk,dx,a,_,ns,x,12,y,rfl,L2',ey,xy,y12,sm2,λq hq=>?_];generalize hH2:upd (upd H' lk (Bo CL dx a (1+2*i+1))) lk (Bo CL dx a (1+2*i+1+1))=H2 at hq;have k2:qJ lk H' H2:=by rw[<-hH2];exact qJ.trans qJ.upd qJ.upd
  have e2:H2 lk=some (Bo CL dx a (1+2*i+1+1)):=by rw[<-hH2];exact zE
  have h2:H2 hd=some (.lst rs):=k2 hd _ (Ne.symm nlh) eh';have nq:hd≠q:=xB h2 hq;have ql:lk≠q:=xB e2 hq;have h3:upd H2 q (.tup [.int x,.int y]) hd=some (.lst rs):=by rw[yQ nq];exact h2
  have len:=Paired.len pr;rw[yW]at len;refine#[hd,rs,-1,rfl,h3,Aq (),?_];have tp:qE H' (upd (upd H2 q (.tup [.int x,.int y])) hd (.lst (rs++[.ref q]))):=.trans (.keep el k2) (.trans (.new hq) (.upd h3));have tk:hs.take (i+1)=hs.take i++[(x,y)]:=by rw[jO,hx]<;>rfl
  refine#[_,4,_,-1,λ_=>rfl,by decide,(kp.trans (k2.trans (qJ.new _ hq))).fresh hhd,?_,zE,?_]
  ·rw[yQ nlh,yQ ql];exact e2
  ·rw[tk];exact BD (Paired.imp (λ_ _ z=>z.tups tp) pr) #[q,rfl,by rw[yQ (Ne.symm nq)];exact zE]
 ·rintro U' H' ⟨rs,most,v3,v4,rfl,hm,m0,kp,el,eh',pr⟩;rw[xZ]at pr;exact#[-1,q hd H' kp el #[rs,eh',pr]]
theorem vt (c:decide (V.int i=V.int j)=true):i=j:=by
 have:=yG c;injection this
theorem vf (c: ¬decide (V.int i=V.int j)=true):i≠j:=λz=>c (zQ (qX V.int z))
theorem Vu (h:EA hs b k own):(k=0\/k=1\/k=2\/k=3\/k=4\/k=6-> ∃n,own=[n]/\(k≠0->0<=n)/\(k=1\/k=2->n<=b-1)/\(k=3->1<=n/\n<=12)/\(k=4->2<=n/\n<=12)/\(k=6->n<=(hs.length:Int)-1))/\(¬(k=0\/k=1\/k=2\/k=3\/k=4\/k=6)->own=[]):=by
 rcases h with⟨h,n,rfl⟩|⟨h,n,rfl,h1,h2⟩|⟨h,n,rfl,h1,h2⟩|⟨h,n,rfl,h1,h2⟩|⟨h,n,rfl,h1,h2⟩|⟨h,rfl⟩
 all_goals first|exact#[λ_=>#[n,rfl,(),(),(),(),()],λz=>()]|exact#[λz=>(),λ_=>rfl]
theorem XC (k0:0<=k)(k1:k<=19)(h:EA hs b k own):WU hs k own:=by
 refine#[k0,k1,λz=>?_];obtain⟨n,e,h0,_,h3,h4,h6⟩:=(Vu h).1 ();exact#[n,e,(),(),()]
theorem ZP (T:Jk K mg aP CL)(F:qZ K "take_own" "take_own" Ic f fd)(Mtake:Ml P w K mg base (GC P w) 3 CL "take" ["self"] (Sf CL))(o4:Ml P w K mg base (GC P w) 4 CL "take_within" ["self","least","most"] (Jq CL)):vX P w K mg base 5 f fd ["look","kind","heads","boxes"] (Nk CL):=by
 exists OL;obtain⟨lk,dx,a,p,ns,hd,hs,boxes,k,own,rfl,L1,hh,of,sb,q⟩:=h;exists _,(zB (xC (zT jD (pv 1) (yK rfl T.m_NUMBER) (zY _)) (zI (zV (xM (zA (MA (pv 0) Mtake hr zX) zC)))) yD)
   (zB (xC (PW.pt (qF (zT jD (pv 1) (yK rfl T.m_GET) (zY _)) (kK (zT jD (pv 1) (yK rfl T.m_SET) (zY _))))) (zI (zV (xM (zA (Du (pv 0) o4 hr (zA zH (zA (xD vW (pv 3) zH) zC)) zX) zC)))) yD)
   (zB (xC (zT jD (pv 1) (yK rfl T.m_ALL) (zY _)) (zI (zV (xM (zA (Du (pv 0) o4 hr (zA (yK rfl T.m_LEAST_ALL) (zA (yK rfl T.m_MOST_MANY) zC)) zX) zC)))) yD)
   (zB (xC (zT jD (pv 1) (yK rfl T.m_PICK) (zY _)) (zI (zV (xM (zA (Du (pv 0) o4 hr (zA (yK rfl T.m_LEAST_PICK) (zA (yK rfl T.m_MOST_MANY) zC)) zX) zC)))) yD)
   (zB (xC (zT jD (pv 1) (yK rfl T.m_CALL) (zY _)) (zI (zV (xM (zA (Du (pv 0) o4 hr (zA zH (zA (xD vW (xF yX rfl T.n_len jY (zA (pv 2) zC)) zH) zC)) zX) zC)))) yD)
   (zI (zV (xM zC))))))))
 have hl:=L1.1;obtain⟨o1,o0⟩:=Vu of;have fin: ∀n,own=[n]->UK [.int n] (upd H lk (Bo CL dx a (p+1))) Q:=λn e=>by
  subst e;refine#[sm1,λt ht=>q t _ (qJ.trans qJ.upd (qJ.new _ ht)) ?_ zE];rw[yQ (xB (zE (H:=H) (a:=lk) (o:=Bo CL dx a (p+1))) ht)];exact zE
 have at_: ∀{n},own=[n]->ns[p]? =some n:=λe=>by rw[e]at sb;exact sb.1
 refine#[-1,rfl,-1,jB (λc=>?_) (λc0=>?_)]
 ·obtain⟨n,e,_⟩:=o1 (.inl (vt c));exact#[-1,lk,dx,-1,hl,rfl,lk,dx,a,p,ns,n,rfl,L1,at_ e,fin n e]
 have n0:=vf c0;refine#[-1,rfl,-1,jB (λc=>jC ?_) (λc1=>?_)]
 ·obtain⟨n,e,h0,h1,_⟩:=o1 (.inr (.inl (vt c)));exact#[-1,lk,dx,-1,hl,rfl,-1,_,-1,rfl,lk,dx,a,p,ns,0,boxes-1,n,rfl,L1,at_ e,h0 n0,h1 (.inl (vt c)),fin n e]
 refine#[-1,rfl,-1,jB (λc=>?_) (λc2=>?_)]
 ·obtain⟨n,e,h0,h1,_⟩:=o1 (.inr (.inr (.inl (vt c))));exact#[-1,lk,dx,-1,hl,rfl,-1,_,-1,rfl,lk,dx,a,p,ns,0,boxes-1,n,rfl,L1,at_ e,h0 n0,h1 (.inr (vt c)),fin n e]
 refine#[-1,rfl,-1,jB (λc=>?_) (λc3=>?_)]
 ·obtain⟨n,e,_,_,h3,_⟩:=o1 (.inr (.inr (.inr (.inl (vt c)))));exact#[-1,lk,dx,-1,hl,rfl,lk,dx,a,p,ns,1,12,n,rfl,L1,at_ e,(h3 (vt c)).1,(h3 (vt c)).2,fin n e]
 refine#[-1,rfl,-1,jB (λc=>?_) (λc4=>?_)]
 ·obtain⟨n,e,_,_,_,h4,_⟩:=o1 (.inr (.inr (.inr (.inr (.inl (vt c))))));exact#[-1,lk,dx,-1,hl,rfl,lk,dx,a,p,ns,2,12,n,rfl,L1,at_ e,(h4 (vt c)).1,(h4 (vt c)).2,fin n e]
 refine#[-1,rfl,-1,jB (λc=>?_) (λc6=>?_)]
 ·obtain⟨rs,eh,pr⟩:=id hh;have ln:rs.length=hs.length:=Paired.len pr;obtain⟨n,e,h0,_,_,_,h6⟩:=o1 (.inr (.inr (.inr (.inr (.inr (vt c))))));exact#[-1,lk,dx,-1,hl,rfl,-1,hd,-1,.inl (.of eh),_,-1,rfl,lk,dx,a,p,ns,0,_,n,rfl,L1,at_ e,h0 n0,by rw[ln];exact h6 (vt c),fin n e]
 ·have e:=o0 (by have:=vf c1;have:=vf c2;have:=vf c3;have:=vf c4;have:=vf c6;lia);subst e;refine#[zz0,λt ht=>q t _ (qJ.new _ ht) ?_ zE];rw[yQ (xB hl ht)];exact hl
inductive Nj (vs:List V) (H:Hp) (Q:VK) (E:XK):Prop
 |mk (k:Nat) (v:Int) (h0:vs=[.int (7+(k:Int))]) (h1:partsN[k]? =some v) (h2:Q (.int v) H):Nj vs H Q E
theorem Vz (T:Jk K mg aP CL)(F:qZ K "parts_of" "parts_of" Ig f fd):vX P w K mg base 1 f fd ["kind"] Nj:=by
 exists ON;obtain⟨k,v,rfl,hk,q⟩:=h;exists _,(zI (zV (yZ xL (Xz rfl T.m_PARTS) (xD vW (pv 0) (yK rfl T.m_FAIL)) (λ_ _=>rfl))))
 refine#[-1,_,-1,rfl,aP,_,_,-1,rfl,T.parts _,?_,q];rw[show(7:Int)+(k:Int)-7=(k:Int)by lia];exact kG (by rw[yJ,hk];rfl)
theorem ZR (T:Jk K mg aP CL)(F:qZ K "parts_due" "parts_due" GS f fd)(Cd8:kB P w K mg base 1 "parts_of" ["kind"] Nj):
  vX P w K mg base 2 f fd ["kind","numbers","heads"] Sk:=by
 exists ND;obtain⟨k,t,own,hd,hs,rfl,ht,⟨rs,eh,pr⟩,⟨h0,h1,hk⟩,q⟩:=h;exists _,(zB (xC (PW.pt (qF (zT jD (pv 0) (yK rfl T.m_NUMBER) (zY _)) (kK (zT jD (pv 0) (yK rfl T.m_GET) (zY _))))) (zI (zV zH)) yD)
   (zB (xC (zT jD (pv 0) (yK rfl T.m_SET) (zY _)) (zI (zV zH)) yD)
   (zB (xC (zT jD (pv 0) (yK rfl T.m_ALL) (zY _)) (zI (zV (yZ xL (pv 1) zH (λ_ _=>rfl)))) yD)
   (zB (xC (zT jD (pv 0) (yK rfl T.m_PICK) (zY _)) (zI (zV (xD jA zH (yZ xL (pv 1) zH (λ_ _=>rfl))))) yD)
   (zB (xC (zT jD (pv 0) (yK rfl T.m_LOOP) (zY _)) (zI (zV zH)) yD)
   (zB (xC (zT jD (pv 0) (yK rfl T.m_CALL) (zY _)) (zI (zV (yZ xL (yZ xQ (pv 2) (yZ xL (pv 1) zH (λ_ _=>rfl)) (λ_ _=>rfl)) zH (λ_ _=>rfl)))) yD)
   (zI (zV (zK Cd8 hr rfl (zA (pv 0) zC) zX)))))))))
 have due0:k=0\/k=1->CU hs k own=0:=λz=>zP z;refine#[-1,rfl,-1,jB (λc=>jC ?_) (λc0=>?_)]
 ·rw[due0 (.inl (vt c))]at q;exact q
 refine#[-1,rfl,-1,jB (λc=>?_) (λc1=>?_)]
 ·rw[due0 (.inr (vt c))]at q;exact q
 have n01: ¬(k=0\/k=1):=λz=>z.elim (vf c0) (vf c1);unfold CU at q;rw[zO n01]at q;refine#[-1,rfl,-1,jB (λc=>?_) (λc2=>?_)]
 ·rw[zP (vt c)]at q;exact q
 rw[zO (vf c2)]at q;refine#[-1,rfl,-1,jB (λc=>?_) (λc3=>?_)]
 ·rw[zP (vt c)]at q;obtain⟨n,rfl,_⟩:=hk (.inl (vt c));exact#[-1,t,_,_,-1,rfl,.of ht,rfl,q]
 rw[zO (vf c3)]at q;refine#[-1,rfl,-1,jB (λc=>?_) (λc4=>?_)]
 ·rw[zP (vt c)]at q;obtain⟨n,rfl,_⟩:=hk (.inr (.inl (vt c)));exact#[-1,t,_,_,-1,rfl,.of ht,rfl,_,-1,rfl,q]
 rw[zO (vf c4)]at q;refine#[-1,rfl,-1,jB (λc=>?_) (λc5=>?_)]
 ·rw[zP (vt c)]at q;exact q
 rw[zO (vf c5)]at q;refine#[-1,rfl,-1,jB (λc=>?_) (λc6=>?_)]
 ·rw[zP (vt c)]at q;obtain⟨n,rfl,n0,n1,_⟩:=hk (.inr (.inr (vt c)));have hn:n.toNat<hs.length:=by have:=n1 (vt c);lia
  have ln:rs.length=hs.length:=Paired.len pr;have e1:hs[n.toNat]? =some hs[n.toNat]:=zF hn;have e2:rs[n.toNat]? =some rs[n.toNat]:=zF (by omega);obtain⟨tt,er,et⟩:=Paired.get pr _ _ _ e2 e1;have av:Gv rs n=some (.ref tt):=by
   have:=kG (xs:=rs) e2;rw[show((n.toNat:Nat):Int)=n by lia,er]at this;exact this
  refine#[-2,t,_,_,-1,rfl,.of ht,rfl,hd,rs,n,-1,rfl,.of eh,av,tt,_,_,-1,rfl,.of et,rfl,?_];have:(hs.getD ([n].headD 0).toNat (0,0)).1=hs[n.toNat].1:=by
   show(hs.getD n.toNat (0,0)).1=_;rw[yV,e1];rfl
  rw[this]at q;exact q
 ·rw[zO (vf c6)]at q;have n0:=vf c0;have n1:=vf c1;have n2:=vf c2;have n3:=vf c3;have n4:=vf c4;have n5:=vf c5;have n6:=vf c6;have hk7:(k-7).toNat <13:=(by omega)
  have e1:partsN[(k-7).toNat]? =some (partsN.getD (k-7).toNat 0):=by
   rw[yV,zF (by exact hk7)];rfl
  exact#[-1,(k-7).toNat,_,(by rw[show(7:Int)+((k-7).toNat:Int)=k by lia];rfl),e1,q]
def Zo (CL:i3):Nat->Sp
 |0=>λ_ _ _ _=>False
 |d+1=>Jv CL d
inductive SCa (lk hd t ps:i3)(boxes:Int)(d p:Nat)(k:Int)(own:a6 Int)(H:Hp)(CL dx a:i3)(ns:a6 Int)(ts:a6 Tr)(i:Nat)(U':St)(H':Hp):Prop
 |mk (done:a6 Nd) (vs:a6 V) (p':Nat) (v8:i4 V) (h0:U'=[some (.ref lk),some (.ref hd),some (.int boxes),some (.int (11-((d+1:Nat):Int))),some (.int (p:Int)),some (.int k),some (.ref t),some (.ref ps),v8]) (h1:done.length=i) (h2:qJ lk H H') (h3:H' lk=some (Bo CL dx a p')) (h4:H' t=some (.tup (own.map V.int))) (h5:H' ps=some (.lst vs)) (h6:Paired (jK H' d) vs done) (h7:Sub ns p' (qQ (ts.drop i))) (h8:done++Jp p' (ts.drop i)=Jp (p+1+own.length) ts) (h9:p'+(qQ (ts.drop i)).length =p+1+own.length+(qQ ts).length):SCa lk hd t ps boxes d p k own H CL dx a ns ts i U' H'
theorem SC (d:Nat)(T:Jk K mg aP CL)(F:qZ K "take_node" "take_node" EQ f fd)(o4:Ml P w K mg base (GC P w) 4 CL "take_within" ["self","least","most"] (Jq CL))
  (Ca0:kB P w K mg base 5 "take_own" ["look","kind","heads","boxes"] (Nk CL)) (Cz:kB P w K mg base 2 "parts_due" ["kind","numbers","heads"] Sk)
  (Ca3:kB P w K mg base (5+d) "take_node" ["look","heads","boxes","deep"] (Zo CL d)):vX P w K mg base (5+d+1) f fd ["look","heads","boxes","deep"] (Jv CL d):=by
 exists AO;obtain⟨lk,dx,a,p,ns,hd,hs,boxes,⟨k,own,ts⟩,rfl,L1,hh,ho,ft,sb,d10,q⟩:=h;exists _,(zB (yP 4 AO.nd (jL (pv 0) rfl))
   (zB (xC (zT Gz (pv 3) (yK rfl T.m_MOST_DEEP) (zY _)) (zI Bm) yD)
   (zB (yP 5 AO.nd (Du (pv 0) o4 hr (zA (yK rfl T.m_NUMBER) (zA (yK rfl T.m_NEW) zC)) zX))
   (zB (yP 6 AO.nd (zK Ca0 hr rfl (zA (pv 0) (zA (pv 5) (zA (pv 1) (zA (pv 2) zC)))) zX))
   (zB (yP 7 AO.nd (kU zC))
   (zB (wD xE rfl (AU rfl T.n_range (zA (zK Cz hr rfl (zA (pv 5) (zA (pv 6) (zA (pv 1) zC))) zX) zC)) (yA 8 AO.nd) (zI (jM (uQ yF yM yL jQ (pv 7) (zA (zK Ca3 hr rfl (zA (pv 0) (zA (pv 1) (zA (pv 2) (zA (xD jA (pv 3) zH) zC)))) zX) zC)))))
   (zI (zV (xM (zA (pv 5) (zA (pv 4) (zA (pv 6) (zA (At HU rfl T.n_tuple Hr (zA (pv 7) zC)) zC)))))))))))))
 have hl:=L1.1;cases d with
 |zero=>unfold vU at ft;exact ft.elim
 |succ d=>
 unfold vU at ft;obtain⟨k0,k19,of,n8,_,fts⟩:=ft;have en:Gn (.mk k own ts)=(k::own)++qQ ts:=by rw[Gn]<;>rfl
 rw[en]at sb q;obtain⟨⟨ek,so⟩,sp⟩:=Sub.append (xs:=k::own) sb;refine#[-1,lk,CL,dx,_,-1,hl,T.look,T.lplace,rfl,?_];refine#[-1,_,-1,rfl,-1,?_];rw[show decide ((10:Int)<11-((d+1:Nat):Int))=false from zR ()];refine xX #[-1,lk,dx,-1,hl,rfl,lk,dx,a,p,ns,0,19,k,rfl,L1,ek,k0,k19,?_];have ka:qJ lk H (upd H lk (Bo CL dx a (p+1))):=qJ.upd;have La:=L1.go ka zE;refine#[-4,lk,dx,a,p+1,ns,hd,hs,boxes,k,own,rfl,La,hh.keep hl ka,of,so,λt H2 k2 el2 et2=>?_];have oo:=XC k0 k19 of;have kb:=ka.trans k2;refine#[zz0,λps hps=>?_];have g3:=zN hps (.lst []);have nps:lk≠ps:=xB el2 hps;have ntp:t≠ps:=xB et2 hps;have kc:qJ lk H (upd H2 ps (.lst [])):=kb.trans (qJ.same g3);have elc:=g3 _ _ el2;obtain⟨j0,j13⟩:=zAi oo ho;generalize hN:CU hs k own=N at j0 j13 n8;have nHp:H ps=none:=by
  cases e:H ps with
  |none=>rfl
  |some o=>rw[kb ps o (Ne.symm nps) e]at hps;cases hps
 refine#[-3,k,t,own,hd,hs,rfl,g3 _ _ et2,hh.keep hl kc,oo,N,by rw[hN],(),(),?_];have sp:Sub ns (p+1+own.length) (qQ ts):=by rw[show p+1+own.length=p+(k::own).length by simp;lia];exact sp
 have eq0:((k::own)++qQ ts).length =1+own.length+(qQ ts).length:=by simp;lia
 refine AY (lo:=0) (n:=N.toNat) (SCa lk hd t ps boxes d p k own H CL dx a ns ts)
   #[[],[],_,-1,rfl,kc,elc,g3 _ _ et2,zE,.nil,sp,rfl,rfl] ?_ ?_
 ·rintro i U' H' hi ⟨done,vs,p',v8,rfl,hn,kp,el,et,ep,pr,s1,e1,e2⟩;obtain⟨tr,htr⟩: ∃tr,ts[i]? =some tr:=#[_,zF ()];have dr:ts.drop i=tr::ts.drop (i+1):=by
   obtain⟨hj,ej⟩:=List.getElem?_eq_some_iff.mp htr;rw[yR hj,ej]
  rw[dr,qQ]at s1 e2;rw[dr,Jp]at e1;obtain⟨s1,s2⟩:=Sub.append s1;rw[zG]at e2;have L2':Looks CL H' lk dx a p' ns:=L1.go kp el;have ed:(11-((d+1:Nat):Int))+1=11-(d:Int):=()
  refine#[-1,.inl #[rfl,_,.of ep],-4,_,-1,rfl,lk,dx,a,p',ns,hd,hs,boxes,tr,qX (λz=>[V.ref lk,V.ref hd,V.int boxes,V.int z]) ed,L2',hh.keep hl kp,ho,wI.mem fts (xP htr),s1,(),λv H3 k3 el3 nv=>?_];have ep3:H3 ps=some (.lst vs):=k3 ps _ (Ne.symm nps) ep;have len:vs.length<=13:=by have:=Paired.len pr;lia
  refine#[ps,vs,-1,rfl,ep3,Aq (),?_];have tp:qE H' (upd H3 ps (.lst (vs++[v]))):=.trans (.keep el k3) (.upd ep3);have ntl:t≠lk:=λz=>by rw[z,el]at et;cases et
  refine#[done++[Uw p' tr],_,p'+(Gn tr).length,-1,by simp[hn],(kp.trans k3).fresh nHp,?_,?_,zE,BD (Paired.imp (λ_ _ z=>z.tups tp) pr) (nv.tups (.upd ep3)),s2,by rw[<-e1,yS];rfl,()]
  ·rw[yQ nps];exact el3
  ·rw[yQ ntp];exact k3 t _ ntl et
 ·rintro U' H' ⟨done,vs,p',v8,rfl,hn,kp,el,et,ep,pr,s1,e1,e2⟩;have dn:ts.drop N.toNat=[]:=kL ();rw[dn,Jp,xJ]at e1;rw[dn,qQ,An,Nat.add_zero]at e2;refine#[-4,ps,vs,rfl,.inl #[.of ep,λq' hq=>?_]];refine#[sm4,λu hu=>?_];have s1:=zN hq (.tup vs);have s2:=zN hu (.tup [.int k,.int (p:Int),.ref t,.ref q']);refine q (.ref u) _ (kp.trans (qJ.same (s1.trans s2))) ?_ ?_
  ·rw[eq0,show p+(1+own.length+(qQ ts).length)=p' by lia];exact s2 _ _ (s1 _ _ el)
  ·rw[Uw,<-e1];exact#[u,t,q',vs,rfl,zE,s2 _ _ (s1 _ _ et),s2 _ _ zE,Paired.imp (λ_ _ z=>z.tups (.same (s1.trans s2))) pr]
theorem VA (T:Jk K mg aP CL)(F:qZ K "take_node" "take_node" EQ f fd)(o4:Ml P w K mg base (GC P w) 4 CL "take_within" ["self","least","most"] (Jq CL))
  (Ca0:kB P w K mg base 5 "take_own" ["look","kind","heads","boxes"] (Nk CL)) (Cz:kB P w K mg base 2 "parts_due" ["kind","numbers","heads"] Sk)
  (hm:mg "take_node"=some (.ref f)) (hk:PySem.W.keepIn K (.ref f)=true) (hb:uR K fd ["look","heads","boxes","deep"] []): ∀d,vX P w K mg base (5+d+1) f fd ["look","heads","boxes","deep"] (Jv CL d):=by
 intro d
 induction d with
 |zero=>exact SC 0 T F o4 Ca0 Cz #[#[_,_,WC,hm,hk,hb]]
 |succ d ih=>exact SC (d+1) T F o4 Ca0 Cz #[#[_,_,ih,hm,hk,hb]]
inductive ZQa (a lk hd tl:i3)(rs:a6 V)(H1:Hp)(CL dx:i3)(hs:DJ)(ns:a6 Int)(ts:a6 Tr)(nds:a6 Nd)(i:Nat)(U':St)(H':Hp):Prop
 |mk (done:a6 Nd) (vs:a6 V) (p':Nat) (v4 v5:i4 V) (h0:U'=[some (.ref a),some (.ref lk),some (.ref hd),some (.ref tl),v4,v5]) (h1:i<=rs.length) (h2:done.length=i) (h3:qJ lk H1 H') (h4:H' lk=some (Bo CL dx a p')) (h5:H' hd=some (.lst rs)) (h6:Paired (JS H') rs hs) (h7:H' tl=some (.lst vs)) (h8:Paired (Ut H') vs ((hs.take i).zip done)) (h9:Sub ns p' (qQ (ts.drop i))) (h10:done++Jp p' (ts.drop i)=nds) (h11:p'+(qQ (ts.drop i)).length =ns.length):ZQa a lk hd tl rs H1 CL dx hs ns ts nds i U' H'
theorem ZQ (T:Jk K mg aP CL)(F:qZ K "functions" "functions" GW f fd)(Cf6:Qs P w K mg base (GC P w) 1 "Look" CL ["self","numbers"] (Np CL))
  (Cc8:kB P w K mg base 5 "take_heads" ["look"] (QJ CL)) (Ca3:kB P w K mg base 16 "take_node" ["look","heads","boxes","deep"] (Jv CL 10)):
  vX P w K mg base 17 f fd ["sheet"] HY:=by
 exists AR;obtain⟨a,ns,⟨hs,nds⟩,rfl,ha,⟨ts,S,en⟩,q⟩:=h;have S:Shw ns hs ts:=S;have en:nds=Jp (1+2*hs.length) ts:=en;exists _,(zB (yP 1 AR.nd (Pe Cf6 hr rfl (zA (pv 0) zC) zX))
   (zB (yP 2 AR.nd (zK Cc8 hr rfl (zA (pv 1) zC) zX))
   (zB (yP 3 AR.nd (kU zC))
   (zB (wD xE rfl (Ae (pv 2)) (kZ rfl (yE (yA 4 AR.nd) (yE (yA 5 AR.nd) jJ))) (zI (jM (uQ yF yM yL jQ (pv 3) (zA (xM (zA (pv 4) (zA (pv 5) (zA (zK Ca3 hr rfl (zA (pv 1) (zA (pv 2) (zA (pv 5) (zA zH zC)))) zX) zC)))) zC)))))
   (zB (xC (zT wR (jL (pv 1) rfl) (xF yX rfl T.n_len jY (zA (pv 0) zC)) (zY _)) (zI Bm) yD)
   (zI (zV (pv 3))))))))
 refine#[-1,λlk dx hlk hdx ndx=>#[lk,dx,a,rfl,zE,λH1 k1 el1=>#[rfl,?_]]];have nla:a≠lk:=xB ha hlk;have same0: ∀{H':Hp},qJ lk (upd (upd H dx (.own lk)) lk (.ins CL dx [])) H'->xK H H':=fun{H'} k b o e=>by
  refine k b o (xB e hlk) ?_;rw[yQ (xB e hlk),yQ (xB e hdx)];exact e
 have L1:Looks CL H1 lk dx a 0 ns:=#[el1,same0 k1 _ _ ha];refine#[-1,lk,dx,a,ns,hs,ts,rfl,L1,S,λhd H2 k2 el2 hh=>?_];have l16:=S.good.hi;have ltl:=S.ln;refine#[zz0,λtl htl=>?_];have g3:=zN htl (.lst []);have nlt:lk≠tl:=xB el2 htl;have kc:qJ lk H1 (upd H2 tl (.lst [])):=k2.trans (qJ.same g3);obtain⟨rs,ehd,pr⟩:=id hh;have nht:hd≠tl:=xB ehd htl;have nhl:hd≠lk:=λz=>by rw[z,el2]at ehd;cases ehd
 have lr:rs.length=hs.length:=Paired.len pr;have nHt:H1 tl=none:=by
  cases e:H1 tl with
  |none=>rfl
  |some o=>rw[k2 tl o (Ne.symm nlt) e]at htl;cases htl
 have nH0:H tl=none:=(same0 k1).free nHt;refine#[-1,hd,rfl,#[rs,.of (g3 _ _ ehd)],BS (xs:=rs) (ZQa a lk hd tl rs H1 CL dx hs ns ts nds)
   #[[],[],_,_,-1,xG _,rfl,kc,g3 _ _ el2,g3 _ _ ehd,Paired.imp (λ_ _ z=>z.tups (.same g3)) pr,zE,.nil,S.sb,en.symm,S.en.symm] ?_ ?_ ?_]
 ·rintro i U' H' _ ⟨done,vs,p',v4,v5,rfl,hi,hn,kp,el,eh',_⟩;exact .of eh'
 ·rintro i x U' H' hx ⟨done,vs,p',v4,v5,rfl,_,hn,kp,el,eh',pr',et,pf,s1,e1,e2⟩;have hi:i<rs.length:=(List.getElem?_eq_some_iff.mp hx).1;obtain⟨hx1,e1',u,rfl,eu⟩:=Paired.yonder pr' hx;obtain⟨tr,htr⟩: ∃tr,ts[i]? =some tr:=#[_,zF ()];have dr:ts.drop i=tr::ts.drop (i+1):=by
   obtain⟨hj,ej⟩:=List.getElem?_eq_some_iff.mp htr;rw[yR hj,ej]
  rw[dr,qQ]at s1 e2;rw[dr,Jp]at e1;obtain⟨s1,s2⟩:=Sub.append s1;rw[zG]at e2;have tk:hs.take (i+1)=hs.take i++[hx1]:=by rw[jO,e1']<;>rfl
  refine#[u,-1,.of eu,rfl,_,-1,_,-1,rfl,?_];have L2':Looks CL H' lk dx a p' ns:=L1.go kp el;refine#[-1,.inl #[rfl,_,.of et],-5,lk,dx,a,p',ns,hd,hs,hx1.2,tr,rfl,L2',#[rs,eh',pr'],S.good.ok,S.fit i _ _ e1' htr,s1,zS _,λv H3 k3 el3 nv=>?_];refine#[sm3,λq hq=>?_];have s3:=zN hq (.tup [.int hx1.1,.int hx1.2,v]);have et3:=s3 _ _ (k3 tl _ (Ne.symm nlt) et);have len:=Paired.len pf;rw[jS,yW]at len;refine#[tl,vs,-1,rfl,et3,Aq (),?_];have tq:qE H3 (upd (upd H3 q (.tup [.int hx1.1,.int hx1.2,v])) tl (.lst (vs++[.ref q]))):=.trans (.same s3) (.upd et3);have tp:=qE.trans (.keep el k3) tq;have ntq:tl≠q:=xB (k3 tl _ (Ne.symm nlt) et) hq;refine#[done++[Uw p' tr],_,p'+(Gn tr).length,_,-1,hi,by simp[hn],(kp.trans (k3.trans (qJ.same s3))).fresh nHt,?_,?_,Paired.imp (λ_ _ z=>z.tups tp) pr',zE,?_,s2,by rw[<-e1,yS];rfl,()]
  ·rw[yQ nlt];exact s3 _ _ el3
  ·rw[yQ nht];exact s3 _ _ (k3 hd _ nhl eh')
  ·rw[tk,List.zip_append (by rw[yW];lia)];exact BD (Paired.imp (λ_ _ z=>z.tups tp) pf) #[q,v,rfl,by rw[yQ (Ne.symm ntq)];exact zE,nv.tups tq]
 ·rintro U' H' ⟨done,vs,p',v4,v5,rfl,_,hn,kp,el,eh',pr',et,pf,s1,e1,e2⟩;have dn:ts.drop rs.length=[]:=kL ();rw[dn,Jp,xJ]at e1;rw[dn,qQ,An,Nat.add_zero]at e2;have ea:H' a=some (.lst (ns.map V.int)):=kp a _ nla L1.2;have hz:(ns.map V.int).length =ns.length:=zM ..;refine#[-1,lk,CL,dx,_,-1,el,T.look,T.lplace,rfl,-1,a,-1,.inl (.of ea),_,-1,rfl,-1,?_];rw[show decide ((p':Int)<((ns.map V.int).length:Int))=false from zR ()];subst e1;refine xX #[-1,q tl H' (same0 (k1.trans kp)) nH0 #[vs,et,by show hs.length=done.length;lia,?_]];rw[lr,xZ]at pf;exact pf
theorem Tw (T:GB K mg)(F:qZ K "is_whole" "is_whole" Ge f fd):vX P w K mg base 1 f fd ["thing"] Hx:=by
 exists JX;obtain⟨i,rfl,q⟩:=h;exists _,(zI (zV (Af (xF Dw rfl T.n_isinstance qY (zA (pv 0) (zA (Bt (v:=.ty "int") rfl T.n_int Ot rfl) zC))) (BP (Vq (xF Dw rfl T.n_isinstance qY (zA (pv 0) (zA (Bt (v:=.ty "bool") rfl T.n_bool Ou rfl) zC))))))))
 refine#[-1,.inl #[_,_,_,true,rfl,.int i,T.kint,-1,jC ?_]];exact#[-1,.inl #[_,_,_,false,rfl,.int i,T.kbool,-1,q]]
theorem Rg (T:GB K mg)(F:qZ K "is_head" "is_head" JI f fd):vX P w K mg base 1 f fd ["head","function","many_rows"] KJ:=by
 exists Ej;obtain⟨t,s,p,b,fn,nr,rfl,ht,q⟩:=h;exists _,(zB (qH (pv 0) (kZ rfl (yE (yA 3 Ej.nd) (yE (yA 4 Ej.nd) (yE (yA 5 Ej.nd) jJ)))))
   (zB (xC (PW.pt (qF (zT wR (pv 3) zH (zY _)) (kK (zT Fz (pv 3) (pv 2) (zY _))))) (zI (zV kX)) yD)
   (zB (yP 6 Ej.nd (IQ (zT jD (pv 1) zH (zY _)) zH (yK rfl T.m_MOST_PARAMS)))
   (zI (zV (Af (BQ BR BR zH (pv 4) (pv 6)) (BP (BQ BR BR (pv 4) (pv 5) (yK rfl T.m_MOST_BOXES)))))))))
 refine#[-1,t,-1,uZ.of ht,rfl,_,-1,_,-1,_,-1,rfl,?_];have no: ∀{z:Prop},z->(z-> ¬Iw s p b fn nr)->Q (.bl false) H:=λc g=>q false #[λe=>(nomatch e),λe=>absurd e (g c)];refine#[-1,_,-1,rfl,-1,jB (λc=>?_) (λc=>?_)]
 ·exact jC (no (yG c) λc e=>by obtain⟨e,_⟩:=e;lia)
 have c1:=df c;refine#[-2,_,-1,rfl,-1,jB (λc=>?_) (λc=>?_)]
 ·exact no (yG c) λc e=>by obtain⟨_,e,_⟩:=e;lia
 have c2:=df c;refine#[-1,rfl,-1,jB (λc3=>?_) (λc3=>?_)]
 ·have e:=vt c3;dsimp only[tC,AC,Zj,UO];refine Ez 0 p 0 (λR h=>h) (λR h=>#[-1,h]) (λR h=>#[-1,h]) λr z=>#[-1,jB (λc=>?_) (λc=>?_)]
  ·have c':=z.mp c;exact Ez p b 12 (λR h=>#[-1,h]) (λR h=>#[-1,h]) (λR h=>h) λr z=>q r (z.trans (by unfold Iw;exact#[λh=>#[Int.not_lt.mp c1,Int.not_le.mp c2,c'.1,Int.le_trans c'.2 (by decide),λ_=>Int.le_antisymm c'.2 c'.1,h.1,h.2],λh=>h.2.2.2.2.2]))
  ·exact no (λy=>c (z.mpr y)) λc y=>c (by unfold Iw at y;lia)
 ·have e:=vf c3;dsimp only[tC,AC,Zj,UO];refine Ez 0 p 4 (λR h=>h) (λR h=>#[-1,h]) (λR h=>#[-1,h]) λr z=>#[-1,jB (λc=>?_) (λc=>?_)]
  ·have c':=z.mp c;exact Ez p b 12 (λR h=>#[-1,h]) (λR h=>#[-1,h]) (λR h=>h) λr z=>q r (z.trans (by unfold Iw;exact#[λh=>#[Int.not_lt.mp c1,Int.not_le.mp c2,c'.1,c'.2,λz=>absurd z e,h.1,h.2],λh=>h.2.2.2.2.2]))
  ·exact no (λy=>c (z.mpr y)) λc y=>c (by unfold Iw at y;lia)
theorem VM (T:GB K mg)(F:qZ K "stands_alone" "stands_alone" Em f fd):vX P w K mg base 1 f fd ["op"] Nw:=by
 exists Kd;obtain⟨op,rfl,q⟩:=h;exists _,(zI (zV (uC Fy (pv 0) (xM (zA (yK rfl T.m_OP_DROP) (zA (yK rfl T.m_OP_BACK) (zA (yK rfl T.m_OP_FAIL) (zA (yK rfl T.m_OP_BREATH) zC))))) rfl)))
 refine#[-1,sm4,λu hu=>#[u,-1,.inr (uZ.of zE),rfl,rfl,q _ _ (zN hu _) ?_]];have ei:(if false=true then !YN (.int op) ([3,7,8,9].map V.int)else YN (.int op) ([3,7,8,9].map V.int))=decide (op∈[(3:Int),7,8,9]):=Jc op [3,7,8,9];have em:op∈[(3:Int),7,8,9] ↔ op=3\/op=7\/op=8\/op=9:=by simp
 rw[<-em];exact#[λc=>yG (ei▸c),λc=>ei.trans (zQ c)]
theorem TH (T:GB K mg)(F:qZ K "is_row" "is_row" KS f fd)(Cb9:kB P w K mg base 1 "stands_alone" ["op"] Nw):vX P w K mg base 2 f fd ["row","many_functions","many_rows"] No:=by
 exists JD;obtain⟨t,op,n,nf,nr,rfl,ht,q⟩:=h;exists _,(zB (qH (pv 0) (kZ rfl (yE (yA 3 JD.nd) (yE (yA 4 JD.nd) jJ))))
   (zB (xC (zT jD (pv 3) (yK rfl T.m_OP_PUSH) (zY _)) (zI (zV kX)) yD)
   (zB (xC (PW.pt (qF (zT jD (pv 3) (yK rfl T.m_OP_GET) (zY _)) (kK (zT jD (pv 3) (yK rfl T.m_OP_SET) (zY _))))) (zI (zV (BQ BR wR zH (pv 4) (yK rfl T.m_MOST_BOXES)))) yD)
   (zB (xC (PW.pt (qF (zT jD (pv 3) (yK rfl T.m_OP_JUMP) (zY _)) (kK (zT jD (pv 3) (yK rfl T.m_OP_UNLESS) (zY _))))) (zI (zV (BQ BR wR zH (pv 4) (pv 2)))) yD)
   (zB (xC (zT jD (pv 3) (yK rfl T.m_OP_CALL) (zY _)) (zI (zV (BQ BR wR zH (pv 4) (pv 1)))) yD)
   (zB (xC (zT jD (pv 3) (yK rfl T.m_OP_DO) (zY _)) (zI (zV (BQ BR BR (yK rfl T.m_ADD) (pv 4) (yK rfl T.m_NEW)))) yD)
   (zB (xC (zT jD (pv 3) (yK rfl T.m_OP_PICK) (zY _)) (zI (zV (BQ BR BR (yK rfl T.m_LEAST_PICK) (pv 4) (yK rfl T.m_MOST_MANY)))) yD)
   (zI (zV (Af (zK Cb9 hr rfl (zA (pv 3) zC) zX) (BP (uC jD (pv 4) zH (zY _)))))))))))))
 refine#[-1,t,-1,uZ.of ht,rfl,_,-1,_,-1,rfl,?_];have go: ∀(r:i7),(r=true ↔ AL op n nf nr)->Q (.bl r) H:=λr e=>q r H (xK.refl H) e;refine#[-1,rfl,-1,jB (λc=>?_) (λc=>?_)]
 ·have e:=vt c;exact go true #[λ_=>.inl e,λ_=>rfl]
 have n0:=vf c;refine#[-1,rfl,-1,jB (λc=>jC ?_) (λc=>?_)]
 ·have e:=vt c;exact FH 0 n 12 (λR h=>h) (λR h=>#[-1,h]) (λR h=>h) λr z=>go r (z.trans (by subst e;simp[AL]))
 have n1:=vf c;refine#[-1,rfl,-1,jB (λc=>?_) (λc=>?_)]
 ·have e:=vt c;exact FH 0 n 12 (λR h=>h) (λR h=>#[-1,h]) (λR h=>h) λr z=>go r (z.trans (by subst e;simp[AL]))
 have n2:=vf c;refine#[-1,rfl,-1,jB (λc=>jC ?_) (λc=>?_)]
 ·have e:=vt c;exact FH 0 n nr (λR h=>h) (λR h=>#[-1,h]) (λR h=>#[-1,h]) λr z=>go r (z.trans (by subst e;simp[AL]))
 have n4:=vf c;refine#[-1,rfl,-1,jB (λc=>?_) (λc=>?_)]
 ·have e:=vt c;exact FH 0 n nr (λR h=>h) (λR h=>#[-1,h]) (λR h=>#[-1,h]) λr z=>go r (z.trans (by subst e;simp[AL]))
 have n5:=vf c;refine#[-1,rfl,-1,jB (λc=>?_) (λc=>?_)]
 ·have e:=vt c;exact FH 0 n nf (λR h=>h) (λR h=>#[-1,h]) (λR h=>#[-1,h]) λr z=>go r (z.trans (by subst e;simp[AL]))
 have n6:=vf c;refine#[-1,rfl,-1,jB (λc=>?_) (λc=>?_)]
 ·have e:=vt c;exact Ez 8 n 19 (λR h=>h) (λR h=>#[-1,h]) (λR h=>h) λr z=>go r (z.trans (by subst e;simp[AL]))
 have n10:=vf c;refine#[-1,rfl,-1,jB (λc=>?_) (λc=>?_)]
 ·have e:=vt c;exact Ez 2 n 12 (λR h=>h) (λR h=>#[-1,h]) (λR h=>h) λr z=>go r (z.trans (by subst e;simp[AL]))
 have n11:=vf c;refine#[-1,op,rfl,λr H' g z=>#[-1,?_]];cases r with
 |true=>
  have m:=z.mp rfl;refine jC #[-1,rfl,q _ _ g ?_];rw[Om,Da]
  rcases m with rfl|rfl|rfl|rfl<;>simp[AL]
 |false=>
  have m: ¬(op=3\/op=7\/op=8\/op=9):=λy=>nomatch z.mpr y;refine xX (q _ _ g #[λe=>(nomatch e),λe=>absurd e ?_])
  simp[*,AL]
theorem Ri (T:GB K mg)(F:qZ K "grouped" "grouped" HD f fd):vX P w K mg base 1 f fd ["numbers","size"] HA:=by
 exists QP;obtain⟨a,ns,k,rfl,hk,ha,hl,q⟩:=h;exists _,(zI (zV (Dk (own:=["at"]) (ys:=["numbers","size"]) rfl (Sx rfl T.n_range (zA zH (zA (xF yX rfl T.n_len jY (zA (pv 0) zC)) (zA (pv 1) zC)))) (wU (sc:=zW HD) rfl (by decide+kernel)) (.cons (j:=0) rfl (.cons (j:=1) rfl .nil)) (λ_ _ _ _ _=>(yA 0 (show List.Nodup [("at":Str),("numbers":Str),("size":Str)]from(by decide+kernel)))) (λ_ _ _ _ _=>AT) (λ_ _ _ _ _=>(At (LJ K rfl) rfl T.n_tuple Hr (zA (qW (UT K rfl) (pv 1) (wH (pv 0)) (wH (xD jA (pv 0) (pv 2)))) zC))))))
 have hz:(ns.map V.int).length =ns.length:=zM ..;refine#[-1,a,-1,.inl (kF.of ha),-1,_,_,_,(ns.length+(k-1)) / k,rfl,#[(),(),(),()],(),by rw[hz];exact LX hk,λp hp=>?_];have hap:a≠p:=λz=>by rw[z,hp]at ha;cases ha
 refine MU (λi U' H'=> ∃ys,H' p=some (.lst ys)/\i<=(ns.length+(k-1)) / k/\xK H H'/\Paired (CG H') ys ((GA k ns).take i)/\ ∃x,U'=[x,some (.ref a),some (.int k)]) #[[],zE,xG _,zN hp _,.nil,-1] ?_ ?_
 ·rintro i U' H' hi ⟨ys,hy,_,sm,pr,x,rfl⟩;have ea:(0:Int)+(i:Int)*(k:Int)=((i*k:Nat):Int):=by rw[Int.zero_add,Int.natCast_mul]
  have eb:(0:Int)+(i:Int)*(k:Int)+(k:Int)=((i*k+k:Nat):Int):=by rw[ea,Int.natCast_add]
  have ec:=Qk ns (i*k) (i*k+k);rw[<-ea,<-eb,BE]at ec;dsimp only[AC,Qz];refine jC #[-5,_,-1,rfl,-1,a,-1,kF.of (sm _ _ ha),λl hl1=>?_];rw[ec];refine#[l,-1,.inl #[kF.of zE,λl2 hl2=>?_]];have s1:xK H' (upd (upd H' l (.lst (((ns.drop (i*k)).take k).map V.int))) l2 (.tup (((ns.drop (i*k)).take k).map V.int))):=(zN hl1 _).trans (zN hl2 _);have hy':=s1 _ _ hy;have yl:ys.length<=1000000:=by
   have e1:=Paired.len pr;have e2:=List.length_take_le i (GA k ns);have e3:(ns.length+(k-1)) / k<=1000000:=by rcases hk with rfl|rfl<;>lia
   lia
  refine#[ys,hy',xU yl (by decide),CW.next hi #[_,zE,hi,?_,?_,-1]]
  ·exact(sm.trans s1).fresh hp
  ·rw[Ww hi];refine Paired.append (Paired.imp (λ_ _ x=>(x.same s1).upd hy') pr) (.cons ?_ .nil);exact CG.upd #[l2,rfl,zE] hy'
 ·rintro U' H' ⟨ys,hy,_,sm,pr,_⟩;have ht:(GA k ns).take ((ns.length+(k-1)) / k)=GA k ns:=xW (by unfold GA;simp);rw[ht]at pr;exact q p H' sm hp #[ys,hy,pr]
theorem Pt (T:GB K mg)(F:qZ K "heads_in" "heads_in" Il f fd)(Cb2:kB P w K mg base 1 "grouped" ["numbers","size"] HA):vX P w K mg base 2 f fd ["numbers"] Hz:=by
 exists OP;obtain⟨a,ns,rfl,ha,hl,⟨n,ms,e,hn,hn'⟩,q⟩:=h;exists _,(zI (zV (zK Cb2 hr rfl (zA (qW Br (pv 0) (wH zH) (wH (xD jA zH (xD uN (yK rfl T.m_HEAD_SIZE) (yZ xQ (pv 0) zH (λ_ _=>rfl)))))) (zA (yK rfl T.m_HEAD_SIZE) zC)) zX)))
 refine#[-3,a,_,_,-1,rfl,kF.of ha,Ox e,_,-1,rfl,ZS hn hn',_,-1,rfl,-1,a,-1,kF.of ha,λl hl1=>?_];rw[Wu e hn];have hh:(headNums ns).length<=ns.length:=by unfold headNums;simp;omega
 exact#[l,headNums ns,3,rfl,.inr rfl,zE,(),λr H' g1 g2 g3=>q r H' ((zN hl1 _).trans g1) ((zN hl1 _).free g2) g3]
theorem Ra (T:GB K mg)(F:qZ K "rows_in" "rows_in" JG f fd)(Cb2:kB P w K mg base 1 "grouped" ["numbers","size"] HA):vX P w K mg base 2 f fd ["numbers"] IE:=by
 exists QN;obtain⟨a,ns,rfl,ha,hl,⟨n,ms,e,hn,hn'⟩,q⟩:=h;exists _,(zI (zV (zK Cb2 hr rfl (zA (qW Br (pv 0) (wH (xD jA zH (xD uN (yK rfl T.m_HEAD_SIZE) (yZ xQ (pv 0) zH (λ_ _=>rfl))))) vQ) (zA (yK rfl T.m_ROW_SIZE) zC)) zX)))
 refine#[-2,a,_,_,-1,rfl,kF.of ha,Ox e,_,-1,rfl,ZS hn hn',_,-1,rfl,-1,a,-1,kF.of ha,λl hl1=>?_];rw[Xo e hn];have hh:(rowNums ns).length<=ns.length:=by unfold rowNums;simp
 exact#[l,rowNums ns,2,rfl,.inl rfl,zE,(),λr H' g1 g2 g3=>q r H' ((zN hl1 _).trans g1) ((zN hl1 _).free g2) g3]
theorem Tv (T:GB K mg)(F:qZ K "is_list_of_wholes" "is_list_of_wholes" uS f fd)(Cy:kB P w K mg base 1 "is_whole" ["thing"] Hx):vX P w K mg base 2 f fd ["thing"] KC:=by
 exists GQ;obtain⟨a,ns,rfl,ha,hl,q⟩:=h;exists _,(zI (zV (Af (xF Dw rfl T.n_isinstance qY (zA (pv 0) (zA (Bt (v:=.ty "list") rfl T.n_list Eb rfl) zC))) (BP (xF (Hq rfl) rfl T.n_all LL (zA (Dk (own:=["number"]) (ys:=[]) rfl (Ae (pv 0)) (wU (sc:=zW uS) rfl (by decide+kernel)) .nil (λ_ _ _ _ _=>(yA 0 (show List.Nodup [("number":Str)]from(by decide+kernel)))) (λ_ _ _ _ _=>AT) (λ_ _ _ _ _=>(zK Cy hr rfl (zA (pv 0) zC) zX))) zC))))))
 refine#[-1,.inl #[_,_,_,true,rfl,.lst ha,T.klist,-1,jC ?_]];refine#[-1,a,rfl,#[_,kF.of ha],λp hp=>?_];refine Ey (xs:=ns.map V.int) (λi U' H'=>H'=upd H p (.lst ((List.replicate i true).map V.bl))/\ ∃x,U'=[x]) #[rfl,-1] ?_ ?_ ?_
 ·rintro i U' H' _ ⟨rfl,_⟩;exact kF.of (zN hp _ _ _ ha)
 ·rintro i x U' H' hi hx ⟨rfl,y,rfl⟩;obtain⟨n,rfl⟩: ∃n,x=.int n:=by
   rw[yJ]at hx;cases e:ns[i]? with
   |none=>rw[e]at hx;cases hx
   |some n=>rw[e]at hx;cases hx;exact#[n,rfl]
  dsimp only[AC,Qz];have hi':i<ns.length:=by rw[zM]at hi;exact hi
  refine jC #[-1,n,rfl,_,zE,?_,CW.next hi #[?_,-1]]
  ·rw[zM,qO];exact xR hi' (yU hl (by decide))
  ·have e:(List.replicate i true).map V.bl++[V.bl true]=(List.replicate (i+1) true).map V.bl:=by
    rw[DA,xN]<;>rfl
   rw[e,Kn]
 ·rintro U' H' ⟨rfl,_⟩;refine#[p,-1,kF.of zE,?_];have e:(List.replicate (ns.map V.int).length true).all id=true:=by
   rw[vJ];intro b hb;rw[(List.mem_replicate.mp hb).2]<;>rfl
  rw[e];exact q _ (zN hp _)
theorem Rh (T:GB K mg)(F:qZ K "is_code" "is_code" HC f fd)(Ca8:kB P w K mg base 2 "is_list_of_wholes" ["thing"] KC)(Ca6:kB P w K mg base 2 "heads_in" ["numbers"] Hz)(Cb0:kB P w K mg base 2 "rows_in" ["numbers"] IE)
  (Ce8:kB P w K mg base 1 "is_head" ["head","function","many_rows"] KJ) (Ce9:kB P w K mg base 2 "is_row" ["row","many_functions","many_rows"] No):vX P w K mg base 3 f fd ["thing"] Ei:=by
 exists Ek;obtain⟨a,ns,rfl,ha,hl,q⟩:=h;exists _,(zB (xC (PW.pt (qF (qK (kT (zK Ca8 hr rfl (zA (pv 0) zC) zX))) (kK (zT jD (xF yX rfl T.n_len jY (zA (pv 0) zC)) zH (zY _))))) (zI (zV kX)) yD)
   (zB (xC (PW.pt (qF (zT wR (yZ xQ (pv 0) zH (λ_ _=>rfl)) zH (zY _)) (kK (zT Gz (yZ xQ (pv 0) zH (λ_ _=>rfl)) (yK rfl T.m_MOST_FUNCTIONS) (zY _))))) (zI (zV kX)) yD)
   (zB (yP 1 Ek.nd (xD vW (xD vW (xF yX rfl T.n_len jY (zA (pv 0) zC)) zH) (xD uN (yK rfl T.m_HEAD_SIZE) (yZ xQ (pv 0) zH (λ_ _=>rfl)))))
   (zB (xC (PW.pt (qF (zT wR (pv 1) (yK rfl T.m_ROW_SIZE) (zY _)) (kK (zT Hh (xD Hi (pv 1) (yK rfl T.m_ROW_SIZE)) zH (zY _))))) (zI (zV kX)) yD)
   (zB (yP 2 Ek.nd (xD Es (pv 1) (yK rfl T.m_ROW_SIZE)) rfl (Or.inr rfl))
   (zB (wD xE rfl (Sy rfl T.n_enumerate (zA (zK Ca6 hr rfl (zA (pv 0) zC) zX) zC)) (kZ rfl (yE (yA 3 Ek.nd) (yE (yA 4 Ek.nd) jJ))) (zI (xC (qK (kT (zK Ce8 hr rfl (zA (pv 4) (zA (pv 3) (zA (pv 2) zC))) zX))) (zI (zV kX)) yD)))
   (zI (zV (xF (Hq rfl) rfl T.n_all LL (zA (Dk (own:=["row"]) (ys:=["many_rows","thing"]) rfl (Ae (zK Cb0 hr rfl (zA (pv 0) zC) zX)) (wU (sc:=zW HC) rfl (by decide+kernel)) (.cons (j:=2) rfl (.cons (j:=0) rfl .nil)) (λ_ _ _ _ _=>(yA 0 (show List.Nodup [("row":Str),("many_rows":Str),("thing":Str)]from(by decide+kernel)))) (λ_ _ _ _ _=>AT) (λ_ _ _ _ _=>(zK Ce9 hr rfl (zA (pv 0) (zA (yZ (Ls K rfl) (pv 2) zH (λ_ _=>rfl)) (zA (pv 1) zC))) zX))) zC))))))))))
 refine#[-1,a,ns,rfl,ha,hl,λH1 g1=>#[-1,xX ?_]];have bad: ∀H',xK H H'-> ¬ED ns->Q (.bl false) H':=λH' g c=>q false H' g #[λe=>(nomatch e),λe=>absurd e c];have ha1:=g1 _ _ ha;refine#[-1,a,-1,.inl (kF.of ha1),rfl,-1,jB (λc=>?_) (λc=>?_)]
 ·have e0:=vt c;refine bad H1 g1 λz=>?_;obtain⟨n,ms,e,_⟩:=z.big;rw[e]at e0;rw[zM,zJ]at e0;lia
 have e0:=vf c;obtain⟨n,ms,e⟩: ∃n ms,ns=n::ms:=by
  cases ns with
  |nil=>exact absurd rfl e0
  |cons n ms=>exact#[n,ms,rfl]
 have a0:=Ox e;refine#[-1,a,_,_,-1,rfl,kF.of ha1,a0,_,-1,rfl,-1,jB (λc=>jC ?_) (λc=>?_)]
 ·have c':=yG c;refine bad H1 g1 λz=>?_;obtain⟨n',ms',e',h1,_⟩:=z.big;rw[e]at e';injection e' with e' _
  lia
 have n1:=df c;refine#[-1,a,_,_,-1,rfl,kF.of ha1,a0,_,-1,rfl,-1,jB (λc=>?_) (λc=>?_)]
 ·have c':=yG c;refine bad H1 g1 λz=>?_;obtain⟨n',ms',e',_,h1,_⟩:=z.big;rw[e]at e';injection e' with e' _
  lia
 have n16:=df c;have n8:((ns.map V.int).length:Int)=ms.length+1:=by rw[e,zM,zJ]<;>rfl
 refine#[-1,a,-1,.inl (kF.of ha1),_,-1,rfl,-1,a,_,_,-1,rfl,kF.of ha1,a0,_,-1,rfl,ZS () (),_,-1,rfl,?_];refine#[-1,_,-1,rfl,-1,jB (λc=>jC ?_) (λc=>?_)]
 ·have c':=yG c;refine bad H1 g1 λz=>?_;obtain⟨n',ms',e',_,_,h1,_⟩:=z.big;rw[e]at e';injection e' with e' e''
  subst e' e'';lia
 have n2:=df c;refine#[-1,_,-1,rfl,(by decide:(0:Int)<2),rfl,-1,jB (λc=>?_) (λc=>?_)]
 ·have c':(((ns.map V.int).length:Int)-1-3*n) % 2≠0:=λz=>by
   have y:decide (V.int ((((ns.map V.int).length:Int)-1-3*n) % 2)=V.int 0)=true:=zQ (by rw[z]);have c2:(!decide (V.int ((((ns.map V.int).length:Int)-1-3*n) % 2)=V.int 0))=true:=c;rw[y]at c2;exact nomatch c2
  refine bad H1 g1 λz=>?_;obtain⟨n',ms',e',_,_,_,h1⟩:=z.big;rw[e]at e';injection e' with e' e''
  subst e' e'';lia
 have even:(((ns.map V.int).length:Int)-1-3*n) % 2=0:=EM λz=>c (by
  have:decide (V.int ((((ns.map V.int).length:Int)-1-3*n) % 2)=V.int 0)=false:=zR λy=>by injection y with y;exact z y
  show(!decide (V.int ((((ns.map V.int).length:Int)-1-3*n) % 2)=V.int 0))=true;rw[this]<;>rfl)
 have hR:(rowNums ns).length =ms.length-3*n.toNat:=by
  rw[e];show(List.drop (1+3*n.toNat) (n::ms)).length =_;rw[jI,zJ];lia
 have hHd:(headNums ns).length =3*n.toNat:=by
  rw[e];show(List.take (3*n.toNat) ms).length =_;rw[yW];(clear even;lia)
 have hN:(ns.headD 0).toNat =n.toNat:=by rw[e]<;>rfl
 have big: ∃n ms,ns=n::ms/\1<=n/\n<=16/\3*n+2<=ms.length/\(ms.length-3*n.toNat) % 2=0:=#[n,ms,e,(),(),(by clear even;lia),()];obtain⟨mr,emr⟩: ∃mr:Nat,(((ns.map V.int).length:Int)-1-3*n) / 2=(mr:Int)/\mr=(rowNums ns).length / 2:=#[(rowNums ns).length / 2,by clear big;(clear even;lia),rfl];have hm:xK H H1/\(∃n ms,ns=n::ms/\0<=n/\n<=16):=#[g1,n,ms,e,by clear big emr;lia,by clear big emr;lia];refine#[-1,_,-1,rfl,#[by decide,by decide],?_];refine#[-1,a,ns,rfl,ha1,hl,hm.2,λl H2 g2 hl2 at2=>?_];obtain⟨rs,er,pr⟩:=at2;obtain⟨em1,em2⟩:=emr;have g12:=g1.trans g2;have ltH: ∀j g,(GA 3 (headNums ns))[j]? =some g->j<rs.length:=λj g hg=>by
  rw[Paired.len pr];exact(List.getElem?_eq_some_iff.mp hg).1
 refine#[l,rs,rfl,kF.of er,Ly (xs:=rs) (λi U' H'=> ∃v3 v4,U'=[some (.ref a),some (.int (((ns.map V.int).length:Int)-1-3*n)),some (.int (mr:Int)),v3,v4]/\xK H2 H'/\ ∀j g,j<i->(GA 3 (headNums ns))[j]? =some g->RE g j mr) #[_,_,by rw[<-em1];rfl,xK.refl _,λj g z=>absurd z (Bv j)] ?_ ?_ ?_]
 ·rintro i U' H' _ ⟨v3,v4,rfl,g,_⟩;exact kF.of (g _ _ er)
 ·rintro i x U' H' t hx ⟨v3,v4,rfl,g3,hb⟩ ht;obtain⟨gx,hg,th,rfl,eth⟩:=Paired.yonder pr hx;obtain⟨s0,p0,b0,rfl⟩:=zGo (SO (.inr rfl) (by rw[hHd];(clear c;lia)) hg);have g4:=g3.trans (zN ht (.tup [.int (i:Nat),.ref th]));refine#[t,-1,uZ.of zE,rfl,_,-1,_,-1,rfl,?_];refine#[-3,th,s0,p0,b0,i,mr,rfl,g4 _ _ eth,λr z=>#[-1,?_]];cases r with
  |false=>
   refine jC (bad _ (g12.trans g4) λy=>?_);obtain⟨s1,p1,b1,e1,ok⟩:=y.heads i _ hg;cases e1;rw[<-em2]at ok;exact nomatch z.mpr ok
  |true=>
   refine xX #[_,-1,g4,λj g hj hg'=>?_]
   by_cases hji:j<i
   ·exact hb j g hji hg'
   ·have:j=i:=()
    subst this;rw[hg]at hg';cases hg';exact#[s0,p0,b0,rfl,z.mp rfl]
 ·rintro U' H' ⟨v3,v4,rfl,g3,hb⟩;have ha3:=g3 _ _ (g12 _ _ ha);refine#[-1,a,ns,rfl,ha3,hl,hm.2,λl3 H3 g4 hl3 at3=>?_];obtain⟨rs2,er2,pr2⟩:=at3;have ltR: ∀j g,(GA 2 (rowNums ns))[j]? =some g->j<rs2.length:=λj g hg=>by
   rw[Paired.len pr2];exact(List.getElem?_eq_some_iff.mp hg).1
  have rl:rs2.length<=1000000:=by
   rw[Paired.len pr2,Yb,hR];rw[e,zJ]at hl;lia
  refine#[l3,rfl,#[_,kF.of er2],λp hp=>?_];refine Ey (xs:=rs2) (λi U' H'=> ∃bs:a6 i7,H' p=some (.lst (bs.map V.bl))/\bs.length=i/\xK H3 H'/\(bs.all id=true ↔∀j g,j<i->(GA 2 (rowNums ns))[j]? =some g->CF g n.toNat mr)/\ ∃x,U'=[x,some (.int (mr:Int)),some (.ref a)]) #[[],zE,rfl,zN hp _,#[λ_ j g z=>absurd z (Bv j),λ_=>rfl],-1] ?_ ?_ ?_
  ·rintro i U' H' _ ⟨bs,_,_,g,_⟩;exact kF.of (g _ _ er2)
  ·rintro i x U' H' hi hx ⟨bs,eb,lb,g5,ib,y,rfl⟩;obtain⟨gx,hg,th,rfl,eth⟩:=Paired.yonder pr2 hx;obtain⟨op,nu,rfl⟩:=ZX (SO (.inl rfl) (by rw[hR];(clear em2 hm;lia)) hg);dsimp only[AC,Qz];refine jC #[-2,a,_,_,-1,rfl,kF.of (g5 _ _ (g4 _ _ ha3)),a0,-1,th,op,nu,n,mr,rfl,g5 _ _ eth,λr H5 g6 z=>?_];refine#[_,g6 _ _ eb,?_,CW.next hi #[bs++[r],?_,?_,(g5.trans g6).fresh hp,?_,-1]]
   ·rw[zM,lb];exact xR hi (yU rl (by decide))
   ·rw[xN];exact zE
   ·rw[zG,lb]<;>rfl
   ·have hnn:((n.toNat:Nat):Int)=n:=()
    rw[WQ,ib,z];constructor
    ·rintro⟨h1,h2⟩ j g hj hg'
     by_cases hji:j<i
     ·exact h1 j g hji hg'
     ·have:j=i:=()
      subst this;rw[hg]at hg';cases hg';exact#[op,nu,rfl,by rw[hnn];exact h2]
    ·intro h;refine#[λj g hj hg'=>h j g () hg',?_];obtain⟨o1,n1',e1,ok⟩:=h i _ (Bb i) hg;cases e1;rw[hnn]at ok;exact ok
  ·rintro U' H' ⟨bs,eb,lb,g5,ib,_⟩;refine#[p,bs,rfl,kF.of eb,q _ _ (g12.trans (g3.trans (g4.trans g5))) (ib.trans #[λh=>#[big,λj g hg=>?_,λg hg=>?_],λz j g hj hg=>?_])]
   ·rw[<-em2];exact hb j g (ltH j g hg) hg
   ·obtain⟨j,hj⟩:=List.mem_iff_getElem?.mp hg;rw[hN,<-em2];exact h j g (ltR j g hj) hj
   ·have:=z.rows g (List.mem_iff_getElem?.mpr #[j,hg]);rw[hN,<-em2]at this;exact this
theorem Wn (T:GB K mg)(h:Sq K H a xs): ∃TT,((TT="list"/\ ∃ys,kF K H a ys)\/(TT="tuple"/\ ∃ys,uZ K H a ys))/\PySem.W.kitAny K (.type TT) (["list","tuple"].map Value.type)=some true:=by
 rcases h with h|h
 ·exact#["list",.inl #[rfl,xs,h],T.kal]
 ·exact#["tuple",.inr #[rfl,xs,h],T.kat]
theorem TD (T:GB K mg)(F:qZ K "joined" "joined" KR f fd):vX P w K mg base 1 f fd ["things","size"] (KH K):=by
 exists JC;obtain⟨a,gs,xs,k,rfl,hq,pr,hg,hgl,hk,q⟩:=h;exists _,(zB (xC (qK (kT (xF MW rfl T.n_isinstance qY (zA (pv 0) (zA (xM (zA (Bt (v:=.ty "list") rfl T.n_list Eb rfl) (zA (Bt (v:=.ty "tuple") rfl T.n_tuple Hr rfl) zC))) zC))))) (zI Bm) yD)
   (zB (yP 2 JC.nd (kU zC))
   (zB (wD xE rfl (ZE (pv 0)) (yA 3 JC.nd) (zB (xC (PW.pt (qF (qK (kT (xF MW rfl T.n_isinstance qY (zA (pv 3) (zA (xM (zA (Bt (v:=.ty "list") rfl T.n_list Eb rfl) (zA (Bt (v:=.ty "tuple") rfl T.n_tuple Hr rfl) zC))) zC))))) (kK (zT Hh (xF yX rfl T.n_len jY (zA (pv 3) zC)) (pv 1) (zY _))))) (zI Bm) yD)
   (zI (jM (uQ yF Fm Fl Rn (pv 2) (zA (pv 3) zC))))))
   (zI (zV (pv 2))))))
 refine#[-1,sm2,λtp htp=>?_];have g1:=zN htp (.tup (["list","tuple"].map V.ty));obtain⟨TT,h1,h2⟩:=Wn T (Sq.same g1 hq);refine#[a,tp,["list","tuple"],true,TT,rfl,zE,h1,h2,-1,xX ?_];refine#[zz0,λl hl1=>?_];have s1:xK H (upd (upd H tp (.tup (["list","tuple"].map V.ty))) l (.lst [])):=g1.trans (zN hl1 _);have hl0:H l=none:=g1.free hl1;refine#[-1,a,rfl,Yd (xs:=xs) hq (λi U' H'=> ∃v3,U'=[some (.ref a),some (.int (k:Nat)),some (.ref l),v3]/\H' l=some (.lst ((gs.take i).flatten.map V.int))/\xK H H') #[-1,zE,s1] ?_ ?_ ?_]
 ·rintro i U' H' _ ⟨v3,rfl,el,sm⟩;exact sm
 ·rintro i x U' H' hx ⟨v3,rfl,el,sm⟩;obtain⟨g,hgx,t,rfl,ht⟩:=Paired.yonder pr hx;have hlg:=hg g (List.mem_iff_getElem?.mpr #[_,hgx]);refine#[-1,sm2,λtp2 htp2=>?_];have g2:=zN htp2 (.tup (["list","tuple"].map V.ty));have hsq:Sq K (upd H' tp2 (.tup (["list","tuple"].map V.ty))) t (g.map V.int):=ht.imp (λe=>kF.of (g2 _ _ (sm _ _ e))) (λe=>uZ.of (g2 _ _ (sm _ _ e)));obtain⟨TT,h1,h2⟩:=Wn T hsq;refine#[t,tp2,["list","tuple"],true,TT,rfl,zE,h1,h2,-1,xX ?_];refine#[-1,t,-1,hsq,-1,rfl,-1,zCp (qX V.int (by rw[zM,hlg])) ?_];have hl':=g2 _ _ el;have hfl:(gs.take i).flatten.length<=3000:=by
   rw[Fi (k:=k) λx hx=>hg x (uJ hx)];have:(gs.take i).length<=1000:=yU (List.length_take_le' ..) hgl;exact yU (EI this hk) (by decide)
  have hb:((gs.take i).flatten.map V.int).length +(g.map V.int).length<=sizeLine:=by
   rw[zM,zM,hlg];exact yU (show _<=3003 by lia) (by decide)
  have en:((gs.take i).flatten.map V.int)++(g.map V.int)=(gs.take (i+1)).flatten.map V.int:=by rw[Yf hgx,xN]
  refine#[-1,.inl #[rfl,_,kF.of hl'],-1,?_]
  rcases ht with ht|ht
  ·refine .inl #[l,t,_,-1,rfl,hl',g2 _ _ (sm _ _ ht),hb,?_];rw[en];exact#[-1,zE,(sm.trans g2).fresh hl0]
  ·refine .inr #[l,t,_,-1,rfl,hl',g2 _ _ (sm _ _ ht),hb,?_];rw[en];exact#[-1,zE,(sm.trans g2).fresh hl0]
 ·rintro U' H' ⟨v3,rfl,el,sm⟩;have e:gs.take xs.length=gs:=xW (by rw[Paired.len pr];exact zS _);rw[e]at el;exact#[-1,q l H' sm hl0 el]
theorem Rk (T:GB K mg)(F:qZ K "code_of" "code_of" JJ f fd)(Cd1:kB P w K mg base 1 "joined" ["things","size"] (KH K))(Cq:kB P w K mg base 3 "is_code" ["thing"] Ei):vX P w K mg base 4 f fd ["heads","rows"] (KK K):=by
 exists Ia;obtain⟨a,b,hs,rs,xs,ys,rfl,hqa,pra,h3,ha3,hqb,prb,h2,hb2,hk,q⟩:=h;exists _,(zB (yP 2 Ia.nd (zK Cd1 hr rfl (zA (pv 0) (zA (yK rfl T.m_HEAD_SIZE) zC)) zX))
   (zB (yP 3 Ia.nd (xD CT (xD CT (kU (zA (xD Es (xF yX rfl T.n_len jY (zA (pv 2) zC)) (yK rfl T.m_HEAD_SIZE)) zC)) (pv 2)) (zK Cd1 hr rfl (zA (pv 1) (zA (yK rfl T.m_ROW_SIZE) zC)) zX)))
   (zB (xC (qK (kT (zK Cq hr rfl (zA (pv 3) zC) zX))) (zI Bm) yD)
   (zI (zV (pv 3))))))
 refine#[-1,a,hs,xs,3,rfl,hqa,pra,h3,ha3,by decide,λl H1 g1 hl1 el=>?_];have lh:=Fi h3;have lr:=Fi h2;have e3:((hs.flatten.map V.int).length:Int) / 3=hs.length:=by rw[zM,lh];lia
 refine#[-1,l,-1,.inl (kF.of el),_,-1,rfl,#[by decide,by decide],sm1,λo ho=>?_];have eo:upd H1 o (.lst [V.int (((hs.flatten.map V.int).length:Int) / 3)]) o=some (.lst [V.int (hs.length:Int)]):=by rw[e3];exact zE
 have g2:xK H1 (upd H1 o (.lst [V.int (((hs.flatten.map V.int).length:Int) / 3)])):=zN ho _;have lz:(hs.flatten.map V.int).length<=3000:=by rw[zM,lh];lia
 have lz2:(rs.flatten.map V.int).length<=2000:=by rw[zM,lr];lia
 refine#[-1,o,l,_,-1,rfl,eo,g2 _ _ el,yU (show _<=3001 by simp only[zJ,An];(clear e3;lia)) (by decide),λo2 ho2=>?_];have g3:=g2.trans (zN ho2 (.lst ([V.int (hs.length:Int)]++hs.flatten.map V.int)));have g13:=g1.trans g3;refine#[-1,b,rs,ys,2,rfl,Sq.same g13 hqb,Paired.imp (λ_ _ x=>x.same g13) prb,h2,hb2,by decide,λl2 H2 g4 hl2 el2=>?_];refine#[o2,l2,_,-1,rfl,g4 _ _ zE,el2,yU (show _<=5001 by rw[zG];simp only[zJ,An];(clear e3;lia)) (by decide),λo3 ho3=>?_];have ec:[V.int (hs.length:Int)]++hs.flatten.map V.int++rs.flatten.map V.int=(Dv hs rs).map V.int:=by
  unfold Dv;rw[yO,xN,yS]<;>rfl
 rw[ec];have g5:=g13.trans (g4.trans (zN ho3 (.lst ((Dv hs rs).map V.int))));have lc:(Dv hs rs).length<=1000000:=by
  unfold Dv;rw[zJ,zG,lh,lr];lia
 refine#[-1,o3,Dv hs rs,rfl,zE,lc,λr H5 g6 z=>#[-1,?_]];rw[z.mpr hk];exact xX #[-1,q o3 H5 (g5.trans g6) ((g13.trans g4).free ho3) (g6 _ _ zE)]
noncomputable def zDr (C dx ha ra pa:i3):HO:=.ins C dx [("heads",.ref ha),("rows",.ref ra),("paper",.ref pa)]
structure LO (K:a7)(mg:Str->Option a9)(CM:i3):Prop where
 n_len:mg "len"=none
 n_range:mg "range"=none
 n_enumerate:mg "enumerate"=none
 n_sorted:mg "sorted"=none
 m_NUMBER:kN mg "NUMBER" 0
 m_GET:kN mg "GET" 1
 m_SET:kN mg "SET" 2
 m_ALL:kN mg "ALL" 3
 m_PICK:kN mg "PICK" 4
 m_LOOP:kN mg "LOOP" 5
 m_CALL:kN mg "CALL" 6
 m_FAIL:kN mg "FAIL" 7
 m_OP_PUSH:kN mg "OP_PUSH" 0
 m_OP_GET:kN mg "OP_GET" 1
 m_OP_SET:kN mg "OP_SET" 2
 m_OP_DROP:kN mg "OP_DROP" 3
 m_OP_JUMP:kN mg "OP_JUMP" 4
 m_OP_UNLESS:kN mg "OP_UNLESS" 5
 m_OP_CALL:kN mg "OP_CALL" 6
 m_OP_BACK:kN mg "OP_BACK" 7
 m_OP_FAIL:kN mg "OP_FAIL" 8
 m_OP_BREATH:kN mg "OP_BREATH" 9
 m_OP_DO:kN mg "OP_DO" 10
 m_OP_PICK:kN mg "OP_PICK" 11
 mak:RX K CM
 mheads:Bh K CM "heads"
 mrows:Bh K CM "rows"
 mpaper:Bh K CM "paper"
def Bj (ra pa:i3)(H H':Hp):Prop:= ∀b o,b≠ra->b≠pa->H b=some o->H' b=some o
theorem Bj.trans (a:Bj ra pa H H1)(b:Bj ra pa H1 H2):Bj ra pa H H2:=λc o n1 n2 e=>b c o n1 n2 (a c o n1 n2 e)
theorem Bj.same (s:xK H H1):Bj ra pa H H1:=λc o _ _ e=>s c o e
theorem Bj.rows:Bj ra pa H (upd H ra o):=λc u n _ e=>by rw[yQ n];exact e
theorem Bj.paper:Bj ra pa H (upd H pa o):=λc u _ n e=>by rw[yQ n];exact e
structure HR (C:i3)(H:Hp)(mk dx ha ra pa:i3)(gs ls:List (List Int)):Prop where
 ob:H mk=some (zDr C dx ha ra pa)
 rows:qS H ra gs
 pap:qS H pa ls
 ne:ra≠pa
theorem HR.tups {C:i3}{H H':Hp}{mk dx ha ra pa:i3}{gs ls:a6 (a6 Int)}(h:HR C H mk dx ha ra pa gs ls)(k:Bj ra pa H H'):qE H H':=λb xs e=>by
 obtain⟨rs,er,_⟩:=h.rows;obtain⟨qs,eq,_⟩:=h.pap;exact k b _ (λz=>by rw[z,er]at e;cases e) (λz=>by rw[z,eq]at e;cases e) e
theorem HR.obk {C:i3}{H H':Hp}{mk dx ha ra pa:i3}{gs ls:a6 (a6 Int)}(h:HR C H mk dx ha ra pa gs ls)(k:Bj ra pa H H'):H' mk=some (zDr C dx ha ra pa):=by
 obtain⟨rs,er,_⟩:=h.rows;obtain⟨qs,eq,_⟩:=h.pap;have e:=h.ob;exact k mk _ (λz=>by rw[z,er]at e;cases e) (λz=>by rw[z,eq]at e;cases e) e
theorem HR.same {C:i3}{H H':Hp}{mk dx ha ra pa:i3}{gs ls:a6 (a6 Int)}(h:HR C H mk dx ha ra pa gs ls)(s:xK H H'):HR C H' mk dx ha ra pa gs ls:=#[s _ _ h.ob,h.rows.same s,h.pap.same s,h.ne]
theorem HR.row {C:i3}{H:Hp}{mk dx ha ra pa t:i3}{gs ls:a6 (a6 Int)}{g:a6 Int}{rs:a6 V}(h:HR C H mk dx ha ra pa gs ls)(et:H t=some (.tup (g.map V.int)))(er:H ra=some (.lst rs)):HR C (upd H ra (.lst (rs++[.ref t]))) mk dx ha ra pa (gs++[g]) ls:=by
 obtain⟨rs',er',pr⟩:=h.rows;rw[er]at er';cases er';refine#[h.obk Bj.rows,qS.push er pr #[t,rfl,et],h.pap.put er (Ne.symm h.ne),h.ne]
theorem HR.line {C:i3}{H:Hp}{mk dx ha ra pa t:i3}{gs ls:a6 (a6 Int)}{g:a6 Int}{rs:a6 V}(h:HR C H mk dx ha ra pa gs ls)(et:H t=some (.tup (g.map V.int)))(er:H pa=some (.lst rs)):HR C (upd H pa (.lst (rs++[.ref t]))) mk dx ha ra pa gs (ls++[g]):=by
 obtain⟨rs',er',pr⟩:=h.pap;rw[er]at er';cases er';refine#[h.obk Bj.paper,h.rows.put er h.ne,qS.push er pr #[t,rfl,et],h.ne]
theorem HR.setR {C:i3}{H:Hp}{mk dx ha ra pa t:i3}{gs ls:a6 (a6 Int)}{g:a6 Int}{rs:a6 V}(i:Nat)(h:HR C H mk dx ha ra pa gs ls)(et:H t=some (.tup (g.map V.int)))(er:H ra=some (.lst rs)):HR C (upd H ra (.lst (rs.set i (.ref t)))) mk dx ha ra pa (gs.set i g) ls:=by
 obtain⟨rs',er',pr⟩:=h.rows;rw[er]at er';cases er';refine#[h.obk Bj.rows,qS.setAt i er pr #[t,rfl,et],h.pap.put er (Ne.symm h.ne),h.ne]
theorem HR.len {C:i3}{H:Hp}{mk dx ha ra pa:i3}{gs ls:a6 (a6 Int)}{rs:a6 V}(h:HR C H mk dx ha ra pa gs ls)(er:H ra=some (.lst rs)):rs.length=gs.length:=by
 obtain⟨rs',er',pr⟩:=h.rows;rw[er]at er';cases er';exact Paired.len pr
inductive GJ (vs:List V) (H:Hp) (Q:VK) (E:XK):Prop
 |mk (k:Int) (o:i3) (own:List Int) (hs:DJ) (bx:Int) (h0:vs=[.int k,.ref o]) (h1:H o=some (.tup (own.map V.int))) (h2:EA hs bx k own) (h3:k≠3) (h4:k≠4) (h5:k≠5) (h6: ∀t,H t=none->Q (.ref t) (upd H t (.tup ((Er k own).map V.int)))):GJ vs H Q E
theorem Re (T:LO K mg CM)(F:qZ K "own_row" "own_row" JH f fd):vX P w K mg base 1 f fd ["kind","numbers"] GJ:=by
 exists QO;obtain⟨k,o,own,hs,bx,rfl,ho,of,h3,h4,h5,q⟩:=h;exists _,(zB (xC (zT jD (pv 0) (yK rfl T.m_NUMBER) (zY _)) (zI (zV (xM (zA (yK rfl T.m_OP_PUSH) (zA (yZ xL (pv 1) zH (λ_ _=>rfl)) zC))))) yD)
   (zB (xC (zT jD (pv 0) (yK rfl T.m_GET) (zY _)) (zI (zV (xM (zA (yK rfl T.m_OP_GET) (zA (yZ xL (pv 1) zH (λ_ _=>rfl)) zC))))) yD)
   (zB (xC (zT jD (pv 0) (yK rfl T.m_SET) (zY _)) (zI (zV (xM (zA (yK rfl T.m_OP_SET) (zA (yZ xL (pv 1) zH (λ_ _=>rfl)) zC))))) yD)
   (zB (xC (zT jD (pv 0) (yK rfl T.m_CALL) (zY _)) (zI (zV (xM (zA (yK rfl T.m_OP_CALL) (zA (yZ xL (pv 1) zH (λ_ _=>rfl)) zC))))) yD)
   (zB (xC (zT jD (pv 0) (yK rfl T.m_FAIL) (zY _)) (zI (zV (xM (zA (yK rfl T.m_OP_FAIL) (zA zH zC))))) yD)
   (zI (zV (xM (zA (yK rfl T.m_OP_DO) (zA (pv 0) zC))))))))))
 have one: ∀n,own=[n]->Gv (own.map V.int) 0=some (.int n):=λn e=>by rw[e];rfl
 have ow: ∀j n:Int,own=[n]->(Er k own)=[j,n]-> ∀t,H t=none->Q (.ref t) (upd H t (.tup [.int j,.int n])):=λj n e er t ht=>by
  have:=q t ht;rw[er]at this;exact this
 refine#[-1,rfl,-1,jB (λc=>?_) (λc0=>?_)]
 ·have e:=vt c;subst e
  rcases of with⟨_,n,en⟩|⟨z,_⟩|⟨z,_⟩|⟨z,_⟩|⟨z,_⟩|⟨z,_⟩<;>try lia
  exact#[-1,o,_,_,-1,rfl,.of ho,one n en,sm2,ow 0 n en (by rw[en];rfl)]
 have n0:=vf c0;refine#[-1,rfl,-1,jB (λc=>?_) (λc1=>?_)]
 ·have e:=vt c;subst e
  rcases of with⟨z,_⟩|⟨_,n,en,_⟩|⟨z,_⟩|⟨z,_⟩|⟨z,_⟩|⟨z,_⟩<;>try lia
  exact#[-1,o,_,_,-1,rfl,.of ho,one n en,sm2,ow 1 n en (by rw[en];rfl)]
 have n1:=vf c1;refine#[-1,rfl,-1,jB (λc=>?_) (λc2=>?_)]
 ·have e:=vt c;subst e
  rcases of with⟨z,_⟩|⟨_,n,en,_⟩|⟨z,_⟩|⟨z,_⟩|⟨z,_⟩|⟨z,_⟩<;>try lia
  exact#[-1,o,_,_,-1,rfl,.of ho,one n en,sm2,ow 2 n en (by rw[en];rfl)]
 have n2:=vf c2;refine#[-1,rfl,-1,jB (λc=>?_) (λc6=>?_)]
 ·have e:=vt c;subst e
  rcases of with⟨z,_⟩|⟨z,_⟩|⟨z,_⟩|⟨z,_⟩|⟨_,n,en,_⟩|⟨z,_⟩<;>try lia
  exact#[-1,o,_,_,-1,rfl,.of ho,one n en,sm2,ow 6 n en (by rw[en];rfl)]
 have n6:=vf c6;refine#[-1,rfl,-1,jB (λc=>?_) (λc7=>?_)]
 ·have e:=vt c;subst e;exact#[sm2,q]
 have n7:=vf c7;refine#[-1,sm2,λt ht=>?_];have:=q t ht;have er:Er k own=[10,k]:=by
  unfold Er;rw[zO (),zO n6,zO n7]
 rw[er]at this;exact this
inductive IF (CM:i3) (vs:List V) (H:Hp) (Q:VK) (E:XK):Prop
 |mk (x dx:_) (h0:vs=[.ref x]) (h1:H x=some (.ins CM dx [])) (h2: ∀(ha ra pa:i3) (H':Hp),H ha=none->H ra=none->H pa=none->ha≠ra->ha≠pa->(∀b o,b≠x->H b=some o->H' b=some o)->HR CM H' x dx ha ra pa [] []->H' ha=some (.lst [])->Q .non H'):IF CM vs H Q E
theorem VD (T:LO K mg CM)(F:qZ K "__init__" "Making.__init__" BM f fd):vX P w K mg base 1 f fd ["self"] (IF CM):=by
 exists Ib;obtain⟨x,dx,rfl,hx,q⟩:=h;exists _,(zB (Gi (pv 0) (kU zC) rfl)
   (zB (Gi (pv 0) (kU zC) rfl)
   (zI (Gi (pv 0) (kU zC) rfl))))
 refine#[zz0,λha hha=>#[-1,x,CM,dx,-1,zN hha _ _ _ hx,T.mak,T.mheads,(show 0<1000 by decide),?_]];have nx:x≠ha:=xB hx hha;refine#[zz0,λra hra=>#[-1,x,CM,dx,-1,zN hra _ _ _ zE,T.mak,T.mrows,(show 1<1000 by decide),?_]];have nxr:x≠ra:=λz=>by rw[<-z,zE]at hra;cases hra
 rw[yQ (Ne.symm nxr)]at hra;have nhr:ha≠ra:=λz=>by rw[<-z,zE]at hra;cases hra
 rw[yQ (Ne.symm nhr)]at hra;refine#[zz0,λpa hpa=>#[-1,x,CM,dx,-1,zN hpa _ _ _ zE,T.mak,T.mpaper,(show 2<1000 by decide),?_]];have nxp:x≠pa:=λz=>by rw[<-z,zE]at hpa;cases hpa
 rw[yQ (Ne.symm nxp)]at hpa;have nrp:ra≠pa:=λz=>by rw[<-z,zE]at hpa;cases hpa
 rw[yQ (Ne.symm nrp),yQ (Ne.symm nxp)]at hpa;have nhp:ha≠pa:=λz=>by rw[<-z,zE]at hpa;cases hpa
 rw[yQ (Ne.symm nhp)]at hpa;refine q ha ra pa _ hha hra hpa nhr nhp (λb o nb e=>?_) #[zE,#[[],?_,.nil],#[[],?_,.nil],nrp] ?_
 ·rw[yQ nb,yQ (xB e hpa),yQ nb,yQ (xB e hra),yQ nb,yQ (xB e hha)];exact e
 ·rw[yQ (Ne.symm nxr),yQ nrp,yQ (Ne.symm nxr)];exact zE
 ·rw[yQ (Ne.symm nxp)];exact zE
 ·rw[yQ (Ne.symm nx),yQ nhp,yQ (Ne.symm nx),yQ nhr,yQ (Ne.symm nx)];exact zE
inductive EN (CM:i3) (hs:DJ) (d:Nat) (vs:List V) (H:Hp) (Q:VK) (E:XK):Prop
 |mk (mk dx ha ra pa:i3) (v:V) (nd:Nd) (gs ls:List (List Int)) (bx:Int) (h0:vs=[.ref mk,v]) (h1:HR CM H mk dx ha ra pa gs ls) (h2:jK H d v nd) (h3:vU hs bx d (bare nd)) (h4:gs.length+rl (bare nd)<=100000) (h5:ls.length+FT nd<=100000) (h6: ∀H',Bj ra pa H H'->HR CM H' mk dx ha ra pa (gs++Dl gs.length (bare nd)) (ls++Kf gs.length nd)->Q .non H'):EN CM hs d vs H Q E
inductive Ko (CM:i3) (hs:DJ) (d:Nat) (k:Int) (ok:List Tr->Prop) (c:Nat->List Tr->List (List Int)) (more:Nat->Nat) (o:Nat) (vs:List V) (H:Hp) (Q:VK) (E:XK):Prop
 |mk (mk dx ha ra pa qa:i3) (us:List V) (ps:List Nd) (gs ls:List (List Int)) (bx:Int) (h0:vs=[.ref mk,.ref qa]) (h1:HR CM H mk dx ha ra pa gs ls) (h2:H qa=some (.tup us)) (h3:Paired (jK H d) us ps) (h4:wI hs bx d (zU ps)) (h5:ok (zU ps)) (h6:gs.length+kD (zU ps)+more ps.length<=100000) (h7:ls.length+BG ps<=100000) (h8: ∀H',Bj ra pa H H'->HR CM H' mk dx ha ra pa (gs++c gs.length (zU ps)) (ls++Hg k (ps.length-1) 0 (gs.length+o) ps)->Q .non H'):Ko CM hs d k ok c more o vs H Q E
abbrev Si (CM:i3)(hs:DJ)(d:Nat):Sp:=Ko CM hs d 3 (λps=>ps≠[]) (λb ps=>Iz b true ps) (λn=>n-1) 0
abbrev Sh (CM:i3)(hs:DJ)(d:Nat):Sp:=Ko CM hs d 4 (λps=>2<=ps.length) XW (λn=>2*(n-1)+1) 0
abbrev Sg (CM:i3)(hs:DJ)(d:Nat):Sp:=Ko CM hs d 5 (λps=>ps.length=2) Xa (λn=>5) 1
theorem Jg: ∀{ps:a6 Nd} {i:Nat} {x:Nd},wI hs bx d (zU ps)->ps[i]? =some x->vU hs bx d (bare x)
 |[],i,x,_,h=>by simp at h
 |p::r,0,x,f,h=>by
  have e:p=x:=by simpa using h
  subst e;rw[show zU (p::r)=bare p::zU r from rfl]at f;unfold wI at f;exact f.1
 |p::r,i+1,x,f,h=>by
  rw[show zU (p::r)=bare p::zU r from rfl]at f;unfold wI at f;exact Jg f.2 (by simpa using h)
theorem KY (ps:a6 Nd)(i:Nat):kD (zU (ps.take i))<=kD (zU ps):=by
 have:=IM (zU (ps.take i)) (zU (ps.drop i));rw[<-Ba,wJ]at this;lia
theorem Lx (i:Nat)(h:BF (zU ps)):BF (zU (ps.take i)):=by
 rw[<-wJ i ps,Ba]at h;exact(SQ _ _ h).1
theorem Lm (ps:a6 Nd)(i:Nat):BG (ps.take i)<=BG ps:=by
 have:=IV (ps.take i) (ps.drop i);rw[wJ]at this;lia
mutual
theorem NS: ∀(nd:Nd) (b:Nat),(Kf b nd).length =FT nd
 | .mk k p own ps,b=>by
  unfold Kf FT;rw[zG,HE ps];show _+1=_;lia
theorem HE: ∀(ps:a6 Nd) (k:Int) (m i b:Nat),(Hg k m i b ps).length =BG ps
 |[],k,m,i,b=>by unfold Hg BG;rfl
 |t::r,k,m,i,b=>by
  unfold Hg BG;rw[zG,NS t,HE r]
end
theorem MC (h:Paired F us (p::ps)): ∃u us',us=u::us'/\F u p/\Paired F us' ps:=by
 cases h with
 |cons a b=>exact#[_,-1,a,b]
theorem at0:Gv (u::l) 0=some u:=by
 show Gv (u::l) ((0:Nat):Int)=some u;exact kG rfl
theorem Po (d:Nat)(T:LO K mg CM)(F:qZ K "make_all" "make_all" Gc f fd)(Cf:kB P w K mg base kk "make_node" ["making","node"] (EN CM hs d)):vX P w K mg base (kk+1) f fd ["making","parts"] (Si CM hs d):=by
 exists JW;obtain⟨mk,dx,ha,ra,pa,qa,us,ps,gs,ls,bx,rfl,M,eq,pr,ft,ne,z1,z2,q⟩:=h;exists _,(zB (jM (zK Cf hr rfl (zA (pv 0) (zA (yZ xL (pv 1) zH (λ_ _=>rfl)) zC)) zX))
   (zI (wD xE rfl (JL (qW GM (pv 1) (wH zH) vQ)) (yA 2 JW.nd) (zB (jM (uQ yF yM yL jQ (jL (pv 0) rfl) (zA (xM (zA (yK rfl T.m_OP_DROP) (zA zH zC))) zC)))
   (zI (jM (zK Cf hr rfl (zA (pv 0) (zA (pv 2) zC)) zX)))))))
 cases ps with
 |nil=>exact absurd (show zU []=[]from rfl) ne
 |cons p ps=>
 obtain⟨u,us,rfl,pu,pr⟩:=MC pr;rw[show zU (p::ps)=bare p::zU ps from rfl]at ft z1 q;unfold wI at ft;rw[kW]at z1;rw[Al]at z2;rw[zJ]at z1 q;have z1:gs.length+(rl (bare p)+kD (zU ps))+(ps.length+1-1)<=100000:=z1;have gd1:=Ex d _ ft.1;have gd2:=Kz d _ ft.2;refine#[-2,qa,_,_,-1,rfl,.of eq,at0,mk,dx,ha,ra,pa,u,p,gs,ls,bx,rfl,M,pu,ft.1,(),(),λH1 k1 M1=>?_];have t1:=M.tups k1;have e1:=t1 _ _ eq;refine#[-2,qa,-1,.of e1,?_,λc hc=>?_]
 ·rintro⟨z,_⟩;have:HT.sIx (u::us).length 0 (some (1:Int))=min 1 (u::us).length:=HT.sIx_nat _ _ 1;rw[this,zJ]at z;lia
 have ec:Bg (u::us) (some (1:Int)) none=us:=AZ 1;rw[ec];have sc:=zN hc (.tup us);have M2:=M1.same sc;have k2:Bj ra pa H (upd H1 c (.tup us)):=k1.trans (.same sc);have e2:upd H1 c (.tup us) c=some (.tup us):=zE;generalize upd H1 c (.tup us)=H2 at *
 refine#[c,rfl,#[_,.of e2],Kx (xs:=us) (λi U' H'=>Bj ra pa H H'/\qE H2 H'/\HR CM H' mk dx ha ra pa (gs++Iz gs.length true (zU (p::ps.take i))) (ls++Hg 3 (ps.length+1-1) 0 gs.length (p::ps.take i))/\ ∃v,U'=[some (.ref mk),some (.ref qa),v]) #[k2,λ_ _ e=>e,?_,-1] (λi U' H' hi hh=>.of (hh.2.1 _ _ e2)) ?_ ?_]
 ·have a1:Iz gs.length true (zU (p::ps.take 0))=Dl gs.length (bare p):=by
   rw[AN];show Iz gs.length true [bare p]=_;unfold Iz;rw[zP rfl];unfold Iz;rw[xJ]
  have a2:Hg 3 (ps.length+1-1) 0 gs.length (p::ps.take 0)=Kf gs.length p:=by
   rw[AN];unfold Hg;unfold Hg;rw[xJ]
  rw[a1,a2];exact M2
 ·rintro i v U' H3 hv ⟨k3,t3,M3,v2,rfl⟩;have hi:=(List.getElem?_eq_some_iff.mp hv).1;have hl:=Paired.len pr;have ex:ps[i]? =some (ps[i]'()):=zF _;have pv:=Paired.get pr _ _ _ hv ex;have et:ps.take (i+1)=ps.take i++[ps[i]'()]:=by rw[vN,ex];rfl
  generalize(ps[i]'())=x at *
  obtain⟨rs,er,_⟩:=id M3.rows;refine#[-1,mk,CM,dx,_,-1,M3.ob,T.mak,T.mrows,rfl,.inl #[rfl,_,.of er],sm2,λt ht=>?_];have s3:=zN ht (.tup [.int 3,.int 0]);have Mt:=M3.same s3;have er3:=s3 _ _ er;have ln:=M3.len er;have lm:(Iz gs.length true (zU (p::ps.take i))).length =kD (zU (p::ps.take i))+i:=by
   rw[Ku _ _ _ (show BF (zU (p::ps.take i))from by rw[show zU (p::ps.take i)=bare p::zU (ps.take i)from rfl,uW];exact#[gd1,Lx i gd2]),zP rfl,qI,zJ,yW];lia
  have lb:kD (zU (p::ps.take i))=rl (bare p)+kD (zU (ps.take i)):=kW _ _;have l1:=KY ps (i+1);rw[et,Ba,IM,show kD (zU [x])=rl (bare x)by rw[show zU [x]=[bare x]from rfl,kW];unfold kD;rfl]at l1;have n1:=Lm ps (i+1);rw[et,IV,show BG [x]=FT x by rw[Al];unfold BG;rfl]at n1;rw[zG,lm]at ln;refine#[ra,rs,-1,rfl,er3,xU (show rs.length<=100000 by lia) (by decide),?_];have M4:=Mt.row (g:=[3,0]) zE er3;have k4:Bj ra pa H3 (upd (upd H3 t (.tup [.int 3,.int 0])) ra (.lst (rs++[.ref t]))):=(Bj.same s3).trans Bj.rows;have t4:=M3.tups k4;have tH:=M.tups (k3.trans k4);generalize upd (upd H3 t (.tup [.int 3,.int 0])) ra (.lst (rs++[.ref t]))=H4 at *
  have l4:(gs++Iz gs.length true (zU (p::ps.take i))++[[3,0]]).length =gs.length+kD (zU (p::ps.take i))+i+1:=by
   rw[zG,zG,lm];show gs.length+_+1=_;lia
  refine#[-2,mk,dx,ha,ra,pa,v,x,_,_,bx,rfl,M4,pv.tups tH,Jg ft.2 ex,(),?_,λH5 k5 M5=>#[k3.trans (k4.trans k5),λb xs e=>M4.tups k5 _ _ (t4 _ _ (t3 _ _ e)),?_,-1]]
  ·rw[zG,HE,Al];lia
  ·rw[l4]at M5;rw[et];have a1:Iz gs.length true (zU (p::(ps.take i++[x])))=Iz gs.length true (zU (p::ps.take i))++([3,0]::Dl (gs.length+kD (zU (p::ps.take i))+i+1) (bare x)):=by
    rw[show zU (p::(ps.take i++[x]))=bare p::zU (ps.take i)++[bare x]by rw[<-xH,Ba];rfl,VV];rw[show(bare p::zU (ps.take i)).length =i+1 by rw[zJ,qI,yW];lia];rfl
   have a2:Hg 3 (ps.length+1-1) 0 gs.length (p::(ps.take i++[x]))=Hg 3 (ps.length+1-1) 0 gs.length (p::ps.take i)++Kf (gs.length+kD (zU (p::ps.take i))+i+1) x:=by
    rw[<-xH,IP,Ta,qI,zJ,yW,show min i ps.length+1=i+1 by lia];rfl
   rw[a1,a2];rw[yS,yS]at M5;rw[yS]at M5;exact M5
 ·rintro U' H3 ⟨k3,t3,M3,v2,rfl⟩;have hl:=Paired.len pr;rw[hl,xZ]at M3;exact q H3 k3 M3
theorem Vt (h:Paired F us ps)(l:ps.length=2): ∃u v x y,us=[u,v]/\ps=[x,y]/\F u x/\F v y:=by
 cases h with
 |nil=>cases l
 |cons a b=>
  cases b with
  |nil=>cases l
  |cons a2 b2=>
   cases b2 with
   |nil=>exact#[_,_,_,-1,rfl,a,a2]
   |cons _ _=>simp at l
theorem Nz (A B:a6 α)(x g:α)(h:n=A.length):(A++x::B).set n g=A++g::B:=by
 rw[h,List.set_append_right _ _ (zS _),Ee];rfl
theorem RD (h:i<n):SJ n (i:Int)=some i:=by
 unfold SJ;rw[zP (),zP (),xV]
theorem at1:Gv (u::v::l) 1=some v:=by
 show Gv (u::v::l) ((1:Nat):Int)=some v;exact kG rfl
theorem NY (d:Nat)(T:LO K mg CM)(F:qZ K "make_loop" "make_loop" EV f fd)(Cf:kB P w K mg base kk "make_node" ["making","node"] (EN CM hs d)):vX P w K mg base (kk+1) f fd ["making","parts"] (Sg CM hs d):=by
 exists FX;obtain⟨mk,dx,ha,ra,pa,qa,us,ps,gs,ls,bx,rfl,M,eq,pr,ft,ne,z1,z2,q⟩:=h;exists _,(zB (yP 2 FX.nd (xF yX rfl T.n_len jY (zA (jL (pv 0) rfl) zC)))
   (zB (jM (uQ yF yM yL jQ (jL (pv 0) rfl) (zA (xM (zA (yK rfl T.m_OP_BREATH) (zA zH zC))) zC)))
   (zB (jM (zK Cf hr rfl (zA (pv 0) (zA (yZ xL (pv 1) zH (λ_ _=>rfl)) zC)) zX))
   (zB (yP 3 FX.nd (xF yX rfl T.n_len jY (zA (jL (pv 0) rfl) zC)))
   (zB (jM (uQ yF yM yL jQ (jL (pv 0) rfl) (zA (xM (zA (yK rfl T.m_OP_UNLESS) (zA zH zC))) zC)))
   (zB (jM (zK Cf hr rfl (zA (pv 0) (zA (yZ xL (pv 1) zH (λ_ _=>rfl)) zC)) zX))
   (zB (jM (uQ yF yM yL jQ (jL (pv 0) rfl) (zA (xM (zA (yK rfl T.m_OP_DROP) (zA zH zC))) zC)))
   (zB (jM (uQ yF yM yL jQ (jL (pv 0) rfl) (zA (xM (zA (yK rfl T.m_OP_JUMP) (zA (pv 2) zC))) zC)))
   (zB (qH (xM (zA (yK rfl T.m_OP_UNLESS) (zA (xF yX rfl T.n_len jY (zA (jL (pv 0) rfl) zC)) zC))) (CS (jL (pv 0) rfl) (pv 3) uV))
   (zI (jM (uQ yF yM yL jQ (jL (pv 0) rfl) (zA (xM (zA (yK rfl T.m_OP_PUSH) (zA zH zC))) zC)))))))))))))
 have ne:(zU ps).length =2:=ne;rw[qI]at ne;obtain⟨u,v,x,y,rfl,rfl,px,py⟩:=Vt pr ne;rw[show zU [x,y]=[bare x,bare y]from rfl]at ft z1 q;unfold wI at ft;unfold wI at ft;have z1:gs.length+(rl (bare x)+rl (bare y))+5<=100000:=by
  have:kD [bare x,bare y]=rl (bare x)+rl (bare y):=by rw[kW,kW];unfold kD;rfl
  rw[this]at z1;exact z1
 have z2:ls.length+(FT x+FT y)<=100000:=by
  have:BG [x,y]=FT x+FT y:=by rw[Al,Al];unfold BG;rfl
  rw[this]at z2;exact z2
 have gx:=Ex d _ ft.1;have gy:=Ex d _ ft.2.1;obtain⟨rs,er,_⟩:=id M.rows;have ln:=M.len er;refine#[-1,mk,CM,dx,_,-1,M.ob,T.mak,T.mrows,rfl,ra,-1,.inl (.of er),?_];refine#[-1,mk,CM,dx,_,-1,M.ob,T.mak,T.mrows,rfl,.inl #[rfl,_,.of er],sm2,λt ht=>?_];have s1:=zN ht (.tup [.int 9,.int 0]);refine#[ra,rs,-1,rfl,s1 _ _ er,xU (show rs.length<=100000 by lia) (by decide),?_];have M1:=(M.same s1).row (g:=[9,0]) zE (s1 _ _ er);have k1:Bj ra pa H (upd (upd H t (.tup [.int 9,.int 0])) ra (.lst (rs++[.ref t]))):=(Bj.same s1).trans Bj.rows;have t1:=M.tups k1;generalize upd (upd H t (.tup [.int 9,.int 0])) ra (.lst (rs++[.ref t]))=H1 at *
 have l1:(gs++[[9,0]]).length =gs.length+1:=by rw[zG];rfl
 refine#[-2,qa,_,_,-1,rfl,.of (t1 _ _ eq),at0,mk,dx,ha,ra,pa,u,x,_,_,bx,rfl,M1,px.tups t1,ft.1,(),(),λH2 k2 M2=>?_];rw[l1]at M2;have lx:=wS (bare x) (gs.length+1) gx;have l2:(gs++[[9,0]]++Dl (gs.length+1) (bare x)).length =gs.length+1+rl (bare x):=by rw[zG,l1,lx]
 have t2:=M1.tups k2;obtain⟨r2,e2,_⟩:=id M2.rows;have n2:=M2.len e2;rw[l2]at n2;refine#[-1,mk,CM,dx,_,-1,M2.ob,T.mak,T.mrows,rfl,ra,-1,.inl (.of e2),?_];refine#[-1,mk,CM,dx,_,-1,M2.ob,T.mak,T.mrows,rfl,.inl #[rfl,_,.of e2],sm2,λt' ht'=>?_];have s2:=zN ht' (.tup [.int 5,.int 0]);refine#[ra,r2,-1,rfl,s2 _ _ e2,xU (show r2.length<=100000 by lia) (by decide),?_];have M3:=(M2.same s2).row (g:=[5,0]) zE (s2 _ _ e2);have k3:Bj ra pa H2 (upd (upd H2 t' (.tup [.int 5,.int 0])) ra (.lst (r2++[.ref t']))):=(Bj.same s2).trans Bj.rows;have t3:=M2.tups k3;generalize upd (upd H2 t' (.tup [.int 5,.int 0])) ra (.lst (r2++[.ref t']))=H3 at *
 have l3:(gs++[[9,0]]++Dl (gs.length+1) (bare x)++[[5,0]]).length =gs.length+rl (bare x)+2:=by
  rw[zG,l2];show gs.length+1+rl (bare x)+1=_;lia
 have t13:qE H H3:=λb xs e=>t3 _ _ (t2 _ _ (t1 _ _ e));have lq:(ls++Kf (gs.length+1) x).length =ls.length+FT x:=by rw[zG,NS]
 refine#[-2,qa,_,_,-1,rfl,.of (t13 _ _ eq),at1,mk,dx,ha,ra,pa,v,y,_,_,bx,rfl,M3,py.tups t13,ft.2.1,(),(),λH4 k4 M4=>?_];rw[l3]at M4;have ly:=wS (bare y) (gs.length+rl (bare x)+2) gy;have l4:(gs++[[9,0]]++Dl (gs.length+1) (bare x)++[[5,0]]++Dl (gs.length+rl (bare x)+2) (bare y)).length =gs.length+rl (bare x)+2+rl (bare y):=by rw[zG,l3,ly]
 obtain⟨r4,e4,_⟩:=id M4.rows;have n4:=M4.len e4;rw[l4]at n4;refine#[-1,mk,CM,dx,_,-1,M4.ob,T.mak,T.mrows,rfl,.inl #[rfl,_,.of e4],sm2,λt5 ht5=>?_];have s4:=zN ht5 (.tup [.int 3,.int 0]);refine#[ra,r4,-1,rfl,s4 _ _ e4,xU (show r4.length<=100000 by lia) (by decide),?_];have M5:=(M4.same s4).row (g:=[3,0]) zE (s4 _ _ e4);have k5:Bj ra pa H4 (upd (upd H4 t5 (.tup [.int 3,.int 0])) ra (.lst (r4++[.ref t5]))):=(Bj.same s4).trans Bj.rows;have e5:upd (upd H4 t5 (.tup [.int 3,.int 0])) ra (.lst (r4++[.ref t5])) ra=some (.lst (r4++[.ref t5])):=zE;generalize upd (upd H4 t5 (.tup [.int 3,.int 0])) ra (.lst (r4++[.ref t5]))=H5 at *
 have n5:(r4++[V.ref t5]).length =gs.length+rl (bare x)+rl (bare y)+3:=by
  rw[zG,n4];show _+1=_;lia
 refine#[-1,mk,CM,dx,_,-1,M5.ob,T.mak,T.mrows,rfl,.inl #[rfl,_,.of e5],-1,sm2,λt6 ht6=>?_];rw[ln];have s5:=zN ht6 (.tup [.int 4,.int (gs.length:Nat)]);refine#[ra,_,-1,rfl,s5 _ _ e5,xU (show(r4++[V.ref t5]).length<=100000 by lia) (by decide),?_];have M6:=(M5.same s5).row (g:=[4,(gs.length:Int)]) zE (s5 _ _ e5);have k6:Bj ra pa H5 (upd (upd H5 t6 (.tup [.int 4,.int (gs.length:Nat)])) ra (.lst (r4++[.ref t5]++[.ref t6]))):=(Bj.same s5).trans Bj.rows;have e6:upd (upd H5 t6 (.tup [.int 4,.int (gs.length:Nat)])) ra (.lst (r4++[.ref t5]++[.ref t6])) ra=some (.lst (r4++[.ref t5]++[.ref t6])):=zE;generalize upd (upd H5 t6 (.tup [.int 4,.int (gs.length:Nat)])) ra (.lst (r4++[.ref t5]++[.ref t6]))=H6 at *
 have n6:(r4++[V.ref t5]++[V.ref t6]).length =gs.length+rl (bare x)+rl (bare y)+4:=by
  rw[zG,n5];rfl
 refine#[-1,mk,CM,dx,_,-1,M6.ob,T.mak,T.mrows,rfl,ra,-1,.inl (.of e6),sm2,λt7 ht7=>?_];have s6:=zN ht7 (.tup [.int 5,.int ((r4++[V.ref t5]++[V.ref t6]).length:Nat)]);have M6':=M6.same s6;have e6':=s6 _ _ e6;refine#[-1,mk,CM,dx,_,-1,M6'.ob,T.mak,T.mrows,rfl,-1,ra,_,_,-1,rfl,e6',RD (show r2.length<_ by lia),?_];have M7:=M6'.setR (g:=[5,((r4++[V.ref t5]++[V.ref t6]).length:Nat)]) r2.length zE e6';have k7:Bj ra pa H6 (upd (upd H6 t7 (.tup [.int 5,.int ((r4++[V.ref t5]++[V.ref t6]).length:Nat)])) ra (.lst ((r4++[V.ref t5]++[V.ref t6]).set r2.length (.ref t7)))):=(Bj.same s6).trans Bj.rows;have e7:upd (upd H6 t7 (.tup [.int 5,.int ((r4++[V.ref t5]++[V.ref t6]).length:Nat)])) ra (.lst ((r4++[V.ref t5]++[V.ref t6]).set r2.length (.ref t7))) ra=some (.lst ((r4++[V.ref t5]++[V.ref t6]).set r2.length (.ref t7))):=zE;generalize upd (upd H6 t7 (.tup [.int 5,.int ((r4++[V.ref t5]++[V.ref t6]).length:Nat)])) ra (.lst ((r4++[V.ref t5]++[V.ref t6]).set r2.length (.ref t7)))=H7 at *
 refine#[-1,mk,CM,dx,_,-1,M7.ob,T.mak,T.mrows,rfl,.inl #[rfl,_,.of e7],sm2,λt8 ht8=>?_];have s7:=zN ht8 (.tup [.int 0,.int 0]);refine#[ra,_,-1,rfl,s7 _ _ e7,by rw[Bx];exact xU (show(r4++[V.ref t5]++[V.ref t6]).length<=100000 by lia) (by decide),?_];have M8:=(M7.same s7).row (g:=[0,0]) zE (s7 _ _ e7);refine q _ (k1.trans (k2.trans (k3.trans (k4.trans (k5.trans (k6.trans (k7.trans ((Bj.same s7).trans Bj.rows)))))))) ?_;have a1:gs++Xa gs.length [bare x,bare y]=((gs++[[9,0]]++Dl (gs.length+1) (bare x)++[[5,0]]++Dl (gs.length+rl (bare x)+2) (bare y)++[[3,0]]++[[4,(gs.length:Int)]]).set r2.length [5,((r4++[V.ref t5]++[V.ref t6]).length:Nat)])++[[0,0]]:=by
  have e0:gs++[[9,0]]++Dl (gs.length+1) (bare x)++[[5,0]]++Dl (gs.length+rl (bare x)+2) (bare y)++[[3,0]]++[[4,(gs.length:Int)]]=(gs++[[9,0]]++Dl (gs.length+1) (bare x))++[5,0]::(Dl (gs.length+rl (bare x)+2) (bare y)++[[3,0]]++[[4,(gs.length:Int)]]):=by simp
  rw[e0,Nz _ _ _ _ (by rw[n2,l2])];rw[n6];unfold Xa;rw[kW];unfold Kt;unfold Kt;have r0:kD []=0:=by unfold kD;rfl
  rw[r0,show gs.length+rl (bare x)+(rl (bare y)+0)+4=gs.length+rl (bare x)+rl (bare y)+4 by lia]
  simp
 have a2:Hg 5 ([x,y].length -1) 0 (gs.length+1) [x,y]=Kf (gs.length+1) x++Kf (gs.length+rl (bare x)+2) y:=by
  unfold Hg;unfold Hg;unfold Hg;unfold Ks;rw[zP (.inr rfl),xJ,show gs.length+1+rl (bare x)+1=gs.length+rl (bare x)+2 by lia]
 rw[a1,a2,<-yS];exact M8
theorem zGj:List.replicate (n+1) g=List.replicate n g++[g]:=DA
theorem NX (d:Nat)(T:LO K mg CM)(F:qZ K "make_pick" "make_pick" ET f fd)(Cf:kB P w K mg base kk "make_node" ["making","node"] (EN CM hs d)):vX P w K mg base (kk+1) f fd ["making","parts"] (Sh CM hs d):=by
 exists Ac;obtain⟨mk,dx,ha,ra,pa,qa,us,ps,gs,ls,bx,rfl,M,eq,pr,ft,ne,z1,z2,q⟩:=h;exists _,(zB (yP 2 Ac.nd (xD vW (xF yX rfl T.n_len jY (zA (pv 1) zC)) zH))
   (zB (jM (zK Cf hr rfl (zA (pv 0) (zA (yZ xL (pv 1) zH (λ_ _=>rfl)) zC)) zX))
   (zB (jM (uQ yF yM yL jQ (jL (pv 0) rfl) (zA (xM (zA (yK rfl T.m_OP_PICK) (zA (pv 2) zC))) zC)))
   (zB (yP 3 Ac.nd (xF yX rfl T.n_len jY (zA (jL (pv 0) rfl) zC)))
   (zB (yP 4 Ac.nd (xD jA (pv 3) (pv 2)))
   (zB (wD xE rfl (AU rfl T.n_range (zA (xD jA (pv 2) zH) zC)) (yA 5 Ac.nd) (zI (jM (uQ yF yM yL jQ (jL (pv 0) rfl) (zA (xM (zA (yK rfl T.m_OP_JUMP) (zA zH zC))) zC)))))
   (zB (wD xE rfl (Lh rfl T.n_enumerate (zA (qW GM (pv 1) (wH zH) vQ) zC)) (kZ rfl (yE (yA 6 Ac.nd) (yE (yA 7 Ac.nd) jJ))) (zB (AI (xC (zT Gz (pv 6) zH (zY _)) (zI (jM (uQ yF yM yL jQ (jL (pv 0) rfl) (zA (xM (zA (yK rfl T.m_OP_JUMP) (zA (pv 4) zC))) zC)))) yD))
   (zB (qH (xM (zA (yK rfl T.m_OP_JUMP) (zA (xF yX rfl T.n_len jY (zA (jL (pv 0) rfl) zC)) zC))) (CS (jL (pv 0) rfl) (xD jA (pv 3) (pv 6)) uV))
   (zI (jM (zK Cf hr rfl (zA (pv 0) (zA (pv 7) zC)) zX))))))
   (zI (qH (xM (zA (yK rfl T.m_OP_JUMP) (zA (xF yX rfl T.n_len jY (zA (jL (pv 0) rfl) zC)) zC))) (CS (jL (pv 0) rfl) (pv 4) uV))))))))))
 have ne:2<=(zU ps).length:=ne;rw[qI]at ne;cases ps with
 |nil=>cases ne
 |cons p ps=>
 obtain⟨u,us,rfl,pu,pr⟩:=MC pr;rw[show zU (p::ps)=bare p::zU ps from rfl]at ft z1 q;unfold wI at ft;rw[kW]at z1;rw[Al]at z2;rw[zJ]at z1 q ne;have z1:gs.length+(rl (bare p)+kD (zU ps))+(2*(ps.length+1-1)+1)<=100000:=z1;have gd1:=Ex d _ ft.1;have gd2:=Kz d _ ft.2;have hl:=Paired.len pr;refine#[-1,qa,-1,.inr (.of eq),_,-1,rfl,?_];have em:(((u::us).length:Nat):Int)-1=(ps.length:Nat):=by rw[zJ,hl];lia
 dsimp only[AC,List.set];rw[em];refine#[-2,qa,_,_,-1,rfl,.of eq,at0,mk,dx,ha,ra,pa,u,p,gs,ls,bx,rfl,M,pu,ft.1,(),(),λH1 k1 M1=>?_];have lx:=wS (bare p) gs.length gd1;have l1:(gs++Dl gs.length (bare p)).length =gs.length+rl (bare p):=by rw[zG,lx]
 have t1:=M.tups k1;obtain⟨r1,e1,_⟩:=id M1.rows;have n1:=M1.len e1;rw[l1]at n1;refine#[-1,mk,CM,dx,_,-1,M1.ob,T.mak,T.mrows,rfl,.inl #[rfl,_,.of e1],-1,sm2,λt2 ht2=>?_];have s1:=zN ht2 (.tup [.int 11,.int (ps.length:Nat)]);refine#[ra,r1,-1,rfl,s1 _ _ e1,xU (show r1.length<=100000 by lia) (by decide),?_];have M2:=(M1.same s1).row (g:=[11,(ps.length:Int)]) zE (s1 _ _ e1);have k2:Bj ra pa H1 (upd (upd H1 t2 (.tup [.int 11,.int (ps.length:Nat)])) ra (.lst (r1++[.ref t2]))):=(Bj.same s1).trans Bj.rows;have e2:upd (upd H1 t2 (.tup [.int 11,.int (ps.length:Nat)])) ra (.lst (r1++[.ref t2])) ra=some (.lst (r1++[.ref t2])):=zE;generalize upd (upd H1 t2 (.tup [.int 11,.int (ps.length:Nat)])) ra (.lst (r1++[.ref t2]))=H2 at *
 have n2:(r1++[V.ref t2]).length =gs.length+rl (bare p)+1:=by
  rw[zG,n1];rfl
 refine#[-1,mk,CM,dx,_,-1,M2.ob,T.mak,T.mrows,rfl,ra,-1,.inl (.of e2),?_];rw[n2];refine#[-2,_,-1,rfl,?_];refine#[-1,_,-1,rfl,-1,(),(),?_];have l2:(gs++Dl gs.length (bare p)++[[11,(ps.length:Int)]]).length =gs.length+rl (bare p)+1:=by
  rw[zG,l1];rfl
 generalize hG:gs++Dl gs.length (bare p)++[[11,(ps.length:Int)]]=G1 at *
 refine AY (lo:=0) (n:=((ps.length:Int)+1).toNat) (λi U' H'=>Bj ra pa H2 H'/\HR CM H' mk dx ha ra pa (G1++List.replicate i [4,0]) (ls++Kf gs.length p)/\ ∃v5,U'=[some (.ref mk),some (.ref qa),some (.int (ps.length:Nat)),some (.int ((gs.length+rl (bare p)+1:Nat):Int)),some (.int (((gs.length+rl (bare p)+1:Nat):Int)+(ps.length:Nat))),v5,none,none]) #[λ_ _ _ _ e=>e,by rw[List.replicate_zero,xJ];exact M2,-1] ?_ ?_
 ·rintro i U' H3 hi ⟨k3,M3,v5,rfl⟩;obtain⟨r3,e3,_⟩:=id M3.rows;have n3:=M3.len e3;rw[zG,l2,qO]at n3;refine#[-1,mk,CM,dx,_,-1,M3.ob,T.mak,T.mrows,rfl,.inl #[rfl,_,.of e3],sm2,λt ht=>?_];have s3:=zN ht (.tup [.int 4,.int 0]);refine#[ra,r3,-1,rfl,s3 _ _ e3,xU (show r3.length<=100000 by (clear em ne;lia)) (by decide),?_];have M4:=(M3.same s3).row (g:=[4,0]) zE (s3 _ _ e3);rw[yS,<-zGj]at M4;exact#[k3.trans ((Bj.same s3).trans Bj.rows),M4,-1]
 rintro U' H3 ⟨k3,M3,v5,rfl⟩;rw[show((ps.length:Int)+1).toNat =ps.length+1 by (clear em;lia)]at M3;have t3:qE H H3:=λb xs e=>M2.tups k3 _ _ (M1.tups k2 _ _ (t1 _ _ e));refine#[-2,qa,-1,.of (t3 _ _ eq),?_,λc hc=>?_]
 ·rintro⟨z,_⟩;have:HT.sIx (u::us).length 0 (some (1:Int))=min 1 (u::us).length:=HT.sIx_nat _ _ 1;rw[this,zJ]at z;lia
 have ec:Bg (u::us) (some (1:Int)) none=us:=AZ 1;rw[ec];have sc:=zN hc (.tup us);have M4:=M3.same sc;have k4:Bj ra pa H (upd H3 c (.tup us)):=k1.trans (k2.trans (k3.trans (.same sc)));have e4:upd H3 c (.tup us) c=some (.tup us):=zE;generalize upd H3 c (.tup us)=H4 at *
 refine#[c,-1,.of e4,HL (xs:=us) (λi U' H'=>Bj ra pa H H'/\qE H4 H'/\HR CM H' mk dx ha ra pa (G1++(Iq (gs.length+rl (bare p)+ps.length+2) true (zU (ps.take i))).map (λs:Nat=>[4,(s:Int)])++List.replicate (ps.length+1-i) [4,0]++Ir (gs.length+rl (bare p)+ps.length+2) (gs.length+rl (bare p)+ps.length+1) true (zU (ps.take i))) (ls++Hg 4 (ps.length+1-1) 0 gs.length (p::ps.take i))/\
  ∃v5 v6 v7,U'=[some (.ref mk),some (.ref qa),some (.int (ps.length:Nat)),some (.int ((gs.length+rl (bare p)+1:Nat):Int)),some (.int (((gs.length+rl (bare p)+1:Nat):Int)+(ps.length:Nat))),v5,v6,v7]) #[k4,λ_ _ e=>e,?_,_,_,-1] (λi U' H' _ hh=>.of (hh.2.1 _ _ e4)) ?_ ?_]
 ·rw[AN];have a1:zU []=[]:=rfl;have a2:Iq (gs.length+rl (bare p)+ps.length+2) true []=[]:=by unfold Iq;rfl
  have a3:Ir (gs.length+rl (bare p)+ps.length+2) (gs.length+rl (bare p)+ps.length+1) true []=[]:=by unfold Ir;rfl
  have a4:Hg 4 (ps.length+1-1) 0 gs.length [p]=Kf gs.length p:=by
   unfold Hg;unfold Hg;rw[xJ]
  rw[a1,a2,a3,a4,List.map_nil,xJ,xJ,Nat.sub_zero];exact M4
 ·rintro i v U' H5 tt hv ⟨k5,t5,M5,v5,v6,v7,rfl⟩ htt;have hi:=(List.getElem?_eq_some_iff.mp hv).1;have ex:ps[i]? =some (ps[i]'()):=zF _;have pv:=Paired.get pr _ _ _ hv ex;have et:ps.take (i+1)=ps.take i++[ps[i]'()]:=by rw[vN,ex];rfl
  generalize(ps[i]'())=x at *
  have sT:=zN htt (.tup [.int (i:Nat),v]);have M5':=M5.same sT;have t5':qE H4 (upd H5 tt (.tup [.int (i:Nat),v])):=λb xs e=>sT _ _ (t5 _ _ e);have k5':Bj ra pa H (upd H5 tt (.tup [.int (i:Nat),v])):=k5.trans (.same sT);refine#[tt,-1,.of zE,rfl,_,-1,_,-1,rfl,?_];generalize upd H5 tt (.tup [.int (i:Nat),v])=H6 at *
  have li:(zU (ps.take i)).length =i:=by rw[qI,yW];lia
  have lP:(Ir (gs.length+rl (bare p)+ps.length+2) (gs.length+rl (bare p)+ps.length+1) true (zU (ps.take i))).length =kD (zU (ps.take i))+(i-1):=by rw[IX _ _ _ _ (Lx i gd2),zP rfl,li]
  have lA:(G1++(Iq (gs.length+rl (bare p)+ps.length+2) true (zU (ps.take i))).map (λs:Nat=>[4,(s:Int)])).length =gs.length+rl (bare p)+1+i:=by rw[zG,l2,zM,HF,li]
  have l6:(G1++(Iq (gs.length+rl (bare p)+ps.length+2) true (zU (ps.take i))).map (λs:Nat=>[4,(s:Int)])++List.replicate (ps.length+1-i) [4,0]++Ir (gs.length+rl (bare p)+ps.length+2) (gs.length+rl (bare p)+ps.length+1) true (zU (ps.take i))).length =gs.length+rl (bare p)+ps.length+2+kD (zU (ps.take i))+(i-1):=by
   rw[zG,zG,lA,qO,lP];lia
  have lr:=KY ps (i+1);rw[et,Ba,IM,show kD (zU [x])=rl (bare x)by rw[show zU [x]=[bare x]from rfl,kW];unfold kD;rfl]at lr;have nr:=Lm ps (i+1);rw[et,IV,show BG [x]=FT x by rw[Al];unfold BG;rfl]at nr;generalize hA:G1++(Iq (gs.length+rl (bare p)+ps.length+2) true (zU (ps.take i))).map (λs:Nat=>[4,(s:Int)])=A1 at *
  generalize hP:Ir (gs.length+rl (bare p)+ps.length+2) (gs.length+rl (bare p)+ps.length+1) true (zU (ps.take i))=P1 at *
  refine#[λU' H'=>Bj ra pa H6 H'/\HR CM H' mk dx ha ra pa (A1++List.replicate (ps.length+1-i) [4,0]++P1++(if i=0 then[]else[[4,((gs.length+rl (bare p)+ps.length+1:Nat):Int)]])) (ls++Hg 4 (ps.length+1-1) 0 gs.length (p::ps.take i))/\U'=[some (.ref mk),some (.ref qa),some (.int (ps.length:Nat)),some (.int ((gs.length+rl (bare p)+1:Nat):Int)),some (.int (((gs.length+rl (bare p)+1:Nat):Int)+(ps.length:Nat))),v5,some (.int (i:Nat)),some v],?_,?_]
  ·obtain⟨r6,e6,_⟩:=id M5'.rows;have n6:=M5'.len e6;rw[l6]at n6;refine#[-1,_,-1,rfl,-1,jB (λc=>?_) (λc=>?_)]
   ·have c':(i:Int) > 0:=yG c;refine#[-1,mk,CM,dx,_,-1,M5'.ob,T.mak,T.mrows,rfl,.inl #[rfl,_,.of e6],-1,sm2,λt ht=>?_];have s6:=zN ht (.tup [.int 4,.int (((gs.length+rl (bare p)+1:Nat):Int)+(ps.length:Nat))]);refine#[ra,r6,-1,rfl,s6 _ _ e6,xU (show r6.length<=100000 by lia) (by decide),?_];have M6:=(M5'.same s6).row (g:=[4,((gs.length+rl (bare p)+1:Nat):Int)+(ps.length:Nat)]) zE (s6 _ _ e6);rw[show((gs.length+rl (bare p)+1:Nat):Int)+(ps.length:Nat)=((gs.length+rl (bare p)+ps.length+1:Nat):Int)by lia]at M6;refine#[(Bj.same s6).trans Bj.rows,?_,rfl];rw[zO (),show((gs.length+rl (bare p)+1:Nat):Int)+(ps.length:Nat)=((gs.length+rl (bare p)+ps.length+1:Nat):Int)by lia];exact M6
   ·have c': ¬(i:Int) > 0:=λz=>c (zQ z);refine#[λ_ _ _ _ e=>e,?_,rfl];rw[zP (),xJ];exact M5'
  ·rintro _ H7 ⟨k7,M7,rfl⟩;have l7:(A1++List.replicate (ps.length+1-i) [4,0]++P1++(if i=0 then[]else[[4,((gs.length+rl (bare p)+ps.length+1:Nat):Int)]])).length =gs.length+rl (bare p)+ps.length+2+kD (zU (ps.take i))+i:=by
    rw[zG,l6];split
    ·show _+0=_;lia
    ·show _+1=_;lia
   obtain⟨r7,e7,_⟩:=id M7.rows;have n7:=M7.len e7;rw[l7]at n7;refine#[-1,mk,CM,dx,_,-1,M7.ob,T.mak,T.mrows,rfl,ra,-1,.inl (.of e7),sm2,λt ht=>?_];have s7:=zN ht (.tup [.int 4,.int (r7.length:Nat)]);have M7':=M7.same s7;have e7':=s7 _ _ e7;refine#[-1,mk,CM,dx,_,-1,M7'.ob,T.mak,T.mrows,rfl,-2,_,-1,rfl,ra,_,_,gs.length+rl (bare p)+1+i,rfl,rfl,e7',?_,?_]
   ·show SJ _ (((gs.length+rl (bare p)+1:Nat):Int)+(i:Nat))=_;rw[show((gs.length+rl (bare p)+1:Nat):Int)+(i:Nat)=((gs.length+rl (bare p)+1+i:Nat):Int)by lia];exact RD (by clear em;lia)
   have M8:=M7'.setR (g:=[4,(r7.length:Nat)]) (gs.length+rl (bare p)+1+i) zE e7';have k8:Bj ra pa H7 (upd (upd H7 t (.tup [.int 4,.int (r7.length:Nat)])) ra (.lst (r7.set (gs.length+rl (bare p)+1+i) (.ref t)))):=(Bj.same s7).trans Bj.rows;generalize upd (upd H7 t (.tup [.int 4,.int (r7.length:Nat)])) ra (.lst (r7.set (gs.length+rl (bare p)+1+i) (.ref t)))=H8 at *
   have es:(A1++List.replicate (ps.length+1-i) [4,0]++P1++(if i=0 then[]else[[4,((gs.length+rl (bare p)+ps.length+1:Nat):Int)]])).set (gs.length+rl (bare p)+1+i) [4,(r7.length:Nat)]=A1++[[4,((gs.length+rl (bare p)+ps.length+2+kD (zU (ps.take i))+i:Nat):Int)]]++List.replicate (ps.length+1-(i+1)) [4,0]++P1++(if i=0 then[]else[[4,((gs.length+rl (bare p)+ps.length+1:Nat):Int)]]):=by
    rw[show ps.length+1-i=ps.length+1-(i+1)+1 by lia,List.replicate_succ,n7];rw[yS,yS,xH,Nz _ _ _ _ lA.symm]
    simp
   rw[es]at M8;have l8:(A1++[[4,((gs.length+rl (bare p)+ps.length+2+kD (zU (ps.take i))+i:Nat):Int)]]++List.replicate (ps.length+1-(i+1)) [4,0]++P1++(if i=0 then[]else[[4,((gs.length+rl (bare p)+ps.length+1:Nat):Int)]])).length =gs.length+rl (bare p)+ps.length+2+kD (zU (ps.take i))+i:=by
    rw[<-es,Bx,l7]
   have t8:qE H H8:=M.tups (k5'.trans (k7.trans k8));refine#[-2,mk,dx,ha,ra,pa,v,x,_,_,bx,rfl,M8,pv.tups t8,Jg ft.2 ex,(),?_,λH9 k9 M9=>#[k5'.trans (k7.trans (k8.trans k9)),λb xs e=>M8.tups k9 _ _ (M7.tups k8 _ _ (M5'.tups k7 _ _ (t5' _ _ e))),?_,_,_,-1]]
   ·rw[zG,HE,Al];lia
   ·rw[l8]at M9;rw[et,Ba,show zU [x]=[bare x]from rfl,Vk,VT,li,hP,xN,<-yS G1,hA];have a2:Hg 4 (ps.length+1-1) 0 gs.length (p::(ps.take i++[x]))=Hg 4 (ps.length+1-1) 0 gs.length (p::ps.take i)++Kf (gs.length+rl (bare p)+ps.length+2+kD (zU (ps.take i))+i) x:=by
     rw[<-xH,IP];rw[show zU (p::ps.take i)=bare p::zU (ps.take i)from rfl];unfold Tc;rw[Qm _ _ _ _ (BX _),li];unfold Ks;rw[zO (by decide),zP rfl,zP rfl,show gs.length+rl (bare p)+(ps.length+1-1+2)+kD (zU (ps.take i))+i=gs.length+rl (bare p)+ps.length+2+kD (zU (ps.take i))+i by lia]
    rw[a2];rw[yS ls]at M9;have e9:A1++[[4,((gs.length+rl (bare p)+ps.length+2+kD (zU (ps.take i))+i:Nat):Int)]]++List.replicate (ps.length+1-(i+1)) [4,0]++P1++(if i=0 then[]else[[4,((gs.length+rl (bare p)+ps.length+1:Nat):Int)]])++Dl (gs.length+rl (bare p)+ps.length+2+kD (zU (ps.take i))+i) (bare x)=A1++[[4,((gs.length+rl (bare p)+ps.length+2+kD (zU (ps.take i))+i:Nat):Int)]]++List.replicate (ps.length+1-(i+1)) [4,0]++(P1++((if i=0 then[]else[[4,((gs.length+rl (bare p)+ps.length+1:Nat):Int)]])++Dl (gs.length+rl (bare p)+ps.length+2+kD (zU (ps.take i))+i) (bare x))):=by simp
    rw[e9]at M9;exact M9
 ·rintro U' H5 ⟨k5,t5,M5,v5,v6,v7,rfl⟩;rw[hl,xZ,show ps.length+1-ps.length=1 by lia,show List.replicate 1 ([4,0]:a6 Int)=[[4,0]]from rfl]at M5;have lP:(Ir (gs.length+rl (bare p)+ps.length+2) (gs.length+rl (bare p)+ps.length+1) true (zU ps)).length =kD (zU ps)+(ps.length-1):=by rw[IX _ _ _ _ gd2,zP rfl,qI]
  have lA:(G1++(Iq (gs.length+rl (bare p)+ps.length+2) true (zU ps)).map (λs:Nat=>[4,(s:Int)])).length =gs.length+rl (bare p)+1+ps.length:=by rw[zG,l2,zM,HF,qI]
  have l5:(G1++(Iq (gs.length+rl (bare p)+ps.length+2) true (zU ps)).map (λs:Nat=>[4,(s:Int)])++[[4,0]]++Ir (gs.length+rl (bare p)+ps.length+2) (gs.length+rl (bare p)+ps.length+1) true (zU ps)).length =gs.length+rl (bare p)+ps.length+2+kD (zU ps)+(ps.length-1):=by
   rw[zG,zG,lA,lP];show _+1+_=_;lia
  obtain⟨r5,e5,_⟩:=id M5.rows;have n5:=M5.len e5;rw[l5]at n5;refine#[-1,mk,CM,dx,_,-1,M5.ob,T.mak,T.mrows,rfl,ra,-1,.inl (.of e5),sm2,λt ht=>?_];have s5:=zN ht (.tup [.int 4,.int (r5.length:Nat)]);have M5':=M5.same s5;have e5':=s5 _ _ e5;refine#[-1,mk,CM,dx,_,-1,M5'.ob,T.mak,T.mrows,rfl,-1,ra,_,_,gs.length+rl (bare p)+1+ps.length,rfl,rfl,e5',?_,?_]
  ·rw[show((gs.length+rl (bare p)+1:Nat):Int)+(ps.length:Nat)=((gs.length+rl (bare p)+1+ps.length:Nat):Int)by lia];exact RD ()
  have M8:=M5'.setR (g:=[4,(r5.length:Nat)]) (gs.length+rl (bare p)+1+ps.length) zE e5';refine q _ (k5.trans ((Bj.same s5).trans Bj.rows)) ?_;have es:(G1++(Iq (gs.length+rl (bare p)+ps.length+2) true (zU ps)).map (λs:Nat=>[4,(s:Int)])++[[4,0]]++Ir (gs.length+rl (bare p)+ps.length+2) (gs.length+rl (bare p)+ps.length+1) true (zU ps)).set (gs.length+rl (bare p)+1+ps.length) [4,(r5.length:Nat)]=gs++XW gs.length (bare p::zU ps):=by
   rw[yS,List.singleton_append,Nz _ _ _ _ lA.symm,n5,<-hG];unfold XW;rw[qI]
   simp
  rw[es]at M8;exact M8
theorem Mc (d:Nat)(T:LO K mg CM)(F:qZ K "make_node" "make_node" EU f fd)(Cf:kB P w K mg base kk "make_node" ["making","node"] (EN CM hs d))(Ce2:kB P w K mg base (kk+1) "make_all" ["making","parts"] (Si CM hs d))
  (Cd5:kB P w K mg base (kk+1) "make_pick" ["making","parts"] (Sh CM hs d)) (Cd6:kB P w K mg base (kk+1) "make_loop" ["making","parts"] (Sg CM hs d)) (Cw:kB P w K mg base 1 "own_row" ["kind","numbers"] GJ):vX P w K mg base (kk+2) f fd ["making","node"] (EN CM hs (d+1)):=by
 exists Ad;obtain⟨mk,dx,ha,ra,pa,v,nd,gs,ls,bx,rfl,M,na,ft,z1,z2,q⟩:=h;exists _,(zB (qH (pv 1) (kZ rfl (yE (yA 2 Ad.nd) (yE (yA 3 Ad.nd) (yE (yA 4 Ad.nd) (yE (yA 5 Ad.nd) jJ))))))
   (zB (yP 6 Ad.nd (xF yX rfl T.n_len jY (zA (jL (pv 0) rfl) zC)))
   (zB (AI (xC (zT jD (pv 2) (yK rfl T.m_ALL) (zY _)) (zI (jM (zK Ce2 hr rfl (zA (pv 0) (zA (pv 5) zC)) zX))) (zI (xC (zT jD (pv 2) (yK rfl T.m_PICK) (zY _)) (zI (jM (zK Cd5 hr rfl (zA (pv 0) (zA (pv 5) zC)) zX))) (zI (xC (zT jD (pv 2) (yK rfl T.m_LOOP) (zY _)) (zI (jM (zK Cd6 hr rfl (zA (pv 0) (zA (pv 5) zC)) zX))) (zB (wD xE rfl (JL (pv 5)) (yA 7 Ad.nd) (zI (jM (zK Cf hr rfl (zA (pv 0) (zA (pv 7) zC)) zX))))
   (zI (jM (uQ yF yM yL jQ (jL (pv 0) rfl) (zA (zK Cw hr rfl (zA (pv 2) (zA (pv 4) zC)) zX) zC)))))))))))
   (zI (jM (uQ yF yM yL jQ (jL (pv 0) rfl) (zA (xM (zA (pv 3) (zA (pv 6) (zA (xF yX rfl T.n_len jY (zA (jL (pv 0) rfl) zC)) zC)))) zC)))))))
 obtain⟨k,pl,own,ps⟩:=nd;obtain⟨t,o,qa,us,rfl,et,eo,eq,pr⟩:=na;rw[show bare (.mk k pl own ps)=.mk k own (zU ps)from rfl]at ft z1 q;have gd:=Ex _ _ ft;unfold vU at ft;obtain⟨k0,k1,of,lp,_,fp⟩:=ft;unfold Kl at gd;have z2:ls.length+(1+BG ps)<=100000:=by rw[show FT (.mk k pl own ps)=1+BG ps by rw[FT]]at z2;exact z2
 obtain⟨rs,er,_⟩:=id M.rows;have ln:=M.len er;refine#[-1,t,-1,.of et,rfl,_,-1,_,-1,_,-1,_,-1,rfl,?_];refine#[-1,mk,CM,dx,_,-1,M.ob,T.mak,T.mrows,rfl,ra,-1,.inl (.of er),?_];rw[ln];refine#[λU' H'=>Bj ra pa H H'/\HR CM H' mk dx ha ra pa (gs++Dl gs.length (.mk k own (zU ps))) (ls++Hg k (ps.length-1) 0 (gs.length+if k=5 then 1 else 0) ps)/\ ∃v7,U'=[some (.ref mk),some (.ref t),some (.int k),some (.int (pl:Nat)),some (.ref o),some (.ref qa),some (.int (gs.length:Nat)),v7],?_,?_]
 ·refine#[-1,rfl,-1,jB (λc=>?_) (λc3=>?_)]
  ·have e:=vt c;subst e;have z:gs.length+kD (zU ps)+(ps.length-1)<=100000:=by
    rw[rl,zP rfl,qI]at z1;lia
   refine#[-2,mk,dx,ha,ra,pa,qa,us,ps,gs,ls,bx,rfl,M,eq,pr,fp,gd.1 rfl,z,(),λH' k' M'=>#[k',?_,-1]];rw[Dl,zP rfl];exact M'
  have n3:=vf c3;refine#[-1,rfl,-1,jB (λc=>?_) (λc4=>?_)]
  ·have e:=vt c;subst e;have z:gs.length+kD (zU ps)+(2*(ps.length-1)+1)<=100000:=by
    rw[rl,zO (by decide),zP rfl,qI]at z1;lia
   refine#[-2,mk,dx,ha,ra,pa,qa,us,ps,gs,ls,bx,rfl,M,eq,pr,fp,gd.2.1 rfl,z,(),λH' k' M'=>#[k',?_,-1]];rw[Dl,zO (by decide),zP rfl];exact M'
  have n4:=vf c4;refine#[-1,rfl,-1,jB (λc=>?_) (λc5=>?_)]
  ·have e:=vt c;subst e;have z:gs.length+kD (zU ps)+5<=100000:=by
    rw[rl,zO (by decide),zO (by decide),zP rfl]at z1;omega
   refine#[-2,mk,dx,ha,ra,pa,qa,us,ps,gs,ls,bx,rfl,M,eq,pr,fp,gd.2.2.1 rfl,z,(),λH' k' M'=>#[k',?_,-1]];rw[Dl,zO (by decide),zO (by decide),zP rfl];exact M'
  have n5:=vf c5;have gp:=gd.2.2.2;rw[rl,zO n3,zO n4,zO n5]at z1;refine#[-1,qa,rfl,#[_,.of eq],Kx (xs:=us) (λi U' H'=>Bj ra pa H H'/\qE H H'/\HR CM H' mk dx ha ra pa (gs++Kt gs.length (zU (ps.take i))) (ls++Hg k (ps.length-1) 0 gs.length (ps.take i))/\ ∃v7,U'=[some (.ref mk),some (.ref t),some (.int k),some (.int (pl:Nat)),some (.ref o),some (.ref qa),some (.int (gs.length:Nat)),v7]) #[λ_ _ _ _ e=>e,λ_ _ e=>e,?_,-1] (λi U' H' _ hh=>.of (hh.2.1 _ _ eq)) ?_ ?_]
  ·rw[AN,show zU []=[]from rfl,show Kt gs.length []=[]by rw[Kt],show Hg k (ps.length-1) 0 gs.length []=[]by rw[Hg],xJ,xJ];exact M
  ·rintro i v U' H3 hv ⟨k3,t3,M3,v7,rfl⟩;have hl:=Paired.len pr;have hi:=(List.getElem?_eq_some_iff.mp hv).1;have ex:ps[i]? =some (ps[i]'()):=zF _;have pv:=Paired.get pr _ _ _ hv ex;have et':ps.take (i+1)=ps.take i++[ps[i]'()]:=by rw[vN,ex];rfl
   generalize(ps[i]'())=x at *
   have lS:(gs++Kt gs.length (zU (ps.take i))).length =gs.length+kD (zU (ps.take i)):=by rw[zG,HJ _ _ (Lx i gp)]
   have lr:=KY ps (i+1);rw[et',Ba,IM,show kD (zU [x])=rl (bare x)by rw[show zU [x]=[bare x]from rfl,kW];unfold kD;rfl]at lr;have nr:=Lm ps (i+1);rw[et',IV,show BG [x]=FT x by rw[Al];unfold BG;rfl]at nr;refine#[-2,mk,dx,ha,ra,pa,v,x,_,_,bx,rfl,M3,pv.tups t3,Jg fp ex,(),?_,λH5 k5 M5=>#[k3.trans k5,λb xs e=>M3.tups k5 _ _ (t3 _ _ e),?_,-1]]
   ·rw[zG,HE];lia
   ·rw[lS]at M5;rw[et',Ba,show zU [x]=[bare x]from rfl,PD,IP,SZ n3 n4 n5,<-yS,<-yS];exact M5
  ·rintro U' H3 ⟨k3,t3,M3,v7,rfl⟩;have hl:=Paired.len pr;rw[hl,xZ]at M3;obtain⟨r3,e3,_⟩:=id M3.rows;have l3:=M3.len e3;rw[zG,HJ _ _ gp]at l3;refine#[-1,mk,CM,dx,_,-1,M3.ob,T.mak,T.mrows,rfl,.inl #[rfl,_,.of e3],-2,k,o,own,hs,bx,rfl,t3 _ _ eo,of,n3,n4,n5,λt4 ht4=>?_];have s3:=zN ht4 (.tup ((Er k own).map V.int));refine#[ra,r3,-1,rfl,s3 _ _ e3,xU (show r3.length<=100000 by lia) (by decide),?_];have M4:=(M3.same s3).row (g:=Er k own) zE (s3 _ _ e3);refine#[k3.trans ((Bj.same s3).trans Bj.rows),?_,-1];rw[Dl,zO n3,zO n4,zO n5,zO n5,<-yS];exact M4
 ·rintro U' H5 ⟨k5,M5,v7,rfl⟩;obtain⟨r5,e5,_⟩:=id M5.rows;obtain⟨p5,f5,pp5⟩:=id M5.pap;have lT:(gs++Dl gs.length (.mk k own (zU ps))).length =gs.length+rl (.mk k own (zU ps)):=by rw[zG,wS _ _ (by unfold Kl;exact gd)]
  have l5:=M5.len e5;rw[lT]at l5;have lq:=Paired.len pp5;rw[zG,HE]at lq;refine#[-1,mk,CM,dx,_,-1,M5.ob,T.mak,T.mpaper,rfl,.inl #[rfl,_,.of f5],-3,mk,CM,dx,_,-1,M5.ob,T.mak,T.mrows,rfl,ra,-1,.inl (.of e5),sm3,λt6 ht6=>?_];have s5:=zN ht6 (.tup [.int (pl:Nat),.int (gs.length:Nat),.int (r5.length:Nat)]);refine#[pa,p5,-1,rfl,s5 _ _ f5,xU (show p5.length<=100000 by lia) (by decide),?_];have M6:=(M5.same s5).line (g:=[(pl:Int),(gs.length:Int),(r5.length:Int)]) zE (s5 _ _ f5);refine q _ (k5.trans ((Bj.same s5).trans Bj.paper)) ?_;rw[Kf,<-yS,<-l5];exact M6
theorem Pn (T:LO K mg CM)(FN:qZ K "make_node" "make_node" EU fN dN)(FA:qZ K "make_all" "make_all" Gc fA dA)(FK:qZ K "make_pick" "make_pick" ET fK dK)(FL:qZ K "make_loop" "make_loop" EV fL dL)
  (Cw:kB P w K mg base 1 "own_row" ["kind","numbers"] GJ) (cN: ∀{k:Nat} {sp:Sp},vX P w K mg base k fN dN ["making","node"] sp->kB P w K mg base k "make_node" ["making","node"] sp) (cA: ∀{k:Nat} {sp:Sp},vX P w K mg base k fA dA ["making","parts"] sp->kB P w K mg base k "make_all" ["making","parts"] sp)
  (cK: ∀{k:Nat} {sp:Sp},vX P w K mg base k fK dK ["making","parts"] sp->kB P w K mg base k "make_pick" ["making","parts"] sp) (cL: ∀{k:Nat} {sp:Sp},vX P w K mg base k fL dL ["making","parts"] sp->kB P w K mg base k "make_loop" ["making","parts"] sp):
  ∀d,kB P w K mg base (2*d+1) "make_node" ["making","node"] (EN CM hs d)
 |0=>cN #[λvs H Q E h=>by
   obtain⟨_,_,_,_,_,_,_,_,_,_,_,_,_,ft,_⟩:=h;unfold vU at ft;exact ft.elim,λ_ _ _ _ _ _ _ _ _ _ _ _ _ h=>by
   obtain⟨_,_,_,_,_,_,_,_,_,_,_,_,_,ft,_⟩:=h;unfold vU at ft;exact ft.elim]
 |d+1=>by
  have ih:=Pn (hs:=hs) T FN FA FK FL Cw cN cA cK cL d;exact cN (Mc d T FN ih (cA (Po d T FA ih)) (cK (NX d T FK ih)) (cL (NY d T FL ih)) Cw)
theorem Tq (G:Qs X.prog X.w X.K X.mg X.base CX k x C ps sp)(hr:Am n X.A)(hg:Gl X x)(hx:CY CX X E)(hk:autoParam (k+1<=n) L2.aH._auto_1)(hdb:autoParam ((x==("__debug__":Str))=false) L2.aB._auto_1):PE X (.Call (.Name x p) [] [] pos) (Sb C sp [] E UM):=by
 obtain⟨f,fd,M,F,hm,hb⟩:=G.ex;exact Vs M F (hr.mono hk) hg hm hb .nil hx hdb
theorem IY: ∀(fs:a6 HW) (b:Nat),(∀f∈fs,Kl (bare f.2))->(MF b fs).length =Fh fs
 |[],b,_=>rfl
 |f::r,b,h=>by
  show(Dl b (bare f.2)++([7,0]::MF (b+rl (bare f.2)+1) r)).length =rl (bare f.2)+1+Fh r;rw[zG,wS _ _ (h f (yC ..)),zJ,IY r _ λg hg=>h g (zZ _ hg)];lia
theorem Kq: ∀(fs:a6 HW) (b:Nat),(Uv b fs).length =Mg fs
 |[],b=>rfl
 |f::r,b=>by
  show(Kf b f.2++Uv (b+rl (bare f.2)+1) r).length =FT f.2+Mg r;rw[zG,NS,Kq r]
theorem Gq: ∀(fs:a6 HW) (b:Nat),(MN b fs).length =fs.length
 |[],b=>rfl
 |f::r,b=>by
  show(MN (b+rl (bare f.2)+1) r).length +1=r.length+1;rw[Gq r]
inductive Eh (CM:i3) (hs:DJ) (vs:List V) (H:Hp) (Q:VK) (E:XK):Prop
 |mk (l:i3) (rs:List V) (fs:List HW) (h0:vs=[.ref l]) (h1:H l=some (.lst rs)) (h2:Paired (Ut H) rs fs) (h3:(∀f∈fs,vU hs f.1.2 10 (bare f.2))) (h4:Fh fs<=100000) (h5:Mg fs<=100000) (h6:fs.length<=16) (h7: ∀(mk dx ha ra pa:i3) (H':Hp),xK H H'->HR CM H' mk dx ha ra pa (MF 0 fs) (Uv 0 fs)->qS H' ha (MN 0 fs)->H mk=none->H ha=none->H ra=none->H pa=none->Q (.ref mk) H'):Eh CM hs vs H Q E
theorem SN (M:HR C H mk dx ha ra pa gs ls)(k:Bj ra pa H H')(h:qS H ha hs)(n1:ha≠ra)(n2:ha≠pa):qS H' ha hs:=by
 obtain⟨rs,e,p⟩:=h;exact#[rs,k _ _ n1 n2 e,Paired.imp (λv g ⟨t,e1,e2⟩=>#[t,e1,M.tups k _ _ e2]) p]
theorem NW (T:LO K mg CM)(F:qZ K "making_of" "making_of" GU f fd)(Cf1:Qs P w K mg base (GC P w) 1 "Making" CM ["self"] (IF CM))(Cf:kB P w K mg base 21 "make_node" ["making","node"] (EN CM hs 10)):vX P w K mg base 22 f fd ["program"] (Eh CM hs):=by
 exists BJ;obtain⟨l,rs,fs,rfl,el,pr,ft,z1,z2,z3,q⟩:=h;exists _,(zB (yP 1 BJ.nd (Tq Cf1 hr rfl zX))
   (zB (wD xE rfl (Ae (pv 0)) (kZ rfl (yE (yA 2 BJ.nd) (yE (yA 3 BJ.nd) (yE (yA 4 BJ.nd) jJ)))) (zB (jM (uQ yF yM yL jQ (jL (pv 1) rfl) (zA (xM (zA (xF yX rfl T.n_len jY (zA (jL (pv 1) rfl) zC)) (zA (pv 2) (zA (pv 3) zC)))) zC)))
   (zB (jM (zK Cf hr rfl (zA (pv 1) (zA (pv 4) zC)) zX))
   (zI (jM (uQ yF yM yL jQ (jL (pv 1) rfl) (zA (xM (zA (yK rfl T.m_OP_BACK) (zA zH zC))) zC)))))))
   (zI (zV (pv 1)))))
 intro mk dx hmk hdx ndx;refine#[mk,dx,rfl,zE,λha ra pa H1 n1 n2 n3 nhr nhp kp M1 e1=>#[rfl,?_]];have hn: ∀{b:i3},upd (upd H dx (.own mk)) mk (.ins CM dx []) b=none->H b=none:=fun{b} e=>by
  have nb:b≠mk:=λz=>by rw[z,zE]at e;cases e
  rw[yQ nb]at e;have nd:b≠dx:=λz=>by rw[z,zE]at e;cases e
  rw[yQ nd]at e;exact e
 have hha:=hn n1;have hra:=hn n2;have hpa:=hn n3;have sH:xK H H1:=λb o e=>kp b o (xB e hmk) (by rw[yQ (xB e hmk),yQ (xB e hdx)];exact e);refine#[-1,l,rfl,#[_,.of (sH _ _ el)],BS (xs:=rs) (λi U' H'=>xK H H'/\HR CM H' mk dx ha ra pa (MF 0 (fs.take i)) (Uv 0 (fs.take i))/\qS H' ha (MN 0 (fs.take i))/\ ∃v2 v3 v4,U'=[some (.ref l),some (.ref mk),v2,v3,v4]) #[sH,by rw[AN];exact M1,#[[],e1,.nil],_,_,-1] (λi U' H' _ hh=>.of (hh.1 _ _ el)) ?_ ?_]
 ·rintro i v U' H3 hv ⟨s3,M3,G3,v2,v3,v4,rfl⟩;have hl:=Paired.len pr;have hi:=(List.getElem?_eq_some_iff.mp hv).1;have ex:fs[i]? =some (fs[i]'()):=zF _;have pv:=Paired.get pr _ _ _ hv ex;have et':fs.take (i+1)=fs.take i++[fs[i]'()]:=by rw[vN,ex];rfl
  have fx:=ft _ (xP ex);generalize(fs[i]'())=x at *
  obtain⟨t,b,rfl,et,nb⟩:=pv;have gds: ∀f∈fs.take i,Kl (bare f.2):=λf hf=>Ex _ _ (ft f (uJ hf));obtain⟨r3,e3,_⟩:=id M3.rows;obtain⟨h3,f3,ph3⟩:=id G3;have l3:=M3.len e3;rw[IY _ _ gds]at l3;have lh:=Paired.len ph3;rw[Gq,yW]at lh;have lr:=NL (fs.take (i+1)) (fs.drop (i+1));rw[wJ,et',NL,show Fh [x]=rl (bare x.2)+1 from rfl]at lr;have nr:=Oe (fs.take (i+1)) (fs.drop (i+1));rw[wJ,et',Oe,show Mg [x]=FT x.2 from rfl]at nr;refine#[t,-1,.of (s3 _ _ et),rfl,_,-1,_,-1,_,-1,rfl,?_];refine#[-1,mk,CM,dx,_,-1,M3.ob,T.mak,T.mheads,rfl,.inl #[rfl,_,.of f3],-1,mk,CM,dx,_,-1,M3.ob,T.mak,T.mrows,rfl,ra,-1,.inl (.of e3),-2,sm3,λt4 ht4=>?_];have s4:=zN ht4 (.tup [.int (r3.length:Nat),.int x.1.1,.int x.1.2]);refine#[ha,h3,-1,rfl,s4 _ _ f3,xU (show h3.length<=1000 by lia) (by decide),?_];have ht4H:H t4=none:=s3.free ht4;have G4:=qS.push (g:=[(r3.length:Int),x.1.1,x.1.2]) (s4 _ _ f3) (Paired.imp (λv g ⟨t,e1,e2⟩=>#[t,e1,s4 _ _ e2]) ph3) #[t4,rfl,zE];have M3':=M3.same s4;have M4:HR CM (upd (upd H3 t4 (.tup [.int (r3.length:Nat),.int x.1.1,.int x.1.2])) ha (.lst (h3++[.ref t4]))) mk dx ha ra pa (MF 0 (fs.take i)) (Uv 0 (fs.take i)):=by
   refine#[?_,M3'.rows.put (s4 _ _ f3) (Ne.symm nhr),M3'.pap.put (s4 _ _ f3) (Ne.symm nhp),M3.ne];rw[yQ (λz=>by have:=M3'.ob;rw[z,s4 _ _ f3]at this;cases this)];exact M3'.ob
  have sH4:xK H (upd (upd H3 t4 (.tup [.int (r3.length:Nat),.int x.1.1,.int x.1.2])) ha (.lst (h3++[.ref t4]))):=λb o e=>by
   rw[yQ (xB e hha)];exact s4 _ _ (s3 _ _ e)
  generalize upd (upd H3 t4 (.tup [.int (r3.length:Nat),.int x.1.1,.int x.1.2])) ha (.lst (h3++[.ref t4]))=H4 at *
  have lf:(MF 0 (fs.take i)).length =Fh (fs.take i):=IY _ _ gds;refine#[-2,mk,dx,ha,ra,pa,b,x.2,_,_,x.1.2,rfl,M4,nb.tups λc xs e=>sH4 _ _ e,fx,(),by rw[Kq];lia,λH5 k5 M5=>?_];have sH5:xK H H5:=λc o e=>k5 c o (xB e hra) (xB e hpa) (sH4 _ _ e);have G5:=SN M4 k5 G4 nhr nhp;rw[lf]at M5;obtain⟨r5,e5,_⟩:=id M5.rows;have l5:=M5.len e5;rw[zG,lf,wS _ _ (Ex _ _ fx)]at l5;refine#[-1,mk,CM,dx,_,-1,M5.ob,T.mak,T.mrows,rfl,.inl #[rfl,_,.of e5],sm2,λt6 ht6=>?_];have s5:=zN ht6 (.tup [.int 7,.int 0]);refine#[ra,r5,-1,rfl,s5 _ _ e5,xU (show r5.length<=100000 by lia) (by decide),?_];have M6:=(M5.same s5).row (g:=[7,0]) zE (s5 _ _ e5);have k6:Bj ra pa H5 (upd (upd H5 t6 (.tup [.int 7,.int 0])) ra (.lst (r5++[.ref t6]))):=(Bj.same s5).trans Bj.rows;refine#[λc o e=>k6 c o (xB e hra) (xB e hpa) (sH5 _ _ e),?_,?_,_,_,-1]
  ·rw[et',PH,Pb,Ec,<-yS];exact M6
  ·rw[et',PY,Ec,<-l3];exact SN M5 k6 G5 nhr nhp
 ·rintro U' H3 ⟨s3,M3,G3,v2,v3,v4,rfl⟩;have hl:=Paired.len pr;rw[hl,xZ]at M3 G3;exact#[-1,q mk dx ha ra pa H3 s3 M3 G3 hmk hha hra hpa]
theorem VU: ∀(fs:a6 HW) (b:Nat),(∀f∈fs,vU hs f.1.2 10 (bare f.2)/\f.1.2<=12)->b+Fh fs<=nr-> ∀g∈MF b fs,CF g hs.length nr
 |[],b,_,_,g,hg=>by cases hg
 |f::r,b,h,hn,g,hg=>by
  have hn:b+(rl (bare f.2)+1+Fh r)<=nr:=hn;have h1:=h f (yC ..)
  rcases List.mem_append.mp (show g∈Dl b (bare f.2)++([7,0]::MF (b+rl (bare f.2)+1) r)from hg)with z|z
  ·exact Hk h1.2 10 _ b h1.1 () g z
  rcases List.mem_cons.mp z with z|z
  ·rw[z];exact zGh
  ·exact VU r _ (λx hx=>h x (zZ _ hx)) () g z
theorem Wv: ∀(fs:a6 HW) (b i:Nat) (g:a6 Int),(MN b fs)[i]? =some g-> ∃(f:HW) (s:Nat),fs[i]? =some f/\g=[(s:Int),f.1.1,f.1.2]/\s<b+Fh fs
 |[],b,i,g,h=>by simp[MN]at h
 |f::r,b,0,g,h=>by
  have e:[(b:Int),f.1.1,f.1.2]=g:=by simpa[MN]using h
  exact#[f,b,rfl,e.symm,by show b<b+(rl (bare f.2)+1+Fh r);lia]
 |f::r,b,i+1,g,h=>by
  obtain⟨x,s,e1,e2,e3⟩:=Wv r (b+rl (bare f.2)+1) i g (by simpa[MN]using h);exact#[x,s,by simpa using e1,e2,by show s<b+(rl (bare f.2)+1+Fh r);lia]
theorem MV (eh:fs.map (·.1)=hs)(g:HN hs)(h: ∀f∈fs,vU hs f.1.2 10 (bare f.2))(hz:Fh fs<=900):vY (MN 0 fs) (MF 0 fs):=by
 have le:hs.length=fs.length:=by rw[<-eh,zM]
 have b12: ∀f∈fs,f.1.2<=12:=λf hf=>by
  obtain⟨i,e⟩:=uL hf;exact(g.all i f.1 (by rw[<-eh,yJ,e];rfl)).2.2.2.1
 have lm:(MF 0 fs).length =Fh fs:=IY fs 0 λf hf=>Ex _ _ (h f hf);have g1:=g.lo;have g2:=g.hi;have r1:1<=Fh fs:=by
  cases fs with
  |nil=>rw[le]at g1;cases g1
  |cons f r=>show 1<=rl (bare f.2)+1+Fh r;lia
 refine#[by rw[Gq];lia,by rw[Gq];lia,(),(),λi gg e=>?_,λgg hg=>?_]
 ·obtain⟨f,s,e1,rfl,e3⟩:=Wv fs 0 i gg e;obtain⟨a1,a2,a3,a4,a5⟩:=g.all i f.1 (by rw[<-eh,yJ,e1];rfl);rw[lm];exact#[s,f.1.1,f.1.2,rfl,(),(),a1,a2,λz=>a5 (),a3,a4]
 ·rw[Gq,lm,<-le];exact VU fs 0 (λf hf=>#[h f hf,b12 f hf]) () gg hg
def WV (ns:a6 Int)(fs:a6 HW):Prop:= ∃r:DJ×a6 Nd,Shr ns r/\r.1.zip r.2=fs/\fs.map (·.1)=r.1/\HN r.1/\(∀f∈fs,vU r.1 f.1.2 10 (bare f.2))/\Fh fs<=900/\Mg fs<=100000
inductive QH (vs:List V) (H:Hp) (Q:VK) (E:XK):Prop
 |mk (a:i3) (ns:List Int) (fs:List HW) (h0:vs=[.ref a]) (h1:H a=some (.lst (ns.map V.int))) (h2:WV ns fs) (h3: ∀l H',xK H H'->H l=none->H' l=some (.lst ((Dv (MN 0 fs) (MF 0 fs)).map V.int))->Q (.ref l) H'):QH vs H Q E
theorem XL (T:LO K mg CM)(F:qZ K "made" "made" QR f fd)(Ck:kB P w K mg base 17 "functions" ["sheet"] HY)(Cp: ∀hs,kB P w K mg base 22 "making_of" ["program"] (Eh CM hs))(Ce7:kB P w K mg base 4 "code_of" ["heads","rows"] (KK K)):vX P w K mg base 23 f fd ["sheet"] QH:=by
 exists Sm;obtain⟨a,ns,fs,rfl,ea,⟨r,er,rfl,em,hg,ft,z1,z2⟩,q⟩:=h;replace Cp:=Cp r.1;exists _,(zB (yP 1 Sm.nd (zK Cp hr rfl (zA (zK Ck hr rfl (zA (pv 0) zC) zX) zC) zX))
   (zI (zV (zK Ce7 hr rfl (zA (jL (pv 1) rfl) (zA (jL (pv 1) rfl) zC)) zX))))
 refine#[-1,a,ns,r,rfl,ea,er,λl H1 s1 fr fa=>?_];obtain⟨rs,el,ln,pr⟩:=fa;have cp:=MV em hg ft z1;have le:(r.1.zip r.2).length =r.1.length:=by rw[<-zM (f:=(·.1)),em]
 refine#[l,rs,r.1.zip r.2,rfl,el,pr,ft,(),z2,by rw[le];exact hg.hi,λmk dx ha ra pa H2 s2 M2 G2 _ _ _ _=>?_];obtain⟨hv,eh,ph⟩:=G2;obtain⟨rv,ev,pv'⟩:=id M2.rows;have r24:=cp.r24;have lh:=Paired.len ph;refine#[-1,mk,CM,dx,_,-1,M2.ob,T.mak,T.mheads,rfl,-1,mk,CM,dx,_,-1,M2.ob,T.mak,T.mrows,rfl,ha,ra,_,_,hv,rv,rfl,.inl (kF.of eh),qS.seqs ph,cp.h3,by have:=hg.hi;rw[Gq,le];lia,.inl (kF.of ev),qS.seqs pv',cp.r2,(),cp.ok,λco H3 g3 hco eco=>?_];exact q co H3 (s1.trans (s2.trans g3)) ((s1.trans s2).free hco) eco
abbrev Ln:=Int×Int×Int
noncomputable def l3 (x:Ln):a6 Int:=[x.1,x.2.1,x.2.2]
mutual
noncomputable def Qv (b:Nat):Nd->a6 Ln
 | .mk k p own ps=>((p:Int),(b:Int),((b+rl (.mk k own (zU ps)):Nat):Int))::JN k (ps.length-1) 0 (b+if k=5 then 1 else 0) ps
noncomputable def JN (k:Int)(m i b:Nat):a6 Nd->a6 Ln
 |[]=>[]
 |t::r=>Qv b t++JN k m (i+1) (Ks k m i b (bare t)) r
end
noncomputable def Mi (b:Nat):a6 HW->a6 Ln
 |[]=>[]
 |f::r=>Qv b f.2++Mi (b+rl (bare f.2)+1) r
mutual
theorem Vj: ∀(b:Nat) (nd:Nd),(Kf b nd).Perm ((Qv b nd).map l3)
 |b,.mk k p own ps=>by
  show(Hg k (ps.length-1) 0 (b+if k=5 then 1 else 0) ps++[_]).Perm (_::(JN k (ps.length-1) 0 (b+if k=5 then 1 else 0) ps).map l3);exact(List.perm_append_singleton _ _).trans ((Vi k (ps.length-1) 0 _ ps).cons _)
theorem Vi: ∀(k:Int) (m i b:Nat) (ps:a6 Nd),(Hg k m i b ps).Perm ((JN k m i b ps).map l3)
 |_,_,_,_,[]=>.refl _
 |k,m,i,b,t::r=>by
  show(Kf b t++Hg k m (i+1) (Ks k m i b (bare t)) r).Perm ((Qv b t++JN k m (i+1) (Ks k m i b (bare t)) r).map l3);rw[xN];exact(Vj b t).append (Vi k m (i+1) _ r)
end
theorem QT: ∀(b:Nat) (fs:a6 HW),(Uv b fs).Perm ((Mi b fs).map l3)
 |_,[]=>.refl _
 |b,f::r=>by
  show(Kf b f.2++Uv _ r).Perm ((Qv b f.2++Mi _ r).map l3);rw[xN];exact(Vj b f.2).append (QT _ r)
def RP (p q:Nat)(ls:a6 Ln):Prop:=(ls.Pairwise λx y=>x.1<y.1)/\ ∀x∈ls,(p:Int)<=x.1/\x.1<(q:Int)
theorem RP.app (h1:RP p q a)(h2:RP q r b)(hp:p<=q)(hq:q<=r):RP p r (a++b):=by
 refine#[List.pairwise_append.mpr #[h1.1,h2.1,λx hx y hy=>?_],λx hx=>?_]
 ·have:=(h1.2 x hx).2;have:=(h2.2 y hy).1;lia
 ·rcases List.mem_append.mp hx with z|z
  ·have:=h1.2 x z;lia
  ·have:=h2.2 x z;lia
mutual
theorem PQ: ∀(t:Tr) (b p:Nat),RP p (p+(Gn t).length) (Qv b (Uw p t))
 | .mk k own ps,b,p=>by
  have r:=PP ps k ((Jp (p+1+own.length) ps).length -1) 0 (b+if k=5 then 1 else 0) (p+1+own.length);have el:(Gn (.mk k own ps)).length =1+own.length+(qQ ps).length:=by rw[Gn,zJ,zG];lia
  rw[Uw,Qv];refine#[.cons (λy hy=>?_) r.1,λx hx=>?_]
  ·have:=(r.2 y hy).1;show(p:Int)<y.1;lia
  ·rcases List.mem_cons.mp hx with z|z
   ·rw[z];exact#[Int.le_refl _,by rw[el];show(p:Int)<_;lia]
   ·have:=r.2 x z;omega
theorem PP: ∀(ts:a6 Tr) (k:Int) (m i b p:Nat),RP p (p+(qQ ts).length) (JN k m i b (Jp p ts))
 |[],_,_,_,_,p=>by rw[Jp,JN];exact#[.nil,λ_ h=>by cases h]
 |t::r,k,m,i,b,p=>by
  have a:=(PQ t b p).app (PP r k m (i+1) (Ks k m i b (bare (Uw p t))) _) () ();rw[Jp,JN,qQ,zG,<-Nat.add_assoc];exact a
end
theorem Lq: ∀(fs:a6 HW) (b p:Nat) (ts:a6 Tr),fs.map (·.2)=Jp p ts-> ∃q,p<=q/\RP p q (Mi b fs)
 |[],_,p,_,_=>#[p,zS _,.nil,λ_ h=>by cases h]
 |f::r,b,p,[],h=>by rw[Jp]at h;cases h
 |f::r,b,p,t::ts,h=>by
  rw[Jp,yO]at h;injection h with h1 h2
  obtain⟨q,l,rr⟩:=Lq r (b+rl (bare f.2)+1) _ ts h2;rw[Mi,h1]at *
  exact#[q,(),(PQ t b p).app rr () l]
theorem Zd {rs:a6 V}{gs:a6 (a6 Int)}(h:Paired (CG H) rs gs):(∀g∈gs,∃x:Ln,g=l3 x)-> ∃(as:a6 i3) (ls:a6 Ln),rs=as.map V.ref/\gs=ls.map l3/\Paired (Kj H) as ls:=by
 induction h with
 |nil=>exact λ_=>#[[],[],rfl,rfl,.nil]
 |cons h0 p ih=>
  intro h;obtain⟨t,e,et⟩:=h0;obtain⟨as,ls,e1,e2,p2⟩:=ih λg hg=>h g (zZ _ hg);obtain⟨x,rfl⟩:=h _ (yC ..);exact#[t::as,x::ls,by rw[e,e1];rfl,by rw[e2];rfl,.cons et p2]
theorem Xw {a b:a6 Ln}(h:(a.map l3).Perm (b.map l3)):a.Perm b:=by
 have g: ∀l:a6 Ln,(l.map l3).map (λx:a6 Int=>((x.getD 0 0,x.getD 1 0,x.getD 2 0):Ln))=l:=λl=>by
  rw[Ai];exact List.map_id' l
 have:=h.map (λx:a6 Int=>((x.getD 0 0,x.getD 1 0,x.getD 2 0):Ln));rw[g,g]at this;exact this
theorem Xq {a b:a6 Ln}(h:a.Perm b)(ha:a.Pairwise λx y=>x.1<=y.1)(hb:b.Pairwise λx y=>x.1<y.1):a=b:=by
 induction a generalizing b with
 |nil=>exact(List.nil_perm.mp h).symm
 |cons x r ih=>
  cases b with
  |nil=>exact absurd h.symm (by simp)
  |cons y t=>
   obtain⟨a1,a2⟩:=List.pairwise_cons.mp ha;obtain⟨b1,b2⟩:=List.pairwise_cons.mp hb;have hx:=h.mem_iff.mp (yC (a:=x) (l:=r));have hy:=h.mem_iff.mpr (yC (a:=y) (l:=t));have e:x=y:=by
    rcases List.mem_cons.mp hx with z|z
    ·exact z
    rcases List.mem_cons.mp hy with z'|z'
    ·exact z'.symm
    have:=b1 x z;have:=a1 y z';lia
   subst e;rw[ih (List.perm_cons _ |>.mp h) a2 b2]
inductive GK (vs:List V) (H:Hp) (Q:VK) (E:XK):Prop
 |mk (a:i3) (ns:List Int) (fs:List HW) (h0:vs=[.ref a]) (h1:H a=some (.lst (ns.map V.int))) (h2:WV ns fs) (h3:Mg fs<64) (h4: ∀l as H',xK H H'->H l=none->H' l=some (.lst (as.map V.ref))->Paired (Kj H') as (Mi 0 fs)->Q (.ref l) H'):GK vs H Q E
theorem Md (T:LO K mg CM)(F:qZ K "made_paper" "made_paper" Gd f fd)(Ck:kB P w K mg base 17 "functions" ["sheet"] HY)(Cp: ∀hs,kB P w K mg base 22 "making_of" ["program"] (Eh CM hs)):vX P w K mg base 23 f fd ["sheet"] GK:=by
 exists LU;obtain⟨a,ns,fs,rfl,ea,⟨r,er,rfl,em,hg,ft,z1,z2⟩,z64,q⟩:=h;replace Cp:=Cp r.1;exists _,(zI (zV (xF Oo rfl T.n_sorted Up (zA (jL (zK Cp hr rfl (zA (zK Ck hr rfl (zA (pv 0) zC) zX) zC) zX) rfl) zC))))
 refine#[-1,a,ns,r,rfl,ea,er,λl H1 s1 fr fa=>?_];obtain⟨rs,el,ln,pr⟩:=fa;have le:(r.1.zip r.2).length =r.1.length:=by rw[<-zM (f:=(·.1)),em]
 refine#[l,rs,r.1.zip r.2,rfl,el,pr,ft,(),z2,by rw[le];exact hg.hi,λmk dx ha ra pa H2 s2 M2 G2 _ _ _ _=>?_];obtain⟨pv',ep,pp⟩:=id M2.pap;obtain⟨ts,_,pl⟩:=er;rw[show r.2=(r.1.zip r.2).map (·.2)from(FO ()).symm]at pl;generalize r.1.zip r.2=fs at *
 obtain⟨qq,_,ri⟩:=Lq fs 0 _ ts pl;have pm:=QT 0 fs;obtain⟨as,ls,rfl,e2,tr⟩:=Zd pp λg hg=>by
  obtain⟨x,_,e⟩:=List.mem_map.mp (pm.mem_iff.mp hg);exact#[x,e.symm]
 rw[e2]at pm;have pm:=Xw pm;have nd:(ls.map (·.1)).Nodup:=(pm.map (·.1)).nodup_iff.mpr (List.pairwise_map.mpr (ri.1.imp fun{x y} z=>()));have la:as.length=Mg fs:=by
  have:=Paired.len tr;rw[this,<-zM (f:=l3),<-e2,Kq]
 refine#[mk,CM,dx,_,-1,M2.ob,T.mak,T.mpaper,rfl,pa,as,ls,rfl,ep,tr,UR nd (by rw[zM,<-Paired.len tr];lia),(),λp as' ls' hp tr' pm' so=>?_];have e3:=Xq (pm'.trans pm) so ri.1;subst e3;have s3:=zN hp (.lst (as'.map V.ref));exact q p as' _ (s1.trans (s2.trans s3)) ((s1.trans s2).free hp) zE (Paired.imp (λ_ _ z=>s3 _ _ z) tr')
structure CV (K:a7)(mg:Str->Option a9)(CK:i3):Prop extends GB K mg where
 n_zip:mg "zip"=none
 n_dict:mg "dict"=none
 n_reversed:mg "reversed"=none
 m_LINE_SIZE:kN mg "LINE_SIZE" 3
 m_NUMBER:kN mg "NUMBER" 0
 m_ALL:kN mg "ALL" 3
 m_PICK:kN mg "PICK" 4
 m_LOOP:kN mg "LOOP" 5
 m_FAIL:kN mg "FAIL" 7
 ck:RX K CK
 crows:Bh K CK "rows"
 cleads:Bh K CK "leads"
 clines:Bh K CK "lines"
 cright:Bh K CK "right"
theorem Pu (T:CV K mg CK)(F:qZ K "begin_of" "begin_of" Im f fd):vX P w K mg base 1 f fd ["check","node"] (Av CK (·.1)):=by
 exists OQ;obtain⟨c,dx,r,l,d,q,rs,L,R,tn,k,p,x,y,⟨b,e⟩,rfl,C,et,hp,q⟩:=h;exists _,(zI (zV (yZ xL (AV (Bc hr) (jL (pv 0) rfl) (yZ xL (pv 1) zH (λ_ _=>rfl)) (λ_ _=>rfl)) zH (λ_ _=>rfl))))
 obtain⟨t,hg,ht⟩:=C.line hp;exact#[-1,c,CK,dx,_,-1,C.ob,T.ck,T.clines,rfl,-1,tn,_,_,-1,rfl,.of et,rfl,d,-1,hg,t,_,_,-1,rfl,.of ht,rfl,q]
theorem TM (T:CV K mg CK)(F:qZ K "end_of" "end_of" KU f fd):vX P w K mg base 1 f fd ["check","node"] (Av CK (·.2)):=by
 exists Tl;obtain⟨c,dx,r,l,d,q,rs,L,R,tn,k,p,x,y,⟨b,e⟩,rfl,C,et,hp,q⟩:=h;exists _,(zI (zV (yZ xL (AV (Bc hr) (jL (pv 0) rfl) (yZ xL (pv 1) zH (λ_ _=>rfl)) (λ_ _=>rfl)) zH (λ_ _=>rfl))))
 obtain⟨t,hg,ht⟩:=C.line hp;exact#[-1,c,CK,dx,_,-1,C.ob,T.ck,T.clines,rfl,-1,tn,_,_,-1,rfl,.of et,rfl,d,-1,hg,t,_,_,-1,rfl,.of ht,rfl,q]
theorem NU (T:CV K mg CK)(F:qZ K "row_meant" "row_meant" GR f fd):vX P w K mg base 1 f fd ["check","at"] (Ef CK):=by
 exists NA;obtain⟨c,dx,r,l,d,q,rs,L,R,a,rfl,C,q⟩:=h;exists _,(zB (xC (PW.pt (qF (zT Gk (pv 1) qL (zY _)) (kK (zT Fz (pv 1) (xF yX rfl T.n_len jY (zA (jL (pv 0) rfl) zC)) (zY _))))) (zI (zV qL)) yD)
   (zI (zV (yZ xQ (jL (pv 0) rfl) (pv 1) (λ_ _=>rfl)))))
 have ll:((List.range rs.length).map λi=>oI (Mh rs i)).length =rs.length:=by rw[zM,wW]
 cases a with
 |none=>exact#[-1,rfl,-1,jC q]
 |some i=>
  refine#[-1,rfl,-1,xX ?_];refine#[-2,c,CK,dx,_,-1,C.ob,T.ck,T.cleads,rfl,l,-1,.inl (.of C.leads),_,-1,rfl,-1,jB (λc1=>?_) (λc1=>?_)]
  ·have c1':=yG c1;rw[ll]at c1';have e:BO rs (some i)=none:=by show(if i<rs.length then _ else none)=none;rw[zO (by clear c1;lia)]
   rw[e]at q;exact q
  ·have c1':=df c1;rw[ll]at c1';have hi:i<rs.length:=(by clear c1;lia)
   have e:BO rs (some i)=Mh rs i:=by show(if i<rs.length then _ else none)=_;rw[zP hi]
   rw[e]at q;exact#[-1,c,CK,dx,_,-1,C.ob,T.ck,T.cleads,rfl,-1,l,_,_,-1,rfl,.of C.leads,kG (C.lead hi),q]
theorem zCk: ∀{a b:i4 Nat},decide (oI a=oI b)=decide (a=b)
 |none,none=>rfl
 |none,some _=>rfl
 |some _,none=>rfl
 |some x,some y=>by
  by_cases h:x=y
  ·rw[h,zQ rfl,zQ rfl]
  ·rw[zR (λz=>h (by have z:V.int (x:Nat)=V.int (y:Nat):=z;injection z with z;lia)),zR (λz=>h (by injection z))]
theorem XR (h:a.isSome=true):Zs (oI a) (oI b)=true:=by
 cases a<;>cases b<;>rfl
theorem XJ (T:CV K mg CK)(F:qZ K "meet" "meet" QQ f fd)(Cs:kB P w K mg base 1 "row_meant" ["check","at"] (Ef CK)):vX P w K mg base 2 f fd ["check","first","second"] (Eg CK):=by
 exists Sl;obtain⟨c,dx,r,l,d,q,rs,L,R,a,b,rfl,C,q⟩:=h;exists _,(zB (yP 3 Sl.nd (zK Cs hr rfl (zA (pv 0) (zA (pv 1) zC)) zX))
   (zI (zV (Af (uC HG (pv 3) qL (zY _)) (BP (uC jD (pv 3) (zK Cs hr rfl (zA (pv 0) (zA (pv 2) zC)) zX) (zY _)))))))
 refine#[-2,c,dx,r,l,d,_,rs,L,R,a,rfl,C,?_];refine#[-1,rfl,-1,jB (λc1=>?_) (λc1=>?_)]
 ·refine#[-3,c,dx,r,l,d,_,rs,L,R,b,rfl,C,?_];have hs:(BO rs a).isSome =true:=by
   cases e:BO rs a with
   |none=>rw[e]at c1;cases c1
   |some i=>rfl
  have em:xO rs a b=decide (oI (BO rs a)=oI (BO rs b)):=by unfold xO;rw[hs,zCk,yY]
  rw[em]at q;exact#[XR hs,q]
 ·have hs:(BO rs a).isSome =false:=by
   cases e:BO rs a with
   |none=>rfl
   |some i=>rw[e]at c1;exact absurd rfl c1
  have em:xO rs a b=false:=by unfold xO;rw[hs];rfl
  rw[em]at q;exact q
theorem TU (T:CV K mg CK)(F:qZ K "behind" "behind" KW f fd)(Cs:kB P w K mg base 1 "row_meant" ["check","at"] (Ef CK)):vX P w K mg base 2 f fd ["check","at","row"] (Dp CK):=by
 exists My;obtain⟨c,dx,r,l,d,q0,rs,L,R,a,t,op,n,rfl,C,et,q⟩:=h;exists _,(zB (yP 3 My.nd (zK Cs hr rfl (zA (pv 0) (zA (pv 1) zC)) zX))
   (zB (xC (PW.pt (qF (zT Gk (pv 3) qL (zY _)) (kK (zT (IT hr) (yZ xQ (jL (pv 0) rfl) (pv 3) (λ_ _=>rfl)) (pv 2) (zY _))))) (zI (zV qL)) yD)
   (zI (zV (xD jA (pv 3) zH)))))
 refine#[-2,c,dx,r,l,d,q0,rs,L,R,a,rfl,C,?_];cases e:BO rs a with
 |none=>
  have eb:Ow rs a op n=none:=by cases n with|none=>rfl|some m=>show kR rs a op m=none;unfold kR;rw[e];rfl
  rw[eb]at q;exact#[-1,rfl,-1,jC q]
 |some i=>
  refine#[-1,rfl,-1,xX ?_];have hi:=Fg e;obtain⟨vs,ev,pv⟩:=C.rows;obtain⟨t2,op2,n2,hv,hr2,et2⟩:=Le pv hi;have fz:DR (oZ n)=true:=by cases n<;>rfl
  refine#[-1,c,CK,dx,_,-1,C.ob,T.ck,T.crows,rfl,-1,r,_,_,-1,rfl,.of ev,kG hv,-1,t2,t,_,_,_,-1,rfl,.of et2,.of et,fz,-1,jB (λc1=>?_) (λc1=>?_)]
  ·have eb:Ow rs a op n=none:=by
    cases n with
    |none=>rfl
    |some m=>
     show kR rs a op m=none;unfold kR;rw[e];show(if rs[i]? =some (op,m)then some (i+1)else none)=none;rw[zO];intro z;rw[hr2]at z;injection z with z
     injection z with z1 z2
     have c1:(!(op2==op&&(n2==m)))=true:=c1;rw[z1,z2,wL,wL]at c1;cases c1
   rw[eb]at q;exact q
  ·have z:(op2==op&&Fs (.int n2) (oZ n))=true:=by
    cases w:(op2==op&&Fs (.int n2) (oZ n))with
    |true=>rfl
    |false=>rw[w]at c1;exact absurd rfl c1
   obtain⟨z1,z2⟩:=Bool.and_eq_true_iff.mp z;have z1:=eq_of_beq z1;have eb:Ow rs a op n=some (i+1):=by
    cases n with
    |none=>cases z2
    |some m=>
     have z2:(n2==m)=true:=z2;have z2:=eq_of_beq z2;show kR rs a op m=_;unfold kR;rw[e];show(if rs[i]? =some (op,m)then some (i+1)else none)=_;rw[zP (by rw[hr2,z1,z2])]
   rw[eb]at q;exact#[-1,_,-1,rfl,q]
theorem Kg (T:CV K mg CK)(F:qZ K "begins_alike" "begins_alike" Eo f fd)(Cc:kB P w K mg base 1 "begin_of" ["check","node"] (Av CK (·.1)))(Cj:kB P w K mg base 2 "meet" ["check","first","second"] (Eg CK)):vX P w K mg base 3 f fd ["check","node","part"] (BI CK (·.1)):=by
 exists Ke;obtain⟨c,dx,r,l,d,q0,rs,L,R,tn,tp,k,p,k',p',x,y,x',y',be,be',rfl,C,et,hp,et',hp',q⟩:=h;exists _,(zI (zV (zK Cj hr rfl (zA (pv 0) (zA (zK Cc hr rfl (zA (pv 0) (zA (pv 2) zC)) zX) (zA (zK Cc hr rfl (zA (pv 0) (zA (pv 1) zC)) zX) zC))) zX)))
 refine#[-3,c,dx,r,l,d,q0,rs,L,R,tp,k',p',x',y',be',rfl,C,et',hp',?_];refine#[-2,c,dx,r,l,d,q0,rs,L,R,tn,k,p,x,y,be,rfl,C,et,hp,?_];exact#[c,dx,r,l,d,q0,rs,L,R,some be'.1,some be.1,rfl,C,q]
theorem Me (T:CV K mg CK)(F:qZ K "ends_alike" "ends_alike" Gf f fd)(Ce:kB P w K mg base 1 "end_of" ["check","node"] (Av CK (·.2)))(Cj:kB P w K mg base 2 "meet" ["check","first","second"] (Eg CK)):vX P w K mg base 3 f fd ["check","node","part"] (BI CK (·.2)):=by
 exists LV;obtain⟨c,dx,r,l,d,q0,rs,L,R,tn,tp,k,p,k',p',x,y,x',y',be,be',rfl,C,et,hp,et',hp',q⟩:=h;exists _,(zI (zV (zK Cj hr rfl (zA (pv 0) (zA (zK Ce hr rfl (zA (pv 0) (zA (pv 2) zC)) zX) (zA (zK Ce hr rfl (zA (pv 0) (zA (pv 1) zC)) zX) zC))) zX)))
 refine#[-3,c,dx,r,l,d,q0,rs,L,R,tp,k',p',x',y',be',rfl,C,et',hp',?_];refine#[-2,c,dx,r,l,d,q0,rs,L,R,tn,k,p,x,y,be,rfl,C,et,hp,?_];exact#[c,dx,r,l,d,q0,rs,L,R,some be'.2,some be.2,rfl,C,q]
theorem XN (T:CV K mg CK)(F:qZ K "left_by_unless" "left_by_unless" CP f fd)(Cs:kB P w K mg base 1 "row_meant" ["check","at"] (Ef CK)):vX P w K mg base 2 f fd ["check","at"] (QI CK):=by
 exists EO;obtain⟨c,dx,r,l,d,q0,rs,L,R,a,rfl,C,uk,q⟩:=h;exists _,(zB (yP 2 EO.nd (zK Cs hr rfl (zA (pv 0) (zA (pv 1) zC)) zX))
   (zB (xC (PW.pt (qF (zT Gk (pv 2) qL (zY _)) (kK (zT Hh (yZ xL (yZ xQ (jL (pv 0) rfl) (pv 2) (λ_ _=>rfl)) zH (λ_ _=>rfl)) (yK rfl T.m_OP_UNLESS) (zY _))))) (zI (zV qL)) yD)
   (zI (zV (yZ xL (yZ xQ (jL (pv 0) rfl) (pv 2) (λ_ _=>rfl)) zH (λ_ _=>rfl))))))
 refine#[-2,c,dx,r,l,d,q0,rs,L,R,a,rfl,C,?_];cases e:BO rs a with
 |none=>
  have eb:Bn rs a=none:=by unfold Bn;rw[e];rfl
  rw[eb]at q;exact#[-1,rfl,-1,jC q]
 |some i=>
  refine#[-1,rfl,-1,xX ?_];have hi:=Fg e;obtain⟨vs,ev,pv⟩:=C.rows;obtain⟨t2,op2,n2,hv,hr2,et2⟩:=Le pv hi;refine#[-1,c,CK,dx,_,-1,C.ob,T.ck,T.crows,rfl,-1,r,_,_,-1,rfl,.of ev,kG hv,t2,_,_,-1,rfl,.of et2,rfl,rfl,-1,jB (λc1=>?_) (λc1=>?_)]
  ·have n5:op2≠5:=λz=>by
    rw[z]at c1;cases c1
   have eb:Bn rs a=none:=by
    unfold Bn;rw[e];show(match rs[i]? with|some (5,n)=>some n.toNat|_=>none)=none;rw[hr2];split
    ·rename_i h;cases h;exact absurd rfl n5
    ·rfl
   rw[eb]at q;exact q
  ·have e5:op2=5:=by
    by_cases z:op2=5
    ·exact z
    ·exact absurd (show(!decide (V.int op2=V.int 5))=true by rw[zR (λy=>z (by injection y))];rfl) c1
   subst e5;have u0:=uk i n2 hr2;have eb:Bn rs a=some n2.toNat:=by
    unfold Bn;rw[e];show(match rs[i]? with|some (5,n)=>some n.toNat|_=>none)=_;rw[hr2];rfl
   rw[eb]at q;have q:Q (.int (n2.toNat:Nat)) H:=q;rw[qM u0]at q;exact#[-1,c,CK,dx,_,-1,C.ob,T.ck,T.crows,rfl,-1,r,_,_,-1,rfl,.of ev,kG hv,t2,_,_,-1,rfl,.of et2,rfl,q]
theorem Oa (T:CV K mg CK)(F:qZ K "are_right" "are_right" EW f fd):vX P w K mg base 1 f fd ["check","parts"] (HZ CK):=by
 exists NE;obtain⟨c,dx,r,l,d,q0,rs,L,R,pt,m6,bs,rfl,C,ept,pp,hn,q⟩:=h;exists _,(zI (zV (xF (Hq rfl) rfl T.n_all LL (zA (Dk (own:=["part"]) (ys:=["check"]) rfl (JL (pv 1)) (wU (sc:=zW EW) rfl (by decide+kernel)) (.cons (j:=0) rfl .nil) (λ_ _ _ _ _=>(yA 0 (show List.Nodup [("part":Str),("check":Str)]from(by decide+kernel)))) (λ_ _ _ _ _=>AT) (λ_ _ _ _ _=>(AV (Bc hr) (XA K rfl (pv 1)) (yZ (HK K rfl) (pv 0) zH (λ_ _=>rfl)) (λ_ _=>rfl)))) zC))))
 have sl:sizeLine=16777216:=wG;have lp:=Paired.len pp;refine#[-1,pt,rfl,#[m6,.of ept],λp hp=>?_];refine LF (xs:=m6) (λi U' H'=>H'=upd H p (.lst ((bs.take i).map V.bl))/\ ∃x,U'=[x,some (.ref c)]) #[rfl,-1] ?_ ?_ ?_
 ·rintro i U' H' _ ⟨rfl,_⟩;exact .of (zN hp _ _ _ ept)
 ·rintro i x U' H' hi hx ⟨rfl,x0,rfl⟩;obtain⟨b,hb,t,k,pl,y1,y2,rfl,et,hR⟩:=Paired.yonder pp hx;have tk:bs.take (i+1)=bs.take i++[b]:=by rw[jO,hb]<;>rfl
  have s1:=zN hp (.lst ((bs.take i).map V.bl));have C1:=C.same s1;unfold AC;refine OI #[-1,c,CK,dx,_,-1,C1.ob,T.ck,T.cright,rfl,-1,t,_,_,-1,rfl,.of (s1 _ _ et),rfl,q0,-1,C1.rt hR,?_];refine#[_,zE,by rw[zM,yW];lia,CW.next hi #[?_,-1]];rw[tk,xN,Kn];rfl
 ·rintro U' H' ⟨rfl,_⟩;rw[lp,xZ];exact#[p,-1,.of zE,q _ (zN hp _)]
structure Yr (K:a7)(mg:Str->Option a9):Prop where
 n_len:mg "len"=none
 m_ADD:kN mg "ADD" 8
 m_SUB:kN mg "SUB" 9
 m_MUL:kN mg "MUL" 10
 m_QUO:kN mg "QUO" 11
 m_LESS:kN mg "LESS" 13
 m_SAME:kN mg "SAME" 14
 m_PUSH:kN mg "PUSH" 15
 m_PUT:kN mg "PUT" 17
 m_SIZE:kN mg "SIZE" 18
 m_NEW:kN mg "NEW" 19
 m_GREAT:kN mg "GREAT" 10000000000000000000000000000000000000000000000000000000000000000000000000000000000000000000000000000
structure zAq (K:a7)(mg:Str->Option a9):Prop extends Yr K mg where
 m_NUMBER:kN mg "NUMBER" 0
theorem Rj (T:Yr K mg)(F:qZ K "within" "within" KP f fd):vX P w K mg base 1 f fd ["value"] JA:=by
 exists Tk;obtain⟨v,rfl,q⟩:=h;exists _,(zB (xC (PW.pt (qF (zT Fz (pv 0) (yK rfl T.m_GREAT) (zY _)) (kK (zT BR (pv 0) (HS Ff (yK rfl T.m_GREAT)) (zY _))))) (zI (zV (xM (wE (.str (.int .nil)))))) yD)
   (zI (zV (xM (zA qL (zA (pv 0) zC))))))
 refine#[-1,_,-1,rfl,-1,?_];have hit:v ≥ LQ\/v<= -LQ->wV v=[.str "great",.int 0]:=λc=>zP c;refine jB (λc=>?_) (λc=>?_)
 ·refine#[sm2,λt ht=>q _ _ ht ?_];rw[hit (.inl (yG c))]
 refine#[-2,_,-1,rfl,-1,?_];refine jB (λc2=>?_) (λc2=>?_)
 ·refine#[sm2,λt ht=>q _ _ ht ?_];rw[hit (.inr (yG c2))]
 ·refine#[-1,sm2,λt ht=>q _ _ ht ?_];have c1':=vM (Bool.eq_false_iff.mpr c);have c2':=vM (Bool.eq_false_iff.mpr c2);have:wV v=[.non,.int v]:=zO λz=>by rcases z with z|z;exact c1' z;exact c2' z
  rw[this]
theorem Pj (T:Yr K mg)(F:qZ K "reckoned" "reckoned" Ie f fd)(Cb8:kB P w K mg base 1 "within" ["value"] JA):vX P w K mg base 2 f fd ["kind","first","second"] QF:=by
 exists OM;obtain⟨k,a,b,rfl,ha,hb,q⟩:=h;exists _,(zB (xC (zT jD (pv 0) (yK rfl T.m_ADD) (zY _)) (zI (zV (zK Cb8 hr rfl (zA (xD jA (pv 1) (pv 2)) zC) zX))) yD)
   (zB (xC (zT jD (pv 0) (yK rfl T.m_SUB) (zY _)) (zI (zV (zK Cb8 hr rfl (zA (xD vW (pv 1) (pv 2)) zC) zX))) yD)
   (zB (xC (zT jD (pv 0) (yK rfl T.m_MUL) (zY _)) (zI (zV (zK Cb8 hr rfl (zA (xD XF (pv 1) (pv 2)) zC) zX))) yD)
   (zB (xC (zT jD (pv 0) (yK rfl T.m_LESS) (zY _)) (zI (zV (xM (zA qL (zA (IQ (zT wR (pv 1) (pv 2) (zY _)) zH zH) zC))))) yD)
   (zB (xC (zT jD (pv 0) (yK rfl T.m_SAME) (zY _)) (zI (zV (xM (zA qL (zA (IQ (zT jD (pv 1) (pv 2) (zY _)) zH zH) zC))))) yD)
   (zB (xC (zT jD (pv 2) zH (zY _)) (zI (zV (xM (wE (.str (.int .nil)))))) yD)
   (zB (xC (zT jD (pv 0) (yK rfl T.m_QUO) (zY _)) (zI (zV (xM (zA qL (zA (xD Lj (pv 1) (pv 2)) zC))))) yD)
   (zI (zV (xM (zA qL (zA (xD XG (pv 1) (pv 2)) zC))))))))))))
 refine#[-1,rfl,-1,?_];refine jB (λc8=>?_) (λc8=>?_)
 ·have e:=vt c8;subst e;exact#[-2,_,-1,rfl,-1,λp H' hp e=>q p H' hp e]
 have e8:=vf c8;refine#[-1,rfl,-1,?_];refine jB (λc9=>?_) (λc9=>?_)
 ·have e:=vt c9;subst e;exact#[-2,_,-1,rfl,-1,λp H' hp e=>q p H' hp e]
 have e9:=vf c9;refine#[-1,rfl,-1,?_];refine jB (λc10=>?_) (λc10=>?_)
 ·have e:=vt c10;subst e;exact#[-2,_,-1,rfl,#[ha,hb],-1,λp H' hp e=>q p H' hp e]
 have e10:=vf c10;refine#[-1,rfl,-1,?_];refine jB (λc13=>?_) (λc13=>?_)
 ·have e:=vt c13;subst e;refine#[-2,_,-1,rfl,-1,?_];refine jB (λcl=>?_) (λcl=>?_)
  ·refine#[sm2,λt ht=>q _ _ ht ?_];have:Gx 13 a b=[.non,.int (if a<b then 1 else 0)]:=rfl;rw[this,zP (yG cl)]
  ·refine#[sm2,λt ht=>q _ _ ht ?_];have:Gx 13 a b=[.non,.int (if a<b then 1 else 0)]:=rfl;rw[this,zO (vM (Bool.eq_false_iff.mpr cl))]
 have e13:=vf c13;refine#[-1,rfl,-1,?_];refine jB (λc14=>?_) (λc14=>?_)
 ·have e:=vt c14;subst e;refine#[-2,rfl,-1,?_];refine jB (λcl=>?_) (λcl=>?_)
  ·refine#[sm2,λt ht=>q _ _ ht ?_];have:Gx 14 a b=[.non,.int (if a=b then 1 else 0)]:=rfl;rw[this,zP (vt cl)]
  ·refine#[sm2,λt ht=>q _ _ ht ?_];have:Gx 14 a b=[.non,.int (if a=b then 1 else 0)]:=rfl;rw[this,zO (vf cl)]
 have e14:=vf c14;have rest:Gx k a b=if b=0 then[.str "zero",.int 0]else if k=11 then[.non,.int (a.fdiv b)]else[.non,.int (a.fmod b)]:=by
  unfold Gx;rw[zO e8,zO e9,zO e10,zO e13,zO e14]
 refine#[-1,rfl,-1,?_];refine jB (λc0=>?_) (λc0=>?_)
 ·refine#[sm2,λt ht=>q _ _ ht ?_];rw[rest,zP (vt c0)]
 have e0:=vf c0;rw[zO e0]at rest;refine#[-1,rfl,-1,?_];refine jB (λc11=>?_) (λc11=>?_)
 ·refine#[-2,_,-1,rfl,#[e0,hb],sm2,λt ht=>q _ _ ht ?_];rw[rest,zP (vt c11)]
 ·refine#[-2,_,-1,rfl,e0,sm2,λt ht=>q _ _ ht ?_];rw[rest,zO (vf c11)]
def zBr:Sp:=λ_ _ _ _=>False
inductive Nh (vs:List V) (H:Hp) (Q:VK) (E:XK):Prop
 |mk (k a b:Int) (vp rp:i3) (h0:vs=[.int k,.ref vp,.ref rp]) (h1:H vp=some (.lst [.int a,.int b])) (h2:8<=k) (h3:k<=14) (h4:a.natAbs<2^2000) (h5:b.natAbs<2^2000) (h6: ∀p H',H p=none->H'=upd H p (.tup (Gx k a b))->Q (.ref p) H'):Nh vs H Q E
theorem Vw (T:Yr K mg)(F:qZ K "worth" "worth" NH f fd)(Cc2:kB P w K mg base 1 "done_to_row" ["kind","values","rows"] zBr)(Ce3:kB P w K mg base 2 "reckoned" ["kind","first","second"] QF):vX P w K mg base 3 f fd ["kind","values","rows"] Nh:=by
 exists UU;obtain⟨k,a,b,vp,rp,rfl,hv,k8,k14,ha,hb,q⟩:=h;exists _,(zB (xC (zT jD (pv 0) (yK rfl T.m_NEW) (zY _)) (zB (jM (uQ yF yM yL jQ (pv 2) (zA (kU zC) zC)))
   (zI (zV (xM (zA qL (zA (xD vW (xF yX rfl T.n_len jY (zA (pv 2) zC)) zH) zC)))))) yD)
   (zB (xC (zT Fz (pv 0) (yK rfl T.m_PUSH) (zY _)) (zI (zV (zK Cc2 hr rfl (zA (pv 0) (zA (pv 1) (zA (pv 2) zC))) zX))) yD)
   (zI (zV (zK Ce3 hr rfl (zA (pv 0) (zA (yZ xQ (pv 1) zH (λ_ _=>rfl)) (zA (yZ xQ (pv 1) zH (λ_ _=>rfl)) zC))) zX)))))
 refine#[-1,rfl,-1,jB (λc=>absurd (vt c) ()) (λ_=>#[-1,_,-1,rfl,-1,jB (λc=>absurd (yG c) ()) (λ_=>?_)])];exact#[-2,vp,_,_,-1,rfl,kF.of hv,rfl,-1,vp,_,_,-1,rfl,kF.of hv,rfl,k,a,b,rfl,ha,hb,q]
theorem VH (d:Nat)(T:zAq K mg)(F:qZ K "fixed" "fixed" IK f fd)(Cc5:kB P w K mg base 3 "worth" ["kind","values","rows"] Nh)(Ca7:kB P w K mg base (3+d) "fixed" ["node"] (FW d)):vX P w K mg base (3+d+1) f fd ["node"] (FW (d+1)):=by
 exists Dt;obtain⟨v,t,rfl,ht,fx,q⟩:=h;cases t with
 |mk k own ps=>
 obtain⟨t,pl,o,qa,vs,rfl,e1,e2,e3,pr⟩:=ht;obtain⟨h0,h2,hp⟩:=fx;exists _,(zB (qH (pv 0) (kZ rfl (yE (yA 1 Dt.nd) (yE (yA 2 Dt.nd) (yE (yA 3 Dt.nd) (yE (yA 4 Dt.nd) jJ))))))
   (zB (xC (zT jD (pv 1) (yK rfl T.m_NUMBER) (zY _)) (zI (zV (yZ xL (pv 3) zH (λ_ _=>rfl)))) yD)
   (zB (xC (PW.pt (qF (zT wR (pv 1) (yK rfl T.m_ADD) (zY _)) (kK (zT Gz (pv 1) (yK rfl T.m_SAME) (zY _))))) (zI (zV qL)) yD)
   (zB (Gh (i:=5) Dt.nd rfl rfl (own:=["part"]) (ys:=[]) rfl (JL (pv 4)) (wU (sc:=zW IK) rfl (by decide+kernel)) .nil (λ_ _ _ _ _=>(yA 0 (show List.Nodup [("part":Str)]from(by decide+kernel)))) (λ_ _ _ _ _=>AT) (λ_ _ _ _ _=>(zK Ca7 hr rfl (zA (pv 0) zC) zX)))
   (zB (xC (zT Fy qL (pv 5) rfl) (zI (zV qL)) yD)
   (zB (qH (zK Cc5 hr rfl (zA (pv 1) (zA (pv 5) (zA (kU zC) zC))) zX) (kZ rfl (yE (yA 6 Dt.nd) (yE (yA 7 Dt.nd) jJ))))
   (zI (zV (IQ (zT Gk (pv 6) qL (zY _)) (pv 7) qL)))))))))
 refine#[-1,t,-1,uZ.of e1,rfl,_,-1,_,-1,_,-1,_,-1,rfl,?_];refine#[-1,rfl,-1,jB (λc=>?_) (λc=>?_)]
 ·have k0:=vt c;obtain⟨n,rfl,fn⟩:=h0 k0;have e:kP (.mk k [n] ps)=some n:=by unfold kP;rw[zP k0]<;>rfl
  rw[e]at q;exact#[-1,o,_,_,-1,rfl,uZ.of e2,rfl,q H (xK.refl H)]
 have k0:=vf c;have none8:k<8\/14<k->Q .non H:=λz=>by
  have e:kP (.mk k own ps)=none:=by unfold kP;rw[zO k0,zP z]
  rw[e]at q;exact q H (xK.refl H)
 refine#[-1,_,-1,rfl,-1,jB (λc=>jC (none8 (.inl (yG c)))) (λc=>?_)];have k8:=df c;refine#[-1,_,-1,rfl,-1,jB (λc=>none8 (.inr (yG c))) (λc=>?_)];have k14:=df c;have l2:=h2 () ();obtain⟨p1,p2,rfl⟩: ∃p1 p2,ps=[p1,p2]:=by
  match ps,l2 with
  |[a,b],_=>exact#[a,b,rfl]
 have eV:=Xf (own:=own) k0 () () p1 p2;have lv:vs.length=2:=Paired.len pr;refine#[-1,qa,rfl,#[_,uZ.of e3],λp hp'=>?_];refine LF (xs:=vs) (λi U' H'=> ∃x,U'=[x]/\xK H H'/\H' p=some (.lst ((([kP p1,kP p2].take i).map oZ)))) #[-1,zN hp' _,zE] ?_ ?_ ?_
 ·rintro i U' H' _ ⟨x,rfl,g,_⟩;exact xK.seqT g (uZ.of e3)
 ·rintro i x U' H' hi hx ⟨y,rfl,g,ez⟩;obtain⟨tx,hg,tt⟩:=Paired.yonder pr hx;have fx:=hp tx (List.mem_iff_getElem?.mpr #[_,hg]);dsimp only[AC,Qz];refine jC #[-1,x,tx,rfl,Jl.tups (.same g) tt,fx,λH2 g2=>?_];have hv:[kP p1,kP p2][i]? =some (kP tx):=by
   match i,hg with
   |0,hg=>cases hg;rfl
   |1,hg=>cases hg;rfl
  refine#[_,g2 _ _ ez,Aq (by rw[zM];exact yU (List.length_take_le' ..) (show 2<=1000 by decide)),CW.next hi #[-1,(g.trans g2).fresh hp',?_]];rw[zE,vN,hv,xN]<;>rfl
 ·rintro U' H1 ⟨x,rfl,g1,ez⟩;rw[lv]at ez;have ez':H1 p=some (.lst [oZ (kP p1),oZ (kP p2)]):=ez;clear ez;have f1:=hp p1 (by simp);have f2:=hp p2 (by simp);rw[eV]at q;cases z1:kP p1 with
  |none=>
   rw[z1]at q ez';cases z2:kP p2 with
   |none=>
    rw[z2]at q ez';exact#[-1,p,-1,.inl (kF.of ez'),rfl,rfl,-1,jB (λ_=>q H1 g1) (λc=>absurd rfl c)]
   |some b=>
    rw[z2]at q ez';exact#[-1,p,-1,.inl (kF.of ez'),rfl,rfl,-1,jB (λ_=>q H1 g1) (λc=>absurd rfl c)]
  |some a=>
   rw[z1]at q ez';cases z2:kP p2 with
   |none=>
    rw[z2]at q ez';exact#[-1,p,-1,.inl (kF.of ez'),rfl,rfl,-1,jB (λ_=>q H1 g1) (λc=>absurd rfl c)]
   |some b=>
    rw[z2]at q ez';refine#[-1,p,-1,.inl (kF.of ez'),rfl,rfl,-1,jB (λc=>nomatch c) (λ_=>?_)];have fa:=Km d p1 a f1 z1;have fb:=Km d p2 b f2 z2;refine#[-2,zz0,λrp hrp=>?_];have s2:=zN hrp (.lst []);refine#[k,a,b,p,rp,rfl,s2 _ _ ez',(),(),fa.big,fb.big,λtp H3 htp e3=>?_];have g3:xK H H3:=by rw[e3];exact g1.trans (s2.trans (zN htp _))
    have told:H3 tp=some (.tup (Gx k a b)):=by rw[e3];exact zE
    have q3:=q H3 g3;clear q
    rcases Xs k a b with⟨v,er,ev⟩|⟨er,z,ev⟩
    ·rw[ev]at told;refine#[tp,-1,uZ.of told,rfl,_,-1,_,-1,rfl,?_];have q4:Q (oZ (rk k a b)) H3:=q3;rw[er]at q4;exact#[-1,rfl,-1,jB (λ_=>#[-1,q4]) (λc=>absurd rfl c)]
    ·rw[ev]at told;refine#[tp,-1,uZ.of told,rfl,_,-1,_,-1,rfl,?_];have q4:Q (oZ (rk k a b)) H3:=q3;rw[er]at q4;exact#[-1,rfl,-1,jB (λc=>nomatch c) (λ_=>q4)]
theorem TL (T:zAq K mg)(F:qZ K "fixed" "fixed" IK f fd)(Cc5:kB P w K mg base 3 "worth" ["kind","values","rows"] Nh)(hm:mg "fixed"=some (.ref f))(hk:PySem.W.keepIn K (.ref f)=true)(hb:uR K fd ["node"] []):
  ∀d,vX P w K mg base (3+d) f fd ["node"] (FW d):=by
 intro d
 induction d with
 |zero=>exact Ky λvs H Q E h=>by obtain⟨v,t,_,z,_⟩:=h;exact z.elim
 |succ d ih=>exact VH d T F Cc5 #[#[_,_,ih,hm,hk,hb]]
theorem Mb (T:CV K mg CK)(F:qZ K "own_row_at" "own_row_at" Gb f fd)(Cc:kB P w K mg base 1 "begin_of" ["check","node"] (Av CK (·.1)))(Ce:kB P w K mg base 1 "end_of" ["check","node"] (Av CK (·.2)))(Cj:kB P w K mg base 2 "meet" ["check","first","second"] (Eg CK)):vX P w K mg base 3 f fd ["check","node"] (Nl CK):=by
 exists Dh;obtain⟨c,dx,r,l,d,q0,rs,L,R,tn,k,p,x,pt,m6,be,o6,rfl,C,et,ept,hp,pp,q⟩:=h;exists _,(zB (yP 2 Dh.nd (zK Cc hr rfl (zA (pv 0) (zA (pv 1) zC)) zX))
   (zB (wD xE rfl (JL (yZ xL (pv 1) zH (λ_ _=>rfl))) (yA 3 Dh.nd) (zB (xC (qK (kT (zK Cj hr rfl (zA (pv 0) (zA (pv 2) (zA (zK Cc hr rfl (zA (pv 0) (zA (pv 3) zC)) zX) zC))) zX))) (zI (zV qL)) yD)
   (zI (yP 2 Dh.nd (zK Ce hr rfl (zA (pv 0) (zA (pv 3) zC)) zX)))))
   (zI (zV (pv 2)))))
 have lp:=Paired.len pp;refine#[-2,c,dx,r,l,d,q0,rs,L,R,tn,k,p,x,_,be,rfl,C,et,hp,?_];refine#[-1,tn,_,_,-1,rfl,.of et,rfl,pt,rfl,#[m6,.of ept],Kx (xs:=m6) (λi U' H'=>H'=H/\ ∃(b:Nat) (v3:i4 V),U'=[some (.ref c),some (.ref tn),some (.int (b:Nat)),v3]/\AJ rs be.1 o6=AJ rs b (o6.drop i)) #[rfl,be.1,none,rfl,rfl] ?_ ?_ ?_]
 ·rintro i U' H' _ ⟨rfl,_⟩;exact .of ept
 ·rintro i v U' H' hv ⟨rfl,b,v3,rfl,e⟩;obtain⟨bi,hb,t,k',p',x',y',rfl,ett,hL⟩:=Paired.yonder pp hv;have dr:o6.drop i=bi::o6.drop (i+1):=by
   have hi:=(List.getElem?_eq_some_iff.mp hb).1;rw[yR hi];rw[zF hi]at hb;cases hb;rfl
  rw[dr]at e;have e:AJ rs be.1 o6=if xO rs (some b) (some bi.1)=true then AJ rs bi.2 (o6.drop (i+1))else none:=e;refine#[-4,c,dx,r,l,d,q0,rs,L,R,t,k',p',x',y',bi,rfl,C,ett,hL,?_];refine#[c,dx,r,l,d,q0,rs,L,R,some b,some bi.1,rfl,C,-1,?_];cases m:xO rs (some b) (some bi.1)with
  |false=>
   rw[m,zO (by decide)]at e;rw[e]at q;exact jC q
  |true=>
   rw[m,zP rfl]at e;refine xX ?_;exact#[-2,c,dx,r,l,d,q0,rs,L,R,t,k',p',x',y',bi,rfl,C,ett,hL,rfl,bi.2,-1,e]
 ·rintro U' H' ⟨rfl,b,v3,rfl,e⟩;rw[lp,vI]at e;rw[e]at q;exact#[-1,q]
theorem NZ (e:Nat)(T:CV K mg CK)(F:qZ K "is_pushed" "is_pushed" GV f fd)(Ca7:kB P w K mg base (3+e) "fixed" ["node"] (FW e))(Cc:kB P w K mg base 1 "begin_of" ["check","node"] (Av CK (·.1)))(Ce:kB P w K mg base 1 "end_of" ["check","node"] (Av CK (·.2)))(Ci:kB P w K mg base 2 "behind" ["check","at","row"] (Dp CK))(Cj:kB P w K mg base 2 "meet" ["check","first","second"] (Eg CK)):vX P w K mg base (3+e+1) f fd ["check","node"] (KF CK e):=by
 exists IG;obtain⟨c,dx,r,l,d,q0,rs,L,R,tn,k,p,x,y,t,be,rfl,C,et,tr,fx,hp,q⟩:=h;exists _,(zB (yP 2 IG.nd (zK Ca7 hr rfl (zA (pv 1) zC) zX))
   (zB (xC (zT Gk (pv 2) qL (zY _)) (zI (zV kX)) yD)
   (zI (zV (zK Cj hr rfl (zA (pv 0) (zA (zK Ci hr rfl (zA (pv 0) (zA (zK Cc hr rfl (zA (pv 0) (zA (pv 1) zC)) zX) (zA (xM (zA (yK rfl T.m_OP_PUSH) (zA (pv 2) zC))) zC))) zX) (zA (zK Ce hr rfl (zA (pv 0) (zA (pv 1) zC)) zX) zC))) zX)))))
 refine#[-1,_,t,rfl,tr,fx,λH1 s1=>?_];have C1:=C.same s1;have et1:=s1 _ _ et;cases e1:kP t with
 |none=>
  rw[e1]at q;exact#[-1,rfl,-1,jC (q H1 s1)]
 |some n=>
  rw[e1]at q;refine#[-1,rfl,-1,xX ?_];refine#[-4,c,dx,r,l,d,q0,rs,L,R,tn,k,p,x,y,be,rfl,C1,et1,hp,?_];refine#[-1,sm2,λt2 h2=>?_];have s2:=zN h2 (.tup [.int 0,.int n]);refine#[c,dx,r,l,d,q0,rs,L,R,some be.1,t2,0,some n,rfl,C1.same s2,zE,?_];refine#[-2,c,dx,r,l,d,q0,rs,L,R,tn,k,p,x,y,be,rfl,C1.same s2,s2 _ _ et1,hp,?_];exact#[c,dx,r,l,d,q0,rs,L,R,_,some be.2,rfl,C1.same s2,q _ (s1.trans s2)]
theorem Ty (T:CV K mg CK)(F:qZ K "picked" "picked" KQ f fd):vX P w K mg base 1 f fd ["value","parts"] KG:=by
 exists Mx;obtain⟨v,pt,m6,x,rfl,ept,h0,hx,q⟩:=h;exists _,(zB (yP 2 Mx.nd (xD vW (xF yX rfl T.n_len jY (zA (pv 1) zC)) zH))
   (zB (xC (PW.pt (qF (zT wR (pv 0) zH (zY _)) (kK (zT Fz (pv 0) (pv 2) (zY _))))) (zI (zV (yZ xL (pv 1) (pv 2) (λ_ _=>rfl)))) yD)
   (zI (zV (yZ xL (pv 1) (xD jA zH (pv 0)) (λ_ _=>rfl))))))
 refine#[-1,pt,-1,.inr (.of ept),_,-1,rfl,?_];have last:v<0\/v ≥ (m6.length:Int)-1->Gv m6 ((m6.length:Int)-1)=some x:=λz=>by
  have e:Pd v m6.length=m6.length-1:=by unfold Pd;rw[zP z]
  rw[e]at hx;rw[show(m6.length:Int)-1=((m6.length-1:Nat):Int)by lia];exact kG hx
 refine#[-1,_,-1,rfl,-1,jB (λc=>jC ?_) (λc=>?_)]
 ·exact#[-2,pt,_,_,-1,rfl,.of ept,last (.inl (yG c)),q]
 have c1:=df c;refine#[-2,_,-1,rfl,-1,jB (λc=>?_) (λc=>?_)]
 ·exact#[-2,pt,_,_,-1,rfl,.of ept,last (.inr (yG c)),q]
 have c2:=df c;have e:Pd v m6.length=1+v.toNat:=by unfold Pd;rw[zO ()]
 rw[e]at hx;refine#[-2,_,-1,rfl,pt,_,_,-1,rfl,.of ept,?_,q];show Gv m6 (1+v)=some x;rw[show(1:Int)+v=((1+v.toNat:Nat):Int)by lia];exact kG hx
theorem VN (e:Nat)(T:CV K mg CK)(F:qZ K "is_picked_ahead" "is_picked_ahead" BK f fd)(Ca7:kB P w K mg base (3+e) "fixed" ["node"] (FW e))(Cf0:kB P w K mg base 1 "picked" ["value","parts"] KG)(Cr:kB P w K mg base 3 "begins_alike" ["check","node","part"] (BI CK (·.1)))(Ct:kB P w K mg base 3 "ends_alike" ["check","node","part"] (BI CK (·.2))):vX P w K mg base (3+e+1) f fd ["check","node"] (KL CK e):=by
 exists Bz;obtain⟨c,dx,r,l,d,q0,rs,L,R,tn,k,p,x,pt,m6,is,v0,t0,be,rfl,C,et,ept,hp,pp,h0,tr,fx,q⟩:=h;exists _,(zB (yP 2 Bz.nd (zK Ca7 hr rfl (zA (yZ xL (yZ xL (pv 1) zH (λ_ _=>rfl)) zH (λ_ _=>rfl)) zC) zX))
   (zB (xC (zT Gk (pv 2) qL (zY _)) (zI (zV kX)) yD)
   (zB (yP 3 Bz.nd (zK Cf0 hr rfl (zA (pv 2) (zA (yZ xL (pv 1) zH (λ_ _=>rfl)) zC)) zX))
   (zI (zV (Af (AV (Bc hr) (jL (pv 0) rfl) (yZ xL (pv 3) zH (λ_ _=>rfl)) (λ_ _=>rfl)) (Af (zK Cr hr rfl (zA (pv 0) (zA (pv 1) (zA (pv 3) zC))) zX) (BP (zK Ct hr rfl (zA (pv 0) (zA (pv 1) (zA (pv 3) zC))) zX)))))))))
 have lp:=Paired.len pp;have l0:0<m6.length:=(List.getElem?_eq_some_iff.mp h0).1;refine#[-1,tn,_,_,-1,rfl,.of et,rfl,pt,_,_,-1,rfl,.of ept,kG (j:=0) h0,v0,t0,rfl,tr,fx,λH1 s1=>?_];have C1:=C.same s1;have et1:=s1 _ _ et;have ept1:=s1 _ _ ept;cases e1:kP t0 with
 |none=>
  rw[e1]at q;exact#[-1,rfl,-1,jC (q H1 s1)]
 |some n=>
  rw[e1]at q;refine#[-1,rfl,-1,xX ?_];have o5:=Vl (v:=n) l0;have hx:m6[Pd n m6.length]? =some m6[Pd n m6.length]:=zF o5;obtain⟨⟨b,be'⟩,hi,t,k',p',x',y',ev,ett,hR,hL⟩:=Paired.yonder pp hx;refine#[-2,tn,_,_,-1,rfl,.of et1,rfl,n,pt,m6,-1,ept1,l0,hx,?_];rw[ev];have ea:RL rs be is (some n)=(b&&(xO rs (some be'.1) (some be.1)&&xO rs (some be'.2) (some be.2))):=by
   rw[lp]at hi;show(match is[Pd n is.length]? with|some i=>i.1&&(xO rs (some i.2.1) (some be.1)&&xO rs (some i.2.2) (some be.2))|none=>false)=_;rw[hi]
  rw[ea]at q;have ett1:=s1 _ _ ett;refine#[-1,c,CK,dx,_,-1,C1.ob,T.ck,T.cright,rfl,-1,t,_,_,-1,rfl,.of ett1,rfl,q0,-1,C1.rt hR,b,rfl,?_];cases b with
  |false=>exact xX (q H1 s1)
  |true=>
   refine jC ?_;have hL:=hL rfl;refine#[-3,c,dx,r,l,d,q0,rs,L,R,tn,t,k,p,k',p',x,_,x',y',be,be',rfl,C1,et1,hp,ett1,hL,-1,?_];cases m:xO rs (some be'.1) (some be.1)with
   |false=>
    rw[m]at q;exact xX (q H1 s1)
   |true=>
    rw[m]at q;refine jC ?_;exact#[-3,c,dx,r,l,d,q0,rs,L,R,tn,t,k,p,k',p',x,_,x',y',be,be',rfl,C1,et1,hp,ett1,hL,q H1 s1]
inductive Nt (C:i3) (vs:List V) (H:Hp) (Q:VK) (E:XK):Prop
 |mk (c dx r l d q:i3) (rs:vS) (L:Int->Option (Nat×Nat)) (R:Int->Option i7) (tn:i3) (k p:Int) (o pt:i3) (own:List Int) (m6:List V) (hs:DJ) (bx:Int) (be:Nat×Nat) (o6:List (Nat×Nat)) (h0:vs=[.ref c,.ref tn]) (h1:Iy C H c dx r l d q rs L R) (h2:H tn=some (.tup [.int k,.int p,.ref o,.ref pt])) (h3:H o=some (.tup (own.map V.int))) (h4:H pt=some (.tup m6)) (h5:EA hs bx k own) (h6:k≠3) (h7:k≠4) (h8:k≠5) (h9:L p=some be) (h10:Paired (LnP H L) m6 o6) (h11: ∀H',xK H H'->Q (.bl (IS rs be o6 k (Er k own))) H'):Nt C vs H Q E
theorem Vv (k:Int)(own:a6 Int): ∃a b,Er k own=[a,b]:=by
 unfold Er;split
 ·exact#[_,-1]
 ·split
  ·exact#[_,-1]
  ·split
   ·exact#[_,-1]
   ·exact#[_,-1]
theorem TR (T:CV K mg CK)(F:qZ K "is_right_by_own_row" "is_right_by_own_row" Aw f fd)(Cc9:kB P w K mg base 3 "own_row_at" ["check","node"] (Nl CK))(Cw:kB P w K mg base 1 "own_row" ["kind","numbers"] GJ)(Ci:kB P w K mg base 2 "behind" ["check","at","row"] (Dp CK))(Ce:kB P w K mg base 1 "end_of" ["check","node"] (Av CK (·.2)))(Cj:kB P w K mg base 2 "meet" ["check","first","second"] (Eg CK)):vX P w K mg base 4 f fd ["check","node"] (Nt CK):=by
 exists qG;obtain⟨c,dx,r,l,d,q0,rs,L,R,tn,k,p,o,pt,own,m6,hs,bx,be,o6,rfl,C,et,eo,ept,of,n3,n4,n5,hp,pp,q⟩:=h;exists _,(zB (qH (pv 1) (kZ rfl (yE (yA 2 qG.nd) (yE (yA 3 qG.nd) (yE (yA 4 qG.nd) (yE (yA 5 qG.nd) jJ))))))
   (zB (yP 6 qG.nd (zK Ci hr rfl (zA (pv 0) (zA (zK Cc9 hr rfl (zA (pv 0) (zA (pv 1) zC)) zX) (zA (zK Cw hr rfl (zA (pv 2) (zA (pv 4) zC)) zX) zC))) zX))
   (zB (xC (zT jD (pv 2) (yK rfl T.m_FAIL) (zY _)) (zI (zV (uC HG (pv 6) qL (zY _)))) yD)
   (zI (zV (zK Cj hr rfl (zA (pv 0) (zA (pv 6) (zA (zK Ce hr rfl (zA (pv 0) (zA (pv 1) zC)) zX) zC))) zX))))))
 obtain⟨ra,rb,er⟩:=Vv k own;refine#[-1,tn,-1,.of et,rfl,_,-1,_,-1,_,-1,_,-1,rfl,?_];refine#[-3,c,dx,r,l,d,q0,rs,L,R,tn,k,p,_,pt,m6,be,o6,rfl,C,et,ept,hp,pp,?_];refine#[-2,k,o,own,hs,bx,rfl,eo,of,n3,n4,n5,λt2 h2=>?_];rw[er];have s2:=zN h2 (.tup ([ra,rb].map V.int));refine#[c,dx,r,l,d,q0,rs,L,R,_,t2,ra,some rb,rfl,C.same s2,zE,?_];have em:IS rs be o6 k (Er k own)=if k=7 then(kR rs (AJ rs be.1 o6) ra rb).isSome else xO rs (kR rs (AJ rs be.1 o6) ra rb) (some be.2):=by rw[er];rfl
 rw[em]at q;refine#[-1,rfl,-1,jB (λc1=>?_) (λc1=>?_)]
 ·have k7:=vt c1;have q:=q _ s2;rw[zP k7]at q;refine#[-1,rfl,?_];show Q (.bl (!decide (oI (kR rs (AJ rs be.1 o6) ra rb)=.non))) _;have e2:(!decide (oI (kR rs (AJ rs be.1 o6) ra rb)=.non))=(kR rs (AJ rs be.1 o6) ra rb).isSome:=by
   cases kR rs (AJ rs be.1 o6) ra rb<;>rfl
  rw[e2];exact q
 ·have k7:=vf c1;have q:=q _ s2;rw[zO k7]at q;refine#[-4,c,dx,r,l,d,q0,rs,L,R,tn,k,p,_,_,be,rfl,C.same s2,s2 _ _ et,hp,?_];exact#[c,dx,r,l,d,q0,rs,L,R,_,some be.2,rfl,C.same s2,q]
noncomputable def Uz (rs:vS):a6 (Nat×Nat)->i7
 |[]=>true
 |a::r=>match r with
  |[]=>true
  |b::_=>xO rs (kR rs (some a.2) 3 0) (some b.1)&&Uz rs r
noncomputable def WR (rs:vS)(be:Nat×Nat)(o6:a6 (Nat×Nat)):i7:=
 Uz rs o6&&match o6.head?,o6.getLast? with
  |some a,some z=>xO rs (some a.1) (some be.1)&&xO rs (some z.2) (some be.2)
  |_,_=>false
inductive HX (C:i3) (vs:List V) (H:Hp) (Q:VK) (E:XK):Prop
 |mk (c dx r l d q:i3) (rs:vS) (L:Int->Option (Nat×Nat)) (R:Int->Option i7) (tn:i3) (k p:Int) (x:V) (pt:i3) (m6:List V) (be:Nat×Nat) (o6:List (Nat×Nat)) (h0:vs=[.ref c,.ref tn]) (h1:Iy C H c dx r l d q rs L R) (h2:H tn=some (.tup [.int k,.int p,x,.ref pt])) (h3:H pt=some (.tup m6)) (h4:0<m6.length) (h5:L p=some be) (h6:Paired (LnP H L) m6 o6) (h7: ∀H',xK H H'->Q (.bl (WR rs be o6)) H'):HX C vs H Q E
theorem LnP.same (s:xK H H'):LnP H L v be->LnP H' L v be:=fun⟨t,k,p,x,y,e,h,z⟩=>#[t,k,p,x,y,e,s _ _ h,z]
theorem Kc:Gv (y::yr) 0=some y:=kG (xs:=y::yr) (j:=0) rfl
theorem Qo (h:0<xs.length):Gv xs (-1)=xs[xs.length-1]?:=by
 unfold Gv SJ;rw[zO (by decide)];split
 ·show xs[((xs.length:Int)+ -1).toNat]? =_;rw[show((xs.length:Int)+ -1).toNat =xs.length-1 by lia]
 ·lia
theorem NV (T:CV K mg CK)(F:qZ K "is_right_all" "is_right_all" En f fd)(Cc:kB P w K mg base 1 "begin_of" ["check","node"] (Av CK (·.1)))(Ce:kB P w K mg base 1 "end_of" ["check","node"] (Av CK (·.2)))(Ci:kB P w K mg base 2 "behind" ["check","at","row"] (Dp CK))(Cj:kB P w K mg base 2 "meet" ["check","first","second"] (Eg CK))(Cr:kB P w K mg base 3 "begins_alike" ["check","node","part"] (BI CK (·.1)))(Ct:kB P w K mg base 3 "ends_alike" ["check","node","part"] (BI CK (·.2))):vX P w K mg base 4 f fd ["check","node"] (HX CK):=by
 exists Bs;obtain⟨c,dx,r,l,d,q0,rs,L,R,tn,k,p,x,pt,m6,be,o6,rfl,C,et,ept,l0,hp,pp,q⟩:=h;exists _,(zB (yP 2 Bs.nd (yZ xL (pv 1) zH (λ_ _=>rfl)))
   (zB (wD xE rfl (Vo true true rfl T.n_zip (zA (pv 2) (zA (qW GM (pv 2) (wH zH) vQ) zC))) (kZ rfl (yE (yA 3 Bs.nd) (yE (yA 4 Bs.nd) jJ))) (zI (xC (qK (kT (zK Cj hr rfl (zA (pv 0) (zA (zK Ci hr rfl (zA (pv 0) (zA (zK Ce hr rfl (zA (pv 0) (zA (pv 3) zC)) zX) (zA (xM (zA (yK rfl T.m_OP_DROP) (zA zH zC))) zC))) zX) (zA (zK Cc hr rfl (zA (pv 0) (zA (pv 4) zC)) zX) zC))) zX))) (zI (zV kX)) yD)))
   (zI (zV (Af (zK Cr hr rfl (zA (pv 0) (zA (pv 1) (zA (yZ xL (pv 2) zH (λ_ _=>rfl)) zC))) zX) (BP (zK Ct hr rfl (zA (pv 0) (zA (pv 1) (zA (yZ xL (pv 2) (HS Ff zH) (λ_ _=>rfl)) zC))) zX)))))))
 have lp:=Paired.len pp;obtain⟨u,us,rfl⟩: ∃u us,m6=u::us:=by
  cases m6 with
  |nil=>cases l0
  |cons u us=>exact#[u,us,rfl]
 refine#[-1,tn,_,_,-1,rfl,.of et,rfl,?_];refine#[-3,pt,-1,.of ept,?_,λcx hcx=>?_]
 ·rintro⟨z,_⟩;have:HT.sIx (u::us).length 0 (some (1:Int))=min 1 (u::us).length:=HT.sIx_nat _ _ 1;rw[this,zJ]at z;lia
 have ec:Bg (u::us) (some (1:Int)) none=us:=AZ 1;rw[ec];have s1:=zN hcx (.tup us);have ecx:upd H cx (.tup us) cx=some (.tup us):=zE;generalize upd H cx (.tup us)=H1 at *
 refine#[pt,cx,u::us,us,rfl,uZ.of (s1 _ _ ept),uZ.of ecx,WA (xs:=u::us) (ys:=us) (λi U' H'=>xK H1 H'/\ ∃v3 v4,U'=[some (.ref c),some (.ref tn),some (.ref pt),v3,v4]/\Uz rs o6=Uz rs (o6.drop i)) #[xK.refl _,_,-1,rfl] (by rw[zJ];lia) ?_ ?_ ?_]
 ·rintro i U' H' _ ⟨z,_⟩;exact#[uZ.of ((s1.trans z) _ _ ept),uZ.of (z _ _ ecx)]
 ·rintro i v v' U' H2 t hv hv' ⟨z,v3,v4,rfl,e⟩ ht;have hv2:(u::us)[i+1]? =some v':=hv';obtain⟨b1,hb1,t1,k1,p1,x1,y1,rfl,et1,hL1⟩:=Paired.yonder pp hv;obtain⟨b2,hb2,t2,k2,p2,x2,y2,rfl,et2,hL2⟩:=Paired.yonder pp hv2;have zt:=zN ht (.tup [.ref t1,.ref t2]);have g:=s1.trans (z.trans zt);have C3:=C.same g;have dr:o6.drop i=b1::b2::o6.drop (i+2):=by
   have h1:=(List.getElem?_eq_some_iff.mp hb1).1;have h2:=(List.getElem?_eq_some_iff.mp hb2).1;rw[yR h1,yR h2];rw[zF h1]at hb1;rw[zF h2]at hb2;cases hb1;cases hb2;rfl
  have dr2:o6.drop (i+1)=b2::o6.drop (i+2):=by
   have h2:=(List.getElem?_eq_some_iff.mp hb2).1;rw[yR h2];rw[zF h2]at hb2;cases hb2;rfl
  have e2:Uz rs o6=(xO rs (kR rs (some b1.2) 3 0) (some b2.1)&&Uz rs (o6.drop (i+1))):=by rw[e,dr,dr2];rfl
  refine#[t,-1,.of zE,rfl,_,-1,_,-1,rfl,?_];refine#[-4,c,dx,r,l,d,q0,rs,L,R,t1,k1,p1,x1,y1,b1,rfl,C3,g _ _ et1,hL1,?_];refine#[sm2,λt5 h5=>?_];have s5:=zN h5 (.tup [.int 3,.int 0]);refine#[c,dx,r,l,d,q0,rs,L,R,some b1.2,t5,3,some 0,rfl,C3.same s5,zE,?_];refine#[-2,c,dx,r,l,d,q0,rs,L,R,t2,k2,p2,x2,y2,b2,rfl,C3.same s5,(g.trans s5) _ _ et2,hL2,?_];refine#[c,dx,r,l,d,q0,rs,L,R,kR rs (some b1.2) 3 0,some b2.1,rfl,C3.same s5,-1,?_];cases m:xO rs (kR rs (some b1.2) 3 0) (some b2.1)with
  |false=>
   have ea:WR rs be o6=false:=by unfold WR;rw[e2,m];rfl
   rw[ea]at q;exact jC (q _ (g.trans s5))
  |true=>
   rw[m,yY]at e2;exact xX #[z.trans (zt.trans s5),_,-1,e2]
 ·rintro U' H2 ⟨z,v3,v4,rfl,e⟩;have g:=s1.trans z;have C2:=C.same g;obtain⟨b0,hb0,t0,k0,p0,x0,y0,eu,et0,hL0⟩:=Paired.yonder pp (show(u::us)[0]? =some u from rfl);have ll:us.length<(u::us).length:=by rw[zJ];lia
  obtain⟨bz,hbz,tz,kz,pz,xz,yz,ez,etz,hLz⟩:=Paired.yonder pp (zF ll);have lb:o6.length=us.length+1:=by rw[<-lp,zJ]
  have e1:Uz rs o6=true:=by
   rw[e,yR (),List.drop_eq_nil_of_le ()];rfl
  have eh:o6.head?=some b0:=by rw[List.head?_eq_getElem?];exact hb0
  have el:o6.getLast?=some bz:=by rw[List.getLast?_eq_getElem?,lb];exact hbz
  have ea:WR rs be o6=(xO rs (some b0.1) (some be.1)&&xO rs (some bz.2) (some be.2)):=by
   unfold WR;rw[e1,eh,el,yY]
  rw[ea]at q;subst eu;refine#[-3,pt,_,_,-1,rfl,.of (g _ _ ept),Kc,c,dx,r,l,d,q0,rs,L,R,tn,t0,k,p,k0,p0,x,_,x0,y0,be,b0,rfl,C2,g _ _ et,hp,g _ _ et0,hL0,-1,?_];cases m:xO rs (some b0.1) (some be.1)with
  |false=>
   rw[m]at q;exact xX (q _ g)
  |true=>
   rw[m]at q;refine jC ?_;have al:Gv (V.ref t0::us) (-1)=some (.ref tz):=by
    have:=Qo (xs:=V.ref t0::us) (by rw[zJ];lia);rw[this];rw[show(V.ref t0::us).length -1=us.length from rfl,zF ll,ez]
   exact#[-4,pt,_,_,-1,rfl,.of (g _ _ ept),al,c,dx,r,l,d,q0,rs,L,R,tn,tz,k,p,kz,pz,x,_,xz,yz,be,bz,rfl,C2,g _ _ et,hp,g _ _ etz,hLz,q _ g]
noncomputable def Gy (rs:vS)(be:Nat×Nat)(en:Nat):a6 (Nat×Nat)->i7
 |[]=>true
 |b::r=>xO rs (some en) (some b.1)&&(xO rs (some b.2) (some be.2)&&Gy rs be (en+1) r)
noncomputable def Uy (rs:vS)(be b0:Nat×Nat)(bs:a6 (Nat×Nat)):i7:=match kR rs (some b0.2) 11 (bs.length:Int)with
 |none=>false
 |some en=>xO rs (some b0.1) (some be.1)&&Gy rs be en bs
inductive GH (C:i3) (vs:List V) (H:Hp) (Q:VK) (E:XK):Prop
 |mk (c dx r l d q:i3) (rs:vS) (L:Int->Option (Nat×Nat)) (R:Int->Option i7) (tn:i3) (k p:Int) (x:V) (pt:i3) (v0:V) (m6:List V) (be b0:Nat×Nat) (bs:List (Nat×Nat)) (h0:vs=[.ref c,.ref tn]) (h1:Iy C H c dx r l d q rs L R) (h2:H tn=some (.tup [.int k,.int p,x,.ref pt])) (h3:H pt=some (.tup (v0::m6))) (h4:L p=some be) (h5:LnP H L v0 b0) (h6:Paired (LnP H L) m6 bs) (h7: ∀H',xK H H'->Q (.bl (Uy rs be b0 bs)) H'):GH C vs H Q E
theorem LZ (T:CV K mg CK)(F:qZ K "is_right_pick" "is_right_pick" DF f fd)(Cc:kB P w K mg base 1 "begin_of" ["check","node"] (Av CK (·.1)))(Ce:kB P w K mg base 1 "end_of" ["check","node"] (Av CK (·.2)))(Ci:kB P w K mg base 2 "behind" ["check","at","row"] (Dp CK))(Cj:kB P w K mg base 2 "meet" ["check","first","second"] (Eg CK))(Cr:kB P w K mg base 3 "begins_alike" ["check","node","part"] (BI CK (·.1)))(Ct:kB P w K mg base 3 "ends_alike" ["check","node","part"] (BI CK (·.2))):vX P w K mg base 4 f fd ["check","node"] (GH CK):=by
 exists vG;obtain⟨c,dx,r,l,d,q0,rs,L,R,tn,k,p,x,pt,v0,m6,be,b0,bs,rfl,C,et,ept,hp,⟨t0,k0,p0,x0,y0,rfl,et0,hL0⟩,pp,q⟩:=h;exists _,(zB (yP 2 vG.nd (yZ xL (yZ xL (pv 1) zH (λ_ _=>rfl)) zH (λ_ _=>rfl)))
   (zB (yP 3 vG.nd (qW GM (yZ xL (pv 1) zH (λ_ _=>rfl)) (wH zH) vQ))
   (zB (yP 4 vG.nd (zK Ci hr rfl (zA (pv 0) (zA (zK Ce hr rfl (zA (pv 0) (zA (pv 2) zC)) zX) (zA (xM (zA (yK rfl T.m_OP_PICK) (zA (xF yX rfl T.n_len jY (zA (pv 3) zC)) zC))) zC))) zX))
   (zB (xC (PW.pt (qF (zT Gk (pv 4) qL (zY _)) (kK (qK (kT (zK Cr hr rfl (zA (pv 0) (zA (pv 1) (zA (pv 2) zC))) zX)))))) (zI (zV kX)) yD)
   (zB (wD xE rfl (Lh rfl T.n_enumerate (zA (pv 3) zC)) (kZ rfl (yE (yA 5 vG.nd) (yE (yA 6 vG.nd) jJ))) (zI (xC (PW.pt (qF (qK (kT (zK Cj hr rfl (zA (pv 0) (zA (xD jA (pv 4) (pv 5)) (zA (zK Cc hr rfl (zA (pv 0) (zA (pv 6) zC)) zX) zC))) zX))) (kK (qK (kT (zK Ct hr rfl (zA (pv 0) (zA (pv 1) (zA (pv 6) zC))) zX)))))) (zI (zV kX)) yD)))
   (zI (zV kX)))))))
 have lp:=Paired.len pp;refine#[-1,tn,_,_,-1,rfl,.of et,rfl,pt,_,_,-1,rfl,.of ept,Kc,?_];refine#[-1,tn,_,_,-1,rfl,.of et,rfl,-1,pt,-1,.of ept,?_,λcx hcx=>?_]
 ·rintro⟨z,_⟩;have:HT.sIx (V.ref t0::m6).length 0 (some (1:Int))=min 1 (V.ref t0::m6).length:=HT.sIx_nat _ _ 1;rw[this,zJ]at z;lia
 have ec:Bg (V.ref t0::m6) (some (1:Int)) none=m6:=AZ 1;rw[ec];have s1:=zN hcx (.tup m6);have ecx:upd H cx (.tup m6) cx=some (.tup m6):=zE;generalize upd H cx (.tup m6)=H1 at *
 have C1:=C.same s1;refine#[-3,c,dx,r,l,d,q0,rs,L,R,t0,k0,p0,x0,y0,b0,rfl,C1,s1 _ _ et0,hL0,?_];refine#[-1,cx,-1,.inr (.of ecx),sm2,λt2 h2=>?_];have s2:=zN h2 (.tup [.int 11,.int (m6.length:Nat)]);have C2:=C1.same s2;have g2:=s1.trans s2;refine#[c,dx,r,l,d,q0,rs,L,R,some b0.2,t2,11,some ((m6.length:Nat):Int),rfl,C2,zE,?_];have ecx2:=s2 _ _ ecx;generalize upd H1 t2 (.tup [.int 11,.int (m6.length:Nat)])=H2 at *
 have eb:Ow rs (some b0.2) 11 (some ((m6.length:Nat):Int))=kR rs (some b0.2) 11 (bs.length:Int):=by rw[lp];rfl
 rw[eb];cases e1:kR rs (some b0.2) 11 (bs.length:Int)with
 |none=>
  have em:Uy rs be b0 bs=false:=by unfold Uy;rw[e1]
  rw[em]at q;exact#[-1,rfl,-1,jC (q _ g2)]
 |some en=>
  have em:Uy rs be b0 bs=(xO rs (some b0.1) (some be.1)&&Gy rs be en bs):=by unfold Uy;rw[e1]
  rw[em]at q;refine#[-1,rfl,-1,xX ?_];refine#[-3,c,dx,r,l,d,q0,rs,L,R,tn,t0,k,p,k0,p0,x,_,x0,y0,be,b0,rfl,C2,g2 _ _ et,hp,g2 _ _ et0,hL0,-1,?_];cases m:xO rs (some b0.1) (some be.1)with
  |false=>
   rw[m]at q;exact jC (q _ g2)
  |true=>
   rw[m,yY]at q;refine xX ?_;refine#[-1,cx,-1,.of ecx2,HL (xs:=m6) (λi U' H'=>xK H2 H'/\ ∃v5 v6,U'=[some (.ref c),some (.ref tn),some (.ref t0),some (.ref cx),some (.int (en:Nat)),v5,v6]/\Gy rs be en bs=Gy rs be (en+i) (bs.drop i)) #[xK.refl _,_,-1,rfl] (λi U' H' _ ⟨z,_⟩=>.of (z _ _ ecx2)) ?_ ?_]
   ·rintro i v U' H3 t hv ⟨z,v5,v6,rfl,e⟩ ht;obtain⟨bi,hb,ti,ki,pi,xi,yi,rfl,eti,hLi⟩:=Paired.yonder pp hv;have zt:=zN ht (.tup [.int (i:Nat),.ref ti]);have g:=g2.trans (z.trans zt);have C3:=C.same g;have dr:bs.drop i=bi::bs.drop (i+1):=by
     have hi:=(List.getElem?_eq_some_iff.mp hb).1;rw[yR hi];rw[zF hi]at hb;cases hb;rfl
    have e2:Gy rs be en bs=(xO rs (some (en+i)) (some bi.1)&&(xO rs (some bi.2) (some be.2)&&Gy rs be (en+(i+1)) (bs.drop (i+1)))):=by rw[e,dr];rfl
    refine#[t,-1,.of zE,rfl,_,-1,_,-1,rfl,?_];refine#[-3,_,-1,rfl,-2,c,dx,r,l,d,q0,rs,L,R,ti,ki,pi,xi,yi,bi,rfl,C3,g _ _ eti,hLi,?_];refine#[c,dx,r,l,d,q0,rs,L,R,some (en+i),some bi.1,rfl,C3,-1,?_];cases m1:xO rs (some (en+i)) (some bi.1)with
    |false=>
     rw[m1]at e2;rw[e2]at q;exact jC (q _ g)
    |true=>
     rw[m1,yY]at e2;refine xX ?_;refine#[-3,c,dx,r,l,d,q0,rs,L,R,tn,ti,k,p,ki,pi,x,_,xi,yi,be,bi,rfl,C3,g _ _ et,hp,g _ _ eti,hLi,-1,?_];cases m2:xO rs (some bi.2) (some be.2)with
     |false=>
      rw[m2]at e2;rw[e2]at q;exact jC (q _ g)
     |true=>
      rw[m2,yY]at e2;exact xX #[z.trans zt,_,-1,e2]
   ·rintro U' H3 ⟨z,v5,v6,rfl,e⟩;rw[lp,vI]at e;rw[e]at q;exact q _ (g2.trans z)
noncomputable def VY (rs:vS)(be b1 b2:Nat×Nat):i7:=
 xO rs (kR rs (some be.1) 9 0) (some b1.1)&&(xO rs (Ow rs (some b1.2) 5 ((Bn rs (some b1.2)).map Int.ofNat)) (some b2.1)&&(xO rs (kR rs (some b2.2) 3 0) (some be.1)&&xO rs (kR rs (Bn rs (some b1.2)) 0 0) (some be.2)))
inductive GI (C:i3) (vs:List V) (H:Hp) (Q:VK) (E:XK):Prop
 |mk (c dx r l d q:i3) (rs:vS) (L:Int->Option (Nat×Nat)) (R:Int->Option i7) (tn:i3) (k p:Int) (x:V) (pt:i3) (v1 v2:V) (be b1 b2:Nat×Nat) (h0:vs=[.ref c,.ref tn]) (h1:Iy C H c dx r l d q rs L R) (h2:UOk rs) (h3:H tn=some (.tup [.int k,.int p,x,.ref pt])) (h4:H pt=some (.tup [v1,v2])) (h5:L p=some be) (h6:LnP H L v1 b1) (h7:LnP H L v2 b2) (h8: ∀H',xK H H'->Q (.bl (VY rs be b1 b2)) H'):GI C vs H Q E
theorem zCj:oI a=oZ (a.map Int.ofNat):=by cases a<;>rfl
theorem Ma (T:CV K mg CK)(F:qZ K "is_right_loop" "is_right_loop" DH f fd)(Cc:kB P w K mg base 1 "begin_of" ["check","node"] (Av CK (·.1)))(Ce:kB P w K mg base 1 "end_of" ["check","node"] (Av CK (·.2)))(Ci:kB P w K mg base 2 "behind" ["check","at","row"] (Dp CK))(Cj:kB P w K mg base 2 "meet" ["check","first","second"] (Eg CK))(Cb4:kB P w K mg base 2 "left_by_unless" ["check","at"] (QI CK)):vX P w K mg base 3 f fd ["check","node"] (GI CK):=by
 exists AQ;obtain⟨c,dx,r,l,d,q0,rs,L,R,tn,k,p,x,pt,v1,v2,be,b1,b2,rfl,C,uk,et,ept,hp,⟨t1,k1,p1,x1,y1,rfl,et1,hL1⟩,⟨t2,k2,p2,x2,y2,rfl,et2,hL2⟩,q⟩:=h;exists _,(zB (qH (yZ xL (pv 1) zH (λ_ _=>rfl)) (kZ rfl (yE (yA 2 AQ.nd) (yE (yA 3 AQ.nd) jJ))))
   (zB (yP 4 AQ.nd (zK Cb4 hr rfl (zA (pv 0) (zA (zK Ce hr rfl (zA (pv 0) (zA (pv 2) zC)) zX) zC)) zX))
   (zI (zV (Af (zK Cj hr rfl (zA (pv 0) (zA (zK Ci hr rfl (zA (pv 0) (zA (zK Cc hr rfl (zA (pv 0) (zA (pv 1) zC)) zX) (zA (xM (zA (yK rfl T.m_OP_BREATH) (zA zH zC))) zC))) zX) (zA (zK Cc hr rfl (zA (pv 0) (zA (pv 2) zC)) zX) zC))) zX) (Af (zK Cj hr rfl (zA (pv 0) (zA (zK Ci hr rfl (zA (pv 0) (zA (zK Ce hr rfl (zA (pv 0) (zA (pv 2) zC)) zX) (zA (xM (zA (yK rfl T.m_OP_UNLESS) (zA (pv 4) zC))) zC))) zX) (zA (zK Cc hr rfl (zA (pv 0) (zA (pv 3) zC)) zX) zC))) zX) (Af (zK Cj hr rfl (zA (pv 0) (zA (zK Ci hr rfl (zA (pv 0) (zA (zK Ce hr rfl (zA (pv 0) (zA (pv 3) zC)) zX) (zA (xM (zA (yK rfl T.m_OP_DROP) (zA zH zC))) zC))) zX) (zA (zK Cc hr rfl (zA (pv 0) (zA (pv 1) zC)) zX) zC))) zX) (BP (zK Cj hr rfl (zA (pv 0) (zA (zK Ci hr rfl (zA (pv 0) (zA (pv 4) (zA (xM (zA (yK rfl T.m_OP_PUSH) (zA zH zC))) zC))) zX) (zA (zK Ce hr rfl (zA (pv 0) (zA (pv 1) zC)) zX) zC))) zX)))))))))
 refine#[-1,tn,_,_,-1,rfl,.of et,rfl,pt,-1,.of ept,rfl,_,-1,_,-1,rfl,?_];refine#[-3,c,dx,r,l,d,q0,rs,L,R,t1,k1,p1,x1,y1,b1,rfl,C,et1,hL1,?_];refine#[c,dx,r,l,d,q0,rs,L,R,some b1.2,rfl,C,uk,?_];have eq:VY rs be b1 b2=(xO rs (kR rs (some be.1) 9 0) (some b1.1)&&(xO rs (Ow rs (some b1.2) 5 ((Bn rs (some b1.2)).map Int.ofNat)) (some b2.1)&&(xO rs (kR rs (some b2.2) 3 0) (some be.1)&&xO rs (kR rs (Bn rs (some b1.2)) 0 0) (some be.2)))):=rfl;rw[eq]at q;generalize Bn rs (some b1.2)=out at *
 refine#[-4,c,dx,r,l,d,q0,rs,L,R,tn,k,p,x,_,be,rfl,C,et,hp,?_];refine#[sm2,λa1 h1=>?_];have s1:=zN h1 (.tup [.int 9,.int 0]);refine#[c,dx,r,l,d,q0,rs,L,R,some be.1,a1,9,some 0,rfl,C.same s1,zE,?_];refine#[-2,c,dx,r,l,d,q0,rs,L,R,t1,k1,p1,x1,y1,b1,rfl,C.same s1,s1 _ _ et1,hL1,?_];refine#[c,dx,r,l,d,q0,rs,L,R,kR rs (some be.1) 9 0,some b1.1,rfl,C.same s1,-1,?_];cases m1:xO rs (kR rs (some be.1) 9 0) (some b1.1)with
 |false=>
  rw[m1]at q;exact xX (q _ s1)
 |true=>
 rw[m1,yY]at q;refine jC ?_;refine#[-4,c,dx,r,l,d,q0,rs,L,R,t1,k1,p1,x1,y1,b1,rfl,C.same s1,s1 _ _ et1,hL1,?_];refine#[-1,sm2,λa2 h2=>?_];have s2:=s1.trans (zN h2 (.tup [.int 5,oI out]));refine#[c,dx,r,l,d,q0,rs,L,R,some b1.2,a2,5,out.map Int.ofNat,rfl,C.same s2,by rw[zE,<-zCj],?_];refine#[-2,c,dx,r,l,d,q0,rs,L,R,t2,k2,p2,x2,y2,b2,rfl,C.same s2,s2 _ _ et2,hL2,?_];refine#[c,dx,r,l,d,q0,rs,L,R,_,some b2.1,rfl,C.same s2,-1,?_];cases m2:xO rs (Ow rs (some b1.2) 5 (out.map Int.ofNat)) (some b2.1)with
 |false=>
  rw[m2]at q;exact xX (q _ s2)
 |true=>
 rw[m2,yY]at q;refine jC ?_;refine#[-4,c,dx,r,l,d,q0,rs,L,R,t2,k2,p2,x2,y2,b2,rfl,C.same s2,s2 _ _ et2,hL2,?_];refine#[sm2,λa3 h3=>?_];have s3:=s2.trans (zN h3 (.tup [.int 3,.int 0]));refine#[c,dx,r,l,d,q0,rs,L,R,some b2.2,a3,3,some 0,rfl,C.same s3,zE,?_];refine#[-2,c,dx,r,l,d,q0,rs,L,R,tn,k,p,x,_,be,rfl,C.same s3,s3 _ _ et,hp,?_];refine#[c,dx,r,l,d,q0,rs,L,R,kR rs (some b2.2) 3 0,some be.1,rfl,C.same s3,-1,?_];cases m3:xO rs (kR rs (some b2.2) 3 0) (some be.1)with
 |false=>
  rw[m3]at q;exact xX (q _ s3)
 |true=>
 rw[m3,yY]at q;refine jC ?_;refine#[-3,sm2,λa4 h4=>?_];have s4:=s3.trans (zN h4 (.tup [.int 0,.int 0]));refine#[c,dx,r,l,d,q0,rs,L,R,out,a4,0,some 0,rfl,C.same s4,zE,?_];refine#[-2,c,dx,r,l,d,q0,rs,L,R,tn,k,p,x,_,be,rfl,C.same s4,s4 _ _ et,hp,?_];exact#[c,dx,r,l,d,q0,rs,L,R,kR rs out 0 0,some be.2,rfl,C.same s4,q _ s4]
theorem Py (ih: ∀{v:V} {nd:Nd},jK H d v nd->Jl H d v (bare nd)): ∀{vs:a6 V} {ps:a6 Nd},Paired (jK H d) vs ps->Paired (Jl H d) vs (zU ps)
 |_,_,.nil=>.nil
 |_,_,.cons a r=>.cons (ih a) (Py ih r)
theorem HH: ∀{d:Nat} {v:V} {nd:Nd},jK H d v nd->Jl H d v (bare nd)
 |0,_,_,h=>h.elim
 |d+1,v,.mk k p own ps,⟨t,o,q,vs,e,h1,h2,h3,r⟩=>#[t,p,o,q,vs,e,h1,h2,h3,Py (λh=>HH h) r]
noncomputable def AB:Nd->Int
 | .mk _ p _ _=>(p:Int)
noncomputable def xS (L:Int->i4 (Nat×Nat))(x:Nd):Nat×Nat:=(L (AB x)).getD (0,0)
noncomputable def Qu (rs:vS)(be:Nat×Nat)(k:Int)(own:a6 Int)(o6:a6 (Nat×Nat)):i7:=
 if k=3 then WR rs be o6 else if k=4 then(match o6 with
  |b0::bs=>Uy rs be b0 bs
  |[]=>false)else if k=5 then(match o6 with
  |[b1,b2]=>VY rs be b1 b2
  |_=>false)else IS rs be o6 k (Er k own)
noncomputable def Xb:a6 Nd->i4 Int
 |a::_=>kP (bare a)
 |[]=>none
noncomputable def WZ (rs:vS)(L:Int->i4 (Nat×Nat))(R:Int->i4 i7):Nd->i7
 | .mk k p own ps=>match L p with
  |none=>false
  |some be=>if Ss rs be (kP (.mk k own (zU ps)))=true then true
   else if k=4/\RL rs be (ps.map λx=>((R (AB x)).getD false,xS L x)) (Xb ps)=true then true
   else if(ps.map λx=>(R (AB x)).getD false).all id=true then Qu rs be k own (ps.map (xS L))else false
inductive Jx (C:i3) (e:Nat) (vs:List V) (H:Hp) (Q:VK) (E:XK):Prop
 |mk (c dx r l d q:i3) (rs:vS) (L:Int->Option (Nat×Nat)) (R:Int->Option i7) (v:V) (k:Int) (p:Nat) (own:List Int) (ps:List Nd) (hs:DJ) (bx:Int) (h0:vs=[.ref c,v]) (h1:Iy C H c dx r l d q rs L R) (h2:UOk rs) (h3:jK H (e+1) v (.mk k p own ps)) (h4:vU hs bx (e+1) (bare (.mk k p own ps))) (h5:OC (e+1) (bare (.mk k p own ps))) (h6:(∀x∈ps,∃b,R (AB x)=some b/\(b=true->(L (AB x)).isSome =true))) (h7:ps.length<=1000) (h8: ∀H',xK H H'->Q (.bl (WZ rs L R (.mk k p own ps))) H'):Jx C e vs H Q E
theorem Ob: ∀{us:a6 V} {ps:a6 Nd},Paired (jK H e) us ps->(∀x∈ps,∃b,R (AB x)=some b/\(b=true->(L (AB x)).isSome =true))->Paired (PtV H L R) us (ps.map λx=>((R (AB x)).getD false,xS L x))/\Paired (RtV H R) us (ps.map λx=>(R (AB x)).getD false)
 |_,_,.nil,_=>#[.nil,.nil]
 |u::us,x::ps,.cons a r,h=>by
  obtain⟨b,hb,hl⟩:=h x (yC ..);obtain⟨i1,i2⟩:=Ob r λy hy=>h y (zZ _ hy);obtain _|e:=e
  ·exact a.elim
  obtain⟨k,p,own,qs⟩:=x;obtain⟨t,o,q,vs,rfl,h1,_⟩:=a;have hb':R (p:Int)=some b:=hb;refine#[.cons #[t,k,p,_,-1,h1,?_,λz=>?_] i1,.cons #[t,k,p,_,-1,h1,?_] i2]
  ·show R (p:Int)=some ((R (p:Int)).getD false);rw[hb'];rfl
  ·have z:(R (p:Int)).getD false=true:=z;rw[hb']at z;have hs:=hl z;show L (p:Int)=some ((L (p:Int)).getD (0,0));have hs:(L (p:Int)).isSome =true:=hs;cases y:L (p:Int)with
   |none=>rw[y]at hs;cases hs
   |some be=>rfl
  ·show R (p:Int)=some ((R (p:Int)).getD false);rw[hb'];rfl
theorem SD: ∀{us:a6 V} {ps:a6 Nd},Paired (PtV H L R) us (ps.map λx=>((R (AB x)).getD false,xS L x))->(ps.map λx=>(R (AB x)).getD false).all id=true->Paired (LnP H L) us (ps.map (xS L))
 |_,[],.nil,_=>.nil
 |_,x::ps,.cons h0 r,a=>by
  obtain⟨t,k,p,y,z,e,h,hR,hL⟩:=h0;have a:((R (AB x)).getD false&&(ps.map λx=>(R (AB x)).getD false).all id)=true:=a;obtain⟨a1,a2⟩:=Bool.and_eq_true_iff.mp a;exact .cons #[t,k,p,y,z,e,h,hL a1] (SD r a2)
theorem Pq (e:Nat)(T:CV K mg CK)(F:qZ K "is_right" "is_right" Ii f fd)(Cd3:kB P w K mg base (3+(e+1)+1) "is_pushed" ["check","node"] (KF CK (e+1)))(Cb3:kB P w K mg base (3+e+1) "is_picked_ahead" ["check","node"] (KL CK e))(Cd2:kB P w K mg base 1 "are_right" ["check","parts"] (HZ CK))(Cc0:kB P w K mg base 4 "is_right_all" ["check","node"] (HX CK))(Cb6:kB P w K mg base 4 "is_right_pick" ["check","node"] (GH CK))(Cb7:kB P w K mg base 3 "is_right_loop" ["check","node"] (GI CK))(Ca2:kB P w K mg base 4 "is_right_by_own_row" ["check","node"] (Nt CK)):vX P w K mg base (3+(e+1)+2) f fd ["check","node"] (Jx CK e):=by
 exists Ds;obtain⟨c,dx,r,l,d,q0,rs,L,R,v,k,p,own,ps,hs,bx,rfl,C,uk,na,ft,fx,hR,ln,q⟩:=h;exists _,(zB (qH (pv 1) (kZ rfl (yE (yA 2 Ds.nd) (yE (yA 3 Ds.nd) (yE (yA 4 Ds.nd) (yE (yA 5 Ds.nd) jJ))))))
   (zB (xC (NR (MB (Bc hr) (pv 3) (jL (pv 0) rfl))) (zI (zV kX)) yD)
   (zB (AI (xC (PW.pt (qF (kT (zK Cd3 hr rfl (zA (pv 0) (zA (pv 1) zC)) zX)) (kK (PW.pt (Ep (zT jD (pv 2) (yK rfl T.m_PICK) (zY _)) (DZ (kT (zK Cb3 hr rfl (zA (pv 0) (zA (pv 1) zC)) zX)))))))) (zI (zV kX)) yD))
   (zB (xC (qK (kT (zK Cd2 hr rfl (zA (pv 0) (zA (pv 5) zC)) zX))) (zI (zV kX)) yD)
   (zB (xC (zT jD (pv 2) (yK rfl T.m_ALL) (zY _)) (zI (zV (zK Cc0 hr rfl (zA (pv 0) (zA (pv 1) zC)) zX))) yD)
   (zB (xC (zT jD (pv 2) (yK rfl T.m_PICK) (zY _)) (zI (zV (zK Cb6 hr rfl (zA (pv 0) (zA (pv 1) zC)) zX))) yD)
   (zB (xC (zT jD (pv 2) (yK rfl T.m_LOOP) (zY _)) (zI (zV (zK Cb7 hr rfl (zA (pv 0) (zA (pv 1) zC)) zX))) yD)
   (zI (zV (zK Ca2 hr rfl (zA (pv 0) (zA (pv 1) zC)) zX))))))))))
 have tr:=HH na;obtain⟨tn,o,pt,us,rfl,et,eo,ept,pp⟩:=na;have lp:=Paired.len pp;refine#[-1,tn,-1,.of et,rfl,_,-1,_,-1,_,-1,_,-1,rfl,?_];obtain⟨oo,hg,ho⟩:=C.has (p:Int);refine#[-2,c,CK,dx,_,-1,C.ob,T.ck,T.clines,rfl,d,oo,rfl,hg,-1,?_];have eR:WZ rs L R (.mk k p own ps)=match L p with
  |none=>false
  |some be=>if Ss rs be (kP (.mk k own (zU ps)))=true then true
   else if k=4/\RL rs be (ps.map λx=>((R (AB x)).getD false,xS L x)) (Xb ps)=true then true
   else if(ps.map λx=>(R (AB x)).getD false).all id=true then Qu rs be k own (ps.map (xS L))else false:=rfl
 rw[eR]at q;cases hL:L (p:Int)with
 |none=>
  rw[hL]at ho q;rw[ho];exact jC (q H (xK.refl H))
 |some be=>
 rw[hL]at ho q;dsimp only at q;rw[ho];refine xX ?_;obtain⟨p1,p2⟩:=Ob pp hR;have ft0:=ft;rw[show bare (.mk k p own ps)=.mk k own (zU ps)from rfl]at ft ft0 fx tr;unfold vU at ft;obtain⟨k0,k19,of,lq,_,fp⟩:=ft;rw[qI]at lq;refine#[λU' H'=>U'=[some (.ref c),some (.ref tn),some (.int k),some (.int (p:Nat)),some (.ref o),some (.ref pt)]/\xK H H'/\ ¬Ss rs be (kP (.mk k own (zU ps)))=true/\ ¬(k=4/\RL rs be (ps.map λx=>((R (AB x)).getD false,xS L x)) (Xb ps)=true),?_,?_]
 ·refine#[-2,c,dx,r,l,d,q0,rs,L,R,tn,k,p,_,_,_,be,rfl,C,et,tr,fx,hL,λH1 s1=>#[-1,?_]]
  by_cases m:Ss rs be (kP (.mk k own (zU ps)))=true
  ·rw[zP m]at q;rw[m];exact jC (jC (q H1 s1))
  ·rw[zO m]at q;have m':Ss rs be (kP (.mk k own (zU ps)))=false:=by cases y:Ss rs be (kP (.mk k own (zU ps)))with|true=>exact absurd y m|false=>rfl
   rw[m'];refine xX ?_;refine#[-1,rfl,-1,jB (λc4=>?_) (λc4=>xX #[rfl,s1,by decide,λz=>vf c4 z.1])];have k4:=vt c4;subst k4
   rcases of with⟨z,_⟩|⟨z,_⟩|⟨z,_⟩|⟨_,n,rfl,na,nb⟩|⟨z,_⟩|⟨z,_⟩<;>try lia
   rw[show(CU hs 4 [n]).toNat =(1+n).toNat from rfl]at lq;obtain⟨a,ps,rfl⟩: ∃a r,ps=a::r:=by
    cases ps with
    |nil=>exact absurd lq (by show ¬(0:Nat)=_;lia)
    |cons a r=>exact#[a,r,rfl]
   obtain⟨u,us,rfl⟩: ∃u r,us=u::r:=by
    cases us with
    |nil=>cases lp
    |cons u r=>exact#[u,r,rfl]
   obtain⟨_,_⟩:=id pp;rename_i a1 a2;have C1:=C.same s1;obtain⟨_,_,fxp⟩:=fx;refine#[-2,c,dx,r,l,d,q0,rs,L,R,tn,4,p,_,pt,_,_,u,bare a,be,rfl,C1,s1 _ _ et,s1 _ _ ept,hL,Paired.imp (λ_ _ ⟨t,k,p,x,y,e1,e2,e3⟩=>#[t,k,p,x,y,e1,s1 _ _ e2,e3]) p1,rfl,(HH a1).tups (λb xs z=>s1 _ _ z),fxp _ (yC ..),λH2 s2=>#[-1,?_]]
   by_cases m2:RL rs be ((a::ps).map λx=>((R (AB x)).getD false,xS L x)) (Xb (a::ps))=true
   ·rw[zP #[rfl,m2]]at q;have m3:RL rs be ((a::ps).map λx=>((R (AB x)).getD false,xS L x)) (kP (bare a))=true:=m2;rw[m3];exact jC (q H2 (s1.trans s2))
   ·have m3:RL rs be ((a::ps).map λx=>((R (AB x)).getD false,xS L x)) (kP (bare a))=false:=by
     cases y:RL rs be ((a::ps).map λx=>((R (AB x)).getD false,xS L x)) (kP (bare a))with
     |true=>exact absurd y m2
     |false=>rfl
    rw[m3];exact xX #[rfl,s1.trans s2,by decide,λz=>m2 z.2]
 ·rintro _ H1 ⟨rfl,s1,m1,m2⟩;rw[zO m1,zO m2]at q;have C1:=C.same s1;have p1':Paired (PtV H1 L R) us (ps.map λx=>((R (AB x)).getD false,xS L x)):=Paired.imp (λ_ _ ⟨t,k,p,x,y,e1,e2,e3⟩=>#[t,k,p,x,y,e1,s1 _ _ e2,e3]) p1;refine#[-2,c,dx,r,l,d,q0,rs,L,R,pt,us,-1,C1,s1 _ _ ept,Paired.imp (λ_ _ ⟨t,k,p,x,y,e1,e2,e3⟩=>#[t,k,p,x,y,e1,s1 _ _ e2,e3]) p2,(),λH2 s2=>#[-1,?_]];have s12:=s1.trans s2;have C2:=C.same s12
  by_cases m:(ps.map λx=>(R (AB x)).getD false).all id=true
  ·rw[zP m]at q;rw[m];refine xX ?_;have pl:Paired (LnP H2 L) us (ps.map (xS L)):=Paired.imp (λ_ _ z=>OcL.LnP.same s2 z) (SD p1' m);have et2:=s12 _ _ et;have ept2:=s12 _ _ ept;have eo2:=s12 _ _ eo;have eP:Qu rs be k own (ps.map (xS L))=if k=3 then WR rs be (ps.map (xS L))else if k=4 then(match ps.map (xS L)with
    |b0::bs=>Uy rs be b0 bs
    |[]=>false)else if k=5 then(match ps.map (xS L)with
    |[b1,b2]=>VY rs be b1 b2
    |_=>false)else IS rs be (ps.map (xS L)) k (Er k own):=rfl
   rw[eP]at q;have lb:us.length=(ps.map (xS L)).length:=Paired.len pl;generalize ps.map (xS L)=o6 at *
   refine#[-1,rfl,-1,jB (λc3=>?_) (λc3=>?_)]
   ·have k3:=vt c3;subst k3;rw[zP rfl]at q
    rcases of with⟨z,_⟩|⟨z,_⟩|⟨_,n,rfl,na,nb⟩|⟨z,_⟩|⟨z,_⟩|⟨z,_⟩<;>try lia
    rw[show(CU hs 3 [n]).toNat =n.toNat from rfl]at lq;exact#[-2,c,dx,r,l,d,q0,rs,L,R,tn,3,p,_,pt,us,be,o6,rfl,C2,et2,ept2,(),hL,pl,λH3 s3=>q _ (s12.trans s3)]
   have n3:=vf c3;rw[zO n3]at q;refine#[-1,rfl,-1,jB (λc4=>?_) (λc4=>?_)]
   ·have k4:=vt c4;subst k4;rw[zP rfl]at q
    rcases of with⟨z,_⟩|⟨z,_⟩|⟨z,_⟩|⟨_,n,rfl,na,nb⟩|⟨z,_⟩|⟨z,_⟩<;>try lia
    rw[show(CU hs 4 [n]).toNat =(1+n).toNat from rfl]at lq;cases pl with
    |nil=>exact absurd lp (by show ¬(0:Nat)=_;lia)
    |cons a1 a2=>exact#[-2,c,dx,r,l,d,q0,rs,L,R,tn,4,p,_,pt,_,_,be,_,-1,C2,et2,ept2,hL,a1,a2,λH3 s3=>q _ (s12.trans s3)]
   have n4:=vf c4;rw[zO n4]at q;refine#[-1,rfl,-1,jB (λc5=>?_) (λc5=>?_)]
   ·have k5:=vt c5;subst k5;rw[zP rfl]at q;rw[show(CU hs 5 own).toNat =2 from rfl]at lq;cases pl with
    |nil=>exact absurd lp (by show ¬(0:Nat)=_;lia)
    |cons a1 a2=>
     cases a2 with
     |nil=>exact absurd lp (by show ¬(1:Nat)=_;lia)
     |cons a2 a3=>
      cases a3 with
      |nil=>exact#[-2,c,dx,r,l,d,q0,rs,L,R,tn,5,p,_,pt,_,_,be,_,-1,C2,uk,et2,ept2,hL,a1,a2,λH3 s3=>q _ (s12.trans s3)]
      |cons a3 a4=>
       rw[zJ,zJ,zJ]at lp;lia
   have n5:=vf c5;rw[zO n5]at q;exact#[-2,c,dx,r,l,d,q0,rs,L,R,tn,k,p,o,pt,own,us,hs,bx,be,o6,rfl,C2,et2,eo2,ept2,of,n3,n4,n5,hL,pl,λH3 s3=>q _ (s12.trans s3)]
  ·rw[zO m]at q;have m':(ps.map λx=>(R (AB x)).getD false).all id=false:=by
    cases y:(ps.map λx=>(R (AB x)).getD false).all id with
    |true=>exact absurd y m
    |false=>rfl
   rw[m'];exact jC (q _ s12)
noncomputable def So (rs:vS)(st:Nat)(b:i7)(be:Nat×Nat):i7:=b&&(xO rs (some st) (some be.1)&&(kR rs (some be.2) 7 0).isSome)
inductive Js (C:i3) (vs:List V) (H:Hp) (Q:VK) (E:XK):Prop
 |mk (c dx r l d q:i3) (rs:vS) (L:Int->Option (Nat×Nat)) (R:Int->Option i7) (st:Nat) (v:V) (b:i7) (be:Nat×Nat) (h0:vs=[.ref c,.int (st:Nat),v]) (h1:Iy C H c dx r l d q rs L R) (h2:PtV H L R v (b,be)) (h3: ∀H',xK H H'->Q (.bl (So rs st b be)) H'):Js C vs H Q E
theorem Ph (T:CV K mg CK)(F:qZ K "is_right_function" "is_right_function" Be f fd)(Cc:kB P w K mg base 1 "begin_of" ["check","node"] (Av CK (·.1)))(Ce:kB P w K mg base 1 "end_of" ["check","node"] (Av CK (·.2)))(Ci:kB P w K mg base 2 "behind" ["check","at","row"] (Dp CK))(Cj:kB P w K mg base 2 "meet" ["check","first","second"] (Eg CK)):vX P w K mg base 3 f fd ["check","start","body"] (Js CK):=by
 exists GO;obtain⟨c,dx,r,l,d,q0,rs,L,R,st,v,b,be,rfl,C,⟨t,k,p,x,y,rfl,et,hR,hL⟩,q⟩:=h;exists _,(zB (xC (PW.pt (qF (qK (OZ (AV (Bc hr) (jL (pv 0) rfl) (yZ xL (pv 2) zH (λ_ _=>rfl)) (λ_ _=>rfl)) (λ_=>rfl))) (kK (qK (kT (zK Cj hr rfl (zA (pv 0) (zA (pv 1) (zA (zK Cc hr rfl (zA (pv 0) (zA (pv 2) zC)) zX) zC))) zX)))))) (zI (zV kX)) yD)
   (zI (zV (uC HG (zK Ci hr rfl (zA (pv 0) (zA (zK Ce hr rfl (zA (pv 0) (zA (pv 2) zC)) zX) (zA (xM (zA (yK rfl T.m_OP_BACK) (zA zH zC))) zC))) zX) qL (zY _)))))
 have hR:R p=some b:=hR;refine#[-1,c,CK,dx,_,-1,C.ob,T.ck,T.cright,rfl,-1,t,_,_,-1,rfl,.of et,rfl,q0,-1,C.rt hR,?_];refine#[b,rfl,?_];cases b with
 |false=>exact jC (q H (xK.refl H))
 |true=>
 have hL:L p=some be:=hL rfl;have eq:So rs st true be=(xO rs (some st) (some be.1)&&(kR rs (some be.2) 7 0).isSome):=rfl;rw[eq]at q;refine xX ?_;refine#[-4,c,dx,r,l,d,q0,rs,L,R,t,k,p,x,y,be,rfl,C,et,hL,?_];refine#[c,dx,r,l,d,q0,rs,L,R,some st,some be.1,rfl,C,-1,?_];cases m:xO rs (some st) (some be.1)with
 |false=>
  rw[m]at q;exact jC (q H (xK.refl H))
 |true=>
 rw[m,yY]at q;refine xX ?_;refine#[-3,c,dx,r,l,d,q0,rs,L,R,t,k,p,x,y,be,rfl,C,et,hL,?_];refine#[sm2,λa1 h1=>?_];have s1:=zN h1 (.tup [.int 7,.int 0]);refine#[c,dx,r,l,d,q0,rs,L,R,some be.2,a1,7,some 0,rfl,C.same s1,zE,?_];refine#[rfl,?_];show Q (.bl (!decide (oI (kR rs (some be.2) 7 0)=.non))) _;have e2:(!decide (oI (kR rs (some be.2) 7 0)=.non))=(kR rs (some be.2) 7 0).isSome:=by
  cases kR rs (some be.2) 7 0<;>rfl
 rw[e2];exact q _ s1
noncomputable def Rz (D:Int->i7)(m p b e:Int):i7:=D p&&(decide (0<=b/\b<m)&&decide (0<=e/\e<=m))
def KyA (H:Hp)(d:i3)(D:Int->i7):Prop:= ∃kvs:a6 (Bk×V),H d=some (.dK kvs)/\ ∀p:Int,(Ak kvs (.inl p)).isSome =D p
theorem KyA.same (s:xK H H')(h:KyA H d D):KyA H' d D:=by
 obtain⟨kv,e,z⟩:=h;exact#[kv,s _ _ e,z]
theorem KyA.has (h:KyA H d D)(p:Int): ∃o,EC H d (.int p) o/\o.isSome=D p:=by
 obtain⟨kv,e,z⟩:=h;exact#[_,EC.k (k:=.inl p) e,z p]
inductive KI (vs:List V) (H:Hp) (Q:VK) (E:XK):Prop
 |mk (t d:i3) (m p b e:Int) (D:Int->i7) (h0:vs=[.ref t,.ref d,.int m]) (h1:H t=some (.tup [.int p,.int b,.int e])) (h2:KyA H d D) (h3: ∀H',xK H H'->Q (.bl (Rz D m p b e)) H'):KI vs H Q E
theorem Rf (T:CV K mg CK)(F:qZ K "is_line" "is_line" HB f fd)(Cy:kB P w K mg base 1 "is_whole" ["thing"] Hx):vX P w K mg base 2 f fd ["line","places","many_rows"] KI:=by
 exists FY;obtain⟨t,d,m,p,b,e,D,rfl,ht,hd,q⟩:=h;exists _,(zB (xC (PW.pt (qF (qK (kT (xF Dw rfl T.n_isinstance qY (zA (pv 0) (zA (Bt (v:=.ty "tuple") rfl T.n_tuple Hr rfl) zC))))) (qF (zT Hh (xF yX rfl T.n_len jY (zA (pv 0) zC)) (yK rfl T.m_LINE_SIZE) (zY _)) (kK (qK (kT (xF (Hq rfl) rfl T.n_all LL (zA (Dk (own:=["number"]) (ys:=[]) rfl (JL (pv 0)) (wU (sc:=zW HB) rfl (by decide+kernel)) .nil (λ_ _ _ _ _=>(yA 0 (show List.Nodup [("number":Str)]from(by decide+kernel)))) (λ_ _ _ _ _=>AT) (λ_ _ _ _ _=>(zK Cy hr rfl (zA (pv 0) zC) zX))) zC)))))))) (zI (zV kX)) yD)
   (zB (qH (pv 0) (kZ rfl (yE (yA 3 FY.nd) (yE (yA 4 FY.nd) (yE (yA 5 FY.nd) jJ)))))
   (zI (zV (Af (ZJ (QW (Bc hr) (pv 3) (pv 1))) (Af (BQ BR wR zH (pv 4) (pv 2)) (BP (BQ BR BR zH (pv 5) (pv 2)))))))))
 refine#[-1,.inl #[_,_,_,true,rfl,.tup ht,T.ktup,-1,xX ?_]];refine#[-1,t,-1,.inr (uZ.of ht),rfl,-1,xX ?_];refine#[-1,t,rfl,#[_,uZ.of ht],λu hu=>?_];refine LF (xs:=[V.int p,.int b,.int e]) (λi U' H'=>H'=upd H u (.lst ((List.replicate i true).map V.bl))/\ ∃x,U'=[x]) #[rfl,-1] ?_ ?_ ?_
 ·rintro i U' H' _ ⟨rfl,_⟩;exact uZ.of (zN hu _ _ _ ht)
 ·rintro i x U' H' hi hx ⟨rfl,y,rfl⟩;obtain⟨n,rfl⟩: ∃n,x=.int n:=by
   have hx:([p,b,e].map V.int)[i]? =some x:=hx;rw[yJ]at hx;cases z:[p,b,e][i]? with
   |none=>rw[z]at hx;cases hx
   |some n=>rw[z]at hx;cases hx;exact#[n,rfl]
  dsimp only[AC];refine OI #[-1,n,rfl,_,zE,?_,CW.next hi #[?_,-1]]
  ·rw[zM,qO];exact xR hi (show 3<=sizeLine by decide)
  ·have z:(List.replicate i true).map V.bl++[V.bl true]=(List.replicate (i+1) true).map V.bl:=by
    rw[DA,xN]<;>rfl
   rw[z,Kn]
 ·rintro U' H' ⟨rfl,_⟩;refine#[u,-1,kF.of zE,?_];have s1:=zN hu (.lst ((List.replicate 3 true).map V.bl));refine#[true,rfl,xX ?_];refine#[-1,t,-1,uZ.of (s1 _ _ ht),rfl,_,-1,_,-1,_,-1,rfl,?_];obtain⟨o,ho,eo⟩:=(hd.same s1).has p;refine#[-2,d,o,rfl,ho,?_];have eq:Rz D m p b e=(D p&&(decide (0<=b/\b<m)&&decide (0<=e/\e<=m))):=rfl;rw[eq]at q;refine#[-1,?_];rw[eo];cases z:D p with
  |false=>
   rw[z]at q;exact xX (q _ s1)
  |true=>
  rw[z,yY]at q;refine jC ?_;refine FH 0 b m (λR h=>h) (λR h=>#[-1,h]) (λR h=>#[-1,h]) λr z=>#[-1,jB (λc=>?_) (λc=>?_)]
  ·rw[zQ (z.mp c),yY]at q;refine Ez 0 e m (λR h=>h) (λR h=>#[-1,h]) (λR h=>#[-1,h]) λr z=>?_;have er:r=decide (0<=e/\e<=m):=by
    rw[jT,jZ];exact z
   rw[er];exact q _ s1
  ·have c:r=false:=Bool.eq_false_iff.mpr c;rw[zR (λy=>by have:=z.mpr y;rw[c]at this;cases this),kO]at q;exact q _ s1
abbrev FV:=a6 (Int×Int×Int)
def Kk (H:Hp)(v:V)(l:Int×Int×Int):Prop:= ∃t,v=.ref t/\H t=some (.tup [.int l.1,.int l.2.1,.int l.2.2])
noncomputable def Lf (D:Int->i7)(m:Int):(Int->i7)->FV->i7
 |_,[]=>true
 |S,l::ls=>Rz D m l.1 l.2.1 l.2.2&&(!S l.1&&Lf D m (λx=>decide (x=l.1) || S x) ls)
noncomputable def RB (kvs:a6 (Bk×V)):Int->i7:=λp=>(Ak kvs (.inl p)).isSome
theorem Og (kvs:a6 (Bk×V))(p:Int)(v:V):RB (Ea kvs (.inl p) v)=λx=>decide (x=p) || RB kvs x:=by
 funext x;unfold RB;rw[IB]
 by_cases h:x=p
 ·rw[zP (by rw[h]),zQ h]<;>rfl
 ·rw[zO (λz=>h (Fa z)),zR h]<;>rfl
inductive Jy (vs:List V) (H:Hp) (Q:VK) (E:XK):Prop
 |mk (pa d:i3) (m:Int) (rv:List V) (ls:FV) (D:Int->i7) (h0:vs=[.ref pa,.ref d,.int m]) (h1:H pa=some (.lst rv)) (h2:Paired (Kk H) rv ls) (h3:KyA H d D) (h4:ls.length<=1000) (h5: ∀H',xK H H'->Q (.bl (Lf D m (λ_=>false) ls)) H'):Jy vs H Q E
theorem Pr (T:CV K mg CK)(F:qZ K "is_paper" "is_paper" Ij f fd)(Ce6:kB P w K mg base 2 "is_line" ["line","places","many_rows"] KI):vX P w K mg base 3 f fd ["paper","places","many_rows"] Jy:=by
 exists GP;obtain⟨pa,d,m,rv,ls,D,rfl,hp,pp,hd,hn,q⟩:=h;exists _,(zB (xC (qK (kT (xF Dw rfl T.n_isinstance qY (zA (pv 0) (zA (Bt (v:=.ty "list") rfl T.n_list Eb rfl) zC))))) (zI (zV kX)) yD)
   (zB (yP 3 GP.nd IR)
   (zB (wD xE rfl (Ae (pv 0)) (yA 4 GP.nd) (zB (xC (PW.pt (qF (qK (kT (zK Ce6 hr rfl (zA (pv 4) (zA (pv 1) (zA (pv 2) zC))) zX))) (kK (NR (QW (Bc hr) (yZ xL (pv 4) zH (λ_ _=>rfl)) (pv 3)))))) (zI (zV kX)) yD)
   (zI (Kp (Bc hr) (pv 3) (yZ xL (pv 4) zH (λ_ _=>rfl)) kX rfl))))
   (zI (zV kX)))))
 have sl:sizeLine=16777216:=wG;have lp:=Paired.len pp;refine#[-1,.inl #[_,_,_,true,rfl,.lst hp,T.klist,-1,xX ?_]];refine λth hth=>?_;have s0:=zN hth (.dK []);refine#[-1,pa,rfl,#[_,kF.of (s0 _ _ hp)],BS (xs:=rv) (λi U' H'=>xK H H'/\ ∃(kvs:a6 (Bk×V)) (x:i4 V),U'=[some (.ref pa),some (.ref d),some (.int m),some (.ref th),x]/\H' th=some (.dK kvs)/\kvs.length<=i/\Lf D m (λ_=>false) ls=Lf D m (RB kvs) (ls.drop i)) #[s0,[],-1,zE,zS _,rfl] ?_ ?_ ?_]
 ·rintro i U' H' _ ⟨s1,_⟩;exact kF.of (s1 _ _ hp)
 ·rintro i x U' H' hx ⟨s1,kvs,x0,rfl,eth,hk,er⟩;obtain⟨l,hl,t,rfl,et⟩:=Paired.yonder pp hx;have hi:i<ls.length:=by
   rw[<-List.getElem?_eq_some_iff.mp hl |>.2]at *
   exact(List.getElem?_eq_some_iff.mp hl).1
  have ed:ls.drop i=l::ls.drop (i+1):=by
   rw[yR hi,(List.getElem?_eq_some_iff.mp hl).2]
  have er:Lf D m (λ_=>false) ls=(Rz D m l.1 l.2.1 l.2.2&&(!RB kvs l.1&&Lf D m (λx=>decide (x=l.1) || RB kvs x) (ls.drop (i+1)))):=by rw[er,ed]<;>rfl
  rw[er]at q;dsimp only[AC];refine#[-3,t,d,m,l.1,l.2.1,l.2.2,D,rfl,s1 _ _ et,hd.same s1,λH2 g2=>?_];have s2:=s1.trans g2;refine#[-1,?_];cases z:Rz D m l.1 l.2.1 l.2.2 with
  |false=>
   rw[z]at q;exact jC (q _ s2)
  |true=>
  rw[z,yY]at q er;refine xX ?_;have eth2:=g2 _ _ eth;refine#[-1,t,_,_,-1,rfl,.of (s2 _ _ et),rfl,-1,th,-1,EC.k (k:=.inl l.1) eth2,?_];cases y:RB kvs l.1 with
  |true=>
   rw[y]at q;refine#[true,by rw[show(Ak kvs (.inl l.1)).isSome =true from y],jC (q _ s2)]
  |false=>
   rw[y]at er;refine#[false,by rw[show(Ak kvs (.inl l.1)).isSome =false from y],xX ?_];refine#[-2,t,_,_,-1,rfl,.of (s2 _ _ et),rfl,th,-1,Qr.k (k:=.inl l.1) eth2 (),?_];refine#[λb o e=>?_,_,-1,zE,yU (AK ..) (uY hk),?_]
   ·rw[yQ (λz=>by rw[z,hth]at e;cases e)];exact s2 _ _ e
   ·rw[Og,er];rfl
 ·rintro U' H' ⟨s1,kvs,x0,rfl,eth,hk,er⟩;rw[lp,vI]at er;rw[er]at q;exact q _ s1
theorem VB (T:GB K mg)(F:qZ K "meant" "meant" NJ f fd):vX P w K mg base 1 f fd ["rows","at"] Nm:=by
 exists KO;obtain⟨l,rs,i0,rfl,⟨vs,el,pr⟩,ok,h0,h1,hi,q⟩:=h;have hl:vs.length=rs.length:=(Paired.len pr).trans (zM ..);exists _,(zB (wD xE rfl (AU rfl T.n_range (zA (xF yX rfl T.n_len jY (zA (pv 0) zC)) zC)) (yA 2 KO.nd) (zB (xC (PW.pt (qF (zT wR (pv 1) zH (zY _)) (kK (zT Fz (pv 1) (xF yX rfl T.n_len jY (zA (pv 0) zC)) (zY _))))) (zI (zV qL)) yD)
   (zB (xC (zT Hh (yZ xL (yZ xQ (pv 0) (pv 1) (λ_ _=>rfl)) zH (λ_ _=>rfl)) (yK rfl T.m_OP_JUMP) (zY _)) (zI (zV (pv 1))) yD)
   (zI (yP 1 KO.nd (yZ xL (yZ xQ (pv 0) (pv 1) (λ_ _=>rfl)) zH (λ_ _=>rfl)))))))
   (zI (zV qL)))
 refine#[-1,l,-1,.inl (kF.of el),-1,(),(),AY (lo:=0) (n:=(vs.length:Int).toNat) (λi U' H'=>H'=H/\(∃v2,U'=[some (.ref l),some (.int (its rs i i0:Nat)),v2])/\ ∀j,j<i->OD rs (its rs j i0)) #[rfl,#[-1],λj hj=>absurd hj (Bv _)] ?_ ?_]
 ·rintro i U' H' hi' ⟨rfl,⟨v2,rfl⟩,hj⟩;have hle:=Wm ok hi i;refine#[-1,_,-1,rfl,-1,jB (λc=>jC ?_) (λc=>?_)]
  ·have c':=yG c;lia
  refine#[-2,l,-1,.inl (kF.of el),_,-1,rfl,-1,jB (λc=>?_) (λc=>?_)]
  ·have c':=yG c;have ge: ¬its rs i i0<rs.length:=()
   rw[JM () (λz=>ge z.lt),zO ge]at q;exact q
  have c':=df c;have lt:its rs i i0<rs.length:=()
  obtain⟨t,op,n,hv,hr',et⟩:=Le pr lt;refine#[-2,l,_,_,-1,rfl,kF.of el,kG hv,t,_,_,-1,rfl,uZ.of et,rfl,rfl,-1,jB (λc=>?_) (λc=>?_)]
  ·have n4: ¬OD rs (its rs i i0):=fun⟨m,z⟩=>by
    rw[hr']at z;cases z;exact nomatch c
   rw[JM () n4,zP lt]at q;exact#[-1,q]
  ·have e4:op=4:=EM λz=>c (by
    show(!decide (V.int op=V.int 4))=true;rw[zR (λy=>z (by injection y))]<;>rfl)
   subst e4;have e:=QA ok hr';refine#[-2,l,_,_,-1,rfl,kF.of el,kG hv,t,_,_,-1,rfl,uZ.of et,rfl,rfl,#[some (.int (0+(i:Int))),?_],λj hj'=>?_]
   ·show _=[some (V.ref l),some (V.int ((Se rs (its rs i i0):Nat):Int)),some (V.int (0+(i:Int)))];rw[e]<;>rfl
   ·by_cases z:j<i
    ·exact hj j z
    ·have:j=i:=()
     subst this;exact#[n,hr']
 ·rintro U' H' ⟨rfl,⟨v2,rfl⟩,hj⟩;rw[IW ok (λj z=>hj j ()) h0]at q;exact q
noncomputable def YM (L:Int->i4 (Nat×Nat))(ls:FV):Int->i4 (Nat×Nat):=ls.foldl (λL l p=>if p=l.1 then some (l.2.1.toNat,l.2.2.toNat)else L p) L
noncomputable def FU (ls:FV):Int->i4 (Nat×Nat):=YM (λ_=>none) ls
theorem IZ (s: ∀t xs,H t=some (.tup xs)->H' t=some (.tup xs)): ∀{o:i4 V} {b:i4 (Nat×Nat)},Yv H o b->Yv H' o b
 |none,none,_=>trivial
 |some _,some _,⟨t,e,h⟩=>#[t,e,s _ _ h]
 |none,some _,h=>h.elim
 |some _,none,h=>h.elim
noncomputable def XZ (rs:vS)(n:Nat):a6 V:=(List.range n).map λi=>oI (Mh rs i)
inductive Nq (C:i3) (vs:List V) (H:Hp) (Q:VK) (E:XK):Prop
 |mk (x dx r pa:i3) (rs:vS) (rv:List V) (ls:FV) (h0:vs=[.ref x,.ref r,.ref pa]) (h1:H x=some (.ins C dx [])) (h2:qS H r (Jo rs)) (h3:OB rs) (h4:0<rs.length) (h5:rs.length<=1000) (h6:H pa=some (.lst rv)) (h7:Paired (Kk H) rv ls) (h8:(∀l∈ls,0<=l.2.1/\0<=l.2.2)) (h9:ls.length<=1000) (h10: ∀(l d q:i3) (H':Hp),(∀b o,b≠x->H b=some o->H' b=some o)->Iy C H' x dx r l d q rs (FU ls) (λ_=>none)->H' q=some (.dK [])->d≠q->H q=none->Q .non H'):Nq C vs H Q E
theorem VF (T:CV K mg CK)(F:qZ K "__init__" "Check.__init__" AS f fd)(Cf2:kB P w K mg base 1 "meant" ["rows","at"] Nm):vX P w K mg base 2 f fd ["self","rows","paper"] (Nq CK):=by
 exists AA;obtain⟨x,dx,r,pa,rs,rv,ls,rfl,hx,hr0,jok,h0,h1,hp,pp,nn,hn,q⟩:=h;exists _,(zB (Gi (pv 0) (pv 1) rfl)
   (zB (Gi (pv 0) (Dk (own:=["at"]) (ys:=["rows"]) rfl (AU rfl T.n_range (zA (xF yX rfl T.n_len jY (zA (pv 1) zC)) zC)) (wU (sc:=zW AS) rfl (by decide+kernel)) (.cons (j:=1) rfl .nil) (λ_ _ _ _ _=>(yA 0 (show List.Nodup [("at":Str),("rows":Str)]from(by decide+kernel)))) (λ_ _ _ _ _=>AT) (λ_ _ _ _ _=>(zK Cf2 hr rfl (zA (pv 1) (zA (pv 0) zC)) zX))) rfl)
   (zB (Gi (pv 0) IR rfl)
   (zB (wD xE rfl (Ae (pv 2)) (kZ rfl (yE (yA 3 AA.nd) (yE (yA 4 AA.nd) (yE (yA 5 AA.nd) jJ)))) (zI (Kp (Bc hr) (jL (pv 0) rfl) (pv 3) (xM (zA (pv 4) (zA (pv 5) zC))) rfl)))
   (zI (Gi (pv 0) IR rfl))))))
 have sl:sizeLine=16777216:=wG;have lp:=Paired.len pp;obtain⟨vr,er,pr⟩:=hr0;have lr:vr.length=rs.length:=(Paired.len pr).trans (zM ..);have k1: ∀b o,b≠x->H b=some o->upd H x (.ins CK dx [("rows",.ref r)]) b=some o:=λb o nb e=>by rw[yQ nb];exact e
 have er1:=k1 _ _ (λz=>by rw[z,hx]at er;cases er) er;have pr1:qS (upd H x (.ins CK dx [("rows",.ref r)])) r (Jo rs):=#[vr,er1,Paired.imp (λ_ _ ⟨t,a,b⟩=>#[t,a,k1 _ _ (λz=>by rw[z,hx]at b;cases b) b]) pr];refine#[-2,x,CK,dx,-1,hx,T.ck,T.crows,(show 0<1000 by decide),?_];refine#[-1,r,-1,.inl (kF.of er1),-1,(),(),λp hpn=>?_];refine WO (lo:=0) (n:=(vr.length:Int).toNat) (λi _ H'=>H'=upd (upd H x (.ins CK dx [("rows",.ref r)])) p (.lst (XZ rs i))) rfl ?_ ?_
 ·rintro i ys H' hi rfl;have s1:=zN hpn (.lst (XZ rs i));refine OI #[-2,r,rs,i,by rw[Int.zero_add]<;>rfl,pr1.same s1,jok,h0,h1,(),?_];refine#[_,zE,by unfold XZ;rw[zM,wW];lia,?_];refine#[_,Nat.sub_lt_sub_left hi (Bb i),hi,rfl,#[-1],[],?_];have e1:XZ rs (i+1)=XZ rs i++[oI (Mh rs i)]:=by
   unfold XZ;rw[List.range_succ,xN];rfl
  show _=upd _ p (.lst (XZ rs (i+1)));rw[e1,Kn]
 ·rintro ys H' rfl;have ev:(vr.length:Int).toNat =rs.length:=()
  rw[ev];have nxp:x≠p:=λz=>by rw[<-z,zE]at hpn;cases hpn
  rw[yQ (Ne.symm nxp)]at hpn;refine#[-1,x,CK,dx,-1,(yQ nxp).trans zE,T.ck,T.cleads,(show 1<1000 by decide),?_];refine λd hd=>?_;have nxd:x≠d:=λz=>by rw[<-z,zE]at hd;cases hd
  rw[yQ (Ne.symm nxd)]at hd;have npd:p≠d:=λz=>by rw[<-z,zE]at hd;cases hd
  rw[yQ (Ne.symm npd),yQ (Ne.symm nxd)]at hd;refine#[-1,x,CK,dx,-1,(yQ nxd).trans zE,T.ck,T.clines,(show 2<1000 by decide),?_];generalize hH:upd (upd _ d _) x _=H5;have ex:H5 x=some (.ins CK dx [("rows",.ref r),("leads",.ref p),("lines",.ref d)]):=by rw[<-hH];exact zE
  have epl:H5 p=some (.lst (XZ rs rs.length)):=by rw[<-hH,yQ (Ne.symm nxp),yQ npd,yQ (Ne.symm nxp),zE]
  have edk:H5 d=some (.dK []):=by rw[<-hH,yQ (Ne.symm nxd),zE]
  have fr: ∀b o,b≠x->H b=some o->H5 b=some o:=λb o nb e=>by
   rw[<-hH,yQ nb,yQ (xB e hd),yQ nb,yQ (xB e hpn),yQ nb];exact e
  clear hH;have fl:H5 pa=some (.lst rv):=fr _ _ (λz=>by rw[z,hx]at hp;cases hp) hp;refine#[-1,pa,rfl,#[_,kF.of fl],BS (xs:=rv) (λi U' H'=>(∀b o,b≠x->H b=some o->H' b=some o)/\H' x=some (.ins CK dx [("rows",.ref r),("leads",.ref p),("lines",.ref d)])/\H' p=some (.lst (XZ rs rs.length))/\(∃(a b c:i4 V),U'=[some (.ref x),some (.ref r),some (.ref pa),a,b,c])/\ ∃(kvs:a6 (Bk×V)),H' d=some (.dK kvs)/\kvs.length<=i/\ ∀p:Int,Yv H' (Ak kvs (.inl p)) (FU (ls.take i) p)) #[fr,ex,epl,#[_,_,-1],[],edk,zS _,λ_=>trivial] ?_ ?_ ?_]
  ·rintro i U' H' _ ⟨fr,_⟩;exact kF.of (fr _ _ (λz=>by rw[z,hx]at hp;cases hp) hp)
  ·rintro i v U' H' hv ⟨fr,ex,epl,⟨a,b,c,rfl⟩,kvs,edk,hk,hl⟩;obtain⟨l,hll,t,rfl,et⟩:=Paired.yonder pp hv;have et':=fr _ _ (λz=>by rw[z,hx]at et;cases et) et;obtain⟨hi,hle⟩:=List.getElem?_eq_some_iff.mp hll;have ml:l∈ls:=hle▸vH hi;obtain⟨n1,n2⟩:=nn l ml;refine#[t,-1,uZ.of et',rfl,_,-1,_,-1,_,-1,rfl,?_];refine#[-2,sm2,λu hu=>?_];have s1:=zN hu (.tup [.int l.2.1,.int l.2.2]);have edk1:=s1 _ _ edk;refine#[-1,x,CK,dx,_,-1,s1 _ _ ex,T.ck,T.clines,rfl,-1,d,-1,Qr.k (k:=.inl l.1) edk1 (),?_];have kp: ∀b o,b≠d->H' b=some o->upd (upd H' u (.tup [.int l.2.1,.int l.2.2])) d (.dK (Ea kvs (.inl l.1) (.ref u))) b=some o:=λb o nb e=>by
    rw[yQ nb];exact s1 _ _ e
   refine#[λb o nb e=>kp _ _ (xB e hd) (fr _ _ nb e),kp _ _ nxd ex,kp _ _ npd epl,#[_,_,-1],_,zE,yU (AK ..) (uY hk),λy=>?_];have ek:FU (ls.take (i+1)) y=if y=l.1 then some (l.2.1.toNat,l.2.2.toNat)else FU (ls.take i) y:=by
    rw[jO,hll];unfold FU YM;rw[List.foldl_append];rfl
   rw[ek,IB]
   by_cases z:y=l.1
   ·rw[zP z,zP (by rw[z])];refine#[u,rfl,?_];rw[yQ (λz=>by rw[z,edk]at hu;cases hu),zE];show some (HO.tup [.int l.2.1,.int l.2.2])=some (HO.tup [.int ((l.2.1.toNat:Nat):Int),.int ((l.2.2.toNat:Nat):Int)]);rw[qM n1,qM n2]
   ·rw[zO z,zO (λw=>z (Fa w))];exact IZ (λb xs e=>kp _ _ (λw=>by rw[w,edk]at e;cases e) e) (hl y)
  ·rintro U' H' ⟨fr,ex,epl,⟨a,b,c,rfl⟩,kvs,edk,hk,hl⟩;rw[lp,xZ]at hl;refine λqa hq=>?_;have nxq:x≠qa:=xB ex hq;refine#[-1,x,CK,dx,-1,(yQ nxq).trans ex,T.ck,T.cright,(show 3<1000 by decide),?_];have kp: ∀b o,b≠x->H' b=some o->upd (upd H' qa (.dK [])) x (CkO CK dx r p d qa) b=some o:=λb o nb e=>by
    rw[yQ nb,yQ (xB e hq)];exact e
   have eq:upd (upd H' qa (.dK [])) x (CkO CK dx r p d qa) qa=some (.dK []):=by rw[yQ (Ne.symm nxq),zE]
   have hqn:H qa=none:=by
    cases e:H qa with
    |none=>rfl
    |some o=>rw[fr _ _ (Ne.symm nxq) e]at hq;cases hq
   refine q p d qa _ (λb o nb e=>kp _ _ nb (fr _ _ nb e)) #[zE,#[vr,kp _ _ (λz=>by rw[z,hx]at er;cases er) (fr _ _ (λz=>by rw[z,hx]at er;cases er) er),Paired.imp (λ_ _ ⟨t,a,b⟩=>#[t,a,kp _ _ (λz=>by rw[z,hx]at b;cases b) (fr _ _ (λz=>by rw[z,hx]at b;cases b) b)]) pr],kp _ _ (Ne.symm nxp) epl,#[kvs,kp _ _ (Ne.symm nxd) edk,λy=>IZ (λb xs e=>kp _ _ (λw=>by rw[w,ex]at e;cases e) e) (hl y)],#[[],eq,λ_=>rfl]] eq (xB edk hq) hqn
inductive GG (vs:List V) (H:Hp) (Q:VK) (E:XK):Prop
 |mk (pl hl:i3) (r:DJ×List Nd) (gs:List (List Int)) (hs:FV) (h0:vs=[.ref pl,.ref hl]) (h1:Jm H pl r) (h2:qS H hl gs) (h3:gs=hs.map (λh=>[h.1,h.2.1,h.2.2])) (h4:r.1.length<=1000) (h5:hs.length<=1000) (h6: ∀H',xK H H'->Q (.bl (decide (r.1=hs.map λh=>(h.2.1,h.2.2)))) H'):GG vs H Q E
theorem SA (eu:H u=some (.lst zs))(ha:H a=none)(pz:Paired (Qp H) zs gs):Paired (Qp (upd (upd H a (.tup [.int p.1,.int p.2])) u (.lst (zs++[.ref a])))) (zs++[.ref a]) (gs++[p]):=by
 have nu:a≠u:=λz=>by rw[z,eu]at ha;cases ha
 refine Paired.append (Paired.imp ?_ pz) (.cons #[a,rfl,by rw[yQ nu,zE]] .nil);rintro v p ⟨t,e1,e2⟩;refine#[t,e1,?_];rw[yQ (λz=>by rw[z,eu]at e2;cases e2)];exact zN ha _ _ _ e2
theorem LY (T:CV K mg CK)(F:qZ K "have_same_boxes" "have_same_boxes" uB f fd):vX P w K mg base 1 f fd ["program","heads"] GG:=by
 exists El;obtain⟨pl,hl,r,gs,hs,rfl,⟨vp,ep,ln,pp⟩,⟨vh,eh,ph⟩,rfl,n1,n2,q⟩:=h;exists _,(zB (Gh (i:=2) El.nd rfl rfl (own:=["params","boxes","body"]) (ys:=[]) rfl (Ae (pv 0)) (wU (sc:=zW uB) rfl (by decide+kernel)) .nil (λ_ _ _ _ _=>(Kr (n:=3) K rfl rfl (yE (yA 0 (show List.Nodup [("params":Str),("boxes":Str),("body":Str)]from(by decide+kernel))) (yE (yA 1 (show List.Nodup [("params":Str),("boxes":Str),("body":Str)]from(by decide+kernel))) (yE (yA 2 (show List.Nodup [("params":Str),("boxes":Str),("body":Str)]from(by decide+kernel))) jJ))))) (λ_ _ _ _ _=>AT) (λ_ _ _ _ _=>(xM (zA (pv 0) (zA (pv 1) zC)))))
   (zI (zV (uC (ZN hr) (pv 2) (Dk (own:=["start","params","boxes"]) (ys:=[]) rfl (Ae (pv 1)) (wU (sc:=zW uB) rfl (by decide+kernel)) .nil (λ_ _ _ _ _=>(Kr (n:=3) K rfl rfl (yE (yA 0 (show List.Nodup [("start":Str),("params":Str),("boxes":Str)]from(by decide+kernel))) (yE (yA 1 (show List.Nodup [("start":Str),("params":Str),("boxes":Str)]from(by decide+kernel))) (yE (yA 2 (show List.Nodup [("start":Str),("params":Str),("boxes":Str)]from(by decide+kernel))) jJ))))) (λ_ _ _ _ _=>AT) (λ_ _ _ _ _=>(xM (zA (pv 1) (zA (pv 2) zC))))) (zY _)))))
 have sl:sizeLine=16777216:=wG;have lp:=Paired.len pp;have lh:=Paired.len ph;rw[jS,<-ln,Nat.min_self]at lp;rw[zM]at lh;refine#[-1,pl,rfl,#[_,kF.of ep],λu hu=>?_];refine Ey (xs:=vp) (λi U' H'=>xK H H'/\(∃a b c,U'=[a,b,c])/\ ∃zs,H' u=some (.lst zs)/\Paired (Qp H') zs (r.1.take i)) #[zN hu _,#[_,_,-1],[],zE,.nil] ?_ ?_ ?_
 ·rintro i U' H' _ ⟨s1,_⟩;exact kF.of (s1 _ _ ep)
 ·rintro i x U' H' hi hx ⟨s1,⟨a,b,c,rfl⟩,zs,eu,pz⟩;obtain⟨g,hg,t,bd,rfl,et,_⟩:=Paired.yonder pp hx;have hg1:=(List.getElem?_zip_eq_some.mp hg).1;have tk:r.1.take (i+1)=r.1.take i++[g.1]:=by rw[jO,hg1]<;>rfl
  have lz:=Paired.len pz;rw[yW]at lz;refine#[t,-1,uZ.of (s1 _ _ et),rfl,_,-1,_,-1,_,-1,rfl,?_];refine OI #[-2,sm2,λa1 h1=>#[_,zN h1 _ _ _ eu,(),CW.next hi #[λb o e=>?_,#[_,_,-1],_,zE,?_]]]
  ·rw[yQ (xB e hu)];exact zN h1 _ _ _ (s1 _ _ e)
  ·rw[tk];exact SA eu h1 pz
 ·rintro U' H1 ⟨s1,_,zs,eu,pz⟩;rw[lp,xZ]at pz;refine#[-1,?_];refine#[-1,hl,rfl,#[_,kF.of (s1 _ _ eh)],λv hv=>?_];refine Ey (xs:=vh) (λi U' H'=>xK H1 H'/\(∃a b c,U'=[a,b,c])/\ ∃zs,H' v=some (.lst zs)/\Paired (Qp H') zs ((hs.map λh=>(h.2.1,h.2.2)).take i)) #[zN hv _,#[_,_,-1],[],zE,.nil] ?_ ?_ ?_
  ·rintro i U' H' _ ⟨s2,_⟩;exact kF.of (s2 _ _ (s1 _ _ eh))
  ·rintro i x U' H' hi hx ⟨s2,⟨a,b,c,rfl⟩,zs,eu,pz⟩;obtain⟨g,hg,t,rfl,et⟩:=Paired.yonder ph hx;rw[yJ]at hg;obtain⟨h,hh,rfl⟩:=Option.map_eq_some_iff.mp hg;have tk:(hs.map λh=>(h.2.1,h.2.2)).take (i+1)=(hs.map λh=>(h.2.1,h.2.2)).take i++[(h.2.1,h.2.2)]:=by rw[jO,yJ,hh]<;>rfl
   have lz:=Paired.len pz;rw[yW,zM]at lz;refine#[t,-1,uZ.of (s2 _ _ (s1 _ _ et)),rfl,_,-1,_,-1,_,-1,rfl,?_];refine OI #[-2,sm2,λa1 h1=>#[_,zN h1 _ _ _ eu,(),CW.next hi #[λb o e=>?_,#[_,_,-1],_,zE,?_]]]
   ·rw[yQ (xB e hv)];exact zN h1 _ _ _ (s2 _ _ e)
   ·rw[tk];exact SA (p:=(h.2.1,h.2.2)) eu h1 pz
  ·rintro U' H2 ⟨s2,_,ys,ev,py⟩;rw[lh,xW (by rw[zM];exact zS _)]at py;exact#[u,v,zs,ys,r.1,-1,rfl,kF.of (s2 _ _ eu),kF.of ev,Paired.imp (λ_ _ ⟨t,e1,e2⟩=>#[t,e1,s2 _ _ e2]) pz,py,q _ (s1.trans s2)]
def RU (v:V)(tl wl:i3)(H:Hp)(nd:Nd)(m:Nat)(U':St)(H':Hp):Prop:= ∃(done st:a6 Nd) (us ws:a6 V) (v3 v4:i4 V),U'=[some v,some (.ref tl),some (.ref wl),v3,v4]/\m=(jR st).length/\xK H H'/\H' tl=some (.lst us)/\H' wl=some (.lst ws)/\Paired (jK H' 10) us done/\Paired (jK H' 10) ws st/\done++jR st.reverse=pre nd
theorem Pm (T:Jk K mg aP CL)(n_reversed:mg "reversed"=none)(F:qZ K "nodes_in" "nodes_in" Ih f fd):vX P w K mg base 1 f fd ["body"] Ju:=by
 exists Dr;obtain⟨v,nd,rfl,hv,hc,q⟩:=h;exists _,(zB (yP 1 Dr.nd (kU zC))
   (zB (yP 2 Dr.nd (kU (zA (pv 0) zC)))
   (zB (Pa xE (OZ (pv 2) (λ_=>rfl)) (zB (yP 3 Dr.nd (ZK yF PySem.F.slot_list_pop PySem.F.type_list_pop ZT (pv 2)))
   (zB (jM (uQ yF yM yL jQ (pv 1) (zA (pv 3) zC)))
   (zI (wD xE rfl (ZF rfl n_reversed (zA (yZ xL (pv 3) zH (λ_ _=>rfl)) zC)) (yA 4 Dr.nd) (zI (jM (uQ yF yM yL jQ (pv 2) (zA (pv 4) zC)))))))))
   (zI (zV (pv 1))))))
 refine#[zz0,λtl htl=>?_];have s1:=zN htl (.lst []);refine#[-1,sm1,λwl hwl=>?_];have s2:=zN hwl (.lst [v]);have hwl0:H wl=none:=s1.free hwl;have ntw:tl≠wl:=xB zE hwl;have sl:sizeLine=16777216:=wG;refine#[RU v tl wl H nd,
  #[_,[],[nd],[],[v],_,-1,rfl,s1.trans s2,s2 _ _ zE,zE,.nil,.cons (hv.tups (.same (s1.trans s2))) .nil,by simp[jR]],?_]
 rintro m U' H' ⟨done,st,us,ws,v3,v4,rfl,rfl,g,et,ew,pu,pw,eq⟩;refine#[-1,!ws.isEmpty,.inl #[ws,.of ew,rfl],?_]
 rcases List.eq_nil_or_concat ws with rfl|⟨ws',x,rfl⟩
 ·cases pw;refine xX #[-1,q tl us H' g htl et ?_];have:done=pre nd:=by simpa[jR]using eq
  rw[<-this];exact pu
 rw[List.concat_eq_append]at *
 obtain⟨st',n,rfl,pw',nx⟩:=Paired.unsnoc pw;have ne:(!(ws'++[x]).isEmpty)=true:=by simp
 rw[ne];refine jC #[λU'' H''=> ∃m',m'<(jR (st'++[n])).length/\ ∃(done st:a6 Nd) (us ws:a6 V) (v3 v4:i4 V),U''=[some v,some (.ref tl),some (.ref wl),v3,v4]/\m'=(jR st).length/\xK H H''/\H'' tl=some (.lst us)/\H'' wl=some (.lst ws)/\Paired (jK H'' 10) us done/\Paired (jK H'' 10) ws st/\done++jR st.reverse=pre nd,λ_ _ z=>z,?_];cases n with
 |mk k p own ps=>
 obtain⟨t,o,pq,vs,rfl,etn,eo,ep,pr⟩:=nx;have eq2:done++(.mk k p own ps::(jR ps++jR st'.reverse))=pre nd:=by
  rw[<-eq];simp[jR,pre,Aa]
 have tot:done.length+1+(jR ps).length +(jR st').length<=1000000:=by
  have:=qX List.length eq2;rw[<-Gj st'];simp only[zG,zJ]at this;lia
 have lu:us.length=done.length:=Paired.len pu;have lw:ws'.length<=(jR st').length:=by rw[Paired.len pw'];exact Ld st'
 have lv:vs.length<=(jR ps).length:=by rw[Paired.len pr];exact Ld ps
 refine#[-1,.inl #[rfl,_,.of ew],wl,_,.ref t,rfl,rfl,ew,by simp,?_];have dl:(ws'++[V.ref t]).dropLast =ws':=by simp
 have et1:upd H' wl (.lst (ws'++[V.ref t]).dropLast) tl=some (.lst us):=by rw[yQ ntw];exact et
 refine#[-1,.inl #[rfl,_,.of et1],-1,tl,us,-1,rfl,et1,(),?_];have tp2:qE H' (upd (upd H' wl (.lst (ws'++[V.ref t]).dropLast)) tl (.lst (us++[V.ref t]))):=.trans (.upd ew) (.upd et1);have g2:xK H (upd (upd H' wl (.lst (ws'++[V.ref t]).dropLast)) tl (.lst (us++[V.ref t]))):=(g.fresh hwl0).fresh htl;refine#[-1,t,_,_,-1,rfl,.of (tp2 _ _ etn),rfl,pq,vs,rfl,.of (tp2 _ _ ep),Ye (xs:=vs) (λi U'' H''=> ∃v4,U''=[some v,some (.ref tl),some (.ref wl),some (.ref t),v4]/\xK H H''/\H'' tl=some (.lst (us++[.ref t]))/\H'' wl=some (.lst (ws'++vs.reverse.take i))/\qE H' H'')
  #[-1,g2,zE,by rw[yQ (Ne.symm ntw),zE,dl];simp,tp2] ?_ ?_ ?_]
 ·rintro i U'' H'' _ ⟨v4,rfl,_,_,_,tp⟩;exact .of (tp _ _ ep)
 ·rintro i x U'' H'' hx ⟨v4,rfl,g3,et3,ew3,tp⟩;have hi:i<vs.length:=by have:=(List.getElem?_eq_some_iff.mp hx).1;simpa using this
  refine#[-1,.inl #[rfl,_,.of ew3],-1,wl,_,-1,rfl,ew3,?_,?_]
  ·simp only[zG,yW,DT];lia
  ·refine#[-1,g3.fresh hwl0,by rw[yQ ntw];exact et3,?_,.trans tp (.upd ew3)];rw[zE,jO,hx,yS];rfl
 ·rintro U'' H'' ⟨v4,rfl,g3,et3,ew3,tp⟩;have tk:vs.reverse.take vs.length=vs.reverse:=by rw[<-DT (as:=vs),xZ]
  rw[tk]at ew3;refine#[_,?_,done++[.mk k p own ps],st'++ps.reverse,_,_,_,-1,rfl,g3,et3,ew3,BD (Paired.imp (λ_ _ z=>z.tups tp) pu) (jK.tups (d:=10) (n:=.mk k p own ps) tp #[t,o,pq,vs,rfl,etn,eo,ep,pr]),Paired.append (Paired.imp (λ_ _ z=>z.tups tp) pw') (Paired.imp (λ_ _ z=>(jK.tups tp z).more) (Paired.rev pr)),?_]
  ·simp only[Aa,Gj,zG,jR,pre,zJ,An];lia
  ·rw[<-eq2];simp[Aa]
mutual
theorem zAj: ∀(t:Tr) (p:Nat),(pre (Uw p t)).length<=(Gn t).length
 | .mk k own ps,p=>by
  have:=On ps (p+1+own.length);rw[Uw,pre,Gn,zJ,zJ,zG];lia
theorem On: ∀(ts:a6 Tr) (p:Nat),(jR (Jp p ts)).length<=(qQ ts).length
 |[],p=>by rw[Jp,jR];exact xG _
 |a::r,p=>by
  have:=zAj a p;have:=On r (p+(Gn a).length);rw[Jp,jR,qQ,zG,zG];lia
end
inductive QG (vs:List V) (H:Hp) (Q:VK) (E:XK):Prop
 |mk (a:i3) (ns:List Int) (r:DJ×List Nd) (h0:vs=[.ref a]) (h1:H a=some (.lst (ns.map V.int))) (h2:ns.length<=1000000) (h3:Shr ns r) (h4: ∀l us H',xK H H'->H l=none->H' l=some (.lst us)->Paired (jK H' 10) us (jR r.2)->Q (.ref l) H'):QG vs H Q E
def Us (a tl l:i3)(rs:a6 V)(nds:a6 Nd)(H H1:Hp)(i:Nat)(U':St)(H':Hp):Prop:= ∃(us:a6 V) (v2 v3 v4:i4 V),U'=[some (.ref a),some (.ref tl),v2,v3,v4]/\i<=rs.length/\xK H H'/\H' l=some (.lst rs)/\qE H1 H'/\H' tl=some (.lst us)/\Paired (jK H' 10) us (jR (nds.take i))
theorem Tz (T:Jk K mg aP CL)(F:qZ K "nodes" "nodes" NI f fd)(Ck:kB P w K mg base 17 "functions" ["sheet"] HY)(Cd9:kB P w K mg base 1 "nodes_in" ["body"] Ju):
  vX P w K mg base 18 f fd ["sheet"] QG:=by
 exists GN;obtain⟨a,ns,r,rfl,ha,hz,er,t1⟩:=h;exists _,(zB (yP 1 GN.nd (kU zC))
   (zB (wD xE rfl (Ae (zK Ck hr rfl (zA (pv 0) zC) zX)) (kZ rfl (yE (yA 2 GN.nd) (yE (yA 3 GN.nd) (yE (yA 4 GN.nd) jJ)))) (zI (jM (uQ yF Fm Fl ME (pv 1) (zA (zK Cd9 hr rfl (zA (pv 4) zC) zX) zC)))))
   (zI (zV (pv 1)))))
 refine#[zz0,λtl htl=>?_];have s1:=zN htl (.lst []);have sl:sizeLine=16777216:=wG;refine#[-1,a,ns,r,rfl,s1 _ _ ha,er,λl H1 s2 fr fa=>?_];obtain⟨rs,el,ln,pr⟩:=fa;have cnt:(jR r.2).length<=ns.length:=by
  obtain⟨ts,S,e⟩:=er;have:=S.en;have:=On ts (1+2*r.1.length);rw[e];lia
 have ntl:l≠tl:=λz=>by rw[z]at fr;rw[zE]at fr;cases fr
 obtain⟨hs,nds⟩:=r;simp only at ln pr cnt;have lr:rs.length=nds.length:=by have:=Paired.len pr;rw[jS]at this;lia
 refine#[l,rfl,#[rs,.of el],BS (xs:=rs) (Us a tl l rs nds H H1)
  #[[],_,_,-1,xG _,s1.trans s2,el,λ_ _ e=>e,s2 _ _ zE,.nil] ?_ ?_ ?_]
 ·rintro i U' H' _ ⟨us,v2,v3,v4,rfl,_,_,e,_⟩;exact .of e
 ·rintro i x U' H' hx ⟨us,v2,v3,v4,rfl,_,g,el',tp,et,pu⟩;have hi:i<rs.length:=(List.getElem?_eq_some_iff.mp hx).1;have e2:nds[i]? =some nds[i]:=zF (by omega);have e1:hs[i]? =some (hs[i]'()):=zF ();generalize nds[i]=ni at *
  generalize hs[i]'()=hx1 at *
  obtain⟨t,b,rfl,ett,nb⟩:=Paired.get pr i _ _ hx ((EK (z:=(hx1,ni))).mpr #[e1,e2]);have tk:nds.take (i+1)=nds.take i++[ni]:=by rw[jO,e2];rfl
  have c1:(jR (nds.take (i+1))).length<=(jR nds).length:=by
   conv=>rhs;rw[<-wJ (i+1) nds]
   rw[Aa,zG];lia
  rw[tk,Aa,zG]at c1;simp only[jR,xJ]at c1;refine#[t,-1,.of (tp _ _ ett),rfl,_,-1,_,-1,_,-1,rfl,?_];refine#[-1,.inl #[rfl,_,.of et],-1,b,ni,rfl,nb.tups tp,(),λl2 us2 H2 g2 fr2 el2 pu2=>?_];have lu:us.length=(jR (nds.take i)).length:=Paired.len pu;have lu2:us2.length=(pre ni).length:=Paired.len pu2;refine#[tl,l2,us,us2,rfl,rfl,g2 _ _ et,el2,(),?_];have et2:=g2 _ _ et;refine#[_,_,_,-1,hi,(g.trans g2).fresh htl,by rw[yQ ntl];exact g2 _ _ el',.trans tp (.trans (.same g2) (.upd et2)),zE,?_];rw[tk,Aa];simp only[jR,xJ];exact Paired.append (Paired.imp (λ_ _ z=>z.tups (.trans (.same g2) (.upd et2))) pu) (Paired.imp (λ_ _ z=>z.tups (.upd et2)) pu2)
 ·rintro U' H' ⟨us,v2,v3,v4,rfl,_,g,el',tp,et,pu⟩;rw[lr,xZ]at pu;exact#[-1,t1 tl us H' g htl et pu]
theorem Ps (T:GB K mg)(F:qZ K "heads_of" "heads_of" Ik f fd)(Cq:kB P w K mg base 3 "is_code" ["thing"] Ei)(Ca6:kB P w K mg base 2 "heads_in" ["numbers"] Hz):vX P w K mg base 4 f fd ["code"] Jz:=by
 exists OO;obtain⟨a,ns,rfl,ha,hl,hk,q⟩:=h;exists _,(zB (xC (qK (kT (zK Cq hr rfl (zA (pv 0) zC) zX))) (zI Bm) yD)
   (zI (zV (zK Ca6 hr rfl (zA (pv 0) zC) zX))))
 refine#[-1,a,ns,rfl,ha,hl,λr H1 g1 z=>#[-1,?_]];rw[z.mpr hk];obtain⟨n,ms,e,h1,h2,_⟩:=hk.big;exact xX #[-1,a,ns,rfl,g1 _ _ ha,hl,#[n,ms,e,(),()],λl H2 g2 hl2 at2=>q l H2 (g1.trans g2) (g1.free hl2) at2]
theorem QZ (T:GB K mg)(F:qZ K "rows_of" "rows_of" JF f fd)(Cq:kB P w K mg base 3 "is_code" ["thing"] Ei)(Cb0:kB P w K mg base 2 "rows_in" ["numbers"] IE):vX P w K mg base 4 f fd ["code"] KD:=by
 exists QM;obtain⟨a,ns,rfl,ha,hl,hk,q⟩:=h;exists _,(zB (xC (qK (kT (zK Cq hr rfl (zA (pv 0) zC) zX))) (zI Bm) yD)
   (zI (zV (zK Cb0 hr rfl (zA (pv 0) zC) zX))))
 refine#[-1,a,ns,rfl,ha,hl,λr H1 g1 z=>#[-1,?_]];rw[z.mpr hk];obtain⟨n,ms,e,h1,h2,_⟩:=hk.big;exact xX #[-1,a,ns,rfl,g1 _ _ ha,hl,#[n,ms,e,(),()],λl H2 g2 hl2 at2=>q l H2 (g1.trans g2) (g1.free hl2) at2]
noncomputable def OX (rs:vS)(L:Int->i4 (Nat×Nat)):a6 Nd->Int->i4 i7
 |[]=>λ_=>none
 |nd::r=>λp=>if p=AB nd then some (WZ rs L (OX rs L r) nd)else OX rs L r p
noncomputable def lbM (rs:vS)(L:Int->i4 (Nat×Nat))(hs:FV)(nds:a6 Nd):i7:=(hs.zip nds).all λx=>So rs x.1.1.toNat ((OX rs L (jR nds) (AB x.2)).getD false) (xS L x.2)
theorem UZ: ∀{nd:Nd},WZ rs L R nd=true->(L (AB nd)).isSome =true
 | .mk k p own ps,h=>by
  unfold WZ at h;dsimp only at h;show(L (p:Int)).isSome =true;cases z:L (p:Int)with
  |none=>rw[z]at h;cases h
  |some be=>rfl
theorem NO: ∀{ns:a6 Nd} {x:Nd},x∈ns-> ∃b,OX rs L ns (AB x)=some b/\(b=true->(L (AB x)).isSome =true)
 |nd::r,x,m=>by
  by_cases h:AB x=AB nd
  ·refine#[WZ rs L (OX rs L r) nd,by rw[h];exact zP rfl,λz=>?_];rw[h];exact UZ z
  ·have m':x∈r:=by
    rcases List.mem_cons.mp m with rfl|m'
    ·exact absurd rfl h
    ·exact m'
   obtain⟨b,e,z⟩:=NO (rs:=rs) (L:=L) m';exact#[b,(zO h).trans e,z]
noncomputable def Hm:Nd->a6 Nd
 | .mk _ _ _ ps=>ps
def Xe:a6 Nd->Prop
 |[]=>True
 |nd::r=>(∀x∈Hm nd,x∈r)/\Xe r
theorem XX: ∀x:Nd,x∈pre x
 | .mk k p own ps=>by
  unfold pre;exact yC ..
theorem Hl: ∀{ps:a6 Nd} {x:Nd},x∈ps->x∈jR ps
 |a::r,x,m=>by
  unfold jR
  rcases List.mem_cons.mp m with rfl|m
  ·exact uK _ (XX x)
  ·exact jE _ (Hl m)
mutual
theorem Ya: ∀(a:Nd) (r:a6 Nd),Xe r->Xe (pre a++r)
 | .mk k p own ps,r,h=>by
  unfold pre;exact#[λx m=>uK _ (Hl m),Jb ps r h]
theorem Jb: ∀(l:a6 Nd) (r:a6 Nd),Xe r->Xe (jR l++r)
 |[],r,h=>by
  unfold jR;exact h
 |a::l,r,h=>by
  unfold jR;rw[yS];exact Ya a _ (Jb l r h)
end
theorem Xe.drop: ∀{ns:a6 Nd} {i:Nat} {nd:Nd} {r:a6 Nd},Xe ns->ns.drop i=nd::r-> ∀x∈Hm nd,x∈r
 |[],i,nd,r,_,e=>by
  rw[List.drop_nil]at e;cases e
 |a::ns,0,nd,r,h,e=>by
  cases e;exact h.1
 |a::ns,i+1,nd,r,h,e=>Xe.drop h.2 e
theorem Vh: ∀{ls:FV} {S:Int->i7},Lf D m S ls=true-> ∀l∈ls,0<=l.2.1/\0<=l.2.2
 |a::ls,S,h,l,ml=>by
  have h:(Rz D m a.1 a.2.1 a.2.2&&(!S a.1&&Lf D m (λx=>decide (x=a.1) || S x) ls))=true:=h;obtain⟨h1,h2⟩:=Bool.and_eq_true_iff.mp h;obtain⟨_,h2⟩:=Bool.and_eq_true_iff.mp h2
  rcases List.mem_cons.mp ml with rfl|ml
  ·obtain⟨_,h1⟩:=Bool.and_eq_true_iff.mp h1;obtain⟨e1,e2⟩:=Bool.and_eq_true_iff.mp h1;exact#[(yG e1).1,(yG e2).1]
  ·exact Vh h2 l ml
theorem zAk (h:Iy C H c dx r l d q rs L R)(e:H q=some (.dK kvs))(n:d≠q):Iy C (upd H q (.dK (Ea kvs (.inl p) (.bl b)))) c dx r l d q rs L (λy=>if y=p then some b else R y):=by
 have kp: ∀a o,a≠q->H a=some o->upd H q (.dK (Ea kvs (.inl p) (.bl b))) a=some o:=λa o na z=>by rw[yQ na];exact z
 obtain⟨kv,e1,e2⟩:=h.lines;obtain⟨kr,e3,e4⟩:=h.right;obtain⟨vs,e5,e6⟩:=h.rows;have e7:=h.ob;have e8:=h.leads;rw[e]at e3;cases e3;refine#[kp _ _ (λz=>by rw[z,e]at e7;cases e7) e7,#[vs,kp _ _ (λz=>by rw[z,e]at e5;cases e5) e5,Paired.imp (λ_ _ ⟨t,a,b⟩=>#[t,a,kp _ _ (λz=>by rw[z,e]at b;cases b) b]) e6],kp _ _ (λz=>by rw[z,e]at e8;cases e8) e8,#[kv,kp _ _ n e1,λy=>IZ (λt xs z=>kp _ _ (λw=>by rw[w,e]at z;cases z) z) (e2 y)],#[_,zE,λy=>?_]];rw[IB]
 by_cases z:y=p
 ·rw[zP (by rw[z]),zP z];rfl
 ·rw[zO (λw=>z (Fa w)),zO z];exact e4 y
noncomputable def Ux (ns:a6 Nd):Int->i7:=λp=>ns.any λx=>decide (AB x=p)
theorem SG: ∀(ns:a6 Nd) (acc:a6 (Bk×V)) (p:Int),RB ((ns.map λx=>((Sum.inl (AB x):Bk),V.bl true)).foldl (λacc x=>Ea acc x.1 x.2) acc) p=(RB acc p || Ux ns p)
 |[],acc,p=>(Bool.or_false _).symm
 |x::ns,acc,p=>by
  have e:Ux (x::ns) p=(decide (AB x=p) || Ux ns p):=rfl;have i:=SG ns (Ea acc (.inl (AB x)) (.bl true)) p;rw[Og]at i;rw[e];refine i.trans ?_;dsimp only;have e2:decide (p=AB x)=decide (AB x=p):=by rw[jT,jZ,jZ];exact eq_comm
  rw[e2];cases decide (AB x=p)<;>cases RB acc p<;>rfl
noncomputable def lsM (rs:vS)(hs:FV)(r:DJ×a6 Nd)(ls:FV):i7:=decide (r.1=hs.map λh=>(h.2.1,h.2.2))&&(Lf (Ux (jR r.2)) rs.length (λ_=>false) ls&&lbM rs (FU ls) hs r.2)
structure LtP (r:DJ×List Nd)(cs:List Int)(hs:FV)(rs:vS)(ls:FV):Prop where
 cl:cs.length<=1000000
 co:ED cs
 hd:GA 3 (headNums cs)=hs.map λh=>[h.1,h.2.1,h.2.2]
 rw_:GA 2 (rowNums cs)=Jo rs
 jo:OB rs
 uo:UOk rs
 r0:0<rs.length
 r1:rs.length<=1000
 h1:hs.length<=1000
 h0: ∀h∈hs,0<=h.1
 l1:ls.length<=1000
 f1:r.1.length<=1000
 p1:(jR r.2).length<=1000
 fit: ∀nd∈jR r.2,(∃hs bx,vU hs bx 10 (bare nd))/\OC 10 (bare nd)/\(Hm nd).length<=1000
inductive Nn (vs:List V) (H:Hp) (Q:VK) (E:XK):Prop
 |mk (a c pa:i3) (ns cs:List Int) (rv:List V) (ls hs:FV) (rs:vS) (r:DJ×List Nd) (h0:vs=[.ref a,.ref c,.ref pa]) (h1:H a=some (.lst (ns.map V.int))) (h2:ns.length<=1000000) (h3:Shr ns r) (h4:H c=some (.lst (cs.map V.int))) (h5:LtP r cs hs rs ls) (h6:H pa=some (.lst rv)) (h7:Paired (Kk H) rv ls) (h8: ∀H',xK H H'->Q (.bl (lsM rs hs r ls)) H'):Nn vs H Q E
inductive XMa (H5:Hp)(u:i3)(rr:a6 Nd)(i:Nat)(U':St)(H':Hp):Prop
 |mk (h0:xK H5 H') (h1:(∃x,U'=[x])) (as:a6 i3) (h2:H' u=some (.lst (as.map V.ref))) (h3:Paired (λa kv=>H' a=some (.tup [kV kv.1,kv.2])) as (((jR rr).take i).map λx=>(Sum.inl (AB x),V.bl true))):XMa H5 u rr i U' H'
inductive XMb (H8:Hp)(a c pa fl hl rl tl x CK dx ll dd qq:i3)(rs:vS)(ls:FV)(rr:a6 Nd)(n:Nat)(i:Nat)(U':St)(H':Hp):Prop
 |mk (h0:xK H8 H') (h1:(∃y,U'=[some (.ref a),some (.ref c),some (.ref pa),some (.ref fl),some (.ref hl),some (.ref rl),some (.ref tl),some (.ref x),y])) (h2:(∃kvs,H' qq=some (.dK kvs)/\kvs.length<=i)) (h3:Iy CK H' x dx rl ll dd qq rs (FU ls) (OX rs (FU ls) ((jR rr).drop (n-i)))):XMb H8 a c pa fl hl rl tl x CK dx ll dd qq rs ls rr n i U' H'
inductive XMc (H':Hp)(u x:i3)(rs:vS)(ls hs:FV)(rr:a6 Nd)(i:Nat)(U':St)(H3:Hp):Prop
 |mk (h0:xK H' H3) (h1:(∃a b,U'=[a,b,some (.ref x)])) (h2:H3 u=some (.lst ((((hs.zip rr).map λx=>So rs x.1.1.toNat ((OX rs (FU ls) (jR rr) (AB x.2)).getD false) (xS (FU ls) x.2)).take i).map V.bl))):XMc H' u x rs ls hs rr i U' H3
theorem XM (T:CV K mg CK)(F:qZ K "lets_by" "lets_by" Fw f fd)(Ck:kB P w K mg base 17 "functions" ["sheet"] HY)(Ce0:kB P w K mg base 4 "heads_of" ["code"] Jz)(Ce5:kB P w K mg base 4 "rows_of" ["code"] KD)(Cf3:kB P w K mg base 18 "nodes" ["sheet"] QG)(Cb1:kB P w K mg base 1 "have_same_boxes" ["program","heads"] GG)(Cd7:kB P w K mg base 3 "is_paper" ["paper","places","many_rows"] Jy)(Cf4:Qs P w K mg base (GC P w) 2 "Check" CK ["self","rows","paper"] (Nq CK))(Ce4:kB P w K mg base 15 "is_right" ["check","node"] (Jx CK 9))(Ca5:kB P w K mg base 3 "is_right_function" ["check","start","body"] (Js CK)):vX P w K mg base 19 f fd ["sheet","code","paper"] Nn:=by
 have n_reversed:=T.n_reversed;exists By;obtain⟨a,c,pa,ns,cs,rv,ls,hs,rs,r,rfl,ha,hn,ef,hc,L,hp,pp,q⟩:=h;exists _,(zB (yP 3 By.nd (zK Ck hr rfl (zA (pv 0) zC) zX))
   (zB (yP 4 By.nd (zK Ce0 hr rfl (zA (pv 1) zC) zX))
   (zB (yP 5 By.nd (zK Ce5 hr rfl (zA (pv 1) zC) zX))
   (zB (yP 6 By.nd (zK Cf3 hr rfl (zA (pv 0) zC) zX))
   (zB (xC (PW.pt (qF (qK (kT (zK Cb1 hr rfl (zA (pv 3) (zA (pv 4) zC)) zX))) (kK (qK (kT (zK Cd7 hr rfl (zA (pv 2) (zA (At (RK rfl) rfl T.n_dict Ym (zA (Dk (own:=["node"]) (ys:=[]) rfl (Ae (pv 6)) (wU (sc:=zW Fw) rfl (by decide+kernel)) .nil (λ_ _ _ _ _=>(yA 0 (show List.Nodup [("node":Str)]from(by decide+kernel)))) (λ_ _ _ _ _=>AT) (λ_ _ _ _ _=>(xM (zA (yZ (HK K rfl) (pv 0) zH (λ_ _=>rfl)) (zA kX zC))))) zC)) (zA (xF yX rfl T.n_len jY (zA (pv 5) zC)) zC))) zX)))))) (zI (zV kX)) yD)
   (zB (yP 7 By.nd (Pe Cf4 hr rfl (zA (pv 5) (zA (pv 2) zC)) zX) rfl (Or.inr rfl))
   (zB (wD xE rfl (Xv rfl n_reversed (zA (pv 6) zC)) (yA 8 By.nd) (zI (Kp (Bc hr) (jL (pv 7) rfl) (yZ xL (pv 8) zH (λ_ _=>rfl)) (zK Ce4 hr rfl (zA (pv 7) (zA (pv 8) zC)) zX) rfl)))
   (zI (zV (xF (Hq rfl) rfl T.n_all LL (zA (Dk (own:=["head","function"]) (ys:=["check"]) rfl (Vo false false rfl T.n_zip (zA (pv 4) (zA (pv 3) zC))) (wU (sc:=zW Fw) rfl (by decide+kernel)) (.cons (j:=7) rfl .nil) (λ_ _ _ _ _=>(Kr (n:=2) K rfl rfl (yE (yA 0 (show List.Nodup [("head":Str),("function":Str),("check":Str)]from(by decide+kernel))) (yE (yA 1 (show List.Nodup [("head":Str),("function":Str),("check":Str)]from(by decide+kernel))) jJ)))) (λ_ _ _ _ _=>AT) (λ_ _ _ _ _=>(zK Ca5 hr rfl (zA (pv 2) (zA (yZ (HK K rfl) (pv 0) zH (λ_ _=>rfl)) (zA (yZ (HK K rfl) (pv 1) zH (λ_ _=>rfl)) zC))) zX))) zC)))))))))))
 have sl:sizeLine=16777216:=wG;refine#[-1,a,ns,r,rfl,ha,ef,λfl H1 s1 _ fa=>?_];refine#[-1,c,cs,rfl,s1 _ _ hc,L.cl,L.co,λhl H2 g2 _ gh=>?_];have s2:=s1.trans g2;refine#[-1,c,cs,rfl,s2 _ _ hc,L.cl,L.co,λrl H3 g3 _ gr=>?_];have s3:=s2.trans g3;refine#[-1,a,ns,r,rfl,s3 _ _ ha,hn,ef,λtl us H4 g4 _ et pt=>?_];have s4:=s3.trans g4;rw[L.hd]at gh;rw[L.rw_]at gr;have g14:=g2.trans (g3.trans g4);refine#[-2,fl,hl,r,_,hs,rfl,fa.same g14,gh.same (g3.trans g4),rfl,L.f1,L.h1,λH5 g5=>?_];have s5:=s4.trans g5;have eq:lsM rs hs r ls=(decide (r.1=hs.map λh=>(h.2.1,h.2.2))&&(Lf (Ux (jR r.2)) rs.length (λ_=>false) ls&&lbM rs (FU ls) hs r.2)):=rfl;rw[eq]at q;refine#[-1,?_];cases z1:decide (r.1=hs.map λh=>(h.2.1,h.2.2))with
 |false=>
  rw[z1]at q;exact jC (q _ s5)
 |true=>
 rw[z1,yY]at q;refine xX ?_;refine#[-2,tl,rfl,#[_,kF.of (g5 _ _ et)],λu hu=>?_];refine Ey (xs:=us) (XMa H5 u r.2) #[zN hu _,#[-1],[],zE,.nil] ?_ ?_ ?_
 ·rintro i U' H' _ ⟨g,_⟩;exact kF.of (g _ _ (g5 _ _ et))
 ·rintro i x U' H' hi hx ⟨g,⟨y,rfl⟩,as,eu,pa'⟩;obtain⟨nd,hnd,na⟩:=Paired.yonder pt hx;obtain⟨k,p,own,ps⟩:=nd;obtain⟨t,o,y1,y2,rfl,et1,_⟩:=na;have tk:((jR r.2).take (i+1)).map (λx=>((Sum.inl (AB x):Bk),V.bl true))=((jR r.2).take i).map (λx=>((Sum.inl (AB x):Bk),V.bl true))++[(Sum.inl (p:Int),V.bl true)]:=by
   rw[jO,hnd,xN]<;>rfl
  have la:=Paired.len pa';rw[zM,yW]at la;have lu:=L.p1;dsimp only[AC];refine OI #[-1,t,_,_,-1,rfl,.of (g _ _ (g5 _ _ et1)),rfl,sm2,λa1 h1=>#[_,zN h1 _ _ _ eu,by rw[zM];(clear z1 eq;lia),CW.next hi #[λb o e=>?_,#[-1],as++[a1],?_,?_]]]
  ·rw[yQ (xB e hu)];exact zN h1 _ _ _ (g _ _ e)
  ·rw[zE,xN];rfl
  ·rw[tk];have nu:a1≠u:=λz=>by rw[z,eu]at h1;cases h1
   refine Paired.append (Paired.imp ?_ pa') (.cons ?_ .nil)
   ·intro b kv e;rw[yQ (λz=>by rw[z,eu]at e;cases e)];exact zN h1 _ _ _ e
   ·rw[yQ nu,zE];rfl
 ·rintro U' H6 ⟨g6,_,as,eu,pa'⟩;have lu:=Paired.len pt;rw[lu,xZ]at pa';refine#[u,as,-1,eu,pa',λd hd=>?_];have s7:=(s5.trans g6).trans (zN hd (.dK (Hf ((jR r.2).map λx=>((Sum.inl (AB x):Bk),V.bl true)))));have g7:=((g4.trans g5).trans g6).trans (zN hd (.dK (Hf ((jR r.2).map λx=>((Sum.inl (AB x):Bk),V.bl true)))));obtain⟨vr,erl,prr⟩:=gr;have lr:vr.length=rs.length:=(Paired.len prr).trans (zM ..);refine#[-1,rl,-1,.inl (kF.of (g7 _ _ erl)),pa,d,_,rv,ls,Ux (jR r.2),rfl,s7 _ _ hp,Paired.imp (λ_ _ ⟨t,e1,e2⟩=>#[t,e1,s7 _ _ e2]) pp,#[_,zE,λp=>SG (jR r.2) [] p],L.l1,λH8 g8=>?_];have s8:=s7.trans g8;rw[lr];refine#[-1,?_];cases z2:Lf (Ux (jR r.2)) rs.length (λ_=>false) ls with
  |false=>
   rw[z2]at q;exact jC (q _ s8)
  |true=>
  rw[z2,yY]at q;refine xX ?_;refine#[-2,λx dx hx hdx ndx=>?_];have gm:xK H8 (upd (upd H8 dx (.own x)) x (.ins CK dx [])):=λb o e=>by
   rw[yQ (xB e hx),yQ (xB e hdx)];exact e
  have s9:=s8.trans gm;have g9:=(g7.trans g8).trans gm;refine#[x,dx,rl,pa,rs,rv,ls,rfl,zE,#[vr,g9 _ _ erl,Paired.imp (λ_ _ ⟨t,e1,e2⟩=>#[t,e1,g9 _ _ e2]) prr],L.jo,L.r0,L.r1,s9 _ _ hp,Paired.imp (λ_ _ ⟨t,e1,e2⟩=>#[t,e1,s9 _ _ e2]) pp,Vh z2,L.l1,λll dd qq H9 k9 C9 eq9 nq hqn=>#[rfl,?_]];have gk:xK H8 H9:=λb o e=>k9 _ _ (xB e hx) (gm _ _ e);have hq8:H8 qq=none:=by
   cases e:H8 qq with
   |none=>rfl
   |some o=>rw[gm _ _ e]at hqn;cases hqn
  have g48:xK H4 H8:=((g5.trans g6).trans (zN hd (.dK (Hf ((jR r.2).map λx=>((Sum.inl (AB x):Bk),V.bl true)))))).trans g8;have lu:=Paired.len pt;have kd:Xe (jR r.2):=by
   have z:=Jb r.2 [] trivial;rw[xJ]at z;exact z
  refine#[-1,tl,us,rfl,kF.of (gk _ _ (g48 _ _ et)),WB (xs:=us) (XMb H8 a c pa fl hl rl tl x CK dx ll dd qq rs ls r.2 us.length) #[gk,#[-1],#[[],eq9,zS _],by rw[Nat.sub_zero,lu,vI];exact C9] ?_ ?_ ?_]
  ·rintro i U' H' _ ⟨g,_⟩;exact kF.of (g _ _ (g48 _ _ et))
  ·rintro i v U' H' hv ⟨g,⟨y,rfl⟩,⟨kvs,ek,lk⟩,C⟩;have hi:i<us.length:=by
    have z:=(List.getElem?_eq_some_iff.mp hv).1
    rwa [DT]at z
   rw[CJ hi]at hv;obtain⟨nd,hnd,na⟩:=Paired.yonder pt hv;obtain⟨hj,ej⟩:=List.getElem?_eq_some_iff.mp hnd;have ed:(jR r.2).drop (us.length-(i+1))=nd::(jR r.2).drop (us.length-i):=by
    rw[show us.length-(i+1)=us.length-1-i by lia,yR hj,ej,show us.length-1-i+1=us.length-i by (clear eq;lia)]
   obtain⟨⟨hs',bx,fit⟩,fx,kl⟩:=L.fit nd (ej▸vH hj);have kc:=kd.drop ed;have lp1:=L.p1;obtain⟨k,p,own,ps⟩:=nd;have na1:jK H' (9+1) v (.mk k p own ps):=jK.tups (qE.same (g48.trans g)) na;have na0:=na1;obtain⟨t,o,y1,y2,rfl,et1,_⟩:=na0;dsimp only[AC];refine#[-2,x,dx,rl,ll,dd,qq,rs,_,_,_,k,p,own,ps,hs',bx,rfl,C,L.uo,na1,fit,fx,λz hz=>NO (kc z hz),kl,λH2 g2=>?_];refine#[-1,x,CK,dx,_,-1,(C.same g2).ob,T.ck,T.cright,rfl,-1,t,_,_,-1,rfl,.of (g2 _ _ et1),rfl,qq,-1,Qr.k (k:=.inl (p:Int)) (g2 _ _ ek) (),?_];refine#[λb o e=>?_,#[-1],#[_,zE,yU (AK ..) (uY lk)],?_]
   ·rw[yQ (xB e hq8)];exact g2 _ _ (g _ _ e)
   ·rw[ed];exact zAk (C.same g2) (g2 _ _ ek) nq
  ·rintro U' H' ⟨g,⟨y,rfl⟩,_,C⟩;rw[Ee,BZ]at C;obtain⟨vf,efl,ln,pf⟩:=fa;obtain⟨vh,ehl,ph⟩:=gh;have gz1:xK H1 H':=(g14.trans g48).trans g;have gz2:xK H2 H':=((g3.trans g4).trans g48).trans g;have lf:=Paired.len pf;have lh:=Paired.len ph;have e11:r.1.length=hs.length:=by rw[yG z1,zM]
   rw[jS]at lf;rw[zM]at lh;have lh1:=L.h1;refine#[-2,hl,fl,vh,vf,rfl,kF.of (gz2 _ _ ehl),kF.of (gz1 _ _ efl),λu hu=>?_];refine WN (b1:=false) (b2:=false) (xs:=vh) (ys:=vf) (XMc H' u x rs ls hs r.2) #[zN hu _,#[_,-1],zE] (by clear eq;lia) ?_ ?_ ?_
   ·rintro i U' H3 _ ⟨s,_⟩;exact#[kF.of (s _ _ (gz2 _ _ ehl)),kF.of (s _ _ (gz1 _ _ efl))]
   ·rintro i v1 v2 U' H3 t hi hv1 hv2 ⟨s,⟨a',b',rfl⟩,eu⟩ ht;obtain⟨hg,hhg,t1,rfl,et1⟩:=Paired.yonder ph hv1;rw[yJ]at hhg;obtain⟨h,hh,rfl⟩:=Option.map_eq_some_iff.mp hhg;obtain⟨⟨h2,nd⟩,hnd,t2,bd,rfl,et2,nb⟩:=Paired.yonder pf hv2;have hn2:=(List.getElem?_zip_eq_some.mp hnd).2;have ez:(hs.zip r.2)[i]? =some (h,nd):=List.getElem?_zip_eq_some.mpr #[hh,hn2];have tk:((hs.zip r.2).map λx=>So rs x.1.1.toNat ((OX rs (FU ls) (jR r.2) (AB x.2)).getD false) (xS (FU ls) x.2)).take (i+1)=((hs.zip r.2).map λx=>So rs x.1.1.toNat ((OX rs (FU ls) (jR r.2) (AB x.2)).getD false) (xS (FU ls) x.2)).take i++[So rs h.1.toNat ((OX rs (FU ls) (jR r.2) (AB nd)).getD false) (xS (FU ls) nd)]:=by
     rw[jO,yJ,ez]<;>rfl
    have st:=zN ht (.tup [.ref t1,.ref t2]);have s3:=s.trans st;have nn:=L.h0 h (xP hh);have nb3:jK (upd H3 t (.tup [.ref t1,.ref t2])) 10 bd nd:=jK.tups (qE.same (gz1.trans s3)) nb;obtain⟨pv,_⟩:=Ob (L:=FU ls) (R:=OX rs (FU ls) (jR r.2)) (Paired.cons nb3 .nil) (λz hz=>by
     rw[List.mem_singleton.mp hz];exact NO (Hl (xP hn2)))
    obtain _|⟨pv,_⟩:=pv
    refine#[t,-1,uZ.of zE,rfl,_,-1,_,-1,rfl,?_];refine OI #[-2,t1,_,_,-1,rfl,.of (s3 _ _ (gz2 _ _ et1)),rfl,-1,t2,_,_,-1,rfl,.of (s3 _ _ (gz1 _ _ et2)),rfl,x,dx,rl,ll,dd,qq,rs,_,_,h.1.toNat,bd,_,_,by rw[qM nn]<;>rfl,C.same s3,pv,λH5 g5=>?_];refine#[_,g5 _ _ (st _ _ eu),by rw[zM,yW,zM,jS];(clear eq;lia),CW.next hi #[λb o e=>?_,#[_,-1],?_]]
    ·rw[yQ (xB e hu)];exact g5 _ _ (s3 _ _ e)
    ·rw[zE,tk,xN];rfl
   ·rintro U' H3 ⟨s,_,eu⟩;rw[xW (by rw[zM,jS];(clear eq;lia))]at eu;refine#[u,-1,kF.of eu,?_];have e:((hs.zip r.2).map λx=>So rs x.1.1.toNat ((OX rs (FU ls) (jR r.2) (AB x.2)).getD false) (xS (FU ls) x.2)).all id=lbM rs (FU ls) hs r.2:=by
     rw[List.all_map];rfl
    rw[e];exact q _ ((s8.trans g).trans s)
mutual
noncomputable def CC (rs:vS)(L:Int->i4 (Nat×Nat)):Nd->i7
 | .mk k p own ps=>match L p with
  |none=>false
  |some be=>if Ss rs be (kP (.mk k own (zU ps)))=true then true
   else if k=4/\RL rs be ((wX rs L ps).zip (ps.map (xS L))) (Xb ps)=true then true
   else if(wX rs L ps).all id=true then Qu rs be k own (ps.map (xS L))else false
noncomputable def wX (rs:vS)(L:Int->i4 (Nat×Nat)):a6 Nd->a6 i7
 |[]=>[]
 |a::r=>CC rs L a::wX rs L r
end
theorem Sn {rs:vS}{L:Int->i4 (Nat×Nat)}{R:Int->i4 i7}: ∀{ps:a6 Nd},(∀x∈ps,R (AB x)=some (CC rs L x))->
  (ps.map λx=>(R (AB x)).getD false)=wX rs L ps/\(ps.map λx=>((R (AB x)).getD false,xS L x))=(wX rs L ps).zip (ps.map (xS L))
 |[],_=>by rw[wX];exact#[rfl,rfl]
 |a::r,h=>by
  obtain⟨e1,e2⟩:=Sn (ps:=r) λx m=>h x (zZ _ m);have e:=h a (yC ..);rw[wX,yO,yO,yO,qA,e1,e2,e];exact#[rfl,rfl]
theorem Xr: ∀{nd:Nd},(∀x∈Hm nd,R (AB x)=some (CC rs L x))->WZ rs L R nd=CC rs L nd
 | .mk k p own ps,h=>by
  obtain⟨e1,e2⟩:=Sn (ps:=ps) h;rw[WZ,CC,e1,e2]<;>(cases L (p:Int)<;>rfl)
theorem YF: ∀{ns:a6 Nd},Xe ns->(ns.map AB).Nodup-> ∀x∈ns,OX rs L ns (AB x)=some (CC rs L x)
 |nd::r,kd,nod,x,m=>by
  rw[yO,List.nodup_cons]at nod;have ih:=λy my=>YF (rs:=rs) (L:=L) kd.2 nod.2 y my
  rcases List.mem_cons.mp m with rfl|m'
  ·show(if AB x=AB x then some (WZ rs L (OX rs L r) x)else OX rs L r (AB x))=_;rw[zP rfl,Xr λy my=>ih y (kd.1 y my)]
  ·have ne:AB x≠AB nd:=λz=>nod.1 (z▸Bi m');show(if AB x=AB nd then some (WZ rs L (OX rs L r) nd)else OX rs L r (AB x))=_;rw[zO ne];exact ih x m'
theorem XO (T:GB K mg)(F:qZ K "_law_cell" "_law_cell" Hb f fd):vX P w K mg base 1 f fd ["_law_script","_law_k"] (Nr K):=by
 exists NG;obtain⟨a,ns,k,rfl,hs,hk,q⟩:=h;exists _,(zB (xC (zT wR (pv 1) (xF yX rfl T.n_len jY (zA (pv 0) zC)) (zY _)) (zI (zV (yZ xQ (pv 0) (pv 1) (λ_ _=>rfl)))) yD)
   (zI (zV zH)))
 have n8:((ns.map V.int).length:Int)=ns.length:=by rw[zM]
 refine#[-2,a,-1,.inl hs.sq,_,-1,rfl,-1,jB (λck=>?_) (λck=>q 0)];have ck':=yG ck;rw[n8]at ck';obtain⟨v,hv⟩:=Yp (ns:=ns) hk ck';exact#[-2,a,_,_,-1,rfl,hs.sq,hv,q v]
theorem XI (T:GB K mg)(F:qZ K "_law_take" "_law_take" GX f fd)(Cd4:kB P w K mg base 1 "_law_cell" ["_law_script","_law_k"] (Nr K)):vX P w K mg base 2 f fd ["_law_state","_law_most"] (DV K):=by
 exists uA;obtain⟨st,m,wt,rfl,hm0,hm1,D,q⟩:=h;exists _,(zB (qH (qW Br (pv 0) vQ (wH zH)) (ZG rfl (yE (yA 2 uA.nd) (yE (yA 3 uA.nd) (yE (yA 4 uA.nd) jJ)))))
   (zB (AI (xC (zT jD (pv 4) zH (zY _)) (zB (yP 5 uA.nd (zK Cd4 hr rfl (zA (pv 2) (zA (xD Hi (pv 3) zH) zC)) zX))
   (zB (qH (xD jA (pv 3) zH) (CS (pv 0) zH uV))
   (zI (xC (PW.pt (Ep (zT wR (pv 3) (xF yX rfl T.n_len jY (zA (pv 2) zC)) (zY _)) (DZ (zT Fz (pv 5) (xD ZL zH zH) (zY _))))) (zI (yP 4 uA.nd (pv 5))) (zB (yP 6 uA.nd (xD Hi (xD uN (xD jA (xD jA (xD Hi (pv 5) zH) (xD uN zH (pv 3))) zH) zH) zH))
   (zB (yP 6 uA.nd (xD Hi (xD jA (xD jA (xD uN (pv 6) (pv 6)) (xD uN zH (pv 6))) (pv 3)) zH))
   (zI (zV (xD Hi (xD Es (pv 6) zH) (pv 1)))))))))) yD))
   (zB (qH (xD Es (pv 4) (pv 1)) (CS (pv 0) zH uV))
   (zI (zV (xD Hi (pv 4) (pv 1)))))))
 obtain⟨a,ns,k,c,hst0,hs0,hl,hk,hc⟩:=D;refine#[-2,st,-1,kF.of hst0,λlc hlc=>?_];have sl:=zN hlc (.lst (Bg [V.ref a,V.int k,V.int c,V.int wt] none (some 3)));have hst:=sl _ _ hst0;have hs:Te K (upd H lc (.lst (Bg [V.ref a,V.int k,V.int c,V.int wt] none (some 3)))) a ns:=hs0.keep hst0 (qJ.same sl);refine#[lc,-1,kF.of zE,rfl,_,-1,_,-1,_,-1,rfl,?_];generalize upd H lc (.lst (Bg [V.ref a,V.int k,V.int c,V.int wt] none (some 3)))=H0 at *
 refine#[λU' H'=> ∃(v5 v6:i4 V) (c':Int),U'=[some (.ref st),some (.int m),some (.ref a),some (.int k),some (.int c'),v5,v6]/\0<=c'/\ ∃k' c0,H' st=some (.lst [.ref a,.int k',.int c0,.int wt])/\qJ st H0 H'/\0<=k'/\0<=c0,
  #[-1,rfl,-1,jB (λc0=>?_) (λc0=>#[_,_,c,rfl,hc,k,c,hst,qJ.refl _ _,hk,hc])],?_]
 ·refine#[-2,_,-1,rfl,(by decide:(0:Int)<63),a,ns,-1,hs,Ap _ (by decide),λx=>?_];refine#[-1,_,-1,rfl,-1,st,_,_,-1,rfl,hst,rfl,?_];have h1:upd H0 st (.lst [.ref a,.int (k+1),.int c,.int wt]) st=some (.lst [.ref a,.int (k+1),.int c,.int wt]):=zE;have k1:qJ st H0 (upd H0 st (.lst [.ref a,.int (k+1),.int c,.int wt])):=qJ.upd;have s1:Te K (upd H0 st (.lst [.ref a,.int (k+1),.int c,.int wt])) a ns:=hs.keep hst k1;have kH:=(qJ.same (st:=st) sl).trans k1;have p1:(0:Int)<2147483647:=by decide
  have p2:(0:Int)<2147483629:=by decide
  have p4:(0:Int)<2147483587:=by decide
  refine(λTT=>#[-2,a,-1,.inl s1.sq,_,-1,rfl,-1,jB (λca=>#[-1,_,-1,rfl,#[by decide,by decide,by decide],_,-1,rfl,-1,jB (λcb=>?A) (λcb=>TT)]) (λca=>xX TT)]) ?B
  case A=>
   have cb':(10:Int)^18<=x:=yG cb;have x0:0<=x:=by
    have:(0:Int)<=10^18:=by decide
    lia
   exact#[-1,_,_,x,rfl,x0,k+1,c,zE,k1,(),hc]
  case B=>
   refine#[-1,_,-1,rfl,p1,-1,_,-1,rfl,.inl #[by decide,by decide],_,-1,rfl,_,-1,rfl,_,-1,rfl,.inr #[by decide,by decide],_,-1,rfl,p2,?_];generalize(x % 2147483647+31*k+17)*48271=A1;have a1:=Ap A1 (show(2147483629:Int)≠0 by decide);have a2:=EJ A1 p2;generalize A1 % 2147483629=A2 at *
   refine#[-2,_,-1,rfl,.inl #[(),()],-1,_,-1,rfl,.inl #[by decide,by decide],_,-1,rfl,-1,_,-1,rfl,_,-1,rfl,p4,?_];refine#[-1,_,-1,rfl,#[by decide,by decide],-1,_,-1,rfl,hm0,?_];exact q _ _ (Ap _ ()) (EJ _ hm0) #[#[a,ns,k+1,c,h1,s1,hl,(),hc],kH]
 ·rintro U' H' ⟨v5,v6,c',rfl,hc',k',c0,e',kp,hk',hc0⟩;refine#[-2,_,-1,rfl,Yk hm0 (Int.lt_trans hm1 (by decide)),-1,st,_,_,-1,rfl,e',rfl,?_];refine#[-2,_,-1,rfl,hm0,?_];exact q _ _ (Ap _ ()) (EJ _ hm0) #[#[a,ns,k',c' / m,zE,(hs.keep hst kp).keep e' qJ.upd,hl,hk',Int.ediv_nonneg hc' ()],(qJ.same sl).trans (kp.trans qJ.upd)]
def Mj:Nat->Tr->Prop
 |0,_=>False
 |d+1,.mk k own ps=>(k=0-> ∃n,own=[n]/\n.natAbs<=1000)/\(8<=k->k<=14->ps.length=2)/\(∀p∈ps,Mj d p)/\(∀v,kP (.mk k own ps)=some v->v.natAbs<=1000000)/\(8<=k->k<=10-> ∀a b,GF ps=[some a,some b]->(kP (.mk k own ps)).isSome =true)
theorem Mp: ∀{d:Nat} {t:Tr} {v:Int},Mj d t->kP t=some v->v.natAbs<=1000000
 |0,_,_,h,_=>h.elim
 |d+1,.mk k own ps,v,h,e=>h.2.2.2.1 v e
theorem UD (h:v.natAbs<=1000):Vb v:=by
 unfold Vb;lia
theorem MT: ∀{ps:a6 Tr},(∀p∈ps,vU hs b d p)->wI hs b d ps
 |[],_=>by unfold wI;trivial
 |a::r,h=>by
  unfold wI;exact#[h a (yC ..),MT λp m=>h p (zZ _ m)]
theorem WE (k0:0<=k)(k1:k<=19)(of:EA hs b k own)(hl:ps.length=(CU hs k own).toNat)(hv: ∀v∈own,v.natAbs<=1000)(hp: ∀p∈ps,vU hs b d p):vU hs b (d+1) (.mk k own ps):=by
 unfold vU;exact#[k0,k1,of,hl,λv m=>UD (hv v m),MT hp]
theorem KZ (h2:2<=m)(h9:m<=900)(ha:a.natAbs<=m)(hb:b.natAbs<=m):(∀v,rk k a b=some v->v.natAbs<=m*m)/\(8<=k->k<=10->(rk k a b).isSome =true):=by
 have hm:(a*b).natAbs<=m*m:=by rw[Int.natAbs_mul];exact EI ha hb
 have m1:m*m<=810000:=EI h9 h9;have m2:m+m<=m*m:=by rw[<-Nat.two_mul];exact Nat.mul_le_mul_right m h2
 have f: ∀u:Int,u.natAbs<=m*m->HP u:=λu h=>by
  have:=yU h m1;unfold HP LQ;(clear h;lia)
 have h1:(a+b).natAbs<=m*m:=yU (Int.natAbs_add_le a b) (yU (Nat.add_le_add ha hb) m2);have h3:(a-b).natAbs<=m*m:=yU (Int.natAbs_sub_le a b) (yU (Nat.add_le_add ha hb) m2);have mm:m<=m*m:=yU (Nat.le_add_right m m) m2;have m0:1<=m*m:=yU (yU (by decide) h2) mm;refine#[λv e=>?_,λh8 h10=>?_]
 ·unfold rk at e;rw[zP (f _ h1),zP (f _ h3),zP (f _ hm)]at e;split at e
  ·cases e;exact h1
  split at e
  ·cases e;exact h3
  split at e
  ·cases e;exact hm
  split at e
  ·cases e;split<;>first|exact m0|exact xG _
  split at e
  ·cases e;split<;>first|exact m0|exact xG _
  split at e
  ·cases e
  rename_i b0;split at e
  ·cases e;exact yU (EL a b) (yU ha mm)
  ·cases e;refine yU ?_ (yU hb mm)
   rcases Int.lt_or_gt_of_ne b0 with h|h
   ·have h1:=Ap a b0;have h2:=Int.emod_lt_of_neg a h;rw[Int.fmod_eq_emod];clear m1 m2 hm f h3 mm m0 ha hb;split<;>omega
   ·have h1:=Int.fmod_nonneg_of_pos a h;have h2:=Int.fmod_lt_of_pos a h;clear m1 m2 hm f h3 mm m0 ha hb;omega
 ·unfold rk;rw[zP (f _ h1),zP (f _ h3),zP (f _ hm)]
  rcases(by lia:k=8\/k=9\/k=10)with rfl|rfl|rfl<;>rfl
def WT (d n:Nat)(t:Tr):Prop:=Mj d t/\ ∀v,kP t=some v->v.natAbs<=n
theorem WT.mono (h:WT d n t)(l:n<=m):WT d m t:=#[h.1,λv e=>yU (h.2 v e) l]
theorem Zr (h:a.natAbs<=n)(hn:n<=900):WT (d+1) n (.mk 0 [a] []):=by
 have e:kP (.mk 0 [a] [])=some a:=by unfold kP;rfl
 refine#[?_,λv z=>by rw[e]at z;cases z;exact h];unfold Mj;exact#[λ_=>#[a,rfl,()],λz=>(),λp m=>(by cases m),λv z=>by rw[e]at z;cases z;lia,λz=>()]
theorem Zq (hk:k≠0)(h:k<8\/14<k)(hp: ∀p∈ps,Mj d p):WT (d+1) n (.mk k own ps):=by
 have e:kP (.mk k own ps)=none:=by unfold kP;rw[zO hk,zP h]
 refine#[?_,λv z=>by rw[e]at z;cases z];unfold Mj;exact#[λz=>absurd z hk,λz z'=>(),hp,λv z=>(by rw[e]at z;cases z),λz z'=>()]
theorem Zp (h0:8<=k)(h1:k<=14)(hp:WT d 900 p)(hq:WT d 900 q)(n:Nat)(hn: ∀a b v,kP p=some a->kP q=some b->rk k a b=some v->v.natAbs<=n):WT (d+1) n (.mk k own [p,q]):=by
 have e: ∀v,kP (.mk k own [p,q])=some v-> ∃a b,kP p=some a/\kP q=some b/\rk k a b=some v:=λv z=>by
  unfold kP at z;rw[zO (),zO (by clear z;lia)]at z;simp only[GF]at z;split at z
  ·rename_i a b y;injection y with y1 y
   injection y with y2 _
   exact#[a,b,y1,y2,z]
  ·cases z
 refine#[?_,λv z=>by obtain⟨a,b,e1,e2,e3⟩:=e v z;exact hn a b v e1 e2 e3];unfold Mj;refine#[λz=>(),λ_ _=>rfl,λx m=>?_,λv z=>?_,λz1 z2 a b y=>?_]
 ·rcases List.mem_cons.mp m with rfl|m
  ·exact hp.1
  ·rw[List.mem_singleton.mp m];exact hq.1
 ·obtain⟨a,b,e1,e2,e3⟩:=e v z;have:=(KZ (k:=k) (by decide) (zS 900) (hp.2 a e1) (hq.2 b e2)).1 v e3;lia
 ·simp only[GF]at y;injection y with y1 y
  injection y with y2 _
  unfold kP;rw[zO (),zO (by clear z2;lia)];simp only[GF];rw[y1,y2];exact(KZ (k:=k) (by decide) (zS 900) (hp.2 a y1) (hq.2 b y2)).2 z1 z2
def HdW (H:Hp)(v:V)(h:Int×Int):Prop:= ∃t,v=.ref t/\H t=some (.tup [.int h.1,.int h.2])
noncomputable def bd:Nat->Nat
 |0=>2
 |d+1=>bd d*bd d
structure DrT (hs:DJ)(bx:Int)(d:Nat)(t:Tr):Prop where
 fit:vU hs bx d t
 sm:WT d (bd d) t
 nl:(Gn t).length<=2*Sd t
inductive Fv (K:a7) (d:Nat) (vs:List V) (H:Hp) (Q:VK) (E:XK):Prop
 |mk (hs:DJ) (st hl:i3) (rh:List V) (bx wt:Int) (h0:vs=[.ref st,.ref hl,.int bx,.int (5-(d:Int))]) (h1:0<d) (h2:d<=4) (h3:uE K H st wt) (h4:wt<=12) (h5:hl≠st) (h6:H hl=some (.lst rh)) (h7:Paired (HdW H) rh hs) (h8:0<=bx) (h9:bx<=12) (h10:1<=hs.length) (h11:hs.length<=16) (h12:(∀h∈hs,0<=h.1/\h.1<=4)) (h13: ∀l t H' wt',kI K st wt' H H'->l≠st->H' l=some (.lst ((Gn t).map V.int))->DrT hs bx d t->Sd t+4*wt'.toNat<=1+4*wt.toNat->wt'<=wt->Q (.ref l) H'):Fv K d vs H Q E
theorem ZX {α:Type}{l:a6 α}(h:l.length=2): ∃a b,l=[a,b]:=by
 cases l with
 |nil=>cases h
 |cons a r=>
  cases r with
  |nil=>cases h
  |cons b r=>exact#[a,b,by rw[Ab (Ed (Ed h))]]
theorem Ft: ∀(ts:a6 Tr) (t:Tr),Au (ts++[t])=Au ts+Sd t
 |[],t=>by
  show Au [t]=Au []+Sd t;unfold Au Au;lia
 |a::r,t=>by
  show Au (a::(r++[t]))=Au (a::r)+Sd t;rw[Au,Ft r t,Au];lia
theorem Gm (ts:a6 Tr)(t:Tr):qQ (ts++[t])=qQ ts++Gn t:=by
 rw[IU,qQ,qQ,xJ]
theorem zDh: ∀{d:Nat},d<=3->2<=bd d/\bd d<=900
 |0,_=>by decide
 |1,_=>by decide
 |2,_=>by decide
 |3,_=>by decide
theorem zAp: ∀d:Nat,4<=bd (d+1)
 |0=>by decide
 |d+1=>yU (by decide) (EI (zAp d) (zAp d))
theorem US (k0:0<=k)(k1:k<=19)(d3:d<=3)(lt:ts.length=(CU hs k own).toNat)(v0:k=0-> ∃v,own=[v]/\v.natAbs<=4)(dr: ∀t∈ts,WT d (bd d) t):WT (d+1) (bd (d+1)) (.mk k own ts):=by
 by_cases z0:k=0
 ·obtain⟨v,rfl,hv⟩:=v0 z0;subst z0;obtain rfl:ts=[]:=Ab lt;exact(Zr (n:=4) hv (by decide)).mono (zAp d)
 by_cases z8:k<8\/14<k
 ·exact Zq z0 z8 λt mt=>(dr t mt).1
 have l2:ts.length=2:=by
  rw[lt]
  rcases(by lia:k=8\/k=9\/k=10\/k=11\/k=12\/k=13\/k=14)with rfl|rfl|rfl|rfl|rfl|rfl|rfl<;>rfl
 obtain⟨p,r,rfl⟩:=ZX l2;have sp:=dr p (by simp);have sr:=dr r (by simp);have b9:=zDh d3;exact Zp () () (sp.mono b9.2) (sr.mono b9.2) _ λa b v e1 e2 e3=>(KZ b9.1 b9.2 (sp.2 a e1) (sr.2 b e2)).1 v e3
inductive TBa (K:a7)(hs:DJ)(st hl to:i3)(bx k wt:Int)(d:Nat)(H:Hp)(U':St)(H':Hp):Prop
 |mk (own:a6 Int) (m:Int) (h0:U'=[some (.ref st),some (.ref hl),some (.int bx),some (.int (5-((d+1:Nat):Int))),some (.int k),some (.ref to),some (.int m),none]) (h1:kI K st (wt-1) H H') (h2:H' to=some (.lst ((k::own).map V.int))) (h3:EA hs bx k own) (h4:(∀v∈own,v.natAbs<=100)) (h5:(k=0-> ∃v,own=[v]/\v.natAbs<=4)) (h6:m=CU hs k own) (h7:0<=m) (h8:m<=4) (h9:(d=0\/wt<=0->m=0)):TBa K hs st hl to bx k wt d H U' H'
inductive TBb (K:a7)(hs:DJ)(st hl:i3)(own:a6 Int)(bx k wt m:Int)(d:Nat)(H:Hp)(j:Nat)(U':St)(H':Hp):Prop
 |mk (w':Int) (v7:i4 V) (l:i3) (ts:a6 Tr) (h0:U'=[some (.ref st),some (.ref hl),some (.int bx),some (.int (5-((d+1:Nat):Int))),some (.int k),some (.ref l),some (.int m),v7]) (h1:kI K st w' H H') (h2:l≠st) (h3:H' l=some (.lst ((k::(own++qQ ts)).map V.int))) (h4:ts.length=j) (h5:(∀t∈ts,DrT hs bx d t)) (h6:(qQ ts).length<=2*Au ts) (h7:Au ts+4*w'.toNat<=j+4*(wt-1).toNat) (h8:w'<=wt-1):TBb K hs st hl own bx k wt m d H j U' H'
theorem TB (d:Nat)(T:GB K mg)(F:qZ K "_law_node" "_law_node" EY f fd)(Ca:kB P w K mg base 2 "_law_take" ["_law_state","_law_most"] (DV K))(Ca4:kB P w K mg base (d+3) "_law_node" ["_law_state","_law_heads","_law_boxes","_law_deep"] (Fv K d)):vX P w K mg base (d+4) f fd ["_law_state","_law_heads","_law_boxes","_law_deep"] (Fv K (d+1)):=by
 exists wB;obtain⟨hs,st,hl,rh,bx,wt,rfl,_,d4,D,w12,nh,eh,ph,b0,b1,h1,h16,hpm,q⟩:=h;exists _,(zB (qH (xD vW (yZ xQ (pv 0) zH (λ_ _=>rfl)) zH) (CS (pv 0) zH uV))
   (zB (yP 4 wB.nd (yZ xQ (kU (zA (zK Ca hr rfl (zA (pv 0) (zA zH zC)) zX) (zA (xD jA zH (zK Ca hr rfl (zA (pv 0) (zA zH zC)) zX)) zC))) (xD Es (zK Ca hr rfl (zA (pv 0) (zA zH zC)) zX) zH) (λ_ _=>rfl)))
   (zB (AI (xC (PW.pt (qF (zT Gz (pv 3) zH (zY _)) (kK (zT wR (yZ xQ (pv 0) zH (λ_ _=>rfl)) zH (zY _))))) (zI (yP 4 wB.nd (yZ xQ (kU (wE (.int (.int (.int (.int .nil)))))) (zK Ca hr rfl (zA (pv 0) (zA zH zC)) zX) (λ_ _=>rfl)))) yD))
   (zB (AI (xC (PW.pt (Ep (zT jD (pv 2) zH (zY _)) (DZ (zT Fy (pv 4) (xM (wE (.int (.int .nil)))) rfl)))) (zI (yP 4 wB.nd zH)) yD))
   (zB (yP 5 wB.nd (kU (zA (pv 4) zC)))
   (zB (yP 6 wB.nd (yZ xQ (kU (wE (.int (.int (.int (.int (.int (.int (.int (.int (.int (.int (.int (.int (.int (.int (.int (.int (.int (.int (.int (.int .nil)))))))))))))))))))))) (pv 4) (λ_ _=>rfl)))
   (zB (AI (xC (zT jD (pv 4) zH (zY _)) (zI (jM (uQ yF yM yL jQ (pv 5) (zA (xD vW (zK Ca hr rfl (zA (pv 0) (zA zH zC)) zX) zH) zC)))) (zI (xC (zT wR (pv 4) zH (zY _)) (zI (jM (uQ yF yM yL jQ (pv 5) (zA (zK Ca hr rfl (zA (pv 0) (zA (pv 2) zC)) zX) zC)))) (zI (xC (zT jD (pv 4) zH (zY _)) (zB (yP 6 wB.nd (xD jA zH (zK Ca hr rfl (zA (pv 0) (zA zH zC)) zX)))
   (zI (jM (uQ yF yM yL jQ (pv 5) (zA (pv 6) zC))))) (zI (xC (zT jD (pv 4) zH (zY _)) (zB (jM (uQ yF yM yL jQ (pv 5) (zA (xD jA zH (zK Ca hr rfl (zA (pv 0) (zA zH zC)) zX)) zC)))
   (zI (yP 6 wB.nd (xD jA (yZ xQ (pv 5) zH (λ_ _=>rfl)) zH)))) (zI (xC (zT jD (pv 4) zH (zY _)) (zB (jM (uQ yF yM yL jQ (pv 5) (zA (zK Ca hr rfl (zA (pv 0) (zA (xF yX rfl T.n_len jY (zA (pv 1) zC)) zC)) zX) zC)))
   (zI (yP 6 wB.nd (yZ xL (yZ xQ (pv 1) (yZ xQ (pv 5) zH (λ_ _=>rfl)) (λ_ _=>rfl)) zH (λ_ _=>rfl))))) yD))))))))))
   (zB (wD xE rfl (AU rfl T.n_range (zA (pv 6) zC)) (yA 7 wB.nd) (zI (yP 5 wB.nd (xD CT (pv 5) (zK Ca4 hr rfl (zA (pv 0) (zA (pv 1) (zA (pv 2) (zA (xD jA (pv 3) zH) zC)))) zX)))))
   (zI (zV (pv 5)))))))))))
 obtain⟨sa,ns,sk,sc,hst,hs0,hl0,hk0,hc0⟩:=id D;refine#[-1,st,_,_,-1,rfl,.of hst,rfl,_,-1,rfl,-1,st,_,_,-1,rfl,hst,rfl,?_];have D1:kI K st (wt-1) H (upd H st (.lst [.ref sa,.int sk,.int sc,.int (wt-1)])):=#[#[sa,ns,sk,sc,zE,hs0.keep hst qJ.upd,hl0,hk0,hc0],qJ.upd];refine#[-1,st,20,-1,by decide,by decide,D1.draw,λk1 H2 k10 k11 D2=>#[-1,st,7,-1,by decide,by decide,D2.draw,λk2 H3 k20 k21 D3=>#[_,-1,rfl,sm2,λo ho=>?_]]];have D4:=D3.draw.new ho (.lst ([k1,8+k2].map V.int));refine#[-1,st,3,-1,by decide,by decide,D4.draw,λr H5 r0 r1 D5=>#[_,-1,rfl,Yk (by decide) (by decide),?_]];obtain⟨k,mk,hk⟩:=Gu (ns:=[k1,8+k2]) (k:=r / 2) (Int.ediv_nonneg r0 (by decide)) (by show r / 2<2;lia);have bk:0<=k/\k<=19:=by rcases mem2.mp mk with z|z<;>lia
 refine#[o,_,_,-1,rfl,.of (D5.keep _ _ (Ne.symm (D3.draw.ne ho)) zE),hk,?_];have D2:=D1.trans (D2.trans (D3.trans (D4.trans D5)));clear D4 ho hk D3 D5;obtain⟨k0,k1⟩:=bk;refine#[λU' H'=> ∃k:Int,U'=[some (.ref st),some (.ref hl),some (.int bx),some (.int (5-((d+1:Nat):Int))),some (.int k),none,none,none]/\kI K st (wt-1) H H'/\0<=k/\k<=19/\(d=0\/wt<=0->k=0\/k=1),?_,?_]
 ·refine nxg λNN NB NC hN=>?_;obtain⟨sa,ns,sk,sc,hst,_⟩:=id D2.draw;have leaf: ∀v∈[(0:Int),1,0,0],0<=v/\v<=19/\(v=0\/v=1):=by decide
  refine#[-1,_,-1,rfl,-1,jB (λc=>jC ?_) (λc=>?_)]
  ·refine#[sm4,λo ho=>?_];have D3:=D2.draw.new ho (.lst ([(0:Int),1,0,0].map V.int));refine#[-1,st,4,-1,by decide,by decide,D3.draw,λr H4 r0 r1 D4=>?_];obtain⟨v,vm,hv⟩:=Gu (ns:=[(0:Int),1,0,0]) r0 r1;have vb:=leaf v vm;exact#[o,_,_,-1,rfl,.of (D4.keep _ _ (Ne.symm (D2.draw.ne ho)) zE),hv,hN _ _ #[v,rfl,D2.trans (D3.trans D4),vb.1,vb.2.1,λ_=>vb.2.2]]
  ·have c':=df c;refine#[-1,st,_,_,-1,rfl,.of hst,rfl,_,-1,rfl,-1,jB (λc2=>?_) (λc2=>?_)]
   ·refine#[sm4,λo ho=>?_];have D3:=D2.draw.new ho (.lst ([(0:Int),1,0,0].map V.int));refine#[-1,st,4,-1,by decide,by decide,D3.draw,λr H4 r0 r1 D4=>?_];obtain⟨v,vm,hv⟩:=Gu (ns:=[(0:Int),1,0,0]) r0 r1;have vb:=leaf v vm;exact#[o,_,_,-1,rfl,.of (D4.keep _ _ (Ne.symm (D2.draw.ne ho)) zE),hv,hN _ _ #[v,rfl,D2.trans (D3.trans D4),vb.1,vb.2.1,λ_=>vb.2.2]]
   ·have c2':=df c2;exact hN _ _ #[k,rfl,D2,k0,(),λz=>()]
 rintro _ H3 ⟨k,rfl,D3,k0,k1,lf⟩;refine#[λU' H'=> ∃k:Int,U'=[some (.ref st),some (.ref hl),some (.int bx),some (.int (5-((d+1:Nat):Int))),some (.int k),none,none,none]/\kI K st (wt-1) H H'/\0<=k/\k<=19/\(d=0\/wt<=0->k=0\/k=1)/\(k=1\/k=2->1<=bx),?_,?_]
 ·refine nxg λNN NB NC hN=>?_;refine#[-1,rfl,-1,jB (λc=>?_) (λc=>xX (hN _ _ #[k,rfl,D3,k0,k1,lf,λ_=>by have:=vf c;lia]))];refine#[-1,sm2,λo ho=>?_];have D4:=D3.trans (D3.draw.new ho (.tup [.int 1,.int 2]));refine#[_,-1,.inr (.of zE),rfl,rfl,-1,jB (λc2=>?_) (λc2=>?_)]
  ·exact hN _ _ #[0,rfl,D4,by decide,by decide,λ_=>.inl rfl,λz=>()]
  ·refine hN _ _ #[k,rfl,D4,k0,k1,lf,λz=>absurd ((Jc k [1,2]).trans (zQ ?_)) c2];simp only[List.mem_cons,List.not_mem_nil,or_false];exact z
 rintro _ H4 ⟨k,rfl,D4,k0,k1,lf,kb⟩;refine#[-1,sm1,λto hto=>#[small (show 20<=1000 by decide),λlm hlm=>?_]];have s5:=(zN hto (.lst [.int k])).trans (zN hlm (.lst (tableM.map V.int)));have D5:=D4.trans (D4.draw.more s5);have e5:upd (upd H4 to (.lst [.int k])) lm (.lst (tableM.map V.int)) to=some (.lst [.int k]):=zN hlm _ _ _ zE;have nto:to≠st:=Ne.symm (D4.draw.ne hto);have elm:upd (upd H4 to (.lst [.int k])) lm (.lst (tableM.map V.int)) lm=some (.lst (tableM.map V.int)):=zE;have fto:H to=none:=D4.free hto;obtain⟨m0,hm0,bm0,tm0⟩: ∃m:Int,Gv (tableM.map V.int) k=some (.int m)/\(0<=m/\m<=3)/\(k≠3->k≠4->k≠6-> ∀own,m=CU hs k own):=by
  obtain⟨v,vm,hv⟩:=Gu (ns:=tableM) k0 (by show k<20;lia);refine#[v,hv,(show ∀v∈tableM,0<=v/\v<=3 by decide) v vm,λn3 n4 n6 own=>?_];have:=Rw (hs:=hs) (own:=own) k0 k1 n3 n4 n6;rw[hv]at this;injection this with z
  injection z
 refine#[-1,lm,_,_,-1,rfl,.of elm,hm0,?_];change zBh _ _ _ _ (upd (upd H4 to (.lst [.int k])) lm (.lst (tableM.map V.int)));generalize upd (upd H4 to (.lst [.int k])) lm (.lst (tableM.map V.int))=H5 at *
 refine#[TBa K hs st hl to bx k wt d H,?_,?_]
 ·refine nxg λNN NB NC hN=>?_;have one: ∀{v:Int},v.natAbs<=100-> ∀x∈[v],x.natAbs<=100:=λh x hx=>by rw[List.mem_singleton.mp hx];exact h
  have eh5:=D5.keep _ _ nh eh;have app: ∀{H6:Hp} (v:Int),kI K st (wt-1) H5 H6->kI K st (wt-1) H (upd H6 to (.lst [.int k,.int v]))/\H6 to=some (.lst [.int k]):=λv D6=>by
   have e6:=D6.keep _ _ nto e5;exact#[#[D6.draw.put e6 nto,(D5.trans D6).keep.fresh fto],e6]
  refine#[-1,rfl,-1,jB (λc=>?_) (λc0=>?_)]
  ·have z:=vt c;subst z;refine#[-1,.inl #[rfl,_,.of e5],-1,st,7,-1,by decide,by decide,D5.draw,λv H6 v0 v1 D6=>#[_,-1,rfl,?_]];obtain⟨D7,e6⟩:=app (v-2) D6;have tm:=tm0 (by decide) (by decide) (by decide) [v-2];exact#[to,_,-1,rfl,e6,Aq (by show 1<=1000;decide),hN _ _ #[[v-2],m0,rfl,D7,zE,.inl #[rfl,-1],one (),λ_=>#[-1,()],tm,bm0.1,(),λ_=>tm]]
  have n0:=vf c0;refine#[-1,_,-1,rfl,-1,jB (λc=>?_) (λc2=>?_)]
  ·have c':k<3:=yG c;have hb:=kb ();refine#[-1,.inl #[rfl,_,.of e5],-2,st,bx,-1,(),(),D5.draw,λv H6 v0 v1 D6=>?_];obtain⟨D7,e6⟩:=app v D6;have tm:=tm0 () () () [v];refine#[to,_,-1,rfl,e6,Aq (by show 1<=1000;decide),hN _ _ #[[v],m0,rfl,D7,zE,.inr (.inl #[(),v,rfl,v0,()]),one (),λz=>absurd z n0,tm,bm0.1,(),λz=>?_]];have:k=1:=by have:=lf z;lia
   subst this;exact tm
  have n2:=df c2;refine#[-1,rfl,-1,jB (λc=>?_) (λc3=>?_)]
  ·have z:=vt c;subst z;refine#[-1,st,3,-1,by decide,by decide,D5.draw,λr H6 r0 r1 D6=>#[_,-1,rfl,?_]];obtain⟨D7,e6⟩:=app (1+r) D6;refine#[-1,.inl #[rfl,_,.of e6],-1,to,_,-1,rfl,e6,Aq (by show 1<=1000;decide),?_];exact hN _ _ #[[1+r],1+r,rfl,D7,zE,.inr (.inr (.inl #[rfl,-1,(),()])),one (),λz=>absurd z n0,rfl,(),(),λz=>by have:=lf z;lia]
  have n3:=vf c3;refine#[-1,rfl,-1,jB (λc=>?_) (λc4=>?_)]
  ·have z:=vt c;subst z;refine#[-1,.inl #[rfl,_,.of e5],-1,st,2,-1,by decide,by decide,D5.draw,λr H6 r0 r1 D6=>#[_,-1,rfl,?_]];obtain⟨D7,e6⟩:=app (2+r) D6;refine#[to,_,-1,rfl,e6,Aq (by show 1<=1000;decide),?_];refine#[-1,to,_,_,-1,rfl,.of zE,rfl,_,-1,rfl,?_];exact hN _ _ #[[2+r],2+r+1,rfl,D7,zE,.inr (.inr (.inr (.inl #[rfl,-1,(),()]))),one (),λz=>absurd z n0,Int.add_comm _ 1,(),(),λz=>by have:=lf z;lia]
  have n4:=vf c4;refine#[-1,rfl,-1,jB (λc=>?_) (λc6=>?_)]
  ·have z:=vt c;subst z;have lh:=Paired.len ph;refine#[-1,.inl #[rfl,_,.of e5],-2,hl,-1,.inl (.of eh5),st,_,-1,(),(),D5.draw,λr H6 r0 r1 D6=>?_];obtain⟨D7,e6⟩:=app r D6;refine#[to,_,-1,rfl,e6,Aq (by show 1<=1000;decide),?_];obtain⟨i,rfl⟩: ∃i:Nat,r=i:=#[r.toNat,()];have hi:i<rh.length:=()
   obtain⟨h,hh,t,et,ett⟩:=Paired.yonder ph (zF hi);have hpb:=hpm h (xP hh);have ea:Gv rh (i:Int)=some (.ref t):=kG (by rw[zF hi,et]);refine#[-2,to,_,_,-1,rfl,.of zE,rfl,hl,_,_,-1,rfl,.of (D7.keep _ _ nh eh),ea,t,_,_,-1,rfl,.of (D7.tups D _ _ ett),Kc,?_];have ed:CU hs 6 [(i:Int)]=h.1:=by
    show(hs.getD (i:Int).toNat (0,0)).1=h.1;rw[xV,yV,hh];rfl
   exact hN _ _ #[[(i:Int)],h.1,rfl,D7,zE,.inr (.inr (.inr (.inr (.inl #[rfl,-1,(),()])))),one (),λz=>absurd z n0,ed.symm,hpb.1,(),λz=>by have:=lf z;lia]
  have n6:=vf c6;have tm:=tm0 n3 n4 n6 [];exact hN _ _ #[[],m0,rfl,D5,e5,.inr (.inr (.inr (.inr (.inr #[(),rfl])))),λv hv=>absurd hv (by simp),λz=>absurd z n0,tm,bm0.1,(),λz=>by have:=lf z;lia]
 rintro _ H6 ⟨own,m,rfl,D6,eow,of,vo,v0,em,m0,m4,lm0⟩;have ol:own.length<=1:=by
  rcases of with⟨_,n,rfl⟩|⟨_,n,rfl,_⟩|⟨_,n,rfl,_⟩|⟨_,n,rfl,_⟩|⟨_,n,rfl,_⟩|⟨_,rfl⟩<;>simp
 refine#[-2,(),(),AY (lo:=0) (n:=m.toNat) (TBb K hs st hl own bx k wt m d H) #[wt-1,_,to,[],rfl,D6,nto,by rw[eow];simp[qQ],rfl,λt z=>(by cases z),by simp[qQ],by unfold Au;lia,Int.le_refl _] ?_ ?_]
 ·rintro j U' H8 hj ⟨w',v7,l,ts,rfl,D8,nl,el,lt,dr,ln,sz,le⟩;refine#[-5,_,-1,rfl,hs,st,hl,rh,bx,w',?_,(),(),D8.draw,(),nh,D8.keep _ _ nh eh,Paired.imp (λ_ _ ⟨t,e1,e2⟩=>#[t,e1,D8.tups D _ _ e2]) ph,b0,b1,h1,h16,hpm,λl1 t H9 w9 D9 nl1 el1 dt sv le1=>?_]
  ·show[V.ref st,V.ref hl,V.int bx,V.int (5-((d+1:Nat):Int)+1)]=_;rw[show 5-((d+1:Nat):Int)+1=5-(d:Int)by lia]
  have hn:=dt.nl;refine#[l,l1,_,-1,rfl,D9.keep _ _ nl el,el1,small (by rw[zM,zM,zJ,zG];lia),λl2 hl2=>?_];refine#[w9,_,l2,ts++[t],rfl,D8.trans (D9.trans (D9.draw.new hl2 _)),Ne.symm (D9.draw.ne hl2),?_,by rw[zG,lt];rfl,λx mx=>?_,?_,?_,()]
  ·rw[zE,Gm,<-xN,xH,yS]
  ·rcases List.mem_append.mp mx with z|z
   ·exact dr x z
   ·rw[List.mem_singleton.mp z];exact dt
  ·rw[Gm,Ft,zG];lia
  ·rw[Ft];lia
 ·rintro U' H8 ⟨w',v7,l,ts,rfl,D8,nl,el,lt,dr,ln,sz,le⟩;refine#[-1,q l (.mk k own ts) H8 w' D8 nl (by rw[el];rfl) #[?_,?_,?_] ?_ ()]
  ·exact WE k0 k1 of () (λv mv=>by have:=vo v mv;lia) λt mt=>(dr t mt).fit
  ·exact US k0 k1 () (by rw[lt,em]) v0 λt mt=>(dr t mt).sm
  ·have:(Gn (.mk k own ts)).length =1+own.length+(qQ ts).length:=by simp[Gn];lia
   rw[this,Sd];lia
  ·rw[Sd]
   by_cases c:d=0\/wt<=0
   ·have:=lm0 c;lia
   ·(clear c;lia)
theorem Lk (T:GB K mg)(F:qZ K "_law_node" "_law_node" EY f fd)(Ca:kB P w K mg base 2 "_law_take" ["_law_state","_law_most"] (DV K))(hm:mg "_law_node"=some (.ref f))(hk:PySem.W.keepIn K (.ref f)=true)(hb:uR K fd ["_law_state","_law_heads","_law_boxes","_law_deep"] []): ∀d,vX P w K mg base (d+3) f fd ["_law_state","_law_heads","_law_boxes","_law_deep"] (Fv K d)
 |0=>#[λvs H Q E h=>by obtain⟨_,_,_,_,_,_,rfl,_⟩:=h;rfl,λ_ _ _ _ _ _ _ _ _ _ _ _ _ h=>by obtain⟨_,_,_,_,_,_,_,h,_⟩:=h;exact absurd h (by decide)]
 |d+1=>TB d T F Ca #[#[_,_,Lk T F Ca hm hk hb d,hm,hk,hb]]
structure YU (hs:DJ)(ts:List Tr):Prop where
 good:HN hs
 ln:ts.length=hs.length
 dr: ∀(i:Nat) (h:Int×Int) (t:Tr),hs[i]? =some h->ts[i]? =some t->DrT hs h.2 4 t
 nl:(qQ ts).length<=2*Au ts
 sz:Au ts<=50
 h2:hs.length<=2
noncomputable def Uu (hs:DJ)(ts:a6 Tr):a6 Int:=(hs.length:Int)::(flat hs++qQ ts)
inductive Jr (K:a7) (vs:List V) (H:Hp) (Q:VK) (E:XK):Prop
 |mk (st:i3) (h0:vs=[.ref st]) (h1:uE K H st 12) (h2: ∀l hs ts H' w',kI K st w' H H'->l≠st->H' l=some (.lst ((Uu hs ts).map V.int))->YU hs ts->Q (.ref l) H'):Jr K vs H Q E
theorem Ve (l:hs.length=i)(p0:0<=p)(p4:p<=4)(z:i=0->p=0)(b0:0<=b)(b3:b<=3)(h: ∀(j:Nat) (h:Int×Int),hs[j]? =some h->0<=h.1/\h.1<=4/\h.1<=h.2/\h.2<=12/\(j=0->h.1=0)): ∀(j:Nat) (h:Int×Int),(hs++[(p,p+b)])[j]? =some h->0<=h.1/\h.1<=4/\h.1<=h.2/\h.2<=12/\(j=0->h.1=0):=λj x e=>by
 by_cases c:j<hs.length
 ·rw[kJ c]at e;exact h j x e
 ·have hj:=(List.getElem?_eq_some_iff.mp e).1;rw[zG,CI]at hj;have:j=hs.length:=()
  subst this;rw[qB (zS _),Ee]at e;cases e;exact#[p0,p4,by show p<=p+b;lia,by show p+b<=12;lia,λw=>z ()]
theorem MR: ∀(hs:DJ) (h:Int×Int),flat (hs++[h])=flat hs++[h.1,h.2]
 |[],h=>rfl
 |a::r,h=>by
  show a.1::a.2::flat (r++[h])=_;rw[MR r h];rfl
inductive QYa (K:a7)(st hl:i3)(H:Hp)(i:Nat)(U':St)(H':Hp):Prop
 |mk (v2 v3:i4 V) (rh:a6 V) (hs:DJ) (h0:U'=[some (.ref st),some (.ref hl),v2,v3,none,none]) (h1:kI K st 12 H H') (h2:H' hl=some (.lst rh)) (h3:Paired (HdW H') rh hs) (h4:hs.length=i) (h5: ∀(j:Nat) (h:Int×Int),hs[j]? =some h->0<=h.1/\h.1<=4/\h.1<=h.2/\h.2<=12/\(j=0->h.1=0)):QYa K st hl H i U' H'
inductive QYb (K:a7)(st hl:i3)(hs:DJ)(H5:Hp)(i:Nat)(U':St)(H':Hp):Prop
 |mk (w':Int) (v2 v3 v5:i4 V) (l:i3) (ts:a6 Tr) (h0:U'=[some (.ref st),some (.ref hl),v2,v3,some (.ref l),v5]) (h1:kI K st w' H5 H') (h2:l≠st) (h3:H' l=some (.lst ((Uu hs ts).map V.int))) (h4:ts.length=i) (h5:(∀(j:Nat) (h:Int×Int) (t:Tr),hs[j]? =some h->ts[j]? =some t->DrT hs h.2 4 t)) (h6:(qQ ts).length<=2*Au ts) (h7:Au ts+4*w'.toNat<=i+48) (h8:w'<=12):QYb K st hl hs H5 i U' H'
theorem QY (T:GB K mg)(F:qZ K "_law_sheet" "_law_sheet" Gg f fd)(Ca:kB P w K mg base 2 "_law_take" ["_law_state","_law_most"] (DV K))(Ca4:kB P w K mg base 7 "_law_node" ["_law_state","_law_heads","_law_boxes","_law_deep"] (Fv K 4)):vX P w K mg base 8 f fd ["_law_state"] (Jr K):=by
 exists qP;obtain⟨st,rfl,D0,q⟩:=h;exists _,(zB (yP 1 qP.nd (kU zC))
   (zB (wD xE rfl (AU rfl T.n_range (zA (xD jA zH (zK Ca hr rfl (zA (pv 0) (zA zH zC)) zX)) zC)) (yA 2 qP.nd) (zB (yP 3 qP.nd (xD uN (zK Ca hr rfl (zA (pv 0) (zA zH zC)) zX) (At MX rfl T.n_int Ot (zA (uC Gz (pv 2) zH (zY _)) zC))))
   (zI (jM (uQ yF yM yL jQ (pv 1) (zA (xM (zA (pv 3) (zA (xD jA (pv 3) (zK Ca hr rfl (zA (pv 0) (zA zH zC)) zX)) zC))) zC))))))
   (zB (yP 4 qP.nd (kU (zA (xF yX rfl T.n_len jY (zA (pv 1) zC)) zC)))
   (zB (wD xE rfl (Ae (pv 1)) (kZ rfl (yE (yA 3 qP.nd) (yE (yA 5 qP.nd) jJ))) (zI (yP 4 qP.nd (xD CT (pv 4) (kU (zA (pv 3) (zA (pv 5) zC)))))))
   (zB (wD xE rfl (Ae (pv 1)) (kZ rfl (yE (yA 3 qP.nd) (yE (yA 5 qP.nd) jJ))) (zI (yP 4 qP.nd (xD CT (pv 4) (zK Ca4 hr rfl (zA (pv 0) (zA (pv 1) (zA (pv 5) (zA zH zC)))) zX)))))
   (zI (zV (pv 4))))))))
 refine#[zz0,λhl hhl=>?_];have D1:=D0.new hhl (.lst []);have nhl:hl≠st:=Ne.symm (D0.ne hhl);have e1:upd H hl (.lst []) hl=some (.lst []):=zE;generalize upd H hl (.lst [])=H1 at *
 refine#[-1,st,2,12,rfl,by decide,by decide,D1.draw,λr H2 r0 r1 D2=>#[_,-1,rfl,-1,(),(),?_]];refine AY (lo:=0) (n:=(1+r).toNat) (QYa K st hl H) #[none,none,[],[],rfl,D1.trans D2,D2.keep _ _ nhl e1,.nil,rfl,λj h e=>by simp at e] ?_ ?_
 ·rintro i U' H3 hi ⟨v2,v3,rh,hs,rfl,D3,eh,ph,lh,hh⟩;have lr:=Paired.len ph;refine#[-1,st,3,12,rfl,by decide,by decide,D3.draw,λp H4 p0 p1 D4=>#[-1,_,-1,rfl,.inr #[-1,_,-1,rfl,.inr (by split<;>decide),?_]]];have hP: ∃P:Int,p*(if decide (0<0+(i:Int))=true then(1:Int)else 0)=P/\0<=P/\P<=4/\(i=0->P=0):=by
   refine#[-1,?_];split
   ·rename_i c;have:=yG c;exact#[(),(),λz=>()]
   ·exact#[(),(),λz=>()]
  obtain⟨P1,eP,P0,P4,Pz⟩:=hP;refine Eq.mpr (qX (λz=>AC 3 (V.int z) _ _ _) eP) ?_;have eh4:=D4.keep _ _ nhl eh;refine#[-1,.inl #[rfl,_,.of eh4],-3,st,3,12,rfl,by decide,by decide,D4.draw,λb H5 b0 b1 D5=>#[_,-1,rfl,sm2,λtt htt=>?_]];have s6:=zN htt (.tup [.int P1,.int (P1+b)]);have eh6:=s6 _ _ (D5.keep _ _ nhl eh4);refine#[hl,rh,-1,rfl,eh6,by have:=wG;lia,some (.int (0+(i:Int))),some (.int P1),rh++[.ref tt],hs++[(P1,P1+b)],rfl,?_,zE,?_,by rw[zG,lh];rfl,Ve lh P0 P4 Pz b0 () hh]
  ·have D6:=D4.trans (D5.trans (D5.draw.more s6));exact#[D6.draw.put eh6 nhl,(D3.trans D6).keep.fresh hhl]
  ·have tu:qE (upd H5 tt (.tup [.int P1,.int (P1+b)])) (upd (upd H5 tt (.tup [.int P1,.int (P1+b)])) hl (.lst (rh++[.ref tt]))):=qE.upd eh6;have D6:=D4.trans (D5.trans (D5.draw.more s6));exact BD (Paired.imp (λ_ _ ⟨t,w1,w2⟩=>#[t,w1,tu _ _ (D6.tups D3.draw _ _ w2)]) ph) #[tt,rfl,tu _ _ zE]
 rintro U' H3 ⟨v2,v3,rh,hs,rfl,D3,eh,ph,lh,hh⟩;have lr:=Paired.len ph;have n2:hs.length<=2:=()
 have hall: ∀h∈hs,0<=h.1/\h.1<=4:=λh m=>by
  obtain⟨j,ej⟩:=uL m;have:=hh j h ej;lia
 refine#[-1,hl,-1,.inl (.of eh),sm1,λl5 hl5=>?_];have D4:=D3.trans (D3.draw.new hl5 (.lst [.int (rh.length:Int)]));have n5:l5≠st:=Ne.symm (D3.draw.ne hl5);have e5:upd H3 l5 (.lst [.int (rh.length:Int)]) l5=some (.lst [.int (hs.length:Int)]):=by rw[zE,lr]
 have eh4:upd H3 l5 (.lst [.int (rh.length:Int)]) hl=some (.lst rh):=zN hl5 _ _ _ eh;have ph4:Paired (HdW (upd H3 l5 (.lst [.int (rh.length:Int)]))) rh hs:=Paired.imp (λ_ _ ⟨t,w1,w2⟩=>#[t,w1,zN hl5 _ _ _ w2]) ph;generalize upd H3 l5 (.lst [.int (rh.length:Int)])=H4 at *
 clear D3 eh ph hl5;have fl: ∀i,(flat (hs.take i)).length<=4:=λi=>by rw[Lz,yW];(clear lh;lia)
 refine#[-1,hl,rfl,#[_,.of eh4],BS (xs:=rh) (λi U' H'=> ∃(v2 v3 v5:i4 V) (l:i3),U'=[some (.ref st),some (.ref hl),v2,v3,some (.ref l),v5]/\kI K st 12 H4 H'/\l≠st/\H' l=some (.lst (((hs.length:Int)::flat (hs.take i)).map V.int))) #[_,_,_,l5,rfl,D4.draw.refl,n5,e5] (λi U' H' _ ⟨_,_,_,_,_,z,_⟩=>.of (z.keep _ _ nhl eh4)) ?_ ?_]
 ·rintro i x U' H5 hx ⟨v2,v3,v5,l,rfl,D5,nl,el⟩;obtain⟨h,hhi,t,rfl,et⟩:=Paired.yonder ph4 hx;have tk:hs.take (i+1)=hs.take i++[h]:=by rw[jO,hhi]<;>rfl
  have:=fl i;refine#[t,-1,.of (D5.tups D4.draw _ _ et),rfl,_,-1,_,-1,rfl,?_];refine#[-3,sm2,λa1 h1=>#[l,a1,_,-1,rfl,zN h1 _ _ _ el,zE,small (by rw[zM,zJ];show _+2<=_;lia),λa2 h2=>?_]];have s6:=(zN h1 (.lst [.int h.1,.int h.2])).trans (zN h2 (.lst (((hs.length:Int)::flat (hs.take i)).map V.int++[.int h.1,.int h.2])));refine#[_,_,_,a2,rfl,D5.trans (D5.draw.more s6),Ne.symm ((D5.draw.same (zN h1 _)).ne h2),?_];rw[zE,tk,MR];show _=some (HO.lst (List.map V.int (((hs.length:Int)::flat (hs.take i))++[h.1,h.2])));rw[xN];rfl
 rintro U' H5 ⟨v2,v3,v5,l,rfl,D5,nl,el⟩;rw[lr,xZ]at el;have f4:=fl hs.length;rw[xZ]at f4;have eh5:=D5.keep _ _ nhl eh4;have ph5:Paired (HdW H5) rh hs:=Paired.imp (λ_ _ ⟨t,w1,w2⟩=>#[t,w1,D5.tups D4.draw _ _ w2]) ph4;refine#[-1,hl,rfl,#[_,.of eh5],BS (xs:=rh) (QYb K st hl hs H5) #[12,_,_,_,l,[],rfl,D5.draw.refl,nl,by rw[el];simp[Uu,qQ],rfl,λj h t _ z=>by simp at z,by simp[qQ],by unfold Au;decide,by decide] (λi U' H' _ ⟨_,_,_,_,_,_,_,z,_,_,_,_,_,_,_⟩=>.of (z.keep _ _ nhl eh5)) ?_ ?_]
 ·rintro i x U' H6 hx ⟨w',v2,v3,v5,l,ts,rfl,D6,nl,el,lt,dr,ln,sz,le⟩;obtain⟨h,hhi,t,rfl,et⟩:=Paired.yonder ph5 hx;have hi:=(List.getElem?_eq_some_iff.mp hhi).1;have hb:=hh i h hhi;refine#[t,-1,.of (D6.tups D5.draw _ _ et),rfl,_,-1,_,-1,rfl,?_];refine#[-4,hs,st,hl,rh,h.2,w',rfl,by decide,by decide,D6.draw,le,nhl,D6.keep _ _ nhl eh5,Paired.imp (λ_ _ ⟨t,e1,e2⟩=>#[t,e1,D6.tups D5.draw _ _ e2]) ph5,(),(),(),(),hall,λl1 t1 H7 w7 D7 nl1 el1 dt sv le1=>?_];have hn:=dt.nl;refine#[l,l1,_,-1,rfl,D7.keep _ _ nl el,el1,small (by unfold Uu;rw[zM,zM,zJ,zG];lia),λl2 hl2=>?_];refine#[w7,_,_,_,l2,ts++[t1],rfl,D6.trans (D7.trans (D7.draw.new hl2 _)),Ne.symm (D7.draw.ne hl2),?_,by rw[zG,lt];rfl,λj h' t' z1 z2=>?_,?_,?_,()]
  ·rw[zE,<-xN];unfold Uu;rw[Gm,xH,yS]
  ·by_cases c:j<ts.length
   ·rw[kJ c]at z2;exact dr j h' t' z1 z2
   ·have hj:=(List.getElem?_eq_some_iff.mp z2).1;rw[zG,CI]at hj;obtain rfl:j=ts.length:=()
    rw[qB (zS _),Ee]at z2;cases z2;rw[lt,hhi]at z1;cases z1;exact dt
  ·rw[Gm,Ft,zG];lia
  ·rw[Ft];(clear hi;lia)
 ·rintro U' H6 ⟨w',v2,v3,v5,l,ts,rfl,D6,nl,el,lt,dr,ln,sz,le⟩;exact#[-1,q l hs ts H6 w' (D4.trans (D5.trans D6)) nl el #[#[(),(),hh],(),dr,ln,(),n2]]
noncomputable def Xc (rs:vS)(a:Int):Int:=if 0<=a then(match BO rs (some a.toNat)with|some l=>(l:Int)|none=> -1)else-1
inductive AG (vs:List V) (H:Hp) (Q:VK) (E:XK):Prop
 |mk (r:i3) (rs:vS) (a:Int) (h0:vs=[.ref r,.int a]) (h1:qS H r (Jo rs)) (h2:OB rs) (h3:rs.length<=1000) (h4:Q (.int (Xc rs a)) H):AG vs H Q E
theorem TJ (T:GB K mg)(F:qZ K "_law_goal" "_law_goal" GZ f fd):vX P w K mg base 1 f fd ["_law_rows_here","_law_at"] AG:=by
 exists FZ;obtain⟨r,rs,a,rfl,⟨rv,er,pr⟩,jo,hl,q⟩:=h;exists _,(zB (wD xE rfl (AU rfl T.n_range (zA (xD jA (xF yX rfl T.n_len jY (zA (pv 0) zC)) zH) zC)) (yA 2 FZ.nd) (zB (xC (PW.pt (qF (zT wR (pv 1) zH (zY _)) (kK (zT Fz (pv 1) (xF yX rfl T.n_len jY (zA (pv 0) zC)) (zY _))))) (zI (zV (HS Ff zH))) yD)
   (zB (xC (zT Hh (yZ xL (yZ xQ (pv 0) (pv 1) (λ_ _=>rfl)) zH (λ_ _=>rfl)) zH (zY _)) (zI (zV (pv 1))) yD)
   (zI (yP 1 FZ.nd (yZ xL (yZ xQ (pv 0) (pv 1) (λ_ _=>rfl)) zH (λ_ _=>rfl)))))))
   (zI (zV (HS Ff zH))))
 have ll:rv.length=rs.length:=by
  rw[Paired.len pr];unfold Jo;rw[zM]
 by_cases c:0<=a/\a.toNat<rs.length
 ·obtain⟨c0,c1⟩:=c;have eg: ∀{o:i4 Nat},Mh rs a.toNat=o->Xc rs a=(match o with|some l=>(l:Int)|none=> -1):=λe=>by
   unfold Xc;rw[zP c0];have:BO rs (some a.toNat)=Mh rs a.toNat:=zP c1;rw[this,e]
  refine#[-1,r,-1,.inl (.of er),_,-1,rfl,-1,(),(),AY (λi U' H'=>H'=H/\(∃v2,U'=[some (.ref r),some (.int (its rs i a.toNat:Int)),v2])/\its rs i a.toNat<rs.length/\ ∀j,j<i->OD rs (its rs j a.toNat)) #[rfl,#[_,by show[_,some (V.int a),_]=_;rw[show((its rs 0 a.toNat:Nat):Int)=a from qM c0]],c1,λj hj=>absurd hj (Bv _)] ?_ ?_]
  ·rintro i U' H' hi ⟨rfl,⟨v2,rfl⟩,o5,hj⟩;have hr:its rs i a.toNat<rv.length:=()
   refine#[-1,_,-1,rfl,-1,?_];rw[show decide ((its rs i a.toNat:Int)<0)=false from zR ()];refine xX #[-2,r,-1,.inl (.of er),_,-1,rfl,-1,?_];rw[show decide ((rv.length:Int)<=(its rs i a.toNat:Int))=false from zR ()];have ep:rs[its rs i a.toNat]? =some rs[its rs i a.toNat]:=zF o5;obtain⟨t,ev,et⟩:=Paired.get pr _ _ _ (zF hr) (by unfold Jo;rw[yJ,ep];rfl);generalize rs[its rs i a.toNat]=x at ep et;obtain⟨op,n⟩:=x;have av:Gv rv (its rs i a.toNat:Int)=some (.ref t):=kG (by rw[zF hr,ev]);refine xX #[-2,r,_,_,-1,rfl,.of er,av,t,_,_,-1,rfl,.of et,rfl,rfl,-1,?_]
   by_cases c4:op=4
   ·subst c4;have jm:OD rs (its rs i a.toNat):=#[n,ep];rw[show decide (V.int (4:Int)=V.int 4)=true from zQ rfl];refine xX #[-2,r,_,_,-1,rfl,.of er,av,t,_,_,-1,rfl,.of et,rfl,rfl,#[some (.int (0+(i:Int))),?_],QB jo jm,λj hj'=>?_]
    ·rw[<-QA jo ep];rfl
    ·by_cases z:j<i
     ·exact hj j z
     ·have:j=i:=()
      rw[this];exact jm
   ·rw[show decide (V.int op=V.int 4)=false from zR λz=>c4 (by injection z)];have nj: ¬OD rs (its rs i a.toNat):=fun⟨m,e⟩=>by rw[ep]at e;injection e with e;injection e with e _;exact c4 e
    refine jC #[-1,?_];have e:=eg ((JM () nj).trans (zP o5));rw[e]at q;exact q
  ·rintro U' H' ⟨rfl,⟨v2,rfl⟩,o5,hj⟩;refine#[-1,?_];rw[eg (IW jo (λj hj'=>hj j ()) ())]at q;exact q
 ·have eg:Xc rs a= -1:=by
   unfold Xc
   by_cases z:0<=a
   ·rw[zP z];have:BO rs (some a.toNat)=none:=zO λy=>c #[z,y];rw[this]
   ·rw[zO z]
  rw[eg]at q;refine#[-1,r,-1,.inl (.of er),_,-1,rfl,-1,(),(),AY (λi U' H'=>H'=H/\i=0/\ ∃v2,U'=[some (.ref r),some (.int a),v2]) #[rfl,rfl,-1] ?_ ?_]
  ·rintro i U' H' hi ⟨rfl,rfl,v2,rfl⟩;refine#[-1,_,-1,rfl,-1,?_]
   by_cases z:a<0
   ·rw[zQ z];exact jC #[-1,q]
   ·rw[zR z];refine xX #[-2,r,-1,.inl (.of er),_,-1,rfl,-1,?_];rw[show decide ((rv.length:Int)<=a)=true from zQ ()];exact jC #[-1,q]
  ·rintro U' H' ⟨_,z,_⟩;exact absurd z ()
noncomputable def HQ (a:Int):i4 Nat:=if 0<=a then some a.toNat else none
theorem Ew (rs:vS)(a:Int):Xc rs a=match BO rs (HQ a)with|some l=>(l:Int)|none=> -1:=by
 unfold Xc HQ
 by_cases z:0<=a
 ·rw[zP z,zP z]<;>cases BO rs (some a.toNat)<;>rfl
 ·rw[zO z,zO z];rfl
noncomputable def OS (rs:vS)(a:Int):Int×Int:=match BO rs (HQ a)with
 |some l=>(rs[l]?).getD (-1,0)
 |none=>(-1,0)
inductive Do (vs:List V) (H:Hp) (Q:VK) (E:XK):Prop
 |mk (r:i3) (rs:vS) (a b:Int) (h0:vs=[.ref r,.int a,.int b]) (h1:qS H r (Jo rs)) (h2:OB rs) (h3:rs.length<=1000) (h4:Q (.bl (xO rs (HQ a) (HQ b))) H):Do vs H Q E
theorem TC (T:GB K mg)(F:qZ K "_law_meet" "_law_meet" GY f fd)(Cb:kB P w K mg base 1 "_law_goal" ["_law_rows_here","_law_at"] AG):vX P w K mg base 2 f fd ["_law_rows_here","_law_one","_law_other"] Do:=by
 exists NF;obtain⟨r,rs,a,b,rfl,g,jo,hl,q⟩:=h;exists _,(zI (zV (Af (uC Fz (zK Cb hr rfl (zA (pv 0) (zA (pv 1) zC)) zX) zH (zY _)) (BP (uC jD (zK Cb hr rfl (zA (pv 0) (zA (pv 1) zC)) zX) (zK Cb hr rfl (zA (pv 0) (zA (pv 2) zC)) zX) (zY _))))))
 refine#[-2,r,rs,a,rfl,g,jo,hl,_,-1,rfl,-1,?_];unfold xO at q;rw[Ew];cases ea:BO rs (HQ a)with
 |none=>
  rw[ea]at q;exact xX q
 |some l=>
  rw[ea]at q;rw[show decide ((0:Int)<=(match some l with|some l=>(l:Int)|none=> -1))=true from zQ (vO l)];refine jC #[-2,r,rs,a,rfl,g,jo,hl,-2,r,rs,b,rfl,g,jo,hl,rfl,?_];rw[Ew,Ew,ea];have e:decide (V.int (match some l with|some l=>(l:Int)|none=> -1)=V.int (match BO rs (HQ b)with|some l=>(l:Int)|none=> -1))=decide (some l=BO rs (HQ b)):=by
   apply decide_eq_decide.mpr;cases BO rs (HQ b)with
   |none=>exact#[λz=>by injection z with z;exact absurd z (by show ¬(l:Int)= -1;lia),λz=>nomatch z]
   |some m=>exact#[λz=>by injection z with z;exact qX some (Int.ofNat.inj z),λz=>by injection z with z;rw[z]]
  rw[e];exact q
inductive Hy (vs:List V) (H:Hp) (Q:VK) (E:XK):Prop
 |mk (c:i3) (cs:List Int) (rs:vS) (n:Nat) (h0:vs=[.ref c]) (h1:H c=some (.lst (cs.map V.int))) (h2:cs[0]? =some (n:Int)) (h3:n<=100) (h4:cs.length=1+3*n+2*rs.length) (h5:(∀(i:Nat) (x:Int×Int),rs[i]? =some x->cs[1+3*n+2*i]? =some x.1/\cs[1+3*n+2*i+1]? =some x.2)) (h6:rs.length<=1000) (h7: ∀l H',xK H H'->qS H' l (Jo rs)->Q (.ref l) H'):Hy vs H Q E
theorem Tx (T:GB K mg)(F:qZ K "_law_rows" "_law_rows" EX f fd):vX P w K mg base 1 f fd ["_law_code"] Hy:=by
 exists IH;obtain⟨c,cs,rs,n,rfl,hc,e0,hn,hl,hrs,hr1,q⟩:=h;exists _,(zB (yP 1 IH.nd (xD jA zH (xD uN zH (yZ xQ (pv 0) zH (λ_ _=>rfl)))))
   (zI (zV (Dk (own:=["_law_k"]) (ys:=["_law_code"]) rfl (Sx rfl T.n_range (zA (pv 1) (zA (xF yX rfl T.n_len jY (zA (pv 0) zC)) (zA zH zC)))) (wU (sc:=zW EX) rfl (by decide+kernel)) (.cons (j:=0) rfl .nil) (λ_ _ _ _ _=>(yA 0 (show List.Nodup [("_law_k":Str),("_law_code":Str)]from(by decide+kernel)))) (λ_ _ _ _ _=>AT) (λ_ _ _ _ _=>(xM (zA (yZ (Ls K rfl) (pv 1) (pv 0) (λ_ _=>rfl)) (zA (yZ (Ls K rfl) (pv 1) (xD jA (pv 0) zH) (λ_ _=>rfl)) zC))))))))
 have hz:(cs.map V.int).length =cs.length:=zM ..;have a0:Gv (cs.map V.int) 0=some (.int (n:Int)):=kG (j:=0) (by rw[yJ,e0];rfl);refine#[-1,c,_,_,-1,rfl,kF.of hc,a0,_,-1,rfl,.inl #[by decide,by decide],_,-1,rfl,?_];refine#[-2,c,-1,.inl (kF.of hc),_,_,_,rs.length,rfl,#[(),(),(by clear hz;lia),()],.inl rfl,?_,λp hp=>?_]
 ·rw[hz,hl];unfold Builtin.Range.rangeSize
  simp
  lia
 have hcp:c≠p:=xB hc hp;refine MU (λi U' H'=> ∃ys,H' p=some (.lst ys)/\i<=rs.length/\xK H H'/\Paired (CG H') ys ((Jo rs).take i)/\ ∃x,U'=[x,some (.ref c)]) #[[],zE,xG _,zN hp _,.nil,-1] ?_ ?_
 ·rintro i U' H' hi ⟨ys,hy,_,sm,pr,x,rfl⟩;obtain⟨z1,z2⟩:=hrs i rs[i] (zF hi);have er:rs[i]? =some rs[i]:=zF hi;generalize rs[i]=y at *
  have ea:(1:Int)+3*(n:Int)+(i:Int)*2=((1+3*n+2*i:Nat):Int):=()
  have eb:(1:Int)+3*(n:Int)+(i:Int)*2+1=((1+3*n+2*i+1:Nat):Int):=()
  have A1:Gv (cs.map V.int) ((1:Int)+3*(n:Int)+(i:Int)*2)=some (.int y.1):=by rw[ea];exact kG (by rw[yJ,z1];rfl)
  have A2:Gv (cs.map V.int) ((1:Int)+3*(n:Int)+(i:Int)*2+1)=some (.int y.2):=by rw[eb];exact kG (by rw[yJ,z2];rfl)
  dsimp only[AC,Qz];have hc':=sm _ _ hc;refine jC #[-2,c,_,_,-1,rfl,kF.of hc',A1,-2,_,-1,rfl,c,_,_,-1,rfl,kF.of hc',A2,sm2,λt ht=>?_];have s1:=zN ht (.tup [.int y.1,.int y.2]);have hy':=s1 _ _ hy;have yl:ys.length<=1000:=by
   have e1:=Paired.len pr;have e2:=List.length_take_le i (Jo rs);lia
  refine#[ys,hy',xU yl (by decide),CW.next hi #[_,zE,hi,(sm.trans s1).fresh hp,?_,-1]];rw[vN,show(Jo rs)[i]? =some [y.1,y.2]by unfold Jo;rw[yJ,er];rfl];refine Paired.append (Paired.imp (λ_ _ x=>(x.same s1).upd hy') pr) (.cons ?_ .nil);exact CG.upd #[t,rfl,zE] hy'
 ·rintro U' H' ⟨ys,hy,_,sm,pr,_⟩;rw[xW (by unfold Jo;rw[zM];exact zS _)]at pr;exact q p H' sm #[ys,hy,pr]
inductive BH (d:Nat) (vs:List V) (H:Hp) (Q:VK) (E:XK):Prop
 |mk (v:V) (t:Tr) (h0:vs=[v]) (h1:Jl H d v t) (h2:Mj d t) (h3: ∀H',xK H H'->Q (oZ (kP t)) H'):BH d vs H Q E
theorem Nc {c d:i7}{X Y Z:Prop}(hz:(if d=true then X else Y)->Z)(h:c=true->d=true->X)(h':c=false\/d=false->Y):if c=true then Z else(if false=true then X else Y):=by
 cases c with
 |false=>exact xX (xX (h' (.inl rfl)))
 |true=>
  refine jC (hz ?_);cases d with
  |true=>exact jC (h rfl rfl)
  |false=>exact xX (h' (.inr rfl))
theorem Tt (d:Nat)(T:GB K mg)(F:qZ K "_law_worth" "_law_worth" DW f fd)(Cn:kB P w K mg base (1+d) "_law_worth" ["_law_node_here"] (BH d)):vX P w K mg base (1+d+1) f fd ["_law_node_here"] (BH (d+1)):=by
 exists uM;obtain⟨v,⟨k,own,ps⟩,rfl,⟨tn,pl,o,pq,us,rfl,e1,e2,e3,pr⟩,⟨s0,s2,sp,sv,sn⟩,q⟩:=h;exists _,(zB (qH (pv 0) (kZ rfl (yE (yA 1 uM.nd) (yE (yA 2 uM.nd) (yE (yA 3 uM.nd) (yE (yA 4 uM.nd) jJ))))))
   (zB (xC (zT jD (pv 1) zH (zY _)) (zI (zV (yZ xL (pv 3) zH (λ_ _=>rfl)))) yD)
   (zB (xC (PW.pt (qF (zT wR (pv 1) zH (zY _)) (kK (zT Gz (pv 1) zH (zY _))))) (zI (zV qL)) yD)
   (zB (yP 5 uM.nd (zK Cn hr rfl (zA (yZ xL (pv 4) zH (λ_ _=>rfl)) zC) zX))
   (zB (yP 6 uM.nd (zK Cn hr rfl (zA (yZ xL (pv 4) zH (λ_ _=>rfl)) zC) zX))
   (zB (xC (PW.pt (qF (zT Gk (pv 5) qL (zY _)) (qF (zT Gk (pv 6) qL (zY _)) (kK (PW.pt (Ep (zT Fy (pv 1) (xM (wE (.int (.int .nil)))) rfl) (DZ (zT jD (pv 6) zH (zY _))))))))) (zI (zV qL)) yD)
   (zB (xC (zT wR (pv 1) zH (zY _)) (zI (zV (yZ xQ (kU (zA (xD jA (pv 5) (pv 6)) (zA (xD vW (pv 5) (pv 6)) (zA (xD uN (pv 5) (pv 6)) zC)))) (xD vW (pv 1) zH) (λ_ _=>rfl)))) yD)
   (zB (xC (zT wR (pv 1) zH (zY _)) (zI (zV (yZ xQ (kU (zA (xD Lj (pv 5) (pv 6)) (zA (xD vW (pv 5) (xD uN (xD Lj (pv 5) (pv 6)) (pv 6))) zC))) (xD vW (pv 1) zH) (λ_ _=>rfl)))) yD)
   (zI (zV (At MX rfl T.n_int Ot (zA (yZ xQ (kU (zA (uC wR (pv 5) (pv 6) (zY _)) (zA (uC jD (pv 5) (pv 6) (zY _)) zC))) (xD vW (pv 1) zH) (λ_ _=>rfl)) zC))))))))))))
 refine#[-1,tn,-1,.of e1,rfl,_,-1,_,-1,_,-1,_,-1,rfl,?_];refine#[-1,rfl,-1,jB (λc=>?_) (λc=>?_)]
 ·have ck:k=0:=by have:=yG c;injection this
  obtain⟨n,rfl,_⟩:=s0 ck;have:kP (.mk k [n] ps)=some n:=by rw[kP,zP ck];rfl
  rw[this]at q;exact#[-1,o,_,_,-1,rfl,.of e2,rfl,q H (xK.refl H)]
 have k0:k≠0:=λz=>by rw[z]at c;exact c (zQ rfl)
 refine#[-1,_,-1,rfl,-1,?_]
 by_cases c8:k<8
 ·rw[zQ c8];have:kP (.mk k own ps)=none:=by rw[kP,zO k0,zP (.inl c8)]
  rw[this]at q;exact jC (q H (xK.refl H))
 rw[zR c8];refine xX #[-1,_,-1,rfl,-1,?_]
 by_cases c14:(14:Int)<k
 ·rw[zQ c14];have:kP (.mk k own ps)=none:=by rw[kP,zO k0,zP (.inr c14)]
  rw[this]at q;exact jC (q H (xK.refl H))
 rw[zR c14];have ev:kP (.mk k own ps)=match GF ps with|[some a,some b]=>rk k a b|_=>none:=by rw[kP,zO k0,zO (λz=>z.elim c8 c14)]<;>rfl
 obtain⟨x0,x1,rfl⟩: ∃x0 x1,ps=[x0,x1]:=by
  have:=s2 () ()
  match ps,this with
  |[x0,x1],_=>exact#[x0,x1,rfl]
 cases pr with
 |cons r0 pr=>
 cases pr with
 |cons r1 pr=>
 cases pr;rename_i u0 u1;have es:GF [x0,x1]=[kP x0,kP x1]:=by simp[GF]
 rw[es]at ev sn;refine xX #[-1,pq,_,_,-1,rfl,.of e3,rfl,u0,x0,rfl,r0,sp x0 (by simp),λH1 g1=>?_];refine#[-1,pq,_,_,-1,rfl,.of (g1 _ _ e3),rfl,u1,x1,rfl,r1.tups (λb xs e=>g1 _ _ e),sp x1 (by simp),λH2 g2=>?_];have g:=g1.trans g2;refine#[-1,rfl,-1,?_];cases va:kP x0 with
 |none=>
  rw[va]at ev;rw[ev]at q;exact jC (q H2 g)
 |some a=>
 rw[va]at ev sn;refine xX #[-1,rfl,-1,?_];cases vb:kP x1 with
 |none=>
  rw[vb]at ev;rw[ev]at q;exact jC (q H2 g)
 |some b=>
 rw[vb]at ev sn;have ev:kP (.mk k own [x0,x1])=rk k a b:=ev;refine xX #[-1,sm2,λt3 ht3=>#[t3,-1,.inr (.of zE),rfl,rfl,-1,?_]];have g3:=g.trans (zN ht3 (.tup [.int 11,.int 12]));generalize upd H2 t3 (.tup [.int 11,.int 12])=H3 at g3;have hk:k=8\/k=9\/k=10\/k=11\/k=12\/k=13\/k=14:=()
 refine Nc (λz=>#[-1,rfl,-1,z]) (λh1 h2=>?_) (λhno=>?_)
 ·have b0:b=0:=by have:=yG h2;injection this
  have:rk k a b=none:=by
   rcases hk with rfl|rfl|rfl|rfl|rfl|rfl|rfl
   ·exact absurd h1 (by decide)
   ·exact absurd h1 (by decide)
   ·exact absurd h1 (by decide)
   ·unfold rk;rw[b0];rfl
   ·unfold rk;rw[b0];rfl
   ·exact absurd h1 (by decide)
   ·exact absurd h1 (by decide)
  rw[ev,this]at q;exact q H3 g3
 have A:=Mp (sp x0 (by simp)) va;have B:=Mp (sp x1 (by simp)) vb;refine#[-1,_,-1,rfl,-1,?_];have few: ∀v:Int,(if HP v then some v else none:i4 Int).isSome =true->(if HP v then some v else none:i4 Int)=some v:=λv h=>by
  by_cases z:HP v
  ·exact zP z
  ·rw[zO z]at h;cases h
 by_cases c11:k<11
 ·rw[zQ c11];have sn:=sn () ();rw[ev]at sn;refine jC #[-2,_,-1,rfl,-2,_,-1,rfl,-2,_,-1,rfl,.inl #[(),()],sm3,λl hl=>#[-1,_,-1,rfl,l,_,_,.int (match k with|8=>a+b|9=>a-b|_=>a*b),rfl,rfl,.of zE,?_,?_]]
  ·have:k=8\/k=9\/k=10:=()
   rcases this with rfl|rfl|rfl<;>rfl
  ·have e:rk k a b=some (match k with|8=>a+b|9=>a-b|_=>a*b):=by
    have sn:=sn a b rfl;have:k=8\/k=9\/k=10:=()
    rcases this with rfl|rfl|rfl
    ·exact few _ sn
    ·exact few _ sn
    ·exact few _ sn
   rw[ev,e]at q;exact q _ (g3.trans (zN hl _))
 rw[zR c11];refine xX #[-1,_,-1,rfl,-1,?_]
 by_cases c13:k<13
 ·rw[zQ c13];have hk:k=11\/k=12:=()
  have b0:b≠0:=λz=>by
   rcases hno with h|h
   ·rcases hk with rfl|rfl<;>exact absurd h (by decide)
   ·rw[z]at h;exact absurd h (by decide)
  have cd:YY a b:=#[b0,xU B (by decide)];refine jC #[-2,_,-1,rfl,cd,-3,_,-1,rfl,cd,-1,_,-1,rfl,.inr #[(by clear b0;lia),()],_,-1,rfl,sm2,λl hl=>#[-1,_,-1,rfl,l,_,_,.int (if k=11 then a.fdiv b else a.fmod b),rfl,rfl,.of zE,?_,?_]]
  ·rcases hk with rfl|rfl
   ·rfl
   ·have:a.fmod b=a-a.fdiv b*b:=by rw[Int.fmod_def,Int.mul_comm]
    rw[zO (by decide),this];rfl
  ·have e:rk k a b=some (if k=11 then a.fdiv b else a.fmod b):=by
    unfold rk
    rcases hk with rfl|rfl
    ·simp[b0]
    ·simp[b0]
   rw[ev,e]at q;exact q _ (g3.trans (zN hl _))
 rw[zR c13];have hk:k=13\/k=14:=()
 refine xX #[-2,_,-1,rfl,-2,rfl,sm2,λl hl=>#[-1,_,-1,rfl,l,_,_,.bl (if k=13 then decide (a<b)else decide (V.int a=V.int b)),rfl,rfl,.of zE,?_,.inr #[-1,?_]]]
 ·rcases hk with rfl|rfl<;>rfl
 ·have e:rk k a b=some (if(if k=13 then decide (a<b)else decide (V.int a=V.int b))=true then 1 else 0):=by
   rcases hk with rfl|rfl
   ·show some (if a<b then 1 else 0)=_
    by_cases z:a<b
    ·simp[z]
    ·simp[z]
   ·show some (if a=b then 1 else 0)=_
    by_cases z:a=b
    ·simp[z]
    ·have:decide (V.int a=V.int b)=false:=zR λy=>z (by injection y);show some (if a=b then 1 else 0)=some (if decide (V.int a=V.int b)=true then 1 else 0);rw[zO z,this];rfl
  rw[ev,e]at q;exact q _ (g3.trans (zN hl _))
theorem kA (n:Nat):HQ (n:Int)=some n:=zP (vO n)
theorem eq2 (x:Int×Int)(k n:Int):(x.1==k&&Fs (.int x.2) (.int n))=decide (x=(k,n)):=by
 obtain⟨a,b⟩:=x;rw[jT,DD,jZ];show(a==k)=true/\(b==n)=true ↔ _;rw[Da,Da];exact#[fun⟨h1,h2⟩=>by rw[h1,h2],λh=>by cases h;exact#[rfl,rfl]]
theorem Xm {rs:vS}{a:Nat}{op n:Int}(h:OS rs a=(op,n))(h0:op≠ -1): ∃l:Nat,BO rs (some a)=some l/\rs[l]? =some (op,n)/\Xc rs a=(l:Int)/\kR rs (some a) op n=some (l+1):=by
 unfold OS at h;rw[kA]at h;have g:=Ew rs a;rw[kA]at g;cases e:BO rs (some a)with
 |none=>
  rw[e]at h;cases h;exact absurd rfl h0
 |some l=>
  rw[e]at h g;have er:rs[l]? =some (op,n):=by
   have h:(rs[l]?).getD (-1,0)=(op,n):=h;rw[zF (Fg e)]at h ⊢;exact qX some h
  refine#[l,rfl,er,g,?_];unfold kR;rw[e];exact zP er
theorem Zu {rs:vS}{a:Nat}{op n:Int}(h:OS rs a≠(op,n)):kR rs (some a) op n=none:=by
 unfold OS at h;rw[kA]at h;unfold kR;cases e:BO rs (some a)with
 |none=>rfl
 |some l=>
  rw[e]at h;exact zO λz=>h (by show(rs[l]?).getD (-1,0)=_;rw[z];rfl)
theorem FC (b:i4 Nat):xO rs none b=false:=rfl
theorem AW (a b:i4 Nat):xO rs a b=xO rs b a:=by
 unfold xO;rw[jT,DD,DD,jZ,jZ];exact#[fun⟨h,e⟩=>#[by rw[<-e];exact h,e.symm],fun⟨h,e⟩=>#[by rw[<-e];exact h,e.symm]]
section
variable {X:Cx}
inductive YH (K:a7) (x:V) (y:V) (H:Hp) (Q:VK):Prop
 |mk (a b:i3) (i j k:Int) (z:V) (h0:x=.ref a) (h1:y=.ref b) (h2:uZ K H a [.int i,.int j]) (h3:uZ K H b [.int k,z]) (h4:DR z=true) (h5:Q (.bl (i==k&&Fs (.int j) z)) H):YH K x y H Q
theorem SB (hr:Am k X.A):Hu X (compareOp .Eq) (YH X.K):=by
 intro j8 s U H x y v u Q I rx ry h;obtain⟨a,b,i,j,k',z,rfl,rfl,ha,hb,fz,q⟩:=h;cases rx;cases ry;have hu:=hr.un;obtain⟨us,r,pa,_⟩:=I.tuple ha;obtain⟨vs,q',pb,_⟩:=I.tuple hb;obtain⟨u1,u2,rfl,r1,r2⟩:=r.two;obtain⟨w1,w2,rfl,t1,t2⟩:=q'.two;have:=Fb (A:=X.A) (s:=s) (e:=λn=>if n=0 then Fs (.int i) (.int k')else Fs (.int j) z) pa pb () (λn h1 h2=>by
  have h1:n<2:=h1
  rcases(by lia:n=0\/n=1)with rfl|rfl
  ·exact Gr r1 t1 rfl rfl
  ·exact Gr r2 t2 rfl fz)
 have e:((List.range (min 2 2)).all (λn=>if n=0 then Fs (.int i) (.int k')else Fs (.int j) z)&&(2==2))=(i==k'&&Fs (.int j) z):=by
  show((Fs (.int i) (.int k')&&(Fs (.int j) z&&true))&&true)=_;rw[uP,uP];rfl
 have this:SeqAt.RcAt X.A s (Value.ref a) (Value.ref b) (i==k'&&Fs (.int j) z):=e▸this;exact this _ _ _ _ #[.bl _,H,I,rfl,q]
end
inductive GL (vs:List V) (H:Hp) (Q:VK) (E:XK):Prop
 |mk (r:i3) (rs:vS) (a b:Int) (t:i3) (op n:Int) (h0:vs=[.ref r,.int a,.ref t,.int b]) (h1:qS H r (Jo rs)) (h2:OB rs) (h3:rs.length<=1000) (h4:H t=some (.tup [.int op,.int n])) (h5:Q (.bl (xO rs (kR rs (HQ a) op n) (HQ b))) H):GL vs H Q E
theorem TQ (T:GB K mg)(F:qZ K "_law_does" "_law_does" Ha f fd)(Cb:kB P w K mg base 1 "_law_goal" ["_law_rows_here","_law_at"] AG)(Ch:kB P w K mg base 2 "_law_meet" ["_law_rows_here","_law_one","_law_other"] Do):vX P w K mg base 3 f fd ["_law_rows_here","_law_at","_law_row","_law_behind"] GL:=by
 exists II;obtain⟨r,rs,a,b,t,op,n,rfl,g,jo,hl,ht,q⟩:=h;exists _,(zB (yP 4 II.nd (zK Cb hr rfl (zA (pv 0) (zA (pv 1) zC)) zX))
   (zI (zV (Af (uC Fz (pv 4) zH (zY _)) (Af (uC (SB hr) (yZ xQ (pv 0) (pv 4) (λ_ _=>rfl)) (pv 2) (zY _)) (BP (zK Ch hr rfl (zA (pv 0) (zA (xD jA (pv 4) zH) (zA (pv 3) zC))) zX)))))))
 refine#[-2,r,rs,a,rfl,g,jo,hl,?_];refine#[-1,_,-1,rfl,-1,?_];rw[Ew];unfold kR at q;cases ea:BO rs (HQ a)with
 |none=>
  rw[ea]at q;exact xX q
 |some l=>
 rw[ea]at q;have q:Q (.bl (xO rs (if rs[l]? =some (op,n)then some (l+1)else none) (HQ b))) H:=q;rw[show decide ((0:Int)<=(match some l with|some l=>(l:Int)|none=> -1))=true from zQ (vO l)];have o5:=Fg ea;obtain⟨rv,er,pr⟩:=id g;obtain⟨t',o',n',ev,ep,et⟩:=Le pr o5;refine jC #[-2,r,_,_,-1,rfl,.of er,kG ev,-1,t',t,_,_,_,-1,rfl,.of et,.of ht,rfl,-1,?_];have:=eq2 (o',n') op n;dsimp only at this;rw[this];rw[ep]at q
 by_cases c:(o',n')=(op,n)
 ·rw[zP (by rw[c])]at q;rw[zQ c];refine jC #[-2,_,-1,rfl,-1,r,rs,((l+1:Nat):Int),b,rfl,g,jo,hl,?_];rw[kA];exact q
 ·rw[zO (λz=>c (jN z))]at q;rw[zR c];exact xX q
def UA (H:Hp)(lk r d:i3)(rs:vS)(L:Int->i4 (Nat×Nat)):Prop:=H lk=some (.tup [.ref r,.ref d])/\qS H r (Jo rs)/\ ∃kvs:a6 (Bk×V),H d=some (.dK kvs)/\ ∀p:Int,Yv H (Ak kvs (.inl p)) (L p)
theorem UA.same (s:xK H H'):UA H lk r d rs L->UA H' lk r d rs L:=fun⟨e,⟨vs,e1,e2⟩,kv,e3,e4⟩=>#[s _ _ e,#[vs,s _ _ e1,Paired.imp (λ_ _ ⟨t,a,b⟩=>#[t,a,s _ _ b]) e2],kv,s _ _ e3,λp=>(e4 p).same s]
theorem UA.line (h:UA H lk r d rs L)(hp:L p=some be): ∃t,EC H d (.int p) (some (.ref t))/\H t=some (.tup [.int (be.1:Nat),.int (be.2:Nat)]):=by
 obtain⟨_,_,kv,e1,e2⟩:=h;have z:=e2 p;rw[hp]at z;cases w:Ak kv (.inl p)with
 |none=>rw[w]at z;exact z.elim
 |some v=>
  rw[w]at z;obtain⟨t,rfl,et⟩:=z;exact#[t,w▸EC.k (k:=.inl p) e1,et]
theorem UA.has (h:UA H lk r d rs L)(p:Int): ∃o,EC H d (.int p) o/\o.isSome=(L p).isSome:=by
 obtain⟨_,_,kv,e1,e2⟩:=h;refine#[Ak kv (.inl p),EC.k (k:=.inl p) e1,?_];have z:=e2 p;cases w:Ak kv (.inl p)<;>cases y:L p<;>rw[w,y]at z<;>first|rfl|exact z.elim
structure RsO (rs:vS):Prop where
 jo:OB rs
 uo:UOk rs
 rl:rs.length<=1000
def Uq (d:Nat)(nd:Nd):Prop:=(∃hs bx,vU hs bx d (bare nd))/\Mj d (bare nd)
inductive Dn (d:Nat) (vs:List V) (H:Hp) (Q:VK) (E:XK):Prop
 |mk (lk r dd:i3) (rs:vS) (L:Int->Option (Nat×Nat)) (v:V) (nd:Nd) (h0:vs=[.ref lk,v]) (h1:UA H lk r dd rs L) (h2:RsO rs) (h3:jK H d v nd) (h4:Uq d nd) (h5: ∀H',xK H H'->Q (.bl (CC rs L nd)) H'):Dn d vs H Q E
noncomputable def Jn (rs:vS)(L:Int->i4 (Nat×Nat))(nd:Nd)(n:Nat):i7:=CC rs L nd&&xO rs (some (xS L nd).1) (some n)
theorem Fx: ∀{nd:Nd},CC rs L nd=true->L (AB nd)=some (xS L nd)
 | .mk k p own ps,h=>by
  rw[CC]at h;show L (p:Int)=some ((L (p:Int)).getD (0,0));cases z:L (p:Int)with
  |none=>rw[z]at h;cases h
  |some be=>rfl
theorem FB: ∀{d:Nat} {v:V} {nd:Nd},jK H d v nd-> ∃t k x y,v=.ref t/\H t=some (.tup [.int k,.int (AB nd),x,y])
 |0,_,_,h=>h.elim
 |d+1,_,.mk k p own ps,⟨t,o,q,vs,e,h,_⟩=>#[t,k,_,_,e,h]
noncomputable def Jh (rs:vS)(L:Int->i4 (Nat×Nat))(dr:i7):i7->Nat->a6 Nd->i4 Nat
 |_,a,[]=>some a
 |fi,a,p::r=>match(if fi=false/\dr=true then kR rs (some a) 3 0 else some a)with
  |none=>none
  |some c=>if Jn rs L p c=true then Jh rs L dr false (xS L p).2 r else none
noncomputable def oM (o:i4 Nat):Int:=match o with
 |some a=>(a:Int)
 |none=> -1
inductive Fu (d:Nat) (vs:List V) (H:Hp) (Q:VK) (E:XK):Prop
 |mk (lk r dd pt:i3) (rs:vS) (L:Int->Option (Nat×Nat)) (m6:List V) (ps:List Nd) (b:Nat) (dr:i7) (h0:vs=[.ref lk,.ref pt,.int (b:Int),.bl dr]) (h1:UA H lk r dd rs L) (h2:RsO rs) (h3:(H pt=some (.lst m6)\/H pt=some (.tup m6))) (h4:Paired (jK H d) m6 ps) (h5:(∀x∈ps,Uq d x)) (h6: ∀H',xK H H'->Q (.int (oM (Jh rs L dr true b ps))) H'):Fu d vs H Q E
theorem Mz (g:qS H r (Jo rs))(h:l<rs.length): ∃rv t op n,H r=some (.lst rv)/\Gv rv (l:Int)=some (.ref t)/\H t=some (.tup [.int op,.int n])/\rs[l]? =some (op,n):=by
 obtain⟨rv,er,pr⟩:=g;obtain⟨t,op,n,ev,ep,et⟩:=Le pr h;exact#[rv,t,op,n,er,kG ev,et,ep]
theorem LM (er:BO rs (some a)=some l)(ep:rs[l]? =some (o',n')):kR rs (some a) op n=if(o'==op&&Fs (.int n') (.int n))=true then some (l+1)else none:=by
 unfold kR;rw[er];show(if rs[l]? =some (op,n)then some (l+1)else none)=_;have:=eq2 (o',n') op n;dsimp only at this;rw[ep,this]
 by_cases c:(o',n')=(op,n)
 ·rw[zP (by rw[c]),zP (zQ c)]
 ·rw[zO (λz=>c (jN z)),zO (by rw[zR c];decide)]
theorem Rc (d:Nat)(T:GB K mg)(F:qZ K "_law_parts" "_law_parts" DY f fd)(Cu:kB P w K mg base (4+3*d) "_law_right" ["_law_look","_law_node_here"] (Dn d))(Cb:kB P w K mg base 1 "_law_goal" ["_law_rows_here","_law_at"] AG)(Ch:kB P w K mg base 2 "_law_meet" ["_law_rows_here","_law_one","_law_other"] Do):vX P w K mg base (4+3*d+1) f fd ["_law_look","_law_parts_here","_law_begin","_law_drops"] (Fu d):=by
 exists wP;obtain⟨lk,r,dd,pt,rs,L,m6,ps,b,dr,rfl,lo,ro,hp,pr,nk,q⟩:=h;exists _,(zB (qH (pv 0) (kZ rfl (yE (yA 4 wP.nd) (yE (yA 5 wP.nd) jJ))))
   (zB (yP 6 wP.nd (pv 2))
   (zB (wD xE rfl (Vp rfl T.n_enumerate (zA (pv 1) zC)) (kZ rfl (yE (yA 7 wP.nd) (yE (yA 8 wP.nd) jJ))) (zB (AI (xC (PW.pt (Ep (zT Gz (pv 7) zH (zY _)) (DZ (kT (pv 3))))) (zB (yP 9 wP.nd (zK Cb hr rfl (zA (pv 4) (zA (pv 6) zC)) zX))
   (zB (xC (PW.pt (qF (zT wR (pv 9) zH (zY _)) (kK (zT (IT hr) (yZ xQ (pv 4) (pv 9) (λ_ _=>rfl)) (xM (wE (.int (.int .nil)))) (zY _))))) (zI (zV (HS Ff zH))) yD)
   (zI (yP 6 wP.nd (xD jA (pv 9) zH))))) yD))
   (zB (xC (PW.pt (qF (qK (kT (zK Cu hr rfl (zA (pv 0) (zA (pv 8) zC)) zX))) (kK (qK (kT (zK Ch hr rfl (zA (pv 4) (zA (yZ xL (AV (Bc hr) (pv 5) (yZ xL (pv 8) zH (λ_ _=>rfl)) (λ_ _=>rfl)) zH (λ_ _=>rfl)) (zA (pv 6) zC))) zX)))))) (zI (zV (HS Ff zH))) yD)
   (zI (yP 6 wP.nd (yZ xL (AV (Bc hr) (pv 5) (yZ xL (pv 8) zH (λ_ _=>rfl)) (λ_ _=>rfl)) zH (λ_ _=>rfl)))))))
   (zI (zV (pv 6))))))
 have lp:=Paired.len pr;have hq:Sq K H pt m6:=hp.imp kF.of uZ.of;refine#[-1,lk,-1,.of lo.1,rfl,_,-1,_,-1,rfl,?_];refine#[-1,?_];refine#[-1,pt,rfl,Ud (xs:=m6) hq (λi U' H'=>xK H H'/\ ∃(a:Nat) (v7 v8 v9:i4 V),U'=[some (.ref lk),some (.ref pt),some (.int (b:Int)),some (.bl dr),some (.ref r),some (.ref dd),some (.int (a:Int)),v7,v8,v9]/\Jh rs L dr true b ps=Jh rs L dr (decide (i=0)) a (ps.drop i)) #[xK.refl _,b,_,_,-1,rfl] (λi U' H' _ ⟨z,_⟩=>z) ?_ ?_]
 rotate_left
 ·rintro U' H' ⟨z,a,v7,v8,v9,rfl,e⟩;rw[lp,vI]at e;have e:Jh rs L dr true b ps=some a:=e.trans (by cases decide (ps.length=0)<;>rfl);rw[e]at q;exact#[-1,q H' z]
 rintro i v U' H1 t hv ⟨z,a,v7,v8,v9,rfl,e⟩ ht;obtain⟨nd,hnd,na⟩:=Paired.yonder pr hv;have zt:=z.trans (zN ht (.tup [.int (i:Nat),v]));have et:upd H1 t (.tup [.int (i:Nat),v]) t=some (.tup [.int (i:Nat),v]):=zE;generalize upd H1 t (.tup [.int (i:Nat),v])=H2 at *
 have ed:ps.drop i=nd::ps.drop (i+1):=by
  obtain⟨hi,ei⟩:=List.getElem?_eq_some_iff.mp hnd;rw[yR hi,ei]
 rw[ed]at e;have e:Jh rs L dr true b ps=match(if decide (i=0)=false/\dr=true then kR rs (some a) 3 0 else some a)with|none=>none|some c=>if Jn rs L nd c=true then Jh rs L dr false (xS L nd).2 (ps.drop (i+1))else none:=e
 have none_:Jh rs L dr true b ps=none-> ∀H',xK H H'->Q (.int (-1)) H':=λy H' s=>by have:=q H' s;rwa [y]at this
 refine#[t,-1,.of et,rfl,_,-1,_,-1,rfl,?_];refine#[λU' H'=>xK H H'/\ ∃(c:Nat) (v9:i4 V),U'=[some (.ref lk),some (.ref pt),some (.int (b:Int)),some (.bl dr),some (.ref r),some (.ref dd),some (.int (c:Int)),some (.int (i:Int)),some v,v9]/\Jh rs L dr true b ps=if Jn rs L nd c=true then Jh rs L dr false (xS L nd).2 (ps.drop (i+1))else none,?_,?_]
 ·refine#[-1,_,-1,rfl,-1,Nc (λy=>#[-2,y]) (λc1 c2=>?_) (λc1=>?_)]
  ·have i0:decide (i=0)=false:=zR λy=>by rw[y]at c1;exact absurd c1 (by decide)
   rw[zP #[i0,c2]]at e;have lo2:=lo.same zt;refine#[-2,r,rs,-1,lo2.2.1,ro.jo,ro.rl,?_];rw[Ew,kA];refine#[-1,_,-1,rfl,-1,?_];cases er:BO rs (some a)with
   |none=>
    have:kR rs (some a) 3 0=none:=by unfold kR;rw[er];rfl
    rw[this]at e;exact jC #[-1,none_ e _ zt]
   |some l=>
   rw[show decide (((match some l with|some l=>(l:Int)|none=> -1):Int)<(0:Int))=false from zR (by show ¬(l:Int)<0;lia)];obtain⟨rv,t3,op,n,er2,ea,et3,ep⟩:=Mz lo2.2.1 (Fg er);refine xX #[-2,r,_,_,-1,rfl,.of er2,ea,sm2,λt4 ht4=>#[t3,t4,_,_,_,-1,rfl,.of (zN ht4 _ _ _ et3),.of zE,rfl,-1,?_]];have s4:=zt.trans (zN ht4 (.tup [.int 3,.int 0]));rw[LM er ep]at e;cases c3:(op==3&&Fs (.int n) (.int 0))with
   |false=>
    rw[c3]at e;exact jC #[-1,none_ e _ s4]
   |true=>
    rw[c3]at e;exact xX #[-1,_,-1,rfl,s4,l+1,-1,e]
  ·rw[zO (λy=>by
    rcases c1 with c1|c1
    ·have: ¬i=0:=vM y.1;exact absurd (vM c1) (by clear c1 y;lia)
    ·rw[y.2]at c1;cases c1)]at e
   exact#[zt,a,-1,e]
 rintro _ H3 ⟨s3,c,v9,rfl,e⟩;have lo3:=lo.same s3;refine#[-2,lk,r,dd,rs,L,v,nd,rfl,lo3,ro,na.tups (qE.same s3),nk nd (xP hnd),λH4 g4=>#[-1,?_]];have s4:=s3.trans g4;unfold Jn at e;cases z1:CC rs L nd with
 |false=>
  rw[z1]at e;exact jC #[-1,none_ e _ s4]
 |true=>
 rw[z1,yY]at e;obtain⟨t1,k1,x1,y1,rfl,et1⟩:=FB na;have lo4:=lo.same s4;obtain⟨tl1,dg1,etl1⟩:=lo4.line (Fx z1);have et1:=s4 _ _ et1;refine xX #[-3,t1,_,_,-1,rfl,.of et1,rfl,dd,-1,dg1,tl1,_,_,-1,rfl,.of etl1,rfl,-1,r,rs,_,-1,lo4.2.1,ro.jo,ro.rl,-1,?_];rw[kA,kA];cases m1:xO rs (some (xS L nd).1) (some c)with
 |false=>
  rw[m1]at e;exact jC #[-1,none_ e _ s4]
 |true=>
 rw[m1]at e;exact xX #[-2,t1,_,_,-1,rfl,.of et1,rfl,dd,-1,dg1,tl1,_,_,-1,rfl,.of etl1,rfl,s4,_,_,_,-1,e]
theorem WM {xs:a6 V}(h:1<xs.length): ¬(HT.sIx xs.length 0 none=0/\HT.sIx xs.length xs.length (some (1:Int))=xs.length):=by
 rintro⟨_,z⟩;have:HT.sIx xs.length xs.length (some (1:Int))=min 1 xs.length:=HT.sIx_nat _ _ 1;lia
theorem SV {xs:a6 V}(h:1<xs.length): ¬(HT.sIx xs.length 0 (some (1:Int))=0/\HT.sIx xs.length xs.length none=xs.length):=by
 rintro⟨z,_⟩;have:HT.sIx xs.length 0 (some (1:Int))=min 1 xs.length:=HT.sIx_nat _ _ 1;lia
theorem Ov (h:fi=true\/dr=false):Jh rs L dr fi a [p]=if Jn rs L p a=true then some (xS L p).2 else none:=by
 rw[Jh,zO (λz=>by rcases h with h|h<;>rw[h]at z<;>simp at z)];dsimp only;split<;>rfl
theorem YJ:decide (oM o<0)=!o.isSome:=by
 cases o with
 |none=>rfl
 |some a=>exact zR (by show ¬(a:Int)<0;lia)
theorem NK (h:BO rs (some a)=none):kR rs (some a) op n=none:=by unfold kR;rw[h];rfl
inductive Jw (d:Nat) (vs:List V) (H:Hp) (Q:VK) (E:XK):Prop
 |mk (lk r dd pt:i3) (rs:vS) (L:Int->Option (Nat×Nat)) (v1 v2:V) (n1 n2:Nd) (b e:Nat) (h0:vs=[.ref lk,.ref pt,.int (b:Int),.int (e:Int)]) (h1:UA H lk r dd rs L) (h2:RsO rs) (h3:H pt=some (.tup [v1,v2])) (h4:jK H d v1 n1) (h5:Uq d n1) (h6:jK H d v2 n2) (h7:Uq d n2) (h8: ∀H',xK H H'->Q (.bl (CC rs L n1&&(CC rs L n2&&VY rs (b,e) (xS L n1) (xS L n2)))) H'):Jw d vs H Q E
theorem Pp (d:Nat)(T:GB K mg)(F:qZ K "_law_looped" "_law_looped" Dj f fd)(Co:kB P w K mg base (4+3*d+1) "_law_parts" ["_law_look","_law_parts_here","_law_begin","_law_drops"] (Fu d))(Cb:kB P w K mg base 1 "_law_goal" ["_law_rows_here","_law_at"] AG)(Cv:kB P w K mg base 3 "_law_does" ["_law_rows_here","_law_at","_law_row","_law_behind"] GL):vX P w K mg base (4+3*d+2) f fd ["_law_look","_law_parts_here","_law_begin","_law_end"] (Jw d):=by
 exists AH;obtain⟨lk,r,dd,pt,rs,L,v1,v2,n1,n2,b,e,rfl,lo,ro,hp,na1,nk1,na2,nk2,q⟩:=h;exists _,(zB (qH (pv 0) (kZ rfl (yE (yA 4 AH.nd) (yE (yA 5 AH.nd) jJ))))
   (zB (yP 6 AH.nd (zK Cb hr rfl (zA (pv 4) (zA (pv 2) zC)) zX))
   (zB (xC (PW.pt (qF (zT wR (pv 6) zH (zY _)) (qF (zT (IT hr) (yZ xQ (pv 4) (pv 6) (λ_ _=>rfl)) (xM (wE (.int (.int .nil)))) (zY _)) (kK (zT wR (zK Co hr rfl (zA (pv 0) (zA (qW GM (pv 1) vQ (wH zH)) (zA (xD jA (pv 6) zH) (zA kX zC)))) zX) zH (zY _)))))) (zI (zV kX)) yD)
   (zB (yP 7 AH.nd (zK Cb hr rfl (zA (pv 4) (zA (yZ xL (AV (Bc hr) (pv 5) (yZ xL (yZ xL (pv 1) zH (λ_ _=>rfl)) zH (λ_ _=>rfl)) (λ_ _=>rfl)) zH (λ_ _=>rfl)) zC)) zX))
   (zB (xC (PW.pt (qF (zT wR (pv 7) zH (zY _)) (qF (zT Hh (yZ xL (yZ xQ (pv 4) (pv 7) (λ_ _=>rfl)) zH (λ_ _=>rfl)) zH (zY _)) (kK (zT wR (zK Co hr rfl (zA (pv 0) (zA (qW GM (pv 1) (wH zH) vQ) (zA (xD jA (pv 7) zH) (zA kX zC)))) zX) zH (zY _)))))) (zI (zV kX)) yD)
   (zI (zV (Af (zK Cv hr rfl (zA (pv 4) (zA (yZ xL (AV (Bc hr) (pv 5) (yZ xL (yZ xL (pv 1) zH (λ_ _=>rfl)) zH (λ_ _=>rfl)) (λ_ _=>rfl)) zH (λ_ _=>rfl)) (zA (xM (wE (.int (.int .nil)))) (zA (pv 2) zC)))) zX) (BP (zK Cv hr rfl (zA (pv 4) (zA (yZ xL (yZ xQ (pv 4) (pv 7) (λ_ _=>rfl)) zH (λ_ _=>rfl)) (zA (xM (wE (.int (.int .nil)))) (zA (pv 3) zC)))) zX))))))))))
 have no: ∀H',xK H H'->(CC rs L n1&&(CC rs L n2&&VY rs (b,e) (xS L n1) (xS L n2)))=false->Q (.bl false) H':=λH' s z=>by have:=q H' s;rwa [z]at this
 refine#[-1,lk,-1,.of lo.1,rfl,_,-1,_,-1,rfl,?_];refine#[-2,r,rs,-1,lo.2.1,ro.jo,ro.rl,?_];rw[Ew,kA];refine#[-1,_,-1,rfl,-1,?_];unfold VY at no q;cases er:BO rs (some b)with
 |none=>
  refine jC (no H (xK.refl H) ?_);rw[NK er,FC,kO,jW,jW]
 |some l9=>
 rw[show decide (((match some l9 with|some l=>(l:Int)|none=> -1):Int)<(0:Int))=false from zR (by show ¬(l9:Int)<0;lia)];obtain⟨rv,t9,o9,m9,erv,ea9,et9,ep9⟩:=Mz lo.2.1 (Fg er);refine xX #[-2,r,_,_,-1,rfl,.of erv,ea9,sm2,λt2 ht2=>#[t9,t2,_,_,_,-1,rfl,.of (zN ht2 _ _ _ et9),.of zE,rfl,-1,?_]];have s2:=zN ht2 (.tup [.int 9,.int 0]);rw[LM er ep9]at no q;generalize upd H t2 (.tup [.int 9,.int 0])=H2 at *
 cases c9:(o9==9&&Fs (.int m9) (.int 0))with
 |false=>
  refine jC (no H2 s2 ?_);rw[c9,zO (by decide),FC,kO,jW,jW]
 |true=>
 rw[c9,zP rfl]at no q;have lo2:=lo.same s2;refine xX #[-3,pt,-1,.of (s2 _ _ hp),WM (by decide:1<2),λcx hcx=>?_];have ec:Bg [v1,v2] none (some (1:Int))=[v1]:=FG 1;rw[ec];have s3:=s2.trans (zN hcx (.tup [v1]));have ecx:upd H2 cx (.tup [v1]) cx=some (.tup [v1]):=zE;generalize upd H2 cx (.tup [v1])=H3 at *
 refine#[-1,_,-1,rfl,lk,r,dd,cx,rs,L,[v1],[n1],l9+1,false,rfl,lo.same s3,ro,.inr ecx,.cons (na1.tups (qE.same s3)) .nil,λx m=>by rw[List.mem_singleton.mp m];exact nk1,λH4 g4=>#[_,-1,rfl,-1,?_]];have s4:=s3.trans g4;have lo4:=lo.same s4;rw[Ov (.inl rfl),YJ];cases c1:Jn rs L n1 (l9+1)with
 |false=>
  refine jC (no H4 s4 ?_);rw[AW];unfold Jn at c1;dsimp only at c1 ⊢;cases z:CC rs L n1 with
  |false=>rfl
  |true=>rw[z,yY]at c1;rw[c1];simp
 |true=>
 obtain⟨z1,m1⟩:=Bool.and_eq_true_iff.mp c1;rw[z1,AW (some (l9+1)),m1,yY,yY]at no q;obtain⟨t1,k1,x1,y1,rfl,et1⟩:=FB na1;obtain⟨tl1,dg1,etl1⟩:=lo4.line (Fx z1);refine xX #[-3,pt,_,_,-1,rfl,.of (s4 _ _ hp),rfl,t1,_,_,-1,rfl,.of (s4 _ _ et1),rfl,dd,-1,dg1,tl1,_,_,-1,rfl,.of etl1,rfl,r,rs,-1,lo4.2.1,ro.jo,ro.rl,?_];rw[Ew,kA];refine#[-1,_,-1,rfl,-1,?_];cases er5:BO rs (some (xS L n1).2)with
 |none=>
  refine jC (no H4 s4 ?_);have:Bn rs (some (xS L n1).2)=none:=by unfold Bn;rw[er5];rfl
  rw[this];show(CC rs L n2&&(xO rs none _&&_))=false;rw[FC,kO,jW]
 |some l5=>
 rw[show decide (((match some l5 with|some l=>(l:Int)|none=> -1):Int)<(0:Int))=false from zR (by show ¬(l5:Int)<0;lia)];obtain⟨rv5,t5,op,n5,erv5,ea5,et5,ep5⟩:=Mz lo4.2.1 (Fg er5);refine xX #[-2,r,_,_,-1,rfl,.of erv5,ea5,t5,_,_,-1,rfl,.of et5,rfl,rfl,-1,?_]
 by_cases c5: ¬op=5
 ·rw[show decide (V.int op=V.int 5)=false from zR λz=>c5 (by injection z)];refine jC (no H4 s4 ?_);have:Bn rs (some (xS L n1).2)=none:=by
   unfold Bn;rw[er5];show(match rs[l5]? with|some (5,n)=>some n.toNat|_=>none)=none;rw[ep5];split
   ·rename_i z;injection z with z
    injection z with z _
    exact absurd z c5
   ·rfl
  rw[this];show(CC rs L n2&&(xO rs none _&&_))=false;rw[FC,kO,jW]
 have c5:=Classical.not_not.mp c5;subst c5;have n50:=ro.uo _ _ ep5;have lf:Bn rs (some (xS L n1).2)=some n5.toNat:=by
  unfold Bn;rw[er5];show(match rs[l5]? with|some (5,n)=>some n.toNat|_=>none)=_;rw[ep5]<;>rfl
 have bh:Ow rs (some (xS L n1).2) 5 ((Bn rs (some (xS L n1).2)).map Int.ofNat)=some (l5+1):=by
  rw[lf];show kR rs (some (xS L n1).2) 5 ((n5.toNat:Nat):Int)=_;rw[qM n50];unfold kR;rw[er5];exact zP ep5
 rw[bh,lf]at no q;rw[show decide (V.int (5:Int)=V.int 5)=true from zQ rfl];refine xX #[-3,pt,-1,.of (s4 _ _ hp),SV (by decide:1<2),λcy hcy=>?_];have ec:Bg [V.ref t1,v2] (some (1:Int)) none=[v2]:=AZ 1;rw[ec];have s5:=s4.trans (zN hcy (.tup [v2]));have g5:=zN hcy (.tup [v2]);have ecy:upd H4 cy (.tup [v2]) cy=some (.tup [v2]):=zE;generalize upd H4 cy (.tup [v2])=H5 at *
 refine#[-1,_,-1,rfl,lk,r,dd,cy,rs,L,[v2],[n2],l5+1,false,rfl,lo.same s5,ro,.inr ecy,.cons (na2.tups (qE.same s5)) .nil,λx m=>by rw[List.mem_singleton.mp m];exact nk2,λH6 g6=>#[_,-1,rfl,-1,?_]];have s6:=s5.trans g6;have lo6:=lo.same s6;have g46:=g5.trans g6;rw[Ov (.inl rfl),YJ];cases c2:Jn rs L n2 (l5+1)with
 |false=>
  refine jC (no H6 s6 ?_);rw[AW];unfold Jn at c2;dsimp only at c2 ⊢;cases z:CC rs L n2 with
  |false=>rfl
  |true=>rw[z,yY]at c2;rw[c2];simp
 |true=>
 obtain⟨z2,m2⟩:=Bool.and_eq_true_iff.mp c2;rw[z2,AW (some (l5+1)),m2,yY,yY]at no q;obtain⟨t2',k2,x2,y2,rfl,et2'⟩:=FB na2;obtain⟨tl2,dg2,etl2⟩:=lo6.line (Fx z2);refine xX #[-3,pt,_,_,-1,rfl,.of (s6 _ _ hp),rfl,t2',_,_,-1,rfl,.of (s6 _ _ et2'),rfl,dd,-1,dg2,tl2,_,_,-1,rfl,.of etl2,rfl,sm2,λt7 ht7=>?_];have s7:=s6.trans (zN ht7 (.tup [.int 3,.int 0]));have et7:upd H6 t7 (.tup [.int 3,.int 0]) t7=some (.tup [.int 3,.int 0]):=zE;have g47:=g46.trans (zN ht7 (.tup [.int 3,.int 0]));generalize upd H6 t7 (.tup [.int 3,.int 0])=H7 at *
 refine#[-1,r,rs,_,_,t7,3,0,rfl,(lo.same s7).2.1,ro.jo,ro.rl,et7,?_];rw[kA,kA];refine#[-1,?_];cases c3:xO rs (kR rs (some (xS L n2).2) 3 0) (some b)with
 |false=>
  refine xX (no H7 s7 ?_);rw[c3,kO]
 |true=>
 rw[c3,yY]at q;refine jC #[-3,r,_,_,-1,rfl,.of (g47 _ _ erv5),ea5,t5,_,_,-1,rfl,.of (g47 _ _ et5),rfl,sm2,λt8 ht8=>?_];have s8:=s7.trans (zN ht8 (.tup [.int 0,.int 0]));refine#[-1,r,rs,_,_,t8,0,0,rfl,(lo.same s8).2.1,ro.jo,ro.rl,zE,?_];have en:HQ n5=some n5.toNat:=zP n50;rw[kA,en];exact q _ s8
theorem OT: ∀{ps:a6 Nd},wX rs L ps=ps.map (CC rs L)
 |[]=>by rw[wX];rfl
 |a::r=>by rw[wX,OT (ps:=r)];rfl
noncomputable def ZD (rs:vS)(L:Int->i4 (Nat×Nat))(e:Nat):Nat->a6 Nd->i7
 |_,[]=>true
 |en,p::r=>Jn rs L p en&&(xO rs (some (xS L p).2) (some e)&&ZD rs L e (en+1) r)
theorem YI: ∀{ps:a6 Nd} {en:Nat},((wX rs L ps).all id&&Gy rs (b,e) en (ps.map (xS L)))=ZD rs L e en ps
 |[],en=>by rw[wX];rfl
 |a::r,en=>by
  have ih:=YI (rs:=rs) (L:=L) (b:=b) (e:=e) (ps:=r) (en:=en+1);rw[wX,qV,yO];unfold Gy ZD Jn;rw[<-ih,AW (some en)];dsimp only[id];cases CC rs L a<;>cases xO rs (some (xS L a).1) (some en)<;>cases xO rs (some (xS L a).2) (some e)<;>cases(wX rs L r).all id<;>rfl
inductive Jt (d:Nat) (vs:List V) (H:Hp) (Q:VK) (E:XK):Prop
 |mk (lk r dd pt:i3) (rs:vS) (L:Int->Option (Nat×Nat)) (v0:V) (m6:List V) (n0:Nd) (ps:List Nd) (b e:Nat) (h0:vs=[.ref lk,.int (ps.length:Int),.ref pt,.int (b:Int),.int (e:Int)]) (h1:UA H lk r dd rs L) (h2:RsO rs) (h3:H pt=some (.tup (v0::m6))) (h4:Paired (jK H d) (v0::m6) (n0::ps)) (h5:(∀x∈n0::ps,Uq d x)) (h6:0<ps.length) (h7: ∀H',xK H H'->Q (.bl (RL rs (b,e) ((wX rs L (n0::ps)).zip ((n0::ps).map (xS L))) (Xb (n0::ps)) || ((wX rs L (n0::ps)).all id&&Uy rs (b,e) (xS L n0) (ps.map (xS L))))) H'):Jt d vs H Q E
theorem zCi:decide (0<=oM o)=o.isSome:=by
 cases o with
 |none=>rfl
 |some a=>exact zQ (vO a)
theorem Zm (h:rs.length<n):Jn rs L nd n=false:=by
 unfold Jn xO;have:BO rs (some n)=none:=zO ();rw[this];cases BO rs (some (xS L nd).1)<;>simp
inductive PkI (lk pt r dd:i3)(l b e x:Int)(o:V)(U':St):Prop
 |mk (v8 v10 v11 v12:i4 V) (h:U'=[some (.ref lk),some (.int l),some (.ref pt),some (.int b),some (.int e),some (.ref r),some (.ref dd),some o,v8,some (.int x),v10,v11,v12]):PkI lk pt r dd l b e x o U'
theorem Pk (d:Nat)(T:GB K mg)(F:qZ K "_law_picked" "_law_picked" Di f fd)(Cu:kB P w K mg base (4+3*d) "_law_right" ["_law_look","_law_node_here"] (Dn d))(Co:kB P w K mg base (4+3*d+1) "_law_parts" ["_law_look","_law_parts_here","_law_begin","_law_drops"] (Fu d))(Cn:kB P w K mg base (1+d) "_law_worth" ["_law_node_here"] (BH d))(Cb:kB P w K mg base 1 "_law_goal" ["_law_rows_here","_law_at"] AG)(Ch:kB P w K mg base 2 "_law_meet" ["_law_rows_here","_law_one","_law_other"] Do):vX P w K mg base (4+3*d+2) f fd ["_law_look","_law_many","_law_parts_here","_law_begin","_law_end"] (Jt d):=by
 exists kM;obtain⟨lk,r,dd,pt,rs,L,v0,m6,n0,ps,b,e,rfl,lo,ro,hp,pr,nk,hl0,q⟩:=h;exists _,(zB (qH (pv 0) (kZ rfl (yE (yA 5 kM.nd) (yE (yA 6 kM.nd) jJ))))
   (zB (yP 7 kM.nd (zK Cn hr rfl (zA (yZ xL (pv 2) zH (λ_ _=>rfl)) zC) zX))
   (zB (AI (xC (zT HG (pv 7) qL (zY _)) (zB (yP 8 kM.nd (yZ xL (pv 2) (HS Ff zH) (λ_ _=>rfl)))
   (zB (AI (xC (Lc BR wR zH (pv 7) (pv 1)) (zI (yP 8 kM.nd (yZ xL (pv 2) (xD jA (pv 7) zH) (λ_ _=>rfl)))) yD))
   (zI (xC (PW.pt (Ep (zT Fz (zK Co hr rfl (zA (pv 0) (zA (kU (zA (pv 8) zC)) (zA (pv 3) (zA kX zC)))) zX) zH (zY _)) (DZ (kT (zK Ch hr rfl (zA (pv 5) (zA (yZ xL (AV (Bc hr) (pv 6) (yZ xL (pv 8) zH (λ_ _=>rfl)) (λ_ _=>rfl)) zH (λ_ _=>rfl)) (zA (pv 4) zC))) zX))))) (zI (zV kX)) yD)))) yD))
   (zB (yP 9 kM.nd (zK Co hr rfl (zA (pv 0) (zA (qW GM (pv 2) vQ (wH zH)) (zA (pv 3) (zA kX zC)))) zX))
   (zB (xC (PW.pt (qF (zT wR (pv 9) zH (zY _)) (qF (zT wR (zK Cb hr rfl (zA (pv 5) (zA (pv 9) zC)) zX) zH (zY _)) (kK (zT (IT hr) (yZ xQ (pv 5) (zK Cb hr rfl (zA (pv 5) (zA (pv 9) zC)) zX) (λ_ _=>rfl)) (xM (zA zH (zA (pv 1) zC))) (zY _)))))) (zI (zV kX)) yD)
   (zB (yP 9 kM.nd (zK Cb hr rfl (zA (pv 5) (zA (pv 9) zC)) zX))
   (zB (wD xE rfl (Lh rfl T.n_enumerate (zA (qW GM (pv 2) (wH zH) vQ) zC)) (kZ rfl (yE (yA 10 kM.nd) (yE (yA 11 kM.nd) jJ))) (zB (xC (PW.pt (qF (zT Gz (xD jA (xD jA (pv 9) zH) (pv 10)) (xF yX rfl T.n_len jY (zA (pv 5) zC)) (zY _)) (kK (qK (kT (zK Cu hr rfl (zA (pv 0) (zA (pv 11) zC)) zX)))))) (zI (zV kX)) yD)
   (zB (qH (AV (Bc hr) (pv 6) (yZ xL (pv 11) zH (λ_ _=>rfl)) (λ_ _=>rfl)) (kZ rfl (yE (yA 8 kM.nd) (yE (yA 12 kM.nd) jJ))))
   (zI (xC (PW.pt (qF (qK (kT (zK Ch hr rfl (zA (pv 5) (zA (pv 8) (zA (xD jA (xD jA (pv 9) zH) (pv 10)) zC))) zX))) (kK (qK (kT (zK Ch hr rfl (zA (pv 5) (zA (pv 12) (zA (pv 4) zC))) zX)))))) (zI (zV kX)) yD)))))
   (zI (zV kX)))))))))
 have lp:=Paired.len pr;rw[zJ,zJ]at lp;have l1:1<(v0::m6).length:=by rw[zJ];lia
 obtain _|⟨na0,pr'⟩:=id pr
 refine#[-1,lk,-1,.of lo.1,rfl,_,-1,_,-1,rfl,?_];refine#[-1,pt,_,_,-1,rfl,.of hp,Kc,v0,bare n0,rfl,HH na0,(nk n0 (yC ..)).2,λH1 g1=>?_];refine#[λU' H'=>xK H H'/\(∃v8,U'=[some (.ref lk),some (.int (ps.length:Int)),some (.ref pt),some (.int (b:Int)),some (.int (e:Int)),some (.ref r),some (.ref dd),some (oZ (kP (bare n0))),v8,none,none,none,none])/\RL rs (b,e) ((wX rs L (n0::ps)).zip ((n0::ps).map (xS L))) (Xb (n0::ps))=false,?_,?_]
 ·have ehd:Xb (n0::ps)=kP (bare n0):=rfl;rw[ehd]at q ⊢;cases ev:kP (bare n0)with
  |none=>exact#[-1,rfl,-1,xX #[g1,#[-1],rfl]]
  |some f0=>
  rw[ev]at q;have o5:=Vl (v:=f0) (BX ps.length);obtain⟨vx,hvx⟩: ∃vx,(v0::m6)[Pd f0 (ps.length+1)]? =some vx:=#[_,zF (by rw[zJ,lp];exact o5)];obtain⟨x,hx,nax⟩:=Paired.yonder pr hvx;have eah:RL rs (b,e) ((wX rs L (n0::ps)).zip ((n0::ps).map (xS L))) (some f0)=(CC rs L x&&(xO rs (some (xS L x).1) (some b)&&xO rs (some (xS L x).2) (some e))):=by
   rw[OT,List.zip_map'];show(match((n0::ps).map λa=>(CC rs L a,xS L a))[Pd f0 ((n0::ps).map λa=>(CC rs L a,xS L a)).length]? with|some i=>i.1&&(xO rs (some i.2.1) (some b)&&xO rs (some i.2.2) (some e))|none=>false)=_;rw[zM,yJ,zJ,hx];rfl
  rw[eah]at q ⊢;obtain⟨vl,hvl⟩: ∃vl,(v0::m6)[m6.length]? =some vl:=#[_,zF (Bb _)];refine#[-1,rfl,-1,jC #[-2,pt,_,_,vl,rfl,rfl,.of (g1 _ _ hp),(Qo (xs:=v0::m6) (BX _)).trans hvl,?_]];refine#[λU' H'=>H'=H1/\U'=[some (.ref lk),some (.int (ps.length:Int)),some (.ref pt),some (.int (b:Int)),some (.int (e:Int)),some (.ref r),some (.ref dd),some (.int f0),some vx,none,none,none,none],?_,?_]
  ·have h1:0<=f0->f0<(ps.length:Int)->Pd f0 (ps.length+1)=1+f0.toNat:=λc0 c1=>by unfold Pd;rw[zO ()]
   have h2: ¬(0<=f0/\f0<(ps.length:Int))->vl=vx:=λc=>by
    have:Pd f0 (ps.length+1)=m6.length:=by unfold Pd;rw[zP ()];lia
    rw[this,hvl]at hvx;injection hvx
   refine#[-1,_,-1,rfl,-1,?_]
   by_cases c0:0<=f0
   ·rw[zQ c0];refine jC #[-1,_,-1,rfl,-1,?_]
    by_cases c1:f0<(ps.length:Int)
    ·rw[zQ c1];refine jC #[-2,_,-1,rfl,pt,_,_,vx,rfl,rfl,.of (g1 _ _ hp),?_,rfl,rfl];rw[h1 c0 c1]at hvx;rw[show f0+1=((1+f0.toNat:Nat):Int)by (clear h1 eah;lia)];exact kG hvx
    ·rw[zR c1];exact xX #[rfl,by rw[h2 (λz=>c1 z.2)];rfl]
   ·rw[zR c0];exact xX #[-1,xX #[rfl,by rw[h2 (λz=>c0 z.1)];rfl]]
  ·rintro _ _ ⟨rfl,rfl⟩;refine#[-2,sm1,λll hll=>?_];have s1:=g1.trans (zN hll (.lst [vx]));refine#[-1,lk,r,dd,ll,rs,L,[vx],[x],b,false,rfl,lo.same s1,ro,.inl zE,.cons (nax.tups (qE.same s1)) .nil,λy m=>by rw[List.mem_singleton.mp m];exact nk x (xP hx),λH2 g2=>#[_,-1,rfl,-1,?_]];have s2:=s1.trans g2;rw[Ov (.inl rfl),zCi];cases cs:Jn rs L x b with
   |false=>
    refine xX (xX #[s2,#[-1],?_]);unfold Jn at cs;cases z:CC rs L x with
    |false=>rfl
    |true=>rw[z,yY]at cs;rw[cs];rfl
   |true=>
    obtain⟨z1,m1⟩:=Bool.and_eq_true_iff.mp cs;rw[z1,m1,yY,yY]at q ⊢;obtain⟨t1,k1,x1,y1,rfl,et1⟩:=FB nax;have lo2:=lo.same s2;obtain⟨tl1,dg1,etl1⟩:=lo2.line (Fx z1);refine jC #[-3,t1,_,_,-1,rfl,.of (s2 _ _ et1),rfl,dd,-1,dg1,tl1,_,_,-1,rfl,.of etl1,rfl,-1,r,rs,_,-1,lo2.2.1,ro.jo,ro.rl,-1,?_];rw[kA,kA];cases m2:xO rs (some (xS L x).2) (some e)with
    |false=>exact xX #[s2,#[-1],rfl]
    |true=>
     rw[m2]at q;exact jC (q H2 s2)
 rintro _ H2 ⟨s2,⟨v8,rfl⟩,ea⟩;rw[ea,Bool.false_or]at q;have nk0:=nk n0 (yC ..);refine#[-3,pt,-1,.of (s2 _ _ hp),WM l1,λcx hcx=>?_];have ec:Bg (v0::m6) none (some (1:Int))=[v0]:=FG 1;rw[ec];have s3:=s2.trans (zN hcx (.tup [v0]));have ecx:upd H2 cx (.tup [v0]) cx=some (.tup [v0]):=zE;generalize upd H2 cx (.tup [v0])=H3 at *
 refine#[-1,lk,r,dd,cx,rs,L,[v0],[n0],b,false,rfl,lo.same s3,ro,.inr ecx,.cons (na0.tups (qE.same s3)) .nil,λy m=>by rw[List.mem_singleton.mp m];exact nk0,λH4 g4=>?_];have s4:=s3.trans g4;have lo4:=lo.same s4;clear hcx ecx ec;obtain⟨o,eo⟩: ∃o,o=oM (Jh rs L false true b [n0]):=#[-1];rw[<-eo];rw[Ov (.inl rfl)]at eo;have eall:(wX rs L (n0::ps)).all id=(CC rs L n0&&(wX rs L ps).all id):=by rw[wX,qV];rfl
 rw[eall]at q;unfold Uy at q;rw[zM]at q;cases cs:Jn rs L n0 b with
 |false=>
  rw[cs]at eo;have eo:o= -1:=eo;subst eo;unfold Jn at cs;refine#[-1,_,-1,rfl,-1,jC ?_];have:=q H4 s4
  suffices z:(CC rs L n0&&(wX rs L ps).all id&&match kR rs (some (xS L n0).2) 11 (ps.length:Int)with|none=>false|some en=>xO rs (some (xS L n0).1) (some (b,e).1)&&Gy rs (b,e) en (ps.map (xS L)))=false from z▸this
  cases z:CC rs L n0 with
  |false=>rfl
  |true=>
   rw[z,yY]at cs;cases kR rs (some (xS L n0).2) 11 (ps.length:Int)with
   |none=>exact jW _
   |some en=>rw[cs];exact jW _
 |true=>
 rw[cs]at eo;have eo:o=((xS L n0).2:Int):=eo;subst eo;obtain⟨z1,m1⟩:=Bool.and_eq_true_iff.mp cs;rw[z1,yY]at q;refine#[-1,_,-1,rfl,-1,?_];rw[show decide (((xS L n0).2:Int)<0)=false from zR ()];refine xX #[-2,r,rs,-1,lo4.2.1,ro.jo,ro.rl,?_];have eg:=Ew rs ((xS L n0).2:Int);rw[kA]at eg;refine#[_,-1,rfl,-1,?_];cases er:BO rs (some (xS L n0).2)with
 |none=>
  rw[er]at eg;rw[eg];rw[NK er,jW]at q;exact jC (q H4 s4)
 |some lx=>
 rw[er]at eg;have eg:Xc rs ((xS L n0).2:Int)=(lx:Int):=eg;rw[eg,show decide ((lx:Int)<0)=false from zR ()];obtain⟨rv,t3,op,n,erv,ea3,et3,ep⟩:=Mz lo4.2.1 (Fg er);refine xX #[-3,r,rs,-1,lo4.2.1,ro.jo,ro.rl,?_];rw[eg];refine#[r,_,_,-1,rfl,.of erv,ea3,-1,sm2,λt5 ht5=>#[t3,t5,_,_,_,-1,rfl,.of (zN ht5 _ _ _ et3),.of zE,rfl,-1,?_]];have s5:=s4.trans (zN ht5 (.tup [.int 11,.int (ps.length:Int)]));generalize upd H4 t5 (.tup [.int 11,.int (ps.length:Int)])=H5 at *
 rw[LM er ep]at q;cases c11:(op==11&&Fs (.int n) (.int (ps.length:Int)))with
 |false=>
  rw[c11,zO (by decide),jW]at q;exact jC (q H5 s5)
 |true=>
 rw[c11,zP rfl]at q;dsimp only at q;rw[m1,yY,YI]at q;have lo5:=lo.same s5;refine xX #[-2,r,rs,-1,lo5.2.1,ro.jo,ro.rl,?_];rw[eg];refine#[-2,pt,-1,.of (s5 _ _ hp),SV l1,λcx hcx=>?_];have ec:Bg (v0::m6) (some (1:Int)) none=m6:=AZ 1;rw[ec];have s6:=s5.trans (zN hcx (.tup m6));have ecx:upd H5 cx (.tup m6) cx=some (.tup m6):=zE;generalize upd H5 cx (.tup m6)=H6 at *
 refine#[cx,-1,.of ecx,HL (xs:=m6) (λi U' H'=>xK H6 H'/\PkI lk pt r dd (ps.length:Int) (b:Int) (e:Int) (lx:Int) (oZ (kP (bare n0))) U'/\ZD rs L e (lx+1) ps=ZD rs L e (lx+1+i) (ps.drop i)) #[xK.refl _,#[_,_,_,-1],rfl] (λi U' H' _ ⟨z,_⟩=>.of (z _ _ ecx)) ?_ ?_]
 rotate_left
 ·rintro U' H7 ⟨g7,⟨v8,v10,v11,v12,rfl⟩,e7⟩;rw[show m6.length=ps.length by lia,vI]at e7;rw[e7]at q;exact q H7 (s6.trans g7)
 rintro i v U' H7 t hv ⟨g7,⟨v8',v10,v11,v12,rfl⟩,e7⟩ ht;obtain⟨nd,hnd,na⟩:=Paired.yonder pr' hv;have g8:=g7.trans (zN ht (.tup [.int (i:Nat),v]));have et:upd H7 t (.tup [.int (i:Nat),v]) t=some (.tup [.int (i:Nat),v]):=zE;generalize upd H7 t (.tup [.int (i:Nat),v])=H8 at *
 have s8:=s6.trans g8;have ed:ps.drop i=nd::ps.drop (i+1):=by
  obtain⟨hi,ei⟩:=List.getElem?_eq_some_iff.mp hnd;rw[yR hi,ei]
 rw[ed]at e7;have e7:ZD rs L e (lx+1) ps=(Jn rs L nd (lx+1+i)&&(xO rs (some (xS L nd).2) (some e)&&ZD rs L e (lx+1+(i+1)) (ps.drop (i+1)))):=e7;rw[e7]at q;refine#[t,-1,.of et,rfl,_,-1,_,-1,rfl,?_];have lo8:=lo.same s8;obtain⟨rv8,er8,pr8⟩:=id lo8.2.1;have lrv:rv8.length=rs.length:=(Paired.len pr8).trans (zM ..);refine#[-1,_,-1,rfl,-1,_,-1,rfl,-1,r,-1,.inl (.of er8),_,-1,rfl,-1,?_]
 by_cases cf:rs.length<lx+1+i
 ·rw[show decide ((rv8.length:Int)<(lx:Int)+1+(i:Int))=true from zQ ()];rw[Zm cf]at q;exact jC (q H8 s8)
 rw[show decide ((rv8.length:Int)<(lx:Int)+1+(i:Int))=false from zR ()];refine xX #[-2,lk,r,dd,rs,L,v,nd,rfl,lo8,ro,na.tups (qE.same s8),nk nd (zZ _ (xP hnd)),λH9 g9=>#[-1,?_]];have s9:=s8.trans g9;unfold Jn at q e7;cases z2:CC rs L nd with
 |false=>
  rw[z2]at q;exact jC (q H9 s9)
 |true=>
 rw[z2,yY]at q e7;obtain⟨t1,k1,x1,y1,rfl,et1⟩:=FB na;have lo9:=lo.same s9;obtain⟨tl1,dg1,etl1⟩:=lo9.line (Fx z2);refine xX #[-2,t1,_,_,-1,rfl,.of (s9 _ _ et1),rfl,dd,-1,dg1,tl1,-1,.of etl1,rfl,_,-1,_,-1,rfl,?_];refine#[-3,_,-1,rfl,-1,_,-1,rfl,r,rs,_,((lx+1+i:Nat):Int),rfl,lo9.2.1,ro.jo,ro.rl,-1,?_];rw[kA,kA];cases m2:xO rs (some (xS L nd).1) (some (lx+1+i))with
 |false=>
  rw[m2]at q;exact jC (q H9 s9)
 |true=>
 rw[m2,yY]at q e7;refine xX #[-3,r,rs,_,-1,lo9.2.1,ro.jo,ro.rl,-1,?_];rw[kA,kA];cases m3:xO rs (some (xS L nd).2) (some e)with
 |false=>
  rw[m3]at q;exact jC (q H9 s9)
 |true=>
 rw[m3,yY]at e7;exact xX #[g8.trans g9,#[_,_,_,-1],e7]
section
variable {rs:vS}{L:Int->i4 (Nat×Nat)}
theorem Oi: ∀k,its rs (k+1) i=its rs k (Se rs i)
 |0=>rfl
 |k+1=>qX (Se rs) (Oi k)
theorem BN (e:rs[i]? =some (op,n))(h:op≠4):BO rs (some i)=some i:=by
 have hl:=(List.getElem?_eq_some_iff.mp e).1;show(if i<rs.length then Mh rs i else none)=_;rw[zP hl,JM (k:=0) (xG _) (fun⟨m,z⟩=>by rw[show its rs 0 i=i from rfl,e]at z;cases z;exact h rfl)];exact zP hl
theorem IL (jo:OB rs){i s:Nat}(e:rs[i]? =some (4,(s:Int))):BO rs (some i)=BO rs (some s):=by
 have hl:=(List.getElem?_eq_some_iff.mp e).1;have hs:=jo _ _ e;have es:Se rs i=s:=Int.ofNat.inj (QA jo e);show(if i<rs.length then Mh rs i else none)=if s<rs.length then Mh rs s else none;rw[zP hl,zP ()]
 by_cases c: ∀j,j<rs.length->OD rs (its rs j i)
 ·rw[IW jo c (),IW jo (λj hj=>?_) ()]
  by_cases z:j+1<rs.length
  ·have:=c (j+1) z
   rwa [Oi,es]at this
  ·have:=zBw jo c (by clear z;lia)
   rwa [show rs.length=j+1 by lia,Oi,es]at this
 ·obtain⟨j,c⟩:=Classical.not_forall.mp c;obtain⟨hj,nj⟩:=Classical.not_imp.mp c;cases j with
  |zero=>exact absurd #[_,e] nj
  |succ j=>
   rw[JM () nj];rw[Oi,es]at nj ⊢;rw[JM () nj]
theorem Et (h:(BO rs a).isSome =true)(e:BO rs a=BO rs b):xO rs a b=true:=by
 unfold xO;rw[h,zQ e];rfl
theorem Hs (e:rs[i]? =some (op,n))(h:op≠4):kR rs (some i) op n=some (i+1):=by
 unfold kR;rw[BN e h];exact zP e
def OA (rs:vS)(b:Nat)(g:a6 (a6 Int)):Prop:= ∀i x,g[i]? =some x->(Jo rs)[b+i]? =some x
theorem OA.left (s:OA rs b (g++h)):OA rs b g:=λi x e=>s i x (by rw[kJ (List.getElem?_eq_some_iff.mp e).1];exact e)
theorem OA.right (s:OA rs b (g++h))(e:g.length=n):OA rs (b+n) h:=λi x z=>by
 have:=s (n+i) x (by rw[qB (),<-e,BE];exact z)
 rwa [<-Nat.add_assoc]at this
theorem OA.head (s:OA rs b ([op,n]::g)):rs[b]? =some (op,n):=by
 have:=s 0 _ rfl;unfold Jo at this;rw[yJ,Nat.add_zero]at this;obtain⟨⟨x,y⟩,e,z⟩:=Option.map_eq_some_iff.mp this;rw[e];injection z with z1 z
 injection z with z2 _
 rw[<-z1,<-z2]
theorem OA.tail (s:OA rs b (x::g)):OA rs (b+1) g:=OA.right (g:=[x]) s rfl
def Ur (L:Int->i4 (Nat×Nat))(ls:a6 Ln):Prop:= ∀x∈ls,L x.1=some (x.2.1.toNat,x.2.2.toNat)
theorem Ur.left (h:Ur L (a++b)):Ur L a:=λx m=>h x (uK _ m)
theorem Ur.right (h:Ur L (a++b)):Ur L b:=λx m=>h x (jE _ m)
def Rgt (rs:vS)(L:Int->i4 (Nat×Nat))(b:Nat)(nd:Nd):Prop:=CC rs L nd=true/\xS L nd=(b,b+rl (bare nd))/\BO rs (some b)=some b
theorem NM (ln:Ur L (Qv b (.mk k p own ps)))(hs:BO rs (some b)=some b)(ha:(wX rs L ps).all id=true)(hp:Qu rs (b,b+rl (.mk k own (zU ps))) k own (ps.map (xS L))=true):Rgt rs L b (.mk k p own ps):=by
 have e:L (p:Int)=some (b,b+rl (.mk k own (zU ps))):=ln _ (yC ..);refine#[?_,?_,hs]
 ·rw[CC,e];dsimp only;rw[ha,hp]
  simp
 ·show(L (p:Int)).getD (0,0)=_;rw[e];rfl
theorem Hd: ∀{ps:a6 Nd},(∀x∈ps,CC rs L x=true)->(wX rs L ps).all id=true
 |[],_=>by rw[wX];rfl
 |a::r,h=>by
  rw[wX,qV,Hd λx m=>h x (zZ _ m),h a (yC ..)];rfl
theorem nx3 (m i b:Nat)(t:Tr):Ks 3 m i b t=b+rl t+1:=by unfold Ks;rw[zP (.inl rfl)]
theorem nx5 (m i b:Nat)(t:Tr):Ks 5 m i b t=b+rl t+1:=by unfold Ks;rw[zP (.inr rfl)]
theorem zGn (m b:Nat)(t:Tr):Ks 4 m 0 b t=b+rl t+(m+2):=by unfold Ks;rw[zO (by decide),zP rfl,zP rfl]
theorem zCl (m i b:Nat)(t:Tr):Ks 4 m (i+1) b t=b+rl t+1:=by unfold Ks;rw[zO (by decide),zP rfl,zO ()]
theorem nxk (h3:k≠3)(h4:k≠4)(h5:k≠5)(m i b:Nat)(t:Tr):Ks k m i b t=b+rl t:=by unfold Ks;rw[zO (),zO h4];rfl
theorem XD (k:Int)(own:a6 Int)(h4:k≠4): ∃op n,Er k own=[op,n]/\op≠4:=by
 unfold Er;split
 ·exact#[_,-1,h4]
 split
 ·exact#[_,-1,by decide]
 split
 ·exact#[_,-1,by decide]
 ·exact#[_,-1,by decide]
theorem wY (a:Nd)(r:a6 Nd):zU (a::r)=bare a::zU r:=by rw[zU]
theorem VQ (k:Int)(p:Nat)(own:a6 Int)(ps:a6 Nd):FT (.mk k p own ps)=1+BG ps:=by rw[FT]
theorem XT: ∀nd:Nd,0<FT nd
 | .mk k p own ps=>by rw[VQ];lia
theorem VP: ∀{ps:a6 Nd} {x:Nd},x∈ps->FT x<=BG ps
 |a::r,x,m=>by
  rw[Al]
  rcases List.mem_cons.mp m with rfl|m
  ·lia
  ·have:=VP m;lia
def MdI (rs:vS)(L:Int->i4 (Nat×Nat))(nd:Nd):Prop:= ∀b:Nat,Kl (bare nd)->OA rs b (Dl b (bare nd))->Ur L (Qv b nd)->(BO rs (some (b+rl (bare nd)))).isSome =true->Rgt rs L b nd
theorem mdS (jo:OB rs)(c3:k≠3)(c4:k≠4)(c5:k≠5): ∀(ps:a6 Nd) (m i b:Nat),(∀x∈ps,MdI rs L x)->BF (zU ps)->OA rs b (Kt b (zU ps))->Ur L (JN k m i b ps)->(BO rs (some (b+kD (zU ps)))).isSome =true->(∀x∈ps,CC rs L x=true)/\AJ rs b (ps.map (xS L))=some (b+kD (zU ps))/\(ps≠[]->BO rs (some b)=some b)
 |[],m,i,b,_,_,_,_,_=>#[λx m=>(nomatch m),by unfold zU kD;rfl,λh=>absurd rfl h]
 |a::r,m,i,b,ih,gd,st,ln,en=>by
  unfold zU at gd st en ⊢;rw[kW]at en ⊢;rw[uW]at gd;rw[Kt]at st;rw[JN,nxk c3 c4 c5]at ln;rw[<-Nat.add_assoc]at en ⊢;obtain⟨al,ow,hs⟩:=mdS jo c3 c4 c5 r m (i+1) (b+rl (bare a)) (λx z=>ih x (zZ _ z)) gd.2 (st.right (wS _ _ gd.1)) ln.right en;have ra:=ih a (yC ..) b gd.1 st.left ln.left (by
   cases r with
   |nil=>
    unfold zU at en;unfold kD at en;exact en
   |cons c r=>rw[hs (by simp)];rfl)
  refine#[λx m=>?_,?_,λ_=>ra.2.2]
  ·rcases List.mem_cons.mp m with rfl|m
   ·exact ra.1
   ·exact al x m
  ·rw[yO,AJ,ra.2.1,zP (Et (by rw[ra.2.2];rfl) rfl)];exact ow
theorem mdA (jo:OB rs): ∀(r:a6 Nd) (a:Nd) (m i s:Nat),(∀x∈a::r,MdI rs L x)->Kl (bare a)->BF (zU r)->OA rs s (Dl s (bare a)++Iz (s+rl (bare a)) false (zU r))->Ur L (Qv s a++JN 3 m (i+1) (s+rl (bare a)+1) r)->(BO rs (some (s+rl (bare a)+kD (zU r)+(zU r).length))).isSome =true->Rgt rs L s a/\(∀x∈r,CC rs L x=true)/\Uz rs ((a::r).map (xS L))=true/\(∃z,((a::r).map (xS L)).getLast? =some z/\z.2=s+rl (bare a)+kD (zU r)+(zU r).length)/\(BO rs (some (s+rl (bare a)+kD (zU r)+(zU r).length))).isSome =true
 |[],a,m,i,s,ih,gd,_,st,ln,en=>by
  have e1:s+rl (bare a)+kD (zU [])+(zU []).length =s+rl (bare a):=by unfold zU kD;rfl
  rw[e1]at en ⊢;have ra:=ih a (yC ..) s gd st.left ln.left en;refine#[ra,λx m=>(nomatch m),rfl,#[xS L a,rfl,by rw[ra.2.1]],en]
 |c::r,a,m,i,s,ih,gd,gs,st,ln,en=>by
  unfold zU at gs st en ⊢;rw[uW]at gs;rw[zJ,kW]at en ⊢;have s1:=st.right (wS _ _ gd);rw[Iz,zO (by decide)]at s1;have h3:=s1.head;have l2:=ln.right;rw[JN,nx3]at l2;have ra:=ih a (yC ..) s gd st.left ln.left (by rw[BN h3 (by decide)];rfl);have e1:s+rl (bare a)+(rl (bare c)+kD (zU r))+((zU r).length +1)=s+rl (bare a)+1+rl (bare c)+kD (zU r)+(zU r).length:=()
  rw[e1]at en ⊢;obtain⟨rc,al,ch,⟨z,ez,e2⟩,_⟩:=mdA jo r c m (i+1) (s+rl (bare a)+1) (λx z=>ih x (zZ _ z)) gs.1 gs.2 s1.tail l2 en;refine#[ra,λx m=>?_,?_,#[z,?_,e2],en]
  ·rcases List.mem_cons.mp m with rfl|m
   ·exact rc.1
   ·exact al x m
  ·show(xO rs (kR rs (some (xS L a).2) 3 0) (some (xS L c).1)&&Uz rs ((c::r).map (xS L)))=true;rw[ch,ra.2.1,rc.2.1,Hs h3 (by decide),Et (by rw[rc.2.2];rfl) rfl];rfl
  ·rw[yO,yO,FP,<-yO];exact ez
theorem mdP (jo:OB rs): ∀(r:a6 Nd) (a:Nd) (m i s la e en b0:Nat),(∀x∈a::r,MdI rs L x)->Kl (bare a)->BF (zU r)->OA rs s (Dl s (bare a)++Ir (s+rl (bare a)) la false (zU r))->OA rs en ((s::Iq (s+rl (bare a)) false (zU r)).map (λs:Nat=>[4,(s:Int)]))->Ur L (Qv s a++JN 4 m (i+2) (s+rl (bare a)+1) r)->rs[la]? =some (4,(e:Int))->e=s+rl (bare a)+kD (zU r)+(zU r).length->(BO rs (some e)).isSome =true->(∀x∈a::r,CC rs L x=true)/\Gy rs (b0,e) en ((a::r).map (xS L))=true
 |[],a,m,i,s,la,e,en,b0,ih,gd,_,st,sj,ln,hla,he,hs=>by
  have e1:s+rl (bare a)+kD (zU [])+(zU []).length =s+rl (bare a):=by unfold zU kD;rfl
  rw[e1]at he;subst he;have ra:=ih a (yC ..) s gd st.left ln.left hs;have hj:=sj.head;refine#[λx m=>by rw[List.mem_singleton.mp m];exact ra.1,?_];show(xO rs (some en) (some (xS L a).1)&&(xO rs (some (xS L a).2) (some (s+rl (bare a)))&&true))=true;have ej:=IL jo hj;rw[ra.2.1,Et (by rw[ej,ra.2.2];rfl) ej,Et hs rfl];rfl
 |c::r,a,m,i,s,la,e,en,b0,ih,gd,gs,st,sj,ln,hla,he,hs=>by
  unfold zU at gs st he sj;rw[uW]at gs;rw[zJ,kW]at he;have s1:=st.right (wS _ _ gd);rw[Ir,zO (by decide)]at s1;have h4:=s1.head;have l2:=ln.right;rw[JN,zCl]at l2;rw[Iq,zO (by decide),yO]at sj;have em:BO rs (some (s+rl (bare a)))=BO rs (some e):=(IL jo h4).trans (IL jo hla);have ra:=ih a (yC ..) s gd st.left ln.left (by rw[em];exact hs);obtain⟨al,pk⟩:=mdP jo r c m (i+1) (s+rl (bare a)+1) la e (en+1) b0 (λx z=>ih x (zZ _ z)) gs.1 gs.2 s1.tail sj.tail l2 hla () hs;have ej:=IL jo sj.head;refine#[λx m=>?_,?_]
  ·rcases List.mem_cons.mp m with rfl|m
   ·exact ra.1
   ·exact al x m
  ·show(xO rs (some en) (some (xS L a).1)&&(xO rs (some (xS L a).2) (some e)&&Gy rs (b0,e) (en+1) ((c::r).map (xS L))))=true;rw[pk,ra.2.1,Et (by rw[ej,ra.2.2];rfl) ej,Et (by rw[em];exact hs) em];rfl
theorem mdN (jo:OB rs): ∀nd:Nd,MdI rs L nd
 | .mk k p own ps=>by
  have ih: ∀x∈ps,MdI rs L x:=λx m=>mdN jo x;intro b gd st ln en;have st:OA rs b (Dl b (.mk k own (zU ps))):=st;have en:(BO rs (some (b+rl (.mk k own (zU ps))))).isSome =true:=en;have gd:Kl (.mk k own (zU ps)):=gd;have ls:Ur L (JN k (ps.length-1) 0 (b+if k=5 then 1 else 0) ps):=λx m=>ln x (by rw[Qv];exact zZ _ m);unfold Kl at gd;obtain⟨g3,g4,g5,gp⟩:=gd;have er:rl (.mk k own (zU ps))=if k=3 then kD (zU ps)+((zU ps).length -1)else if k=4 then kD (zU ps)+2*((zU ps).length -1)+1 else if k=5 then kD (zU ps)+5 else kD (zU ps)+1:=by rw[rl]
  rw[Dl]at st
  by_cases c3:k=3
  ·subst c3;rw[zP rfl]at st er;rw[zO (by decide)]at ls
   match ps,g3 rfl with
   |a::r,_=>
   unfold zU at st gp er;rw[Iz,zP rfl]at st;rw[JN,nx3]at ls;rw[uW]at gp;rw[zJ,kW]at er;obtain⟨ra,al,ch,hz,hs⟩:=mdA jo r a _ 0 b ih gp.1 gp.2 st ls (by rw[show b+rl (bare a)+kD (zU r)+(zU r).length =b+rl (.mk 3 own (zU (a::r)))by rw[wY,er];lia];exact en);refine NM ln ra.2.2 ?_ ?_
   ·exact Hd λx m=>by
     rcases List.mem_cons.mp m with rfl|m
     ·exact ra.1
     ·exact al x m
   ·unfold Qu;rw[zP rfl];unfold WR;obtain⟨z,ez,e2⟩:=hz;rw[ch,ez,yO,List.head?_cons,ra.2.1];show(xO rs (some b) (some b)&&xO rs (some z.2) (some _))=true;rw[Et (by rw[ra.2.2];rfl) rfl,e2,wY,er,show b+(rl (bare a)+kD (zU r)+((zU r).length +1-1))=b+rl (bare a)+kD (zU r)+(zU r).length by lia,Et hs rfl];rfl
  rw[zO c3]at st er
  by_cases c4:k=4
  ·subst c4;rw[zP rfl]at st er;rw[zO (by decide)]at ls
   match ps,g4 rfl with
   |a::c::r,_=>
   unfold zU at st gp er;rw[XW]at st;rw[JN,zGn]at ls;rw[uW]at gp;rw[zJ,kW]at er;have hb:(zU (c::r)).length =(c::r).length:=qI _;rw[hb]at st er;have s1:=st.right (wS _ _ gp.1);have h11:=s1.head;have ra:=ih a (yC ..) b gp.1 st.left ls.left (by rw[BN h11 (by decide)];rfl);have s2:=s1.tail;have s3:=s2.right (n:=(c::r).length) (by rw[zM,HF,hb]);have s4:=s3.tail;have hj:=s3.head;have n8:(a::c::r).length -1=(c::r).length:=rfl;rw[n8]at ls;unfold zU at s2 s4;rw[Iq,zP rfl]at s2;rw[Ir,zP rfl]at s4;have l2:=ls.right;rw[JN,zCl]at l2;have gp2:=gp.2;unfold zU at gp2;rw[uW]at gp2;have eb:kD (zU (c::r))=rl (bare c)+kD (zU r):=by rw[wY,kW]
   have hl:(zU r).length =r.length:=qI _;have lc:(c::r).length =r.length+1:=rfl;rw[eb,lc]at er;rw[lc]at s2 s4 hj h11 l2 st;rw[eb]at hj;have es:b+rl (bare a)+(r.length+1)+2=b+rl (bare a)+(r.length+1+2):=()
   rw[show b+rl (bare a)+1+(r.length+1)+1=b+rl (bare a)+(r.length+1+2)by lia,es,show b+rl (bare a)+(r.length+1)+1=b+rl (bare a)+1+(r.length+1)by lia]at s4;rw[es]at s2;have ee:b+rl (bare a)+(r.length+1)+2+(rl (bare c)+kD (zU r))+(r.length+1-1)=b+rl (.mk 4 own (zU (a::c::r))):=by rw[wY,er];lia
   rw[ee]at hj;obtain⟨al,pk⟩:=mdP jo r c _ 0 _ _ _ (b+rl (bare a)+1) b (λx z=>ih x (zZ _ z)) gp2.1 gp2.2 s4 s2.left l2 hj (by rw[wY,er];lia) en;refine NM ln ra.2.2 ?_ ?_
   ·exact Hd λx m=>by
     rcases List.mem_cons.mp m with rfl|m
     ·exact ra.1
     ·exact al x m
   ·unfold Qu;rw[zO (by decide),zP rfl,yO];dsimp only;unfold Uy;rw[ra.2.1,zM,lc,Hs h11 (by decide)];dsimp only;rw[Et (by rw[ra.2.2];rfl) rfl,pk];rfl
  rw[zO c4]at st er
  by_cases c5:k=5
  ·subst c5;rw[zP rfl]at st er;rw[zP rfl]at ls;have g5:=g5 rfl;rw[qI]at g5
   match ps,g5 with
   |[x,y],_=>
   unfold zU at st gp er;unfold zU at st gp er;unfold zU at st gp er;rw[Xa]at st;rw[JN,nx5,JN]at ls;rw[uW,uW]at gp;rw[kW,kW]at er;have e0:kD []=0:=by unfold kD;rfl
   rw[kW,e0]at st;rw[e0]at er;rw[Kt,Kt,xJ]at st;have h9:=st.head;have s1:=st.tail;have s2:=s1.right (wS _ _ gp.1);have h5:=s2.head;have s3:=s2.tail;rw[show b+1+rl (bare x)+1=b+rl (bare x)+2 by lia]at s3 ls;have s4:=s3.right (wS _ _ gp.2.1);have h3:=s4.head;have h4:=s4.tail.head;have h0:=s4.tail.tail.head;have rx:=ih x (by simp) (b+1) gp.1 s1.left ls.left (by rw[BN h5 (by decide)];rfl);have ry:=ih y (by simp) _ gp.2.1 s3.left ls.right.left (by rw[BN h3 (by decide)];rfl);refine NM ln (BN h9 (by decide)) ?_ ?_
   ·exact Hd λz m=>by
     rcases List.mem_cons.mp m with rfl|m
     ·exact rx.1
     ·rw[List.mem_singleton.mp m];exact ry.1
   ·unfold Qu;rw[zO (by decide),zO (by decide),zP rfl];show VY rs _ (xS L x) (xS L y)=true;have lf:Bn rs (some (b+1+rl (bare x)))=some (b+rl (bare x)+(rl (bare y)+0)+4):=by
     unfold Bn;rw[BN h5 (by decide)];show(match rs[b+1+rl (bare x)]? with|some (5,n)=>some n.toNat|_=>none)=_;rw[h5];rfl
    unfold VY;rw[rx.2.1,ry.2.1];dsimp only;rw[lf,Hs h9 (by decide),Hs h3 (by decide)];have eo:b+rl (bare x)+(rl (bare y)+0)+4=b+rl (bare x)+2+rl (bare y)+1+1:=()
    show(xO rs (some (b+1)) (some (b+1))&&(xO rs (kR rs (some (b+1+rl (bare x))) 5 ((b+rl (bare x)+(rl (bare y)+0)+4:Nat):Int)) (some (b+rl (bare x)+2))&&(xO rs (some (b+rl (bare x)+2+rl (bare y)+1)) (some b)&&xO rs (kR rs (some (b+rl (bare x)+(rl (bare y)+0)+4)) 0 0) (some (b+rl (.mk 5 own _))))))=true;rw[Hs h5 (by decide),eo,Hs h0 (by decide)];rw[Et (by rw[rx.2.2];rfl) rfl,show b+1+rl (bare x)+1=b+rl (bare x)+2 by lia,Et (by rw[ry.2.2];rfl) rfl];have ej:=IL jo h4;rw[Et (by rw[ej,BN h9 (by decide)];rfl) ej];unfold zU;unfold zU;unfold zU;have en':=en;unfold zU at en';unfold zU at en';unfold zU at en';rw[er]at en' ⊢;rw[show b+(rl (bare x)+(rl (bare y)+0)+5)=b+rl (bare x)+2+rl (bare y)+1+1+1 by lia]at en' ⊢;rw[Et en' rfl];rfl
  rw[zO c5]at st er ls;obtain⟨op,n,eo,h4⟩:=XD k own c4;have ho:=(st.right (HJ _ _ gp));rw[eo]at ho;have ho:=ho.head;obtain⟨al,ow,hs⟩:=mdS jo c3 c4 c5 ps (ps.length-1) 0 b ih gp st.left ls (by rw[BN ho h4];rfl);have hb:BO rs (some b)=some b:=by
   cases ps with
   |nil=>
    have:kD (zU [])=0:=by unfold zU kD;rfl
    rw[this]at ho;exact BN ho h4
   |cons a r=>exact hs (by simp)
  refine NM ln hb (Hd al) ?_;unfold Qu;rw[zO c3,zO c4,zO c5];unfold IS;dsimp only;rw[ow,eo];dsimp only[List.headD,List.getD];have eb:kR rs (some (b+kD (zU ps))) op n=some (b+kD (zU ps)+1):=Hs ho h4;show(if k=7 then(kR rs (some (b+kD (zU ps))) op n).isSome else xO rs (kR rs (some (b+kD (zU ps))) op n) (some (b+rl (.mk k own (zU ps)))))=true;rw[eb];split
  ·rfl
  ·rw[er]at en ⊢;exact Et en rfl
termination_by nd=>FT nd
decreasing_by (have:=VP m;rw[VQ];lia)
end
theorem WP: ∀{ps:a6 Nd} {fi:i7} {a:Nat},Jh rs L false fi a ps=if(wX rs L ps).all id=true then AJ rs a (ps.map (xS L))else none
 |[],fi,a=>by rw[wX];cases fi<;>rfl
 |p::r,fi,a=>by
  have ih:=WP (rs:=rs) (L:=L) (ps:=r) (fi:=false) (a:=(xS L p).2);rw[wX,qV,yO];have e:Jh rs L false fi a (p::r)=if Jn rs L p a=true then Jh rs L false false (xS L p).2 r else none:=by
   rw[Jh,zO (λz=>by cases z.2)]<;>rfl
  rw[e,ih];unfold Jn;rw[AW];dsimp only[id,AJ];cases CC rs L p<;>cases xO rs (some a) (some (xS L p).1)<;>cases(wX rs L r).all id<;>rfl
noncomputable def Yi (rs:vS)(e:Nat)(o:i4 Nat):i7:=match o with
 |some a=>xO rs (some a) (some e)
 |none=>false
theorem SY: ∀{r:a6 Nd} {p:Nd},Yi rs e (Jh rs L true false (xS L p).2 r)=((wX rs L r).all id&&(Uz rs ((p::r).map (xS L))&&match((p::r).map (xS L)).getLast? with|some z=>xO rs (some z.2) (some e)|none=>false))
 |[],p=>by rw[wX];rfl
 |c::r,p=>by
  have ih:=SY (rs:=rs) (L:=L) (e:=e) (r:=r) (p:=c);rw[wX,qV];have e1:Jh rs L true false (xS L p).2 (c::r)=match kR rs (some (xS L p).2) 3 0 with|none=>none|some x=>if Jn rs L c x=true then Jh rs L true false (xS L c).2 r else none:=by
   rw[Jh,zP #[rfl,rfl]]<;>rfl
  have e2:Uz rs ((p::c::r).map (xS L))=(xO rs (kR rs (some (xS L p).2) 3 0) (some (xS L c).1)&&Uz rs ((c::r).map (xS L))):=rfl;have e3:((p::c::r).map (xS L)).getLast? =((c::r).map (xS L)).getLast?:=by rw[yO,yO,FP,<-yO]
  rw[e1,e2,e3];cases kR rs (some (xS L p).2) 3 0 with
  |none=>rw[FC,kO,kO,jW];rfl
  |some x=>
   dsimp only;unfold Jn;rw[AW];cases CC rs L c with
   |false=>rfl
   |true=>
    cases xO rs (some x) (some (xS L c).1)with
    |false=>rw[kO,kO];cases(wX rs L r).all id<;>rfl
    |true=>
     show Yi rs e (Jh rs L true false (xS L c).2 r)=_;rw[ih];rfl
theorem zAn:Yi rs e (Jh rs L true true b (p::r))=((wX rs L (p::r)).all id&&WR rs (b,e) ((p::r).map (xS L))):=by
 have e1:Jh rs L true true b (p::r)=if Jn rs L p b=true then Jh rs L true false (xS L p).2 r else none:=by
  rw[Jh,zO (λz=>by cases z.1)]<;>rfl
 have h:=SY (rs:=rs) (L:=L) (e:=e) (r:=r) (p:=p);rw[e1,wX,qV];unfold Jn WR;have e2:((p::r).map (xS L)).head? =some (xS L p):=rfl;rw[e2];cases el:((p::r).map (xS L)).getLast? with
 |none=>rw[yO]at el;cases r<;>simp at el
 |some z=>
  rw[el]at h;dsimp only[id]at h ⊢;cases CC rs L p with
  |false=>rfl
  |true=>
   cases xO rs (some (xS L p).1) (some b)with
   |false=>show false=_;simp
   |true=>
    show Yi rs e (Jh rs L true false (xS L p).2 r)=_;rw[h,yY,yY]
theorem OU (hl:L (p:Int)=some be)(hv:Ss rs be (kP (.mk k own (zU ps)))=false)(h4:k≠4):CC rs L (.mk k p own ps)=((wX rs L ps).all id&&Qu rs be k own (ps.map (xS L))):=by
 rw[CC,hl];dsimp only;rw[hv,zO (by decide),zO (λz=>h4 z.1)];cases(wX rs L ps).all id<;>rfl
theorem UY (hl:L (p:Int)=some be)(hv:Ss rs be (kP (.mk 4 own (zU (n0::ps))))=false):CC rs L (.mk 4 p own (n0::ps))=(RL rs be ((wX rs L (n0::ps)).zip ((n0::ps).map (xS L))) (Xb (n0::ps)) || ((wX rs L (n0::ps)).all id&&Uy rs be (xS L n0) (ps.map (xS L)))):=by
 rw[CC,hl];dsimp only;rw[hv,zO (by decide)];have e:Qu rs be 4 own ((n0::ps).map (xS L))=Uy rs be (xS L n0) (ps.map (xS L)):=rfl;rw[e];cases RL rs be ((wX rs L (n0::ps)).zip ((n0::ps).map (xS L))) (Xb (n0::ps))<;>cases(wX rs L (n0::ps)).all id<;>simp
theorem JR: ∀{ps:a6 Nd} {x:Nd},x∈ps->bare x∈zU ps
 |a::r,x,m=>by
  rw[wY]
  rcases List.mem_cons.mp m with rfl|m
  ·exact yC ..
  ·exact zZ _ (JR m)
theorem Jf: ∀{ps:a6 Tr} {t:Tr},wI hs bx d ps->t∈ps->vU hs bx d t
 |a::r,t,h,m=>by
  unfold wI at h
  rcases List.mem_cons.mp m with rfl|m
  ·exact h.1
  ·exact Jf h.2 m
theorem Rb (d:Nat)(T:GB K mg)(F:qZ K "_law_right" "_law_right" DX f fd)(Cn:kB P w K mg base (1+d+1) "_law_worth" ["_law_node_here"] (BH (d+1)))(Cb:kB P w K mg base 1 "_law_goal" ["_law_rows_here","_law_at"] AG)(Cv:kB P w K mg base 3 "_law_does" ["_law_rows_here","_law_at","_law_row","_law_behind"] GL)(Ch:kB P w K mg base 2 "_law_meet" ["_law_rows_here","_law_one","_law_other"] Do)(Cc1:kB P w K mg base (4+3*d+2) "_law_picked" ["_law_look","_law_many","_law_parts_here","_law_begin","_law_end"] (Jt d))(Cc6:kB P w K mg base (4+3*d+2) "_law_looped" ["_law_look","_law_parts_here","_law_begin","_law_end"] (Jw d))(Co:kB P w K mg base (4+3*d+1) "_law_parts" ["_law_look","_law_parts_here","_law_begin","_law_drops"] (Fu d)):vX P w K mg base (4+3*d+3) f fd ["_law_look","_law_node_here"] (Dn (d+1)):=by
 exists kQ;obtain⟨lk,r,dd,rs,L,v,⟨k,p,own,ps⟩,rfl,lo,ro,na,nk,q⟩:=h;exists _,(zB (qH (pv 0) (kZ rfl (yE (yA 2 kQ.nd) (yE (yA 3 kQ.nd) jJ))))
   (zB (qH (pv 1) (kZ rfl (yE (yA 4 kQ.nd) (yE (yA 5 kQ.nd) (yE (yA 6 kQ.nd) (yE (yA 7 kQ.nd) jJ))))))
   (zB (xC (NR (MB (Bc hr) (pv 5) (pv 3))) (zI (zV kX)) yD)
   (zB (qH (AV (Bc hr) (pv 3) (pv 5) (λ_ _=>rfl)) (kZ rfl (yE (yA 8 kQ.nd) (yE (yA 9 kQ.nd) jJ))))
   (zB (yP 10 kQ.nd (zK Cn hr rfl (zA (pv 1) zC) zX))
   (zB (AI (xC (PW.pt (Ep (zT HG (pv 10) qL (zY _)) (DZ (kT (zK Cv hr rfl (zA (pv 2) (zA (pv 8) (zA (xM (zA zH (zA (pv 10) zC))) (zA (pv 9) zC)))) zX))))) (zI (zV kX)) yD))
   (zB (xC (zT jD (pv 4) zH (zY _)) (zI (zV kX)) yD)
   (zB (xC (zT jD (pv 4) zH (zY _)) (zI (zV (zK Cc1 hr rfl (zA (pv 0) (zA (yZ xL (pv 6) zH (λ_ _=>rfl)) (zA (pv 7) (zA (pv 8) (zA (pv 9) zC))))) zX))) yD)
   (zB (xC (zT jD (pv 4) zH (zY _)) (zI (zV (zK Cc6 hr rfl (zA (pv 0) (zA (pv 7) (zA (pv 8) (zA (pv 9) zC)))) zX))) yD)
   (zB (yP 11 kQ.nd (zK Co hr rfl (zA (pv 0) (zA (pv 7) (zA (pv 8) (zA (uC jD (pv 4) zH (zY _)) zC)))) zX))
   (zB (xC (zT wR (pv 11) zH (zY _)) (zI (zV kX)) yD)
   (zB (xC (zT jD (pv 4) zH (zY _)) (zI (zV (zK Ch hr rfl (zA (pv 2) (zA (pv 11) (zA (pv 9) zC))) zX))) yD)
   (zB (xC (zT jD (pv 4) zH (zY _)) (zI (zV (Af (uC Fz (zK Cb hr rfl (zA (pv 2) (zA (pv 11) zC)) zX) zH (zY _)) (BP (uC (SB hr) (yZ xQ (pv 2) (zK Cb hr rfl (zA (pv 2) (zA (pv 11) zC)) zX) (λ_ _=>rfl)) (xM (wE (.int (.int .nil)))) (zY _)))))) yD)
   (zB (yP 12 kQ.nd (xM (zA zH (zA (pv 4) zC))))
   (zB (AI (xC (zT Fy (pv 4) (xM (wE (.int (.int (.int .nil))))) rfl) (zI (yP 12 kQ.nd (xM (zA (pv 4) (zA (yZ xL (pv 6) zH (λ_ _=>rfl)) zC))))) yD))
   (zI (zV (zK Cv hr rfl (zA (pv 2) (zA (pv 11) (zA (pv 12) (zA (pv 9) zC)))) zX))))))))))))))))))
 have tr:=HH na;obtain⟨tn,o,pq,us,rfl,e1,e2,e3,pr⟩:=na;obtain⟨⟨hs,bx,ft⟩,sm⟩:=nk;have ft0:vU hs bx (d+1) (.mk k own (zU ps)):=ft;unfold vU at ft0;obtain⟨k0,k19,ow,lps,_,fts⟩:=ft0;rw[qI]at lps;have sm0:Mj (d+1) (.mk k own (zU ps)):=sm;have nks: ∀x∈ps,Uq d x:=λx m=>by
  have mb:bare x∈zU ps:=JR m;exact#[#[hs,bx,Jf fts mb],sm0.2.2.1 _ mb]
 refine#[-1,lk,-1,.of lo.1,rfl,_,-1,_,-1,rfl,?_];refine#[-1,tn,-1,.of e1,rfl,_,-1,_,-1,_,-1,_,-1,rfl,?_];obtain⟨od,dgd,eod⟩:=lo.has (p:Int);refine#[-2,dd,od,rfl,dgd,-1,?_];cases hl:L (p:Int)with
 |none=>
  rw[hl]at eod;rw[show od.isSome=false from eod];have:CC rs L (.mk k p own ps)=false:=by rw[CC,hl]
  rw[this]at q;exact jC (q H (xK.refl H))
 |some be=>
 obtain⟨b,e⟩:=be;rw[hl]at eod;rw[show od.isSome=true from eod];obtain⟨tl,dg,etl⟩:=lo.line hl;refine xX #[-2,dd,-1,dg,tl,-1,.of etl,rfl,_,-1,_,-1,rfl,?_];refine#[-1,_,-1,tr,sm,λH1 g1=>?_];have ebare:bare (.mk k p own ps)=.mk k own (zU ps):=rfl;rw[ebare];generalize hv:kP (.mk k own (zU ps))=ov;have lo1:=lo.same g1;refine#[λU' H'=>xK H H'/\U'=[some (.ref lk),some (.ref tn),some (.ref r),some (.ref dd),some (.int k),some (.int (p:Int)),some (.ref o),some (.ref pq),some (.int (b:Int)),some (.int (e:Int)),some (oZ ov),none,none]/\Ss rs (b,e) ov=false,?_,?_]
 ·cases ov with
  |none=>exact#[-1,rfl,-1,xX (xX #[g1,rfl,rfl])]
  |some n=>
   have yes:NQ rs (b,e) n=true-> ∀H',xK H H'->Q (.bl true) H':=λz H' s=>by
    have t:CC rs L (.mk k p own ps)=true:=by
     rw[CC,hl];dsimp only;rw[hv,zP (show Ss rs (b,e) (some n)=true from z)]
    have:=q H' s
    rwa [t]at this
   refine#[-1,rfl,-1,jC #[-3,sm2,λt3 ht3=>?_]];have s3:=g1.trans (zN ht3 (.tup [.int 0,oZ (some n)]));refine#[-1,r,rs,_,_,t3,0,n,rfl,(lo.same s3).2.1,ro.jo,ro.rl,zE,-1,?_];rw[kA,kA];have ep:NQ rs (b,e) n=xO rs (kR rs (some b) 0 n) (some e):=rfl;cases m:xO rs (kR rs (some b) 0 n) (some e)with
   |true=>
    rw[m]at ep;exact jC (yes ep _ s3)
   |false=>
    rw[m]at ep;exact xX #[s3,rfl,ep]
 rintro _ H2 ⟨s2,rfl,pvf⟩;have lo2:=lo.same s2;have pvf':Ss rs (b,e) (kP (.mk k own (zU ps)))=false:=by rw[hv];exact pvf
 refine#[-1,rfl,-1,jB (λc=>?_) (λc=>?_)]
 ·have ck:k=0:=by have:=yG c;injection this
  subst ck;rw[OU hl pvf' (by decide)]at q;obtain⟨n,rfl⟩: ∃n,own=[n]:=by
   rcases ow with⟨_,n,rfl⟩|⟨z,_⟩|⟨z,_⟩|⟨z,_⟩|⟨z,_⟩|⟨z,_⟩
   ·exact#[n,rfl]
   all_goals exact absurd z (by decide)
  obtain rfl:ps=[]:=Ab lps;have:((wX rs L []).all id&&Qu rs (b,e) 0 [n] (List.map (xS L) []))=Ss rs (b,e) (kP (.mk 0 [n] (zU []))):=by
   rw[wX,kP,zP rfl];rfl
  rw[this,pvf']at q;exact q H2 s2
 have k0':k≠0:=λz=>by rw[z]at c;exact c (zQ rfl)
 refine#[-1,rfl,-1,jB (λc=>?_) (λc=>?_)]
 ·have ck:k=4:=by have:=yG c;injection this
  subst ck;obtain⟨n,rfl,n2,n12⟩: ∃n,own=[n]/\2<=n/\n<=12:=by
   rcases ow with⟨z,_⟩|⟨z,_⟩|⟨z,_⟩|⟨_,n,rfl,a,b⟩|⟨z,_⟩|⟨z,_⟩
   ·exact absurd z (by decide)
   ·exact absurd z (by decide)
   ·exact absurd z (by decide)
   ·exact#[n,rfl,a,b]
   ·exact absurd z (by decide)
   ·exact absurd z (by decide)
  have lps:ps.length=(1+n).toNat:=lps;obtain⟨n0,ps,rfl⟩: ∃n0 ps',ps=n0::ps':=by
   cases ps with
   |nil=>exact absurd lps (by show ¬0=_;lia)
   |cons a r=>exact#[a,r,rfl]
  obtain⟨v0,us,rfl⟩: ∃v0 us',us=v0::us':=by
   cases pr with
   |cons _ _=>exact#[_,-1]
  rw[zJ]at lps;have en:n=(ps.length:Int):=()
  rw[UY hl pvf']at q;subst en;exact#[-2,o,_,_,-1,rfl,.of (s2 _ _ e2),rfl,-3,lk,r,dd,pq,rs,L,v0,us,n0,ps,b,e,rfl,lo2,ro,s2 _ _ e3,Paired.imp (λ_ _ z=>z.tups (qE.same s2)) pr,nks,(),λH' s'=>q H' (s2.trans s')]
 have k4:k≠4:=λz=>by rw[z]at c;exact c (zQ rfl)
 rw[OU hl pvf' k4]at q;refine#[-1,rfl,-1,jB (λc=>?_) (λc=>?_)]
 ·have ck:k=5:=by have:=yG c;injection this
  subst ck;have lps:ps.length=2:=lps;obtain⟨n1,n2,rfl⟩: ∃n1 n2,ps=[n1,n2]:=by
   match ps,lps with
   |[a,b],_=>exact#[a,b,rfl]
  obtain⟨v1,v2,rfl,na1,na2⟩: ∃v1 v2,us=[v1,v2]/\jK H d v1 n1/\jK H d v2 n2:=by
   cases pr with
   |cons a pr=>
   cases pr with
   |cons b pr=>
   cases pr;exact#[_,-1,a,b]
  have:((wX rs L [n1,n2]).all id&&Qu rs (b,e) 5 own ([n1,n2].map (xS L)))=(CC rs L n1&&(CC rs L n2&&VY rs (b,e) (xS L n1) (xS L n2))):=by
   rw[wX,wX,wX];show((CC rs L n1&&(CC rs L n2&&true))&&VY rs (b,e) (xS L n1) (xS L n2))=_;rw[uP,Bool.and_assoc]
  rw[this]at q;exact#[-4,lk,r,dd,pq,rs,L,v1,v2,n1,n2,b,e,rfl,lo2,ro,s2 _ _ e3,na1.tups (qE.same s2),nks n1 (by simp),na2.tups (qE.same s2),nks n2 (by simp),λH' s'=>q H' (s2.trans s')]
 have k5:k≠5:=λz=>by rw[z]at c;exact c (zQ rfl)
 refine#[-4,rfl,lk,r,dd,pq,rs,L,us,ps,b,decide (V.int k=V.int 3),rfl,lo2,ro,.inr (s2 _ _ e3),Paired.imp (λ_ _ z=>z.tups (qE.same s2)) pr,nks,λH3 g3=>?_];have s3:=s2.trans g3;have lo3:=lo.same s3;refine#[-1,_,-1,rfl,-1,?_]
 by_cases c3:k=3
 ·subst c3;rw[show decide (V.int (3:Int)=V.int 3)=true from zQ rfl];obtain⟨n,rfl,n1,n12⟩: ∃n,own=[n]/\1<=n/\n<=12:=by
   rcases ow with⟨z,_⟩|⟨z,_⟩|⟨_,n,rfl,a,b⟩|⟨z,_⟩|⟨z,_⟩|⟨z,_⟩
   ·exact absurd z (by decide)
   ·exact absurd z (by decide)
   ·exact#[n,rfl,a,b]
   ·exact absurd z (by decide)
   ·exact absurd z (by decide)
   ·exact absurd z (by decide)
  have lps:ps.length=n.toNat:=lps;obtain⟨n0,ps,rfl⟩: ∃n0 ps',ps=n0::ps':=by
   cases ps with
   |nil=>exact absurd lps (by show ¬0=_;lia)
   |cons a r=>exact#[a,r,rfl]
  have er:Qu rs (b,e) 3 [n] ((n0::ps).map (xS L))=WR rs (b,e) ((n0::ps).map (xS L)):=rfl;rw[er,<-zAn]at q;cases eb:Jh rs L true true b (n0::ps)with
  |none=>
   rw[eb]at q;exact jC (q H3 s3)
  |some a=>
   rw[eb]at q;rw[show decide (oM (some a)<0)=false from zR (by show ¬((a:Nat):Int)<0;lia)];refine xX #[-1,rfl,-1,?_];rw[show decide (V.int (3:Int)=V.int 3)=true from zQ rfl];refine jC #[-3,r,rs,((a:Nat):Int),-1,lo3.2.1,ro.jo,ro.rl,?_];rw[kA,kA];exact q H3 s3
 rw[show decide (V.int k=V.int 3)=false from zR λz=>c3 (by injection z)];have er:Qu rs (b,e) k own (ps.map (xS L))=IS rs (b,e) (ps.map (xS L)) k (Er k own):=by
  unfold Qu;rw[zO c3,zO k4,zO k5]
 rw[er]at q;have eb:=WP (rs:=rs) (L:=L) (ps:=ps) (fi:=true) (a:=b);cases ea:Jh rs L false true b ps with
 |none=>
  rw[ea]at eb;have:((wX rs L ps).all id&&IS rs (b,e) (ps.map (xS L)) k (Er k own))=false:=by
   cases al:(wX rs L ps).all id with
   |false=>rfl
   |true=>
    rw[al,zP rfl]at eb;unfold IS;dsimp only;rw[<-eb];show(if k=7 then false else false)=false;split<;>rfl
  rw[this]at q;exact jC (q H3 s3)
 |some a=>
 rw[ea]at eb;cases al:(wX rs L ps).all id with
 |false=>rw[al]at eb;cases eb
 |true=>
 rw[al,zP rfl]at eb;rw[al,yY]at q;unfold IS at q;dsimp only at q;rw[<-eb]at q;rw[show decide (oM (some a)<0)=false from zR (by show ¬((a:Nat):Int)<0;lia)];refine xX #[-1,rfl,-1,?_];rw[show decide (V.int k=V.int 3)=false from zR λz=>c3 (by injection z)];refine xX #[-1,rfl,-1,jB (λc=>?_) (λc=>?_)]
 ·have ck:k=7:=by have:=yG c;injection this
  subst ck;rw[zP rfl]at q;refine#[-2,r,rs,((a:Nat):Int),rfl,lo3.2.1,ro.jo,ro.rl,_,-1,rfl,-1,?_];have eg:=Ew rs (a:Int);rw[kA]at eg;cases er:BO rs (some a)with
  |none=>
   rw[er]at eg;rw[eg];rw[show Er 7 own=[8,0]from rfl]at q;dsimp only[List.headD,List.getD]at q;have q: ∀H',xK H H'->Q (.bl (kR rs (some a) 8 0).isSome) H':=q;rw[NK er]at q;exact xX (q H3 s3)
  |some l=>
  rw[er]at eg;have eg:Xc rs (a:Int)=(l:Int):=eg;rw[eg,show decide ((0:Int)<=(l:Int))=true from zQ (vO l)];obtain⟨rv,t6,op,n,erv,ea6,et6,ep⟩:=Mz lo3.2.1 (Fg er);refine jC #[-3,r,rs,((a:Nat):Int),rfl,lo3.2.1,ro.jo,ro.rl,?_];rw[eg];refine#[r,_,_,-1,rfl,.of erv,ea6,sm2,λt7 ht7=>#[t6,t7,_,_,_,-1,rfl,.of (zN ht7 _ _ _ et6),.of zE,rfl,?_]];have q: ∀H',xK H H'->Q (.bl (kR rs (some a) 8 0).isSome) H':=q;rw[LM er ep]at q;have q:=q _ (s3.trans (zN ht7 (.tup [.int 8,.int 0])));cases c8:(op==8&&Fs (.int n) (.int 0))<;>rw[c8]at q<;>exact q
 have k7:k≠7:=λz=>by rw[z]at c;exact c (zQ rfl)
 refine#[-1,sm2,λt4 ht4=>?_];have s4:=s3.trans (zN ht4 (.tup [.int 10,.int k]));have et4:upd H3 t4 (.tup [.int 10,.int k]) t4=some (.tup [.int 10,.int k]):=zE;generalize upd H3 t4 (.tup [.int 10,.int k])=H4 at *
 refine#[λU' H'=>xK H H'/\ ∃(tr:i3) (g0 g1:Int),U'=[some (.ref lk),some (.ref tn),some (.ref r),some (.ref dd),some (.int k),some (.int (p:Int)),some (.ref o),some (.ref pq),some (.int (b:Int)),some (.int (e:Int)),some (oZ ov),some (.int (a:Int)),some (.ref tr)]/\H' tr=some (.tup [.int g0,.int g1])/\Er k own=[g0,g1],?_,?_]
 ·refine#[-1,sm3,λt5 ht5=>#[t5,-1,.inr (.of zE),rfl,rfl,-1,?_]];have s5:=s4.trans (zN ht5 (.tup [.int 1,.int 2,.int 6]));have et4:=zN ht5 (.tup [.int 1,.int 2,.int 6]) _ _ et4;generalize upd H4 t5 (.tup [.int 1,.int 2,.int 6])=H5 at *
  have ei:(if false=true then !YN (.int k) ([1,2,6].map V.int)else YN (.int k) ([1,2,6].map V.int))=decide (k∈[(1:Int),2,6]):=Jc k [1,2,6];refine jB (λc=>?_) (λc=>?_)
  ·have hk:k=1\/k=2\/k=6:=by have:=yG (ei.symm.trans c);simpa using this
   obtain⟨n,rfl⟩: ∃n,own=[n]:=by
    rcases ow with⟨z,_⟩|⟨_,n,rfl,_⟩|⟨z,_⟩|⟨z,_⟩|⟨_,n,rfl,_⟩|⟨z,_⟩
    ·exact absurd z k0'
    ·exact#[n,rfl]
    ·exact absurd z c3
    ·exact absurd z k4
    ·exact#[n,rfl]
    ·lia
   refine#[-2,o,_,_,-1,rfl,.of (s5 _ _ e2),rfl,sm2,λt6 ht6=>#[s5.trans (zN ht6 _),t6,k,n,rfl,zE,?_]]
   rcases hk with rfl|rfl|rfl<;>rfl
  ·have hk: ¬(k=1\/k=2\/k=6):=λz=>c (ei.trans (zQ (by simpa using z)));refine#[s5,t4,10,k,rfl,et4,?_];unfold Er;rw[zO (),zO (by clear c3;lia),zO k7]
 rintro _ H5 ⟨s5,tr5,g0,g1,rfl,etr,eo⟩;rw[zO k7,eo]at q;dsimp only[List.headD,List.getD]at q;have q: ∀H',xK H H'->Q (.bl (xO rs (kR rs (some a) g0 g1) (some e))) H':=q;refine#[-4,r,rs,((a:Nat):Int),_,tr5,g0,g1,rfl,(lo.same s5).2.1,ro.jo,ro.rl,etr,?_];rw[kA,kA];exact q H5 s5
structure Cd (cs:List Int)(hs:FV)(rs:vS):Prop where
 co:ED cs
 hd:GA 3 (headNums cs)=hs.map λh=>[h.1,h.2.1,h.2.2]
 rw_:GA 2 (rowNums cs)=Jo rs
 ro:RsO rs
 r0:0<rs.length
 h1:hs.length<=16
 h0: ∀h∈hs,0<=h.1
 c0:cs[0]? =some (hs.length:Int)
 cl:cs.length=1+3*hs.length+2*rs.length
 ca: ∀(i:Nat) (h:Int×Int×Int),hs[i]? =some h->cs[1+3*i]? =some h.1/\cs[2+3*i]? =some h.2.1/\cs[3+3*i]? =some h.2.2
 ra: ∀(i:Nat) (x:Int×Int),rs[i]? =some x->cs[1+3*hs.length+2*i]? =some x.1/\cs[1+3*hs.length+2*i+1]? =some x.2
theorem MQ {l:a6 Int}{i:Nat}(h:i<l.length):l[i]? =some (l.getD i 0):=by rw[yV,zF h];rfl
theorem PZ {l:a6 Int}{i:Nat}(h:i<l.length):l.getD i 0=l[i]:=by rw[yV,zF h];rfl
theorem zGy {l:a6 Int}{j:Nat}(h:j+3<=l.length):(l.drop j).take 3=[l.getD j 0,l.getD (j+1) 0,l.getD (j+2) 0]:=by
 rw[yR (),yR (),yR (),PZ (),PZ (),PZ ()];rfl
theorem zGz {l:a6 Int}{j:Nat}(h:j+2<=l.length):(l.drop j).take 2=[l.getD j 0,l.getD (j+1) 0]:=by
 rw[yR (),yR (),PZ (),PZ ()];rfl
theorem LH {cs:a6 Int}(ok:ED cs)(hl:cs.length<=1000): ∃hs rs,Cd cs hs rs:=by
 obtain⟨n,ms,e,n1,n16,ln,l2⟩:=ok.big;obtain⟨m,rfl⟩: ∃m:Nat,n=(m:Int):=#[n.toNat,()];have ec:cs.headD 0=(m:Int):=by rw[e];rfl
 have lc:cs.length=ms.length+1:=by rw[e];rfl
 have c0:cs[0]? =some (m:Int):=by rw[e];rfl
 rw[xV]at l2;have n8:(headNums cs).length =3*m:=by
  unfold headNums;rw[ec,xV,yW,jI];(clear l2;lia)
 have hget: ∀i,i<3*m->(headNums cs).getD i 0=cs.getD (1+i) 0:=λi hi=>by
  unfold headNums;rw[ec,xV,yV,Fq hi,List.getElem?_drop,yV]
 have rlen:(rowNums cs).length =ms.length-3*m:=by
  unfold rowNums;rw[ec,xV,jI];(clear l2;lia)
 have rget: ∀i,(rowNums cs).getD i 0=cs.getD (1+3*m+i) 0:=λi=>by
  unfold rowNums;rw[ec,xV,yV,List.getElem?_drop,yV]
 have N:(ms.length-3*m+1) / 2=(ms.length-3*m) / 2:=()
 have gh:GA 3 (headNums cs)=((List.range m).map λi=>(cs.getD (1+3*i) 0,cs.getD (2+3*i) 0,cs.getD (3+3*i) 0)).map λh:Int×Int×Int=>[h.1,h.2.1,h.2.2]:=by
  unfold GA;rw[n8,show(3*m+(3-1)) / 3=m by lia,Ai];refine wF λi hi=>?_;have hi:=List.mem_range.mp hi;rw[zGy (),hget _ (),hget _ (),hget _ ()];show _=[cs.getD (1+3*i) 0,cs.getD (2+3*i) 0,cs.getD (3+3*i) 0];rw[show 1+i*3=1+3*i by lia,show 1+(i*3+1)=2+3*i by lia,show 1+(i*3+2)=3+3*i by lia]
 have gr:GA 2 (rowNums cs)=Jo ((List.range ((ms.length-3*m) / 2)).map λi=>(cs.getD (1+3*m+2*i) 0,cs.getD (1+3*m+2*i+1) 0)):=by
  unfold GA Jo;rw[rlen,show(ms.length-3*m+(2-1)) / 2=(ms.length-3*m) / 2 from N,Ai];refine wF λi hi=>?_;have hi:=List.mem_range.mp hi;rw[zGz (),rget,rget];show _=[cs.getD (1+3*m+2*i) 0,cs.getD (1+3*m+2*i+1) 0];rw[show 1+3*m+i*2=1+3*m+2*i by lia,show 1+3*m+(i*2+1)=1+3*m+2*i+1 by lia]
 have rows:=ok.rows;rw[gr,rlen,ec,xV]at rows;have heads:=ok.heads;rw[gh,rlen]at heads;generalize erl:(List.range ((ms.length-3*m) / 2)).map (λi=>(cs.getD (1+3*m+2*i) 0,cs.getD (1+3*m+2*i+1) 0))=rs at *
 generalize ehl:(List.range m).map (λi=>(cs.getD (1+3*i) 0,cs.getD (2+3*i) 0,cs.getD (3+3*i) 0))=hs at *
 have lrs:rs.length=(ms.length-3*m) / 2:=by rw[<-erl,zM,wW]
 have lhs:hs.length=m:=by rw[<-ehl,zM,wW]
 have rok: ∀(i:Nat) (op n:Int),rs[i]? =some (op,n)->AL op n m ((ms.length-3*m) / 2:Nat):=λi op n e=>by
  obtain⟨a,b,z,h⟩:=rows [op,n] (List.mem_map.mpr #[(op,n),xP e,rfl]);injection z with z1 z
  injection z with z2 _
  rw[z1,z2];exact h
 refine#[hs,rs,ok,gh,gr,#[λi n e=>?_,λi n e=>?_,()],(),(),λh hh=>?_,by rw[lhs];exact c0,(),λi h e=>?_,λi x e=>?_]
 ·have:=rok i 4 n e;unfold AL at this;lia
 ·have:=rok i 5 n e;unfold AL at this;lia
 ·obtain⟨i,hi⟩:=List.mem_iff_getElem?.mp hh;obtain⟨a,b,c,z,w⟩:=heads i [h.1,h.2.1,h.2.2] (by rw[yJ,hi];rfl);injection z with z1 z
  rw[z1];exact w.1
 ·rw[<-ehl,yJ]at e;have hi:i<m:=by
   have:=(List.getElem?_eq_some_iff.mp (show hs[i]? =some h by rw[<-ehl,yJ];exact e)).1;lia
  rw[vB hi]at e;cases e;exact#[MQ (),MQ (),MQ ()]
 ·have hi:i<rs.length:=(List.getElem?_eq_some_iff.mp e).1;rw[<-erl,yJ,vB ()]at e;cases e;rw[lhs];exact#[MQ (),MQ ()]
noncomputable def fnM (rs:vS)(L:Int->i4 (Nat×Nat))(x:(Int×Int×Int)×((Int×Int)×Nd)):i7:=decide (x.1.2.1=x.2.1.1)&&(decide (x.1.2.2=x.2.1.2)&&(Jn rs L x.2.2 x.1.1.toNat&&decide (OS rs ((xS L x.2.2).2:Nat)=(7,0))))
section
variable {rs:vS}{L:Int->i4 (Nat×Nat)}
theorem zDg:(kR rs (some a) 7 0).isSome =decide (OS rs (a:Nat)=(7,0)):=by
 by_cases c:OS rs (a:Nat)=(7,0)
 ·obtain⟨l,_,_,_,b⟩:=Xm c (by decide);rw[b,zQ c];rfl
 ·rw[Zu c,zR c];rfl
theorem zBx:So rs n (CC rs L nd) (xS L nd)=(Jn rs L nd n&&decide (OS rs ((xS L nd).2:Nat)=(7,0))):=by
 unfold So Jn;rw[zDg,AW,Bool.and_assoc]
theorem b6: ∀a b s r D Z:i7,((a&&(b&&(s&&r)))&&(D&&Z))=(((a&&b)&&D)&&((s&&r)&&Z)):=by decide
theorem OG: ∀{hs:FV} {h1:DJ} {ns:a6 Nd},hs.length=h1.length->h1.length=ns.length->(hs.zip (h1.zip ns)).all (fnM rs L)=(decide (h1=hs.map λh=>(h.2.1,h.2.2))&&(hs.zip ns).all λx=>So rs x.1.1.toNat (CC rs L x.2) (xS L x.2))
 |[],[],[],_,_=>rfl
 |h::hs,(g1,g2)::h1,n::ns,e1,e2=>by
  have ih:=OG (hs:=hs) (h1:=h1) (ns:=ns) (Ed e1) (Ed e2);rw[qA,qA,qA,qV,qV,ih,yO,zBx];have ed:decide ((g1,g2)::h1=(h.2.1,h.2.2)::hs.map λh=>(h.2.1,h.2.2))=((decide (h.2.1=g1)&&decide (h.2.2=g2))&&decide (h1=hs.map λh=>(h.2.1,h.2.2))):=by
   rw[jT];simp only[decide_eq_true_eq,wN,List.cons.injEq,Prod.mk.injEq];exact#[fun⟨⟨a,b⟩,c⟩=>#[#[a.symm,b.symm],c],fun⟨⟨a,b⟩,c⟩=>#[#[a.symm,b.symm],c]]
  rw[ed,<-b6];rfl
end
noncomputable def LD (rs:vS)(hs:FV)(fs:a6 ((Int×Int)×Nd))(ls:FV):i7:=Lf (λ_=>true) rs.length (λ_=>false) ls&&(decide (hs.length=fs.length)&&(hs.zip fs).all (fnM rs (FU ls)))
inductive QK (vs:List V) (H:Hp) (Q:VK) (E:XK):Prop
 |mk (tl c pa:i3) (r:DJ×List Nd) (cs:List Int) (hs:FV) (rs:vS) (rv:List V) (ls:FV) (h0:vs=[.ref tl,.ref c,.ref pa]) (h1:Jm H tl r) (h2:H c=some (.lst (cs.map V.int))) (h3:Cd cs hs rs) (h4:H pa=some (.lst rv)) (h5:Paired (Kk H) rv ls) (h6:ls.length<=1000) (h7:r.1.length<=1000) (h8:(∀nd∈r.2,Uq 10 nd)) (h9: ∀H',xK H H'->Q (.bl (LD rs hs (r.1.zip r.2) ls)) H'):QK vs H Q E
theorem Wg (M:Int->i4 (Nat×Nat))(ls:FV)(l:Int×Int×Int)(p:Int):YM M (ls++[l]) p=if p=l.1 then some (l.2.1.toNat,l.2.2.toNat)else YM M ls p:=by
 unfold YM;rw[List.foldl_append];rfl
inductive VIa (tl c pa rl d:i3)(ls:FV)(rs:vS)(i:Nat)(U':St)(H':Hp):Prop
 |mk (kvs:a6 (Bk×V)) (v5 v6 v7:i4 V) (h0:U'=[some (.ref tl),some (.ref c),some (.ref pa),some (.ref rl),some (.ref d),v5,v6,v7,none,none,none,none,none,none,none]) (h1:H' d=some (.dK kvs)) (h2:kvs.length<=i) (h3: ∀p:Int,Yv H' (Ak kvs (.inl p)) (YM (λ_=>none) (ls.take i) p)) (h4:Lf (λ_=>true) rs.length (λ_=>false) ls=Lf (λ_=>true) rs.length (RB kvs) (ls.drop i)):VIa tl c pa rl d ls rs i U' H'
inductive VIb (tl c pa rl d lk:i3)(U':St):Prop
 |mk (v5 v6 v7 v9 v10 v11 v12 v13 v14:i4 V) (h:U'=[some (.ref tl),some (.ref c),some (.ref pa),some (.ref rl),some (.ref d),v5,v6,v7,some (.ref lk),v9,v10,v11,v12,v13,v14]):VIb tl c pa rl d lk U'
theorem VI (T:CV K mg CK)(F:qZ K "_law_due" "_law_due" Ip f fd)(Ca1:kB P w K mg base 1 "_law_rows" ["_law_code"] Hy)(Cb:kB P w K mg base 1 "_law_goal" ["_law_rows_here","_law_at"] AG)(Ch:kB P w K mg base 2 "_law_meet" ["_law_rows_here","_law_one","_law_other"] Do)(Cu:kB P w K mg base (4+3*10) "_law_right" ["_law_look","_law_node_here"] (Dn 10)):vX P w K mg base (4+3*10+1) f fd ["_law_told","_law_code","_law_paper"] QK:=by
 exists kY;obtain⟨tl,c,pa,r,cs,hs,rs,rv,ls,rfl,fa,hc,cd,hp,pp,l1,r1,nk,q⟩:=h;exists _,(zB (yP 3 kY.nd (zK Ca1 hr rfl (zA (pv 1) zC) zX))
   (zB (yP 4 kY.nd IR)
   (zB (wD xE rfl (Ae (pv 2)) (kZ rfl (yE (yA 5 kY.nd) (yE (yA 6 kY.nd) (yE (yA 7 kY.nd) jJ)))) (zB (xC (PW.pt (qF (NR (QW (Bc hr) (pv 5) (pv 4))) (qF (qK (Lc BR wR zH (pv 6) (xF yX rfl T.n_len jY (zA (pv 3) zC)))) (kK (qK (Lc BR BR zH (pv 7) (xF yX rfl T.n_len jY (zA (pv 3) zC)))))))) (zI (zV kX)) yD)
   (zI (Kp (Bc hr) (pv 4) (pv 5) (xM (zA (pv 6) (zA (pv 7) zC))) rfl))))
   (zB (xC (zT Hh (yZ xQ (pv 1) zH (λ_ _=>rfl)) (xF yX rfl T.n_len jY (zA (pv 0) zC)) (zY _)) (zI (zV kX)) yD)
   (zB (yP 8 kY.nd (xM (zA (pv 3) (zA (pv 4) zC))))
   (zB (wD xE rfl (Sy rfl T.n_enumerate (zA (pv 0) zC)) (kZ rfl (yE (yA 9 kY.nd) (yE (yA 10 kY.nd) jJ))) (zB (qH (pv 10) (kZ rfl (yE (yA 11 kY.nd) (yE (yA 12 kY.nd) (yE (yA 13 kY.nd) jJ)))))
   (zB (xC (PW.pt (qF (zT Hh (yZ xQ (pv 1) (xD jA zH (xD uN zH (pv 9))) (λ_ _=>rfl)) (pv 11) (zY _)) (qF (zT Hh (yZ xQ (pv 1) (xD jA zH (xD uN zH (pv 9))) (λ_ _=>rfl)) (pv 12) (zY _)) (kK (qK (kT (zK Cu hr rfl (zA (pv 8) (zA (pv 13) zC)) zX))))))) (zI (zV kX)) yD)
   (zB (qH (AV (Bc hr) (pv 4) (yZ xL (pv 13) zH (λ_ _=>rfl)) (λ_ _=>rfl)) (kZ rfl (yE (yA 6 kY.nd) (yE (yA 7 kY.nd) jJ))))
   (zB (xC (qK (kT (zK Ch hr rfl (zA (pv 3) (zA (yZ xQ (pv 1) (xD jA zH (xD uN zH (pv 9))) (λ_ _=>rfl)) (zA (pv 6) zC))) zX))) (zI (zV kX)) yD)
   (zB (yP 14 kY.nd (zK Cb hr rfl (zA (pv 3) (zA (pv 7) zC)) zX))
   (zI (xC (PW.pt (qF (zT wR (pv 14) zH (zY _)) (kK (zT (IT hr) (yZ xQ (pv 3) (pv 14) (λ_ _=>rfl)) (xM (wE (.int (.int .nil)))) (zY _))))) (zI (zV kX)) yD))))))))
   (zI (zV kX))))))))
 have ro:=cd.ro;have sl:sizeLine=16777216:=wG;refine#[-1,c,cs,rs,hs.length,rfl,hc,cd.c0,by have:=cd.h1;lia,cd.cl,cd.ra,ro.rl,λrl H1 g1 gr=>?_];have lp:=Paired.len pp;refine λd hd=>?_;have z0:=zN hd (.dK []);have s1:=g1.trans z0;obtain⟨vr,erl,prr⟩:=id gr;have lvr:vr.length=rs.length:=(Paired.len prr).trans (zM ..);have no:LD rs hs (r.1.zip r.2) ls=false-> ∀H',xK H H'->Q (.bl false) H':=λz H' s=>by have:=q H' s;rwa [z]at this
 refine#[-1,pa,rfl,#[_,kF.of (s1 _ _ hp)],BS (xs:=rv) (λi U' H'=>xK H1 H'/\VIa tl c pa rl d ls rs i U' H') #[z0,[],_,_,-1,zE,zS _,λp=>trivial,rfl] (λi U' H' _ ⟨z,_⟩=>kF.of (z _ _ (g1 _ _ hp))) ?_ ?_]
 ·rintro i x U' H2 hx ⟨g2,kvs,v5,v6,v7,rfl,ed,lk,ln,ep⟩;obtain⟨l,hl,t,rfl,et⟩:=Paired.yonder pp hx;have hi:=(List.getElem?_eq_some_iff.mp hl).1;have edr:ls.drop i=l::ls.drop (i+1):=by rw[yR hi,(List.getElem?_eq_some_iff.mp hl).2]
  have tk:ls.take (i+1)=ls.take i++[l]:=by rw[jO,hl]<;>rfl
  have ep:Lf (λ_=>true) rs.length (λ_=>false) ls=(Rz (λ_=>true) rs.length l.1 l.2.1 l.2.2&&(!RB kvs l.1&&Lf (λ_=>true) rs.length (λx=>decide (x=l.1) || RB kvs x) (ls.drop (i+1)))):=by rw[ep,edr]<;>rfl
  have s2:=g1.trans g2;have nof:Rz (λ_=>true) rs.length l.1 l.2.1 l.2.2=false\/RB kvs l.1=true-> ∀H',xK H H'->Q (.bl false) H':=λz=>no (by
   unfold LD;rw[ep]
   rcases z with z|z<;>rw[z]
   ·rfl
   ·cases Rz (λ_=>true) rs.length l.1 l.2.1 l.2.2<;>rfl)
  have li:Rz (λ_=>true) rs.length l.1 l.2.1 l.2.2=(decide (0<=l.2.1/\l.2.1<(rs.length:Int))&&decide (0<=l.2.2/\l.2.2<=(rs.length:Int))):=rfl;refine#[t,-1,.of (s2 _ _ et),rfl,_,-1,_,-1,_,-1,rfl,?_];refine#[-2,d,-1,EC.k (k:=.inl l.1) ed,?_];cases y:RB kvs l.1 with
  |true=>exact#[true,by rw[show(Ak kvs (.inl l.1)).isSome =true from y],jC (nof (.inr y) _ s2)]
  |false=>
  refine#[false,by rw[show(Ak kvs (.inl l.1)).isSome =false from y],xX #[-1,_,-1,rfl,-1,?_]];have er2:=g2 _ _ erl
  by_cases c0:0<=l.2.1
  ·rw[zQ c0];refine jC #[-1,rl,-1,.inl (.of er2),_,-1,rfl,-1,?_]
   by_cases c1:l.2.1<(vr.length:Int)
   ·rw[zQ c1];refine xX #[-1,_,-1,rfl,-1,?_]
    by_cases c2:0<=l.2.2
    ·rw[zQ c2];refine jC #[-1,rl,-1,.inl (.of er2),_,-1,rfl,-1,?_]
     by_cases c3:l.2.2<=(vr.length:Int)
     ·rw[zQ c3];refine xX #[-2,sm2,λt2 h2=>?_];have z2:=zN h2 (.tup [.int l.2.1,.int l.2.2]);have et2:upd H2 t2 (.tup [.int l.2.1,.int l.2.2]) t2=some (.tup [.int l.2.1,.int l.2.2]):=zE;have ed2:=z2 _ _ ed;generalize upd H2 t2 (.tup [.int l.2.1,.int l.2.2])=H3 at *
      refine#[-2,d,-1,Qr.k (k:=.inl l.1) ed2 (),?_];have tu: ∀b xs,H3 b=some (.tup xs)->upd H3 d (.dK (Ea kvs (.inl l.1) (.ref t2))) b=some (.tup xs):=λb xs e=>by
       rw[yQ (λz=>by rw[z,ed2]at e;cases e)];exact e
      refine#[λb o e=>?_,_,_,_,-1,zE,yU (AK ..) (uY lk),λp=>?_,?_]
      ·rw[yQ (λz=>by rw[z,hd]at e;cases e)];exact z2 _ _ (g2 _ _ e)
      ·rw[tk,Wg,IB]
       by_cases z:p=l.1
       ·rw[zP (by rw[z]),zP z];exact#[t2,rfl,by rw[tu _ _ et2,qM c0,qM c2]]
       ·rw[zO (λw=>z (Fa w)),zO z];exact IZ tu ((ln p).same z2)
      ·rw[Og,ep,li,zQ (show 0<=l.2.1/\l.2.1<(rs.length:Int)by lia),zQ (show 0<=l.2.2/\l.2.2<=(rs.length:Int)by lia),y];rfl
     ·rw[zR c3];exact jC (nof (.inl (by rw[li,zR (show ¬(0<=l.2.2/\l.2.2<=(rs.length:Int))by lia),jW])) _ s2)
    ·rw[zR c2];exact xX #[-1,jC (nof (.inl (by rw[li,zR (show ¬(0<=l.2.2/\l.2.2<=(rs.length:Int))by lia),jW])) _ s2)]
   ·rw[zR c1];exact jC (nof (.inl (by rw[li,zR (show ¬(0<=l.2.1/\l.2.1<(rs.length:Int))by lia),kO])) _ s2)
  ·rw[zR c0];exact xX #[-1,jC (nof (.inl (by rw[li,zR (show ¬(0<=l.2.1/\l.2.1<(rs.length:Int))by lia),kO])) _ s2)]
 rintro U' H2 ⟨g2,kvs,v5,v6,v7,rfl,ed,lk,ln,ep⟩;rw[lp,xZ]at ln;rw[lp,vI]at ep;have ep:Lf (λ_=>true) rs.length (λ_=>false) ls=true:=ep;have s2:=g1.trans g2;obtain⟨vp,epf,lnf,pf⟩:=fa;have lf:=Paired.len pf;have a0:Gv (cs.map V.int) 0=some (.int (hs.length:Int)):=kG (j:=0) (by rw[yJ,cd.c0];rfl);refine#[-1,c,_,_,-1,rfl,kF.of (s2 _ _ hc),a0,?_];refine#[-1,tl,-1,.inl (kF.of (s2 _ _ epf)),rfl,-1,?_];have e1:(decide (V.int (hs.length:Int)=V.int (vp.length:Int)))=decide (hs.length=(r.1.zip r.2).length):=by
  rw[<-lf];exact decide_eq_decide.mpr #[λz=>by injection z with z;lia,λz=>by rw[z]]
 rw[e1]
 by_cases c1: ¬hs.length=(r.1.zip r.2).length
 ·rw[zR c1];exact jC (no (by unfold LD;rw[ep,zR c1];rfl) _ s2)
 have c1:=Classical.not_not.mp c1;rw[zQ c1];refine xX #[-2,sm2,λlk hlk=>?_];have lo:UA (upd H2 lk (.tup [.ref rl,.ref d])) lk rl d rs (FU ls):=by
  have z:=zN hlk (.tup [.ref rl,.ref d]);exact#[zE,gr.same (g2.trans z),kvs,z _ _ ed,λp=>(ln p).same z]
 have s3:=s2.trans (zN hlk (.tup [.ref rl,.ref d]));generalize upd H2 lk (.tup [.ref rl,.ref d])=H3 at *
 clear ln ed hlk hd;have ed:LD rs hs (r.1.zip r.2) ls=(hs.zip (r.1.zip r.2)).all (fnM rs (FU ls)):=by unfold LD;rw[ep,zQ c1];rfl
 rw[ed]at q no;refine#[-1,tl,-1,kF.of (s3 _ _ epf),Ly (xs:=vp) (λi U' H'=>xK H3 H'/\VIb tl c pa rl d lk U'/\(hs.zip (r.1.zip r.2)).all (fnM rs (FU ls))=((hs.zip (r.1.zip r.2)).drop i).all (fnM rs (FU ls))) #[xK.refl _,#[_,_,_,_,_,_,_,_,-1],rfl] (λi U' H' _ ⟨z,_⟩=>kF.of (z _ _ (s3 _ _ epf))) ?_ ?_]
 rotate_left
 ·rintro U' H' ⟨z,_,e⟩;rw[kL (by rw[jS];lia)]at e;rw[e]at q;exact q H' (s3.trans z)
 rintro i v U' H6 t hv ⟨z,⟨v5,v6,v7,v9,v10,v11,v12,v13,v14,rfl⟩,e⟩ ht;obtain⟨⟨hd2,nd⟩,hnd,t2,bd,rfl,et2,na⟩:=Paired.yonder pf hv;have hi:i<(hs.zip (r.1.zip r.2)).length:=by
  have:=(List.getElem?_eq_some_iff.mp hnd).1;rw[jS];lia
 obtain⟨h,hh⟩: ∃h,hs[i]? =some h:=#[_,zF (show i<hs.length by rw[jS]at hi;lia)];have ez:(hs.zip (r.1.zip r.2)).drop i=(h,hd2,nd)::(hs.zip (r.1.zip r.2)).drop (i+1):=by
  have:=EK (z:=(h,hd2,nd)).mpr #[hh,hnd];rw[yR hi,(List.getElem?_eq_some_iff.mp this).2]
 rw[ez,qV]at e;have zt:=z.trans (zN ht (.tup [.int (i:Nat),.ref t2]));have et:upd H6 t (.tup [.int (i:Nat),.ref t2]) t=some (.tup [.int (i:Nat),.ref t2]):=zE;generalize upd H6 t (.tup [.int (i:Nat),.ref t2])=H7 at *
 have s7:=s3.trans zt;have lo7:=lo.same zt;obtain⟨c2,c3,c4⟩:=cd.ca i h hh;have nn0:=cd.h0 h (xP hh);have ix: ∀{j:Nat} {x:Int},cs[j]? =some x-> ∀{k:Int},k=(j:Int)->Gv (cs.map V.int) k=some (.int x):=λh _ hk=>by rw[hk];exact kG (by rw[yJ,h];rfl)
 refine#[t,-1,.of et,rfl,_,-1,_,-1,rfl,?_];refine#[-1,t2,-1,.of (s7 _ _ et2),rfl,_,-1,_,-1,_,-1,rfl,?_];have i16:i<16:=by have:=cd.h1;rw[jS]at hi;(clear e lf;lia)
 refine#[-2,_,-1,rfl,.inl #[by decide,()],_,-1,rfl,c,_,_,-1,rfl,kF.of (s7 _ _ hc),ix c3 (),-1,rfl,-1,?_];have nof:fnM rs (FU ls) (h,hd2,nd)=false-> ∀H',xK H H'->Q (.bl false) H':=λz=>no (by rw[e,z];rfl);have ei: ∀{x y:Int},decide (V.int x=V.int y)=decide (x=y):=fun{x y}=>decide_eq_decide.mpr #[λz=>by injection z,λz=>by rw[z]];have ef:fnM rs (FU ls) (h,hd2,nd)=(decide (h.2.1=hd2.1)&&(decide (h.2.2=hd2.2)&&((CC rs (FU ls) nd&&xO rs (some (xS (FU ls) nd).1) (some h.1.toNat))&&(kR rs (some (xS (FU ls) nd).2) 7 0).isSome))):=by rw[zDg];rfl
 rw[ef]at e nof;dsimp only;rw[ei]
 by_cases k1: ¬h.2.1=hd2.1
 ·rw[zR k1]at nof ⊢;exact jC (nof rfl _ s7)
 have k1:=Classical.not_not.mp k1;rw[zQ k1]at nof ⊢;refine xX ?_;refine#[-2,_,-1,rfl,.inl #[by decide,()],_,-1,rfl,c,_,_,-1,rfl,kF.of (s7 _ _ hc),ix c4 (),-1,rfl,-1,?_];rw[ei]
 by_cases k2: ¬h.2.2=hd2.2
 ·rw[zR k2]at nof ⊢;exact jC (nof rfl _ s7)
 have k2:=Classical.not_not.mp k2;rw[zQ k2]at nof ⊢;refine xX ?_;have nk0:=nk nd (xP (List.getElem?_zip_eq_some.mp hnd).2);refine#[-2,lk,rl,d,rs,_,bd,nd,rfl,lo7,ro,na.tups (qE.same s7),nk0,λH8 g8=>#[-1,?_]];have s8:=s7.trans g8;cases k3:CC rs (FU ls) nd with
 |false=>
  rw[k3]at nof;exact jC (nof rfl _ s8)
 |true=>
 rw[k3,yY,yY,yY]at nof;refine xX ?_;obtain⟨tn,k,x,y,rfl,etn⟩:=FB (na.tups (qE.same s8));have lo8:=lo7.same g8;obtain⟨tl8,dg,etl⟩:=lo8.line (Fx k3);refine#[-2,tn,_,_,-1,rfl,.of etn,rfl,d,-1,dg,tl8,-1,.of etl,rfl,_,-1,_,-1,rfl,?_];have en:HQ h.1=some h.1.toNat:=zP nn0;refine#[-3,_,-1,rfl,.inl #[by decide,()],_,-1,rfl,c,_,_,-1,rfl,kF.of (s8 _ _ hc),ix c2 (),-1,rl,rs,h.1,-1,lo8.2.1,ro.jo,ro.rl,-1,?_];rw[kA,en,AW];cases k4:xO rs (some (xS (FU ls) nd).1) (some h.1.toNat)with
 |false=>
  rw[k4]at nof;exact jC (nof rfl _ s8)
 |true=>
 rw[k4,yY]at nof;refine xX #[-2,rl,rs,-1,lo8.2.1,ro.jo,ro.rl,?_];rw[Ew,kA];refine#[-1,_,-1,rfl,-1,?_];cases er:BO rs (some (xS (FU ls) nd).2)with
 |none=>
  rw[NK er]at nof;exact jC (nof rfl _ s8)
 |some l7=>
 rw[show decide (((match some l7 with|some l=>(l:Int)|none=> -1):Int)<(0:Int))=false from zR (by show ¬(l7:Int)<0;lia)];obtain⟨rv7,t7,op,n,er7,ea7,et7,ep7⟩:=Mz lo8.2.1 (Fg er);refine xX #[-2,rl,_,_,-1,rfl,.of er7,ea7,sm2,λt9 h9=>#[t7,t9,_,_,_,-1,rfl,.of (zN h9 _ _ _ et7),.of zE,rfl,-1,?_]];have g9:=zN h9 (.tup [.int 7,.int 0]);rw[LM er ep7]at nof e;cases c7:(op==7&&Fs (.int n) (.int 0))with
 |false=>
  rw[c7]at nof;exact jC (nof rfl _ (s8.trans g9))
 |true=>
 rw[c7]at e;refine xX #[zt.trans (g8.trans g9),#[_,_,_,_,_,_,_,_,-1],?_];rw[e,zQ k1,zQ k2,k3,k4];rfl
theorem zCf: ∀{ls:FV} {S:Int->i7},(∀l∈ls,D l.1=true)->Lf D m S ls=Lf (λ_=>true) m S ls
 |[],_,_=>rfl
 |l::ls,S,h=>by
  have ih:=zCf (D:=D) (m:=m) (ls:=ls) (S:=λx=>decide (x=l.1) || S x) λx mx=>h x (zZ _ mx);show(Rz D m l.1 l.2.1 l.2.2&&(!S l.1&&Lf D m (λx=>decide (x=l.1) || S x) ls))=(Rz (λ_=>true) m l.1 l.2.1 l.2.2&&(!S l.1&&Lf (λ_=>true) m (λx=>decide (x=l.1) || S x) ls));unfold Rz;rw[ih,h l (yC ..)]
theorem VX (hr:r.1.length=r.2.length)(nod:((jR r.2).map AB).Nodup)(po: ∀l∈ls,Ux (jR r.2) l.1=true):lsM rs hs r ls=LD rs hs (r.1.zip r.2) ls:=by
 have kd:=Jb r.2 [] trivial;rw[xJ]at kd;have eb:lbM rs (FU ls) hs r.2=(hs.zip r.2).all λx=>So rs x.1.1.toNat (CC rs (FU ls) x.2) (xS (FU ls) x.2):=by
  unfold lbM;rw[jT,vJ,vJ];refine forall_congr' λx=>forall_congr' λm=>?_;rw[YF kd nod x.2 (Hl (DN m).2)];rfl
 unfold lsM LD;rw[eb,zCf po,jS,<-hr,Nat.min_self]
 by_cases c:hs.length=r.1.length
 ·rw[OG c hr,zQ c,yY];exact Bool.and_left_comm ..
 ·rw[zR c,zR λz=>c (by rw[z,zM])]
  simp
section
variable {rs:vS}{L:Int->i4 (Nat×Nat)}
theorem Wh: ∀{ls:FV} {M:Int->i4 (Nat×Nat)} {p:Int},(∀l∈ls,l.1≠p)->YM M ls p=M p
 |[],_,_,_=>rfl
 |l::ls,M,p,h=>by
  refine(Wh (ls:=ls) (M:=λp=>if p=l.1 then some (l.2.1.toNat,l.2.2.toNat)else M p) λx m=>h x (zZ _ m)).trans ?_;exact zO λz=>h l (yC ..) z.symm
theorem SE: ∀{ls:FV} {M:Int->i4 (Nat×Nat)},(ls.map (·.1)).Nodup-> ∀l∈ls,YM M ls l.1=some (l.2.1.toNat,l.2.2.toNat)
 |x::ls,M,nd,l,m=>by
  rw[yO,List.nodup_cons]at nd
  rcases List.mem_cons.mp m with rfl|m
  ·exact(Wh (ls:=ls) (M:=λp=>if p=l.1 then some (l.2.1.toNat,l.2.2.toNat)else M p) (p:=l.1) λy my z=>nd.1 (by rw[<-z];exact Bi my)).trans (zP rfl)
  ·exact SE nd.2 l m
mutual
theorem YL: ∀(nd:Nd) (b:Nat),(Qv b nd).map (·.1)=(pre nd).map AB
 | .mk k p own ps,b=>by
  rw[Qv,pre,yO,yO,VZ];rfl
theorem VZ: ∀(ps:a6 Nd) (k:Int) (m i b:Nat),(JN k m i b ps).map (·.1)=(jR ps).map AB
 |[],k,m,i,b=>by rw[JN,jR];rfl
 |a::r,k,m,i,b=>by rw[JN,jR,xN,xN,YL,VZ]
end
theorem We: ∀(fs:a6 HW) (b:Nat),(Mi b fs).map (·.1)=(jR (fs.map (·.2))).map AB
 |[],b=>by show _=(jR []).map AB;rw[Mi,jR];rfl
 |f::r,b=>by rw[Mi,yO,jR,xN,xN,YL,We]
def InL (b e:Nat)(ls:a6 Ln):Prop:= ∀x∈ls,(b:Int)<=x.2.1/\x.2.1<x.2.2/\x.2.2<=(e:Int)
noncomputable def exS (k:Int)(m i n:Nat):Nat:=if n<=1 then 0 else if k=3\/k=5 then n-1 else if k=4 then(if i=0 then m+2 else 1)+(n-2)else 0
theorem zCz:(if k=3\/k=5 then 1 else if k=4 then(if i=0 then m+2 else 1)else 0)+exS k m (i+1) (n+1)<=exS k m i (n+2):=by
 unfold exS;rw[zO (show ¬n+2<=1 by lia),zO (show ¬i+1=0 by lia)];split
 ·split<;>lia
 split
 ·split<;>split<;>lia
 ·split<;>lia
mutual
theorem Wd: ∀(nd:Nd) (b:Nat),Kl (bare nd)->0<rl (bare nd)/\InL b (b+rl (bare nd)) (Qv b nd)
 | .mk k p own ps,b,gd=>by
  have er:rl (bare (.mk k p own ps))=rl (.mk k own (zU ps)):=rfl;have gd:Kl (.mk k own (zU ps)):=gd;have e:rl (.mk k own (zU ps))=if k=3 then kD (zU ps)+(ps.length-1)else if k=4 then kD (zU ps)+2*(ps.length-1)+1 else if k=5 then kD (zU ps)+5 else kD (zU ps)+1:=by rw[rl,qI]
  unfold Kl at gd;obtain⟨g3,g4,g5,gp⟩:=gd;have h4:=g4;have h5:=g5;rw[qI]at h4 h5;obtain⟨hp,hi⟩:=Wc ps k (ps.length-1) 0 (b+if k=5 then 1 else 0) (b+rl (.mk k own (zU ps))) gp (by
   rw[e];unfold exS
   (repeat' split)<;>lia)
  have pos:0<rl (.mk k own (zU ps)):=by
   rw[e];split
   ·rename_i c3;have:=hp λz=>g3 c3 (by rw[z];rfl);(clear c3;lia)
   split
   ·lia
   split<;>lia
  rw[er];refine#[pos,λx m=>?_];rw[Qv]at m
  rcases List.mem_cons.mp m with rfl|m
  ·dsimp only;lia
  ·have:=hi x m;split at this<;>omega
theorem Wc: ∀(ps:a6 Nd) (k:Int) (m i b e:Nat),BF (zU ps)->b+kD (zU ps)+exS k m i ps.length<=e->(ps≠[]->0<kD (zU ps))/\InL b e (JN k m i b ps)
 |[],k,m,i,b,e,_,_=>#[λz=>absurd rfl z,λx mx=>by rw[JN]at mx;cases mx]
 |a::r,k,m,i,b,e,gd,h=>by
  rw[wY,uW]at gd;rw[wY,kW]at h ⊢;obtain⟨p1,i1⟩:=Wd a b gd.1;refine#[λ_=>(),λx mx=>?_];rw[JN]at mx
  rcases List.mem_append.mp mx with mx|mx
  ·have:=i1 x mx;lia
  ·match r,gd.2,h,mx with
   |c::r,gd2,h,mx=>
   have le:=zCz (k:=k) (m:=m) (i:=i) (n:=r.length);have:=(Wc (c::r) k m (i+1) (Ks k m i b (bare a)) e gd2 (by
    unfold Ks;have:(c::r).length =r.length+1:=rfl;have:(a::c::r).length =r.length+2:=rfl;rw[‹(c::r).length =_›];rw[‹(a::c::r).length =_›]at h;lia)).2 x mx
   unfold Ks at this;split at this<;>omega
   |[],_,_,mx=>rw[JN]at mx;cases mx
end
theorem Wf: ∀(fs:a6 HW) (b:Nat),(∀f∈fs,Kl (bare f.2))->InL b (b+Fh fs) (Mi b fs)
 |[],b,_,x,m=>by rw[Mi]at m;cases m
 |f::r,b,gd,x,m=>by
  have e:Fh (f::r)=rl (bare f.2)+1+Fh r:=rfl;rw[Mi]at m;rw[e]
  rcases List.mem_append.mp m with m|m
  ·have:=(Wd f.2 b (gd f (yC ..))).2 x m;omega
  ·have:=Wf r _ (λg mg=>gd g (zZ _ mg)) x m;omega
theorem mdF (jo:OB rs): ∀(fs:a6 HW) (b:Nat) (hs:FV),(∀f∈fs,Kl (bare f.2))->OA rs b (MF b fs)->Ur L (Mi b fs)->hs.map (λh=>[h.1,h.2.1,h.2.2])=MN b fs->fs.map (·.1)=hs.map (λh=>(h.2.1,h.2.2))/\((hs.zip (fs.map (·.2))).all λx=>So rs x.1.1.toNat (CC rs L x.2) (xS L x.2))=true
 |[],b,[],_,_,_,_=>#[rfl,rfl]
 |f::r,b,h::hs,gd,st,ln,e=>by
  have e:[h.1,h.2.1,h.2.2]::hs.map (λh=>[h.1,h.2.1,h.2.2])=[(b:Int),f.1.1,f.1.2]::MN (b+rl (bare f.2)+1) r:=e;injection e with e1 e2
  injection e1 with a1 e1
  injection e1 with a2 e1
  injection e1 with a3 _
  have g0:=gd f (yC ..);rw[MF]at st;rw[Mi]at ln;have s1:=st.right (wS _ _ g0);have h7:=s1.head;obtain⟨i1,i2⟩:=mdF jo r _ hs (λg mg=>gd g (zZ _ mg)) s1.tail ln.right e2;have rg:=mdN jo f.2 b g0 st.left ln.left (by rw[BN h7 (by decide)];rfl);refine#[by rw[yO,yO,i1,a2,a3],?_];rw[yO,qA,qV,i2,uP];unfold So;rw[rg.1,rg.2.1,a1,xV,Et (by rw[rg.2.2];rfl) rfl,Hs h7 (by decide)];rfl
end
theorem Mj.more: ∀{d:Nat} {t:Tr},Mj d t->Mj (d+1) t
 |0,_,h=>h.elim
 |d+1,.mk k own ps,h=>by
  unfold Mj at h ⊢;exact#[h.1,h.2.1,λp m=>(h.2.2.1 p m).more,h.2.2.2]
theorem Qd (h: ∀t,vU hs b n t->vU hs b (n+1) t): ∀{ts:a6 Tr},wI hs b n ts->wI hs b (n+1) ts
 |[],_=>by unfold wI;trivial
 |a::r,f=>by
  unfold wI at f ⊢;exact#[h a f.1,Qd h f.2]
theorem JP: ∀(n:Nat) (t:Tr),vU hs b n t->vU hs b (n+1) t
 |0,t,f=>by unfold vU at f;exact f.elim
 |n+1,.mk k own ps,f=>by
  unfold vU at f ⊢;exact#[f.1,f.2.1,f.2.2.1,f.2.2.2.1,f.2.2.2.2.1,Qd (JP n) f.2.2.2.2.2]
mutual
theorem YD: ∀t:Tr,Kl t->rl t+2<=3*Sd t
 | .mk k own ps,h=>by
  unfold Kl at h;obtain⟨_,_,h5,hp⟩:=h;have ih:=UW ps hp;rw[Sd,rl];split
  ·lia
  ·split
   ·lia
   ·split
    ·rename_i c;have:=h5 c;lia
    ·lia
theorem UW: ∀ps:a6 Tr,BF ps->kD ps+2*ps.length<=3*Au ps
 |[],_=>by unfold kD Au;exact zS _
 |t::r,h=>by
  rw[uW]at h;have h1:=YD t h.1;have h2:=UW r h.2;rw[kW,Au,zJ];lia
end
mutual
theorem YK: ∀nd:Nd,FT nd=Sd (bare nd)
 | .mk k p own ps=>by
  show FT (.mk k p own ps)=Sd (.mk k own (zU ps));rw[FT,Sd,Oc ps]
theorem Oc: ∀ps:a6 Nd,BG ps=Au (zU ps)
 |[]=>by
  show BG []=Au [];unfold BG Au;rfl
 |t::r=>by
  show BG (t::r)=Au (bare t::zU r);rw[BG,Au,YK t,Oc r]
end
theorem HI: ∀ps:a6 Nd,ps.length<=BG ps
 |[]=>xG _
 |a::r=>by
  have:=HI r;have:=XT a;rw[BG,zJ];lia
theorem YB: ∀{d:Nat} {t:Tr},Mj d t->OC d t
 |0,_,h=>h.elim
 |d+1,.mk k own ps,h=>by
  unfold Mj at h;unfold OC;exact#[λz=>by obtain⟨n,e,l⟩:=h.1 z;exact#[n,e,by unfold HP LQ;omega],h.2.1,λp m=>YB (h.2.2.1 p m)]
def OF (hs:DJ)(bx:Int)(d:Nat)(t:Tr):Prop:=vU hs bx d t/\Mj d t
theorem OF.more (h:OF hs bx d t):OF hs bx (d+1) t:=#[JP _ _ h.1,h.2.more]
mutual
theorem Vf: ∀(nd:Nd) (d:Nat),OF hs bx d (bare nd)->FT nd<=1000-> ∀x∈pre nd,OF hs bx d (bare x)/\(Hm x).length<=1000
 | .mk k p own ps,0,h,_,x,m=>by
  obtain⟨h,_⟩:=h;unfold vU at h;exact h.elim
 | .mk k p own ps,d+1,h,l,x,m=>by
  rw[pre]at m;rw[FT]at l
  rcases List.mem_cons.mp m with rfl|m
  ·exact#[h,yU (HI ps) ()]
  ·have h1:vU hs bx (d+1) (.mk k own (zU ps)):=h.1;have h2:Mj (d+1) (.mk k own (zU ps)):=h.2;unfold vU at h1;unfold Mj at h2;have z:=Su ps d (λt mt=>#[Jf h1.2.2.2.2.2 mt,h2.2.2.1 t mt]) () x m;exact#[z.1.more,z.2]
theorem Su: ∀(ps:a6 Nd) (d:Nat),(∀t∈zU ps,OF hs bx d t)->BG ps<=1000-> ∀x∈jR ps,OF hs bx d (bare x)/\(Hm x).length<=1000
 |[],d,_,_,x,m=>by rw[jR]at m;cases m
 |a::r,d,h,l,x,m=>by
  rw[jR]at m;rw[BG]at l;rw[wY]at h
  rcases List.mem_append.mp m with m|m
  ·exact Vf a d (h _ (yC ..)) () x m
  ·exact Su r d (λt mt=>h t (zZ _ mt)) () x m
end
theorem Sv: ∀(ps:a6 Nd),(∀p∈ps,∃bx,OF hs bx 10 (bare p))->BG ps<=1000-> ∀x∈jR ps,∃bx,OF hs bx 10 (bare x)/\(Hm x).length<=1000
 |[],_,_,x,m=>by rw[jR]at m;cases m
 |a::r,h,l,x,m=>by
  rw[jR]at m;rw[BG]at l
  rcases List.mem_append.mp m with m|m
  ·obtain⟨bx,g⟩:=h a (yC ..);exact#[bx,Vf a 10 g () x m]
  ·exact Sv r (λp mp=>h p (zZ _ mp)) () x m
theorem UX: ∀fs:a6 HW,(∀f∈fs,Kl (bare f.2))->Fh fs<=3*Au (zU (fs.map (·.2)))
 |[],_=>xG _
 |f::r,h=>by
  have h1:=YD (bare f.2) (h f (yC ..));have h2:=UX r λg m=>h g (zZ _ m);show rl (bare f.2)+1+Fh r<=3*Au (zU (f.2::r.map (·.2)));rw[wY,Au];lia
theorem VR: ∀fs:a6 HW,Mg fs=Au (zU (fs.map (·.2)))
 |[]=>by show 0=Au [];unfold Au;rfl
 |f::r=>by
  show FT f.2+Mg r=Au (zU (f.2::r.map (·.2)));rw[wY,Au,YK,VR r]
theorem Qc: ∀{hs:DJ} {i:Nat} {h:Int×Int},hs[i]? =some h->(flat hs)[2*i]? =some h.1/\(flat hs)[2*i+1]? =some h.2
 |[],i,h,e=>by simp at e
 |a::r,0,h,e=>by cases e;exact#[rfl,rfl]
 |a::r,i+1,h,e=>by
  have:=Qc (hs:=r) (i:=i) (h:=h) (by simpa using e);rw[show 2*(i+1)=2*i+1+1 by lia];exact this
theorem Qn: ∀{ps:a6 Nd} {i:Nat} {x:Nd},ps[i]? =some x->(zU ps)[i]? =some (bare x)
 |[],i,x,e=>by simp at e
 |a::r,0,x,e=>by cases e;rfl
 |a::r,i+1,x,e=>by
  rw[wY];exact Qn (ps:=r) (i:=i) (by simpa using e)
theorem Vg: ∀{ls:FV} {S:Int->i7},(∀l∈ls,S l.1=false)->(ls.map (·.1)).Nodup->(∀l∈ls,0<=l.2.1/\l.2.1<(m:Int)/\0<=l.2.2/\l.2.2<=(m:Int))->Lf (λ_=>true) m S ls=true
 |[],_,_,_,_=>rfl
 |l::ls,S,hs,nd,ok=>by
  rw[yO,List.nodup_cons]at nd;have o:=ok l (yC ..);have ih:=Vg (m:=m) (ls:=ls) (S:=λx=>decide (x=l.1) || S x) (λx mx=>by
   have:x.1≠l.1:=λz=>nd.1 (z▸Bi mx);rw[hs x (zZ _ mx),zR this];rfl) nd.2 λx mx=>ok x (zZ _ mx)
  show(Rz (λ_=>true) m l.1 l.2.1 l.2.2&&(!S l.1&&Lf (λ_=>true) m (λx=>decide (x=l.1) || S x) ls))=true;unfold Rz;rw[ih,hs l (yC ..),zQ #[o.1,o.2.1],zQ o.2.2];rfl
structure Whl (ns:List Int)(r:DJ×List Nd)(cs:List Int)(hs:FV)(rs:vS)(ls:FV):Prop where
 fn:Shr ns r
 mk_:WV ns (r.1.zip r.2)
 n64:Mg (r.1.zip r.2)<64
 ec:cs=Dv (MN 0 (r.1.zip r.2)) (MF 0 (r.1.zip r.2))
 el:ls=Mi 0 (r.1.zip r.2)
 cd:Cd cs hs rs
 c4:cs.length<=400
 po: ∀l∈ls,Ux (jR r.2) l.1=true
 l1:ls.length<=100
 ok:lsM rs hs r ls=true
 ln:r.1.length=r.2.length
 f1:r.1.length<=16
 nod:((jR r.2).map AB).Nodup
 p1:(jR r.2).length<=1000
 gd: ∀nd∈jR r.2,∃bx,OF r.1 bx 10 (bare nd)/\(Hm nd).length<=1000
 n1:ns.length<=1000
 nz:BG r.2<=50
theorem Whl.lt (W:Whl ns r cs hs rs ls)(c:Cd cs' hs' rs')(l:cs'.length<=1000)(l':ls'.length<=1000):LtP r cs' hs' rs' ls':=
 #[(),c.co,c.hd,c.rw_,c.ro.jo,c.ro.uo,c.r0,c.ro.rl,by have:=c.h1;lia,c.h0,l',by have:=W.f1;lia,W.p1,λnd m=>by
  obtain⟨bx,g,k⟩:=W.gd nd m;exact#[#[_,_,g.1],YB g.2,k]]
theorem Xj (S:YU hs ts): ∃r cs hs' rs ls,Whl (Uu hs ts) r cs hs' rs ls:=by
 have up: ∀{bx:Int} {t:Tr},DrT hs bx 4 t->OF hs bx 10 t:=λh=>(OF.more (OF.more (OF.more (OF.more (OF.more (OF.more #[h.fit,h.sm.1]))))));obtain⟨nds,en⟩: ∃nds,nds=Jp (1+2*hs.length) ts:=#[-1];have eb:zU nds=ts:=by rw[en];exact LN ..
 have lnd:nds.length=hs.length:=by rw[en,Sw,S.ln]
 have fl:=Lz hs;have e:Shr (Uu hs ts) (hs,nds):=#[ts,by
  refine#[rfl,λi h z=>?_,?_,S.ln,?_,S.good,λi h t z y=>(up (S.dr i h t z y)).1]
  ·have z:hs[i]? =some h:=z;have hi:=(List.getElem?_eq_some_iff.mp z).1;obtain⟨g1,g2⟩:=Qc z;unfold Uu;rw[show 1+2*i=2*i+1 by lia,FS,FS,kJ (),kJ ()];exact#[g1,g2]
  ·have:=Sub.behind (qQ ts) ((hs.length:Int)::flat hs);rw[show((hs.length:Int)::flat hs).length =1+2*hs.length by rw[zJ];lia]at this;exact this
  ·show(Uu hs ts).length =1+2*hs.length+_;unfold Uu;rw[zJ,zG];lia,en]
 obtain⟨fs,efs⟩: ∃fs:a6 HW,fs=hs.zip nds:=#[-1];have e2:fs.map (·.2)=nds:=by rw[efs];exact FO ()
 have em:fs.map (·.1)=hs:=by rw[efs];exact List.map_fst_zip ()
 have lfs:fs.length=hs.length:=by rw[<-em,zM]
 have gf: ∀f∈fs,OF hs f.1.2 10 (bare f.2):=λf m=>by
  obtain⟨i,hi⟩:=uL m;rw[efs]at hi;obtain⟨z1,z2⟩:=List.getElem?_zip_eq_some.mp hi;have hi':=(List.getElem?_eq_some_iff.mp z1).1;have ht:ts[i]? =some (bare f.2):=by
   rw[<-eb];exact Qn z2
  exact up (S.dr i f.1 _ z1 ht)
 have ft: ∀f∈fs,vU hs f.1.2 10 (bare f.2):=λf m=>(gf f m).1;have gt: ∀f∈fs,Kl (bare f.2):=λf m=>Ex _ _ (ft f m);have rF:=UX fs gt;have nF:=VR fs;rw[e2,eb]at rF nF;have sz:=S.sz;have h2:=S.h2;have cp:=MV em S.good ft ();have mlen:=IY fs 0 gt;have l3:=Fi cp.h3;have l2:=Fi cp.r2;have n8:(MN 0 fs).length =hs.length:=by rw[Gq,lfs]
 have clen:(Dv (MN 0 fs) (MF 0 fs)).length =1+3*hs.length+2*Fh fs:=by
  unfold Dv;rw[zJ,zG,l3,l2,n8,mlen];lia
 obtain⟨hs',rs,cd⟩:=LH cp.ok ();have k1:=cd.hd;have k2:=cd.rw_;rw[cp.headNums,Ho (.inr rfl) cp.h3]at k1;rw[cp.rowNums,Ho (.inl rfl) cp.r2]at k2;have rlen:rs.length=Fh fs:=by rw[<-mlen,k2];unfold Jo;rw[zM]
 obtain⟨_,_,ri⟩:=Lq fs 0 _ _ (e2.trans en);have nd:((Mi 0 fs).map (·.1)).Nodup:=List.pairwise_map.mpr (ri.1.imp fun{x y} z=>());have npl:=We fs 0;have ll:(Mi 0 fs).length =Mg fs:=by
  have:=(QT 0 fs).length_eq;rw[Kq,zM]at this;exact this.symm
 have lpre:(jR nds).length =Mg fs:=by
  rw[<-ll,<-e2,<-zM (f:=AB),<-npl,zM]
 have inl:=Wf fs 0 gt;have okp: ∀l∈Mi 0 fs,Ux (jR nds) l.1=true:=λl m=>by
  have:l.1∈(jR nds).map AB:=by rw[<-e2,<-npl];exact Bi m
  obtain⟨x,mx,ex⟩:=List.mem_map.mp this;exact List.any_eq_true.mpr #[x,mx,zQ ex]
 obtain⟨z1,z2⟩:=mdF (L:=FU (Mi 0 fs)) cd.ro.jo fs 0 hs' gt (λi x e=>by rw[Ec,<-k2];exact e) (λl m=>SE nd l m) k1.symm;have nod:((jR nds).map AB).Nodup:=by rw[<-e2,<-npl];exact nd
 have lh:hs'.length=hs.length:=by rw[<-n8,k1,zM]
 have dl:LD rs hs' fs (Mi 0 fs)=true:=by
  have za:=OG (rs:=rs) (L:=FU (Mi 0 fs)) (hs:=hs') (h1:=hs) (ns:=nds) lh ();rw[<-efs,<-e2,z2,<-em,zQ z1]at za;unfold LD;rw[zQ (show hs'.length=fs.length by lia),za,Vg (λ_ _=>rfl) nd λl m=>by have:=inl l m;lia];rfl
 refine#[(hs,nds),_,hs',rs,_,#[e,?_,?_,rfl,rfl,?_,?_,?_,?_,?_,lnd.symm,by show hs.length<=16;lia,nod,?_,?_,?_,?_]]
 all_goals try dsimp only
 all_goals try rw[<-efs]
 ·exact#[_,e,efs.symm,em,S.good,ft,(),()]
 ·lia
 ·exact cd
 ·lia
 ·exact okp
 ·lia
 ·rw[VX lnd.symm nod okp];dsimp only;rw[<-efs];exact dl
 ·lia
 ·refine Sv nds (λp mp=>?_) (by rw[Oc,eb];lia);rw[<-e2]at mp;obtain⟨f,mf,rfl⟩:=List.mem_map.mp mp;exact#[_,gf f mf]
 ·unfold Uu;rw[zJ,zG];have:=S.nl;lia
 ·rw[Oc,eb];lia
theorem SH (h:j<n):SJ n (j:Int)=some j:=by
 unfold SJ;rw[zP (vO j),zP (),xV]
inductive Nv (K:a7) (vs:List V) (H:Hp) (Q:VK) (E:XK):Prop
 |mk (st c:i3) (wt:Int) (cs:List Int) (hs:FV) (rs:vS) (h0:vs=[.ref st,.ref c]) (h1:uE K H st wt) (h2:c≠st) (h3:H c=some (.lst (cs.map V.int))) (h4:Cd cs hs rs) (h5:cs.length<=900) (h6: ∀c' cs' H',kI K st wt H H'->c'≠st->H' c'=some (.lst (cs'.map V.int))->ED cs'->cs'.length<=cs.length+4->Q (.ref c') H'):Nv K vs H Q E
theorem VL (T:GB K mg)(F:qZ K "_law_bent_code" "_law_bent_code" CQ f fd)(Ca:kB P w K mg base 2 "_law_take" ["_law_state","_law_most"] (DV K))(Cq:kB P w K mg base 3 "is_code" ["thing"] Ei):vX P w K mg base 4 f fd ["_law_state","_law_code"] (Nv K):=by
 exists wC;obtain⟨st,c,wt,cs,hs,rs,rfl,D,nc,hc,cd,c9,q⟩:=h;exists _,(zB (yP 2 wC.nd (At BU rfl T.n_list Eb (zA (pv 1) zC)))
   (zB (yP 3 wC.nd (xD Es (xD vW (xD vW (xF yX rfl T.n_len jY (zA (pv 1) zC)) zH) (xD uN zH (yZ xQ (pv 1) zH (λ_ _=>rfl)))) zH))
   (zB (yP 4 wC.nd (xD jA (xD jA zH (xD uN zH (yZ xQ (pv 1) zH (λ_ _=>rfl)))) (xD uN zH (zK Ca hr rfl (zA (pv 0) (zA (pv 3) zC)) zX))))
   (zB (yP 5 wC.nd (zK Ca hr rfl (zA (pv 0) (zA zH zC)) zX))
   (zB (AI (xC (zT jD (pv 5) zH (zY _)) (zI (qH (xD jA (yZ xQ (pv 2) (xD jA (pv 4) zH) (λ_ _=>rfl)) (yZ xQ (kU (zA zH (zA (HS Ff zH) zC))) (zK Ca hr rfl (zA (pv 0) (zA zH zC)) zX) (λ_ _=>rfl))) (CS (pv 2) (xD jA (pv 4) zH) uV))) (zI (xC (zT jD (pv 5) zH (zY _)) (zI (qH (zK Ca hr rfl (zA (pv 0) (zA (pv 3) zC)) zX) (CS (pv 2) (xD jA (pv 4) zH) uV))) (zI (xC (zT jD (pv 5) zH (zY _)) (zI (qH (zK Ca hr rfl (zA (pv 0) (zA zH zC)) zX) (CS (pv 2) (pv 4) uV))) (zI (xC (zT jD (pv 5) zH (zY _)) (zB (qH zH (CS (pv 2) (pv 4) uV))
   (zI (qH (zK Ca hr rfl (zA (pv 0) (zA (pv 3) zC)) zX) (CS (pv 2) (xD jA (pv 4) zH) uV)))) (zI (xC (zT jD (pv 5) zH (zY _)) (zB (yP 6 wC.nd (xD jA zH (zK Ca hr rfl (zA (pv 0) (zA (xD uN zH (yZ xQ (pv 1) zH (λ_ _=>rfl))) zC)) zX)))
   (zI (qH (xD jA (yZ xQ (pv 2) (pv 6) (λ_ _=>rfl)) (yZ xQ (kU (zA zH (zA (HS Ff zH) zC))) (zK Ca hr rfl (zA (pv 0) (zA zH zC)) zX) (λ_ _=>rfl))) (CS (pv 2) (pv 6) uV)))) (zI (yP 2 wC.nd (xD CT (pv 2) (yZ xQ (kU (zA (kU (wE (.int (.int .nil)))) (zA (kU (zA zH (zA (zK Ca hr rfl (zA (pv 0) (zA (pv 3) zC)) zX) zC))) zC))) (zK Ca hr rfl (zA (pv 0) (zA zH zC)) zX) (λ_ _=>rfl)))))))))))))))
   (zB (xC (kT (zK Cq hr rfl (zA (pv 2) zC) zX)) (zI (zV (pv 2))) yD)
   (zI (zV (pv 1)))))))))
 have a0:Gv (cs.map V.int) 0=some (.int (hs.length:Int)):=kG (j:=0) (by rw[yJ,cd.c0];rfl);have h16:=cd.h1;have cl:=cd.cl;have r0:=cd.r0;have lc:(cs.map V.int).length =cs.length:=zM ..;have h1:1<=hs.length:=by
  obtain⟨n,ms,e,n1,_⟩:=cd.co.big;have:=cd.c0;rw[e]at this;have:some n=some (hs.length:Int):=this;injection this with this
  lia
 refine#[-1,c,-1,.inl (kF.of hc),λl hl=>?_];have D1:=D.new hl (.lst (cs.map V.int));have nl:l≠st:=Ne.symm (D.ne hl);have e1:upd H l (.lst (cs.map V.int)) l=some (.lst (cs.map V.int)):=zE;generalize upd H l (.lst (cs.map V.int))=H1 at *
 have hc1:=D1.keep _ _ nc hc;refine#[-1,c,-1,.inl (kF.of hc1),_,-1,rfl,-1,c,_,_,-1,rfl,kF.of hc1,a0,_,-1,rfl,.inl #[by decide,by decide],_,-1,rfl,_,-1,rfl,Yk (by decide) (by decide),?_];have em:(((cs.map V.int).length:Int)-1-3*(hs.length:Int)) / 2=(rs.length:Int):=by rw[lc];lia
 dsimp only;rw[em];refine#[-1,c,_,_,-1,rfl,kF.of hc1,a0,_,-1,rfl,.inl #[by decide,by decide],_,-1,rfl,-2,st,_,-1,(),(),D1.draw,λr H2 r0' r1' D2=>#[_,-1,rfl,.inl #[by decide,by decide],_,-1,rfl,?_]];obtain⟨j,ej,hj⟩: ∃j:Nat,1+3*(hs.length:Int)+2*r=(j:Int)/\j+1<cs.length:=#[1+3*hs.length+2*r.toNat,(),()];rw[ej];refine#[-1,st,6,-1,by decide,by decide,D2.draw,λw6 H3 w0 w1 D3=>?_];have D3:=D1.trans (D2.trans D3);have ix: ∀{i:Nat} {k:Int},i<cs.length->k=(i:Int)->Gv (cs.map V.int) k=some (.int (cs.getD i 0)):=λh hk=>by rw[hk];exact kG (by rw[yJ,MQ h];rfl)
 have fl:H l=none:=hl;have put: ∀{G:Hp} {ms:a6 Int} (i:Nat) (x:Int),kI K st wt H G->G l=some (.lst (ms.map V.int))->kI K st wt H (upd G l (.lst ((ms.map V.int).set i (.int x))))/\upd G l (.lst ((ms.map V.int).set i (.int x))) l=some (.lst ((ms.set i x).map V.int)):=λi x d e=>#[#[d.draw.put e nl,d.keep.fresh fl],by rw[zE,List.map_set]];have e3:H3 l=some (.lst (cs.map V.int)):=by
  obtain⟨x,y⟩:=D2;exact(‹kI K st wt H2 H3›).keep _ _ nl (y _ _ nl e1)
 refine#[λU' H'=> ∃(l:i3) (ms:a6 Int) (v6:i4 V),U'=[some (.ref st),some (.ref c),some (.ref l),some (.int (rs.length:Int)),some (.int (j:Int)),some (.int w6),v6]/\kI K st wt H H'/\l≠st/\H' l=some (.lst (ms.map V.int))/\ms.length<=cs.length+2,?_,?_]
 ·refine nxg λNN NB NC hN=>?_;have fin: ∀{G:Hp} {ms:a6 Int} {v6:i4 V},kI K st wt H G->G l=some (.lst (ms.map V.int))->ms.length<=cs.length+2->NN [some (.ref st),some (.ref c),some (.ref l),some (.int (rs.length:Int)),some (.int (j:Int)),some (.int w6),v6] G:=λd e h=>hN _ _ #[l,_,-1,d,nl,e,h];have ls: ∀i x,(cs.set i x).length =cs.length:=λi x=>Bx ..;have lk: ∀{ms:a6 Int} {i:Nat},i<ms.length-> ∀{k:Int},k=(i:Int)->SJ (ms.map V.int).length k=some i:=λh k e=>by rw[e,zM];exact SH h
  refine#[-1,rfl,-1,jB (λc0=>?_) (λc0=>?_)]
  ·refine#[-2,_,-1,rfl,l,_,_,-1,rfl,kF.of e3,ix hj rfl,-1,sm2,λo ho=>?_];have D4:=D3.draw.new ho (.lst ([(1:Int),-1].map V.int));refine#[-1,st,2,-1,by decide,by decide,D4.draw,λx H5 x0 x1 D5=>?_];obtain⟨y,_,hy⟩:=Gu (ns:=[(1:Int),-1]) x0 x1;have e5:=(D4.trans D5).keep _ _ nl e3;refine#[o,_,_,-1,rfl,.of (D5.keep _ _ (Ne.symm (D3.draw.ne ho)) zE),hy,_,-1,rfl,-2,_,-1,rfl,l,_,_,j+1,rfl,rfl,e5,lk hj rfl,?_];obtain⟨d,e⟩:=put (j+1) (cs.getD (j+1) 0+y) (D3.trans (D4.trans D5)) e5;exact fin d e (by rw[ls];lia)
  refine#[-1,rfl,-1,jB (λc1=>?_) (λc1=>?_)]
  ·refine#[-2,st,_,-1,(),(),D3.draw,λx H5 x0 x1 D5=>?_];have e5:=D5.keep _ _ nl e3;obtain⟨d,e⟩:=put (j+1) x (D3.trans D5) e5;exact#[-2,_,-1,rfl,l,_,_,j+1,rfl,rfl,e5,lk hj rfl,fin d e (by rw[ls];lia)]
  refine#[-1,rfl,-1,jB (λc2=>?_) (λc2=>?_)]
  ·refine#[-1,st,12,-1,by decide,by decide,D3.draw,λx H5 x0 x1 D5=>?_];have e5:=D5.keep _ _ nl e3;obtain⟨d,e⟩:=put j x (D3.trans D5) e5;exact#[-2,l,_,_,j,rfl,rfl,e5,lk (by clear ej cl;lia) rfl,fin d e (by rw[ls];lia)]
  refine#[-1,rfl,-1,jB (λc3=>?_) (λc3=>?_)]
  ·obtain⟨d,e⟩:=put j 4 D3 e3;refine#[-2,l,_,_,j,rfl,rfl,e3,lk () rfl,?_];generalize upd H3 l (.lst ((cs.map V.int).set j (.int 4)))=H4 at *
   refine#[-2,st,_,-1,(),(),d.draw,λx H5 x0 x1 D5=>?_];have e5:=D5.keep _ _ nl e;obtain⟨d',e'⟩:=put (j+1) x (d.trans D5) e5;exact#[-2,_,-1,rfl,l,_,_,j+1,rfl,rfl,e5,lk (by rw[ls];omega) rfl,fin d' e' (by rw[Bx,ls];lia)]
  refine#[-1,rfl,-1,jB (λc4=>?_) (λc4=>?_)]
  ·have hc3:=D3.keep _ _ nc hc;refine#[-2,c,_,_,-1,rfl,kF.of hc3,a0,_,-1,rfl,.inl #[by decide,by decide],st,_,-1,(),(),D3.draw,λx H5 x0 x1 D5=>#[_,-1,rfl,?_]];obtain⟨i,ei,hi⟩: ∃i:Nat,1+x=(i:Int)/\i<cs.length:=#[1+x.toNat,(),()];rw[ei];have e5:=D5.keep _ _ nl e3;have D5:=D3.trans D5;refine#[-2,l,_,_,-1,rfl,kF.of e5,ix hi rfl,-1,sm2,λo ho=>?_];have D6:=D5.draw.new ho (.lst ([(1:Int),-1].map V.int));refine#[-1,st,2,-1,by decide,by decide,D6.draw,λx H7 x0 x1 D7=>?_];obtain⟨y,_,hy⟩:=Gu (ns:=[(1:Int),-1]) x0 x1;have e7:=(D6.trans D7).keep _ _ nl e5;refine#[o,_,_,-1,rfl,.of (D7.keep _ _ (Ne.symm (D5.draw.ne ho)) zE),hy,_,-1,rfl,-2,l,_,_,i,rfl,rfl,e7,lk hi rfl,?_];obtain⟨d,e⟩:=put i (cs.getD i 0+y) (D5.trans (D6.trans D7)) e7;exact fin d e (by rw[ls];lia)
  ·refine#[-1,sm2,λo1 h1=>#[-2,st,_,-1,(),(),(D3.draw.new h1 _).draw,λx H5 x0 x1 D5=>#[sm2,λo2 h2=>#[sm2,λo3 h3=>?_]]]];have E1:=D3.draw.new h1 (.lst ([(7:Int),0].map V.int));have n1:o1≠st:=Ne.symm (D3.draw.ne h1);have n2:o2≠st:=Ne.symm (D5.draw.ne h2);have E2:=D5.draw.new h2 (.lst ([4,x].map V.int));have n3:o3≠st:=Ne.symm (E2.draw.ne h3);have E3:=E2.draw.new h3 (.lst [.ref o1,.ref o2]);have f1:=E3.keep _ _ n1 (E2.keep _ _ n1 (D5.keep _ _ n1 (zE (H:=H3) (a:=o1) (o:=.lst ([(7:Int),0].map V.int)))));have f2:=E3.keep _ _ n2 (zE (H:=H5) (a:=o2) (o:=.lst ([4,x].map V.int)));have D8:=D3.trans (E1.trans (D5.trans (E2.trans E3)));have f3:upd (upd H5 o2 (.lst ([4,x].map V.int))) o3 (.lst [.ref o1,.ref o2]) o3=some (.lst [.ref o1,.ref o2]):=zE;have f0:=E3.keep _ _ nl (E2.keep _ _ nl (D5.keep _ _ nl (E1.keep _ _ nl e3)));change Sc _ _ _ _ _ (upd (upd H5 o2 (.lst ([4,x].map V.int))) o3 (.lst [.ref o1,.ref o2])) _;generalize upd (upd H5 o2 (.lst ([4,x].map V.int))) o3 (.lst [.ref o1,.ref o2])=H8 at *
   refine#[-1,st,2,-1,by decide,by decide,D8.draw,λy H9 y0 y1 D9=>?_];have cat: ∀(o:i3) (ms:a6 Int),H8 o=some (.lst (ms.map V.int))->o≠st->ms.length=2->ZC (.ref l) (.ref o) H9 λv H'=>NN [some (.ref st),some (.ref c),some v,some (.int (rs.length:Int)),some (.int (j:Int)),some (.int w6),none] H':=λo ms e no lm=>by
    refine#[l,o,_,-1,rfl,D9.keep _ _ nl f0,D9.keep _ _ no e,small (by rw[zM,zM];(clear cl;lia)),λp hp=>hN _ _ #[p,cs++ms,-1,D8.trans (D9.trans (D9.draw.new hp _)),Ne.symm (D9.draw.ne hp),by rw[zE,xN],by rw[zG];lia]]
   rcases(by lia:y=0\/y=1)with rfl|rfl
   ·exact#[o3,_,_,-1,rfl,.of (D9.keep _ _ n3 f3),rfl,cat o1 [7,0] f1 n1 rfl]
   ·exact#[o3,_,_,-1,rfl,.of (D9.keep _ _ n3 f3),rfl,cat o2 [4,x] f2 n2 rfl]
 rintro _ H4 ⟨l',ms,v6,rfl,D4,nl',e4,lm⟩;refine#[-1,l',ms,rfl,e4,(by clear cl;lia),λb H5 s5 hb=>#[-1,jB (λcb=>?_) (λcb=>?_)]]
 ·exact#[-1,q l' ms H5 (D4.trans (D4.draw.more s5)) nl' (s5 _ _ e4) (hb.mp cb) (by clear cl;lia)]
 ·exact#[-1,q c cs H5 (D4.trans (D4.draw.more s5)) nc (s5 _ _ (D4.keep _ _ nc hc)) cd.co ()]
def Nf (H:Hp)(a:i3)(ms:FV):Prop:= ∃rv,H a=some (.lst rv)/\Paired (Kk H) rv ms
theorem AX (s:qE H H')(p:Paired (Kk H) rv ms):Paired (Kk H') rv ms:=Paired.imp (λ_ _ ⟨t,e1,e2⟩=>#[t,e1,s _ _ e2]) p
theorem Nf.same (h:Nf H a ms)(s:xK H H'):Nf H' a ms:=by
 obtain⟨rv,e,p⟩:=h;exact#[rv,s _ _ e,AX (qE.same s) p]
theorem Nf.keep (d:uE K H st wt)(D:kI K st w' H H')(n:a≠st)(h:Nf H a ms):Nf H' a ms:=by
 obtain⟨rv,e,p⟩:=h;exact#[rv,D.keep _ _ n e,AX (D.tups d) p]
theorem Paired.dropN {α β:Type}{F:α->β->Prop}{xs:a6 α}{ys:a6 β}(n:Nat)(h:Paired F xs ys):Paired F (xs.drop n) (ys.drop n):=by
 induction h generalizing n with
 |nil=>simp;exact .nil
 |cons r t ih=>
  cases n with
  |zero=>exact .cons r t
  |succ n=>exact ih n
inductive Nu (K:a7) (vs:List V) (H:Hp) (Q:VK) (E:XK):Prop
 |mk (st r pa:i3) (wt:Int) (rs:vS) (ls:FV) (h0:vs=[.ref st,.ref r,.ref pa]) (h1:uE K H st wt) (h2:r≠st) (h3:pa≠st) (h4:qS H r (Jo rs)) (h5:OB rs) (h6:rs.length<=1000) (h7:0<rs.length) (h8:Nf H pa ls) (h9:0<ls.length) (h10:ls.length<=900) (h11: ∀p' ls' H',kI K st wt H H'->p'≠st->Nf H' p' ls'->ls'.length<=ls.length+1->(∀l∈ls',∃l0∈ls,l.1=l0.1)->Q (.ref p') H'):Nu K vs H Q E
theorem VJ (T:GB K mg)(F:qZ K "_law_bent_paper" "_law_bent_paper" BL f fd)(Ca:kB P w K mg base 2 "_law_take" ["_law_state","_law_most"] (DV K))(Cb:kB P w K mg base 1 "_law_goal" ["_law_rows_here","_law_at"] AG):vX P w K mg base 3 f fd ["_law_state","_law_rows_here","_law_paper"] (Nu K):=by
 exists jX;obtain⟨st,r,pa,wt,rs,ls,rfl,D,nr,np,⟨rr,er,pr⟩,jo,r1,r0,⟨rv,e,p⟩,l0,l9,q⟩:=h;exists _,(zB (yP 3 jX.nd (zK Ca hr rfl (zA (pv 0) (zA (xF yX rfl T.n_len jY (zA (pv 2) zC)) zC)) zX))
   (zB (qH (yZ xQ (pv 2) (pv 3) (λ_ _=>rfl)) (kZ rfl (yE (yA 4 jX.nd) (yE (yA 5 jX.nd) (yE (yA 6 jX.nd) jJ)))))
   (zB (yP 7 jX.nd (zK Ca hr rfl (zA (pv 0) (zA zH zC)) zX))
   (zB (yP 8 jX.nd (yZ xQ (kU (zA zH (zA (HS Ff zH) zC))) (zK Ca hr rfl (zA (pv 0) (zA zH zC)) zX) (λ_ _=>rfl)))
   (zB (yP 9 jX.nd (zK Ca hr rfl (zA (pv 0) (zA (xF yX rfl T.n_len jY (zA (pv 1) zC)) zC)) zX))
   (zB (AI (yP 10 jX.nd (yZ xQ (kU (zA (xM (zA (pv 4) (zA (xD jA (pv 5) (pv 8)) (zA (pv 6) zC)))) (zA (xM (zA (pv 4) (zA (pv 5) (zA (xD jA (pv 6) (pv 8)) zC)))) (zA (xM (zA (pv 4) (zA (pv 9) (zA (pv 6) zC)))) (zA (xM (zA (pv 4) (zA (pv 5) (zA (pv 9) zC)))) zC))))) (xD Hi (pv 7) zH) (λ_ _=>rfl))))
   (zB (xC (zT jD (pv 7) zH (zY _)) (zI (zV (xD CT (qW Br (pv 2) vQ (wH (pv 3))) (qW Br (pv 2) (wH (xD jA (pv 3) zH)) vQ)))) yD)
   (zB (xC (zT jD (pv 7) zH (zY _)) (zI (zV (xD CT (qW Br (pv 2) (wH (pv 3)) vQ) (qW Br (pv 2) vQ (wH (xD jA (pv 3) (zK Ca hr rfl (zA (pv 0) (zA zH zC)) zX))))))) yD)
   (zB (AI (xC (zT jD (pv 7) zH (zY _)) (zI (yP 10 jX.nd (xM (zA (pv 4) (zA (xF (HM rfl) rfl T.n_max Os (zA zH (zA (zK Cb hr rfl (zA (pv 1) (zA (pv 5) zC)) zX) zC))) (zA (xF (HM rfl) rfl T.n_max Os (zA zH (zA (zK Cb hr rfl (zA (pv 1) (zA (pv 6) zC)) zX) zC))) zC)))))) yD))
   (zI (zV (xD CT (xD CT (qW Br (pv 2) vQ (wH (pv 3))) (kU (zA (pv 10) zC))) (qW Br (pv 2) (wH (xD jA (pv 3) zH)) vQ)))))))))))))
 have lp:=Paired.len p;have lr:rr.length=rs.length:=(Paired.len pr).trans (zM ..);refine#[-2,pa,-1,.inl (kF.of e),st,_,-1,(),(),D,λk H1 k0 k1 D1=>?_];obtain⟨k,rfl⟩: ∃n:Nat,k=n:=#[k.toNat,()];have hk:k<rv.length:=()
 obtain⟨l,hl,t,et,ett⟩:=Paired.yonder p (zF hk);have ml:l∈ls:=xP hl;have ea:Gv rv (k:Int)=some (.ref t):=kG (by rw[zF hk,et]);have ett1:=D1.tups D _ _ ett;refine#[-2,pa,_,_,-1,rfl,kF.of (D1.keep _ _ np e),ea,t,-1,.of ett1,rfl,_,-1,_,-1,_,-1,rfl,?_];refine#[-1,st,7,-1,by decide,by decide,D1.draw,λwy H2 w0 w1 D2=>?_];have D2:=D1.trans D2;refine#[-1,sm2,λo ho=>?_];have D3:=D2.draw.new ho (.lst ([(1:Int),-1].map V.int));refine#[-1,st,2,-1,by decide,by decide,D3.draw,λx H4 x0 x1 D4=>?_];obtain⟨by_,_,hb⟩:=Gu (ns:=[(1:Int),-1]) x0 x1;refine#[o,_,_,-1,rfl,.of (D4.keep _ _ (Ne.symm (D2.draw.ne ho)) zE),hb,?_];have D4:=D2.trans (D3.trans D4);refine#[-2,r,-1,.inl (kF.of (D4.keep _ _ nr er)),st,_,-1,(),(),D4.draw,λg H5 g0 g1 D5=>?_];have D5:=D4.trans D5;clear D1 ett1 D2 ho D3 D4 hb;refine#[λU' H'=> ∃(tl:i3) (x y:Int),U'=[some (.ref st),some (.ref r),some (.ref pa),some (.int (k:Int)),some (.int l.1),some (.int l.2.1),some (.int l.2.2),some (.int wy),some (.int by_),some (.int g),some (.ref tl)]/\kI K st wt H H'/\H' tl=some (.tup [.int l.1,.int x,.int y]),?_,?_]
 ·refine#[-3,_,-1,rfl,-1,sm3,λt1 h1=>#[-4,_,-1,rfl,sm3,λt2 h2=>#[-3,sm3,λt3 h3=>#[-3,sm3,λt4 h4=>#[sm4,λo ho=>?_]]]]];have s1:=zN h1 (.tup [.int l.1,.int (l.2.1+by_),.int l.2.2]);have s2:=zN h2 (.tup [.int l.1,.int l.2.1,.int (l.2.2+by_)]);have s3:=zN h3 (.tup [.int l.1,.int g,.int l.2.2]);have s4:=zN h4 (.tup [.int l.1,.int l.2.1,.int g]);have s5:=zN ho (.lst [.ref t1,.ref t2,.ref t3,.ref t4]);have D6:=D5.trans (D5.draw.more (s1.trans (s2.trans (s3.trans (s4.trans s5)))));have b3:wy % 4=0\/wy % 4=1\/wy % 4=2\/wy % 4=3:=(by clear w1 w0;lia)
  rcases b3 with c|c|c|c
  ·exact#[-1,_,-1,rfl,(by decide:(0:Int)<4),o,_,_,.ref t1,rfl,rfl,.of zE,by rw[c];rfl,t1,_,-1,D6,s5 _ _ (s4 _ _ (s3 _ _ (s2 _ _ zE)))]
  ·exact#[-1,_,-1,rfl,(by decide:(0:Int)<4),o,_,_,.ref t2,rfl,rfl,.of zE,by rw[c];rfl,t2,_,-1,D6,s5 _ _ (s4 _ _ (s3 _ _ zE))]
  ·exact#[-1,_,-1,rfl,(by decide:(0:Int)<4),o,_,_,.ref t3,rfl,rfl,.of zE,by rw[c];rfl,t3,_,-1,D6,s5 _ _ (s4 _ _ zE)]
  ·exact#[-1,_,-1,rfl,(by decide:(0:Int)<4),o,_,_,.ref t4,rfl,rfl,.of zE,by rw[c];rfl,t4,_,-1,D6,s5 _ _ zE]
 rintro _ H6 ⟨tl,x6,y6,rfl,D6,etl⟩;clear D5;have e6:=D6.keep _ _ np e;have p6:Paired (Kk H6) rv ls:=AX (D6.tups D) p;have c1:Bg rv none (some (k:Int))=rv.take k:=FG k;have c2:Bg rv (some ((k:Int)+1)) none=rv.drop (k+1):=AZ (k+1);have c3:Bg rv (some (k:Int)) none=rv.drop k:=AZ k;have mem: ∀{ls':FV},(∀l∈ls',l∈ls)-> ∀l∈ls',∃l0∈ls,l.1=l0.1:=λh l m=>#[l,h l m,rfl];refine#[-1,rfl,-1,jB (λ_=>?_) (λ_=>?_)]
 ·refine#[-3,pa,-1,kF.of e6,λp1 h1=>?_];rw[c1];have s1:=zN h1 (.lst (rv.take k));refine#[-2,_,-1,rfl,-1,pa,-1,kF.of (s1 _ _ e6),λp2 h2=>?_];rw[c2];have s2:=s1.trans (zN h2 (.lst (rv.drop (k+1))));refine#[p1,p2,_,-1,rfl,zN h2 _ _ _ zE,zE,small (by rw[yW,jI];lia),λp3 h3=>?_];have s3:=s2.trans (zN h3 (.lst (rv.take k++rv.drop (k+1))));refine q p3 (ls.take k++ls.drop (k+1)) _ (D6.trans (D6.draw.more s3)) (Ne.symm ((D6.draw.same s2).ne h3)) #[_,zE,AX (qE.same s3) (Paired.append (Paired.take k p6) (Paired.dropN (k+1) p6))] (by rw[zG,yW,jI];lia) (mem λl m=>?_)
  rcases List.mem_append.mp m with m|m
  ·exact uJ m
  ·exact DB m
 refine#[-1,rfl,-1,jB (λ_=>?_) (λ_=>?_)]
 ·refine#[-3,pa,-1,kF.of e6,λp1 h1=>?_];rw[c3];have s1:=zN h1 (.lst (rv.drop k));have D7:=D6.draw.more s1;have n1:p1≠st:=Ne.symm (D6.draw.ne h1);have f1:upd H6 p1 (.lst (rv.drop k)) p1=some (.lst (rv.drop k)):=zE;generalize upd H6 p1 (.lst (rv.drop k))=H7 at *
  refine#[-3,st,2,-1,by decide,by decide,D7.draw,λx H8 x0 x1 D8=>#[_,-1,rfl,-1,pa,-1,kF.of (D8.keep _ _ np (s1 _ _ e6)),λp2 h2=>?_]];obtain⟨n,en,hn⟩: ∃n:Nat,(k:Int)+x=n/\n<=k+1:=#[k+x.toNat,(),()];have c4:Bg rv none (some ((k:Int)+x))=rv.take n:=by rw[en];exact FG n
  rw[c4];have s2:=zN h2 (.lst (rv.take n));refine#[p1,p2,_,-1,rfl,s2 _ _ (D8.keep _ _ n1 f1),zE,small (by rw[yW,jI];(clear en;lia)),λp3 h3=>?_];have s3:=s2.trans (zN h3 (.lst (rv.drop k++rv.take n)));have D9:=D7.trans (D8.trans (D8.draw.more s3));refine q p3 (ls.drop k++ls.take n) _ (D6.trans D9) (Ne.symm ((D8.draw.same s2).ne h3)) #[_,zE,AX (D9.tups D6.draw) (Paired.append (Paired.dropN k p6) (Paired.take n p6))] (by rw[zG,yW,jI];(clear en;lia)) (mem λl m=>?_)
  rcases List.mem_append.mp m with m|m
  ·exact DB m
  ·exact uJ m
 refine#[λU' H'=> ∃(tl:i3) (x y:Int),U'=[some (.ref st),some (.ref r),some (.ref pa),some (.int (k:Int)),some (.int l.1),some (.int l.2.1),some (.int l.2.2),some (.int wy),some (.int by_),some (.int g),some (.ref tl)]/\xK H6 H'/\H' tl=some (.tup [.int l.1,.int x,.int y]),?_,?_]
 ·have g6:qS H6 r (Jo rs):=#[rr,D6.keep _ _ nr er,Paired.imp (λ_ _ ⟨t,a,b⟩=>#[t,a,D6.tups D _ _ b]) pr];refine#[-1,rfl,-1,jB (λ_=>?_) (λ_=>#[tl,x6,y6,rfl,xK.refl _,etl])];exact#[-3,r,rs,-1,g6,jo,r1,_,-3,r,rs,-1,g6,jo,r1,_,-1,sm3,λt9 h9=>#[t9,_,-1,zN h9 _,zE]]
 rintro _ H7 ⟨tl',x7,y7,rfl,s7,etl'⟩;refine#[-3,pa,-1,kF.of (s7 _ _ e6),λp1 h1=>?_];rw[c1];have s1:=s7.trans (zN h1 (.lst (rv.take k)));refine#[-1,sm1,λp2 h2=>?_];have s2:=s1.trans (zN h2 (.lst [.ref tl']));refine#[p1,p2,_,-1,rfl,zN h2 _ _ _ zE,zE,small (by rw[yW];show _+1<=_;lia),λp3 h3=>?_];have s3:=s2.trans (zN h3 (.lst (rv.take k++[.ref tl'])));refine#[-2,_,-1,rfl,-1,pa,-1,kF.of (s3 _ _ e6),λp4 h4=>?_];rw[c2];have s4:=s3.trans (zN h4 (.lst (rv.drop (k+1))));refine#[p3,p4,_,-1,rfl,zN h4 _ _ _ zE,zE,small (by rw[zG,yW,jI];show _+1+_<=_;lia),λp5 h5=>?_];have s5:=s4.trans (zN h5 (.lst (rv.take k++[.ref tl']++rv.drop (k+1))));have ts:Kk H7 (.ref tl') (l.1,x7,y7):=#[tl',rfl,etl'];have s75:=(zN h1 (.lst (rv.take k))).trans ((zN h2 (.lst [.ref tl'])).trans ((zN h3 (.lst (rv.take k++[.ref tl']))).trans ((zN h4 (.lst (rv.drop (k+1)))).trans (zN h5 (.lst (rv.take k++[.ref tl']++rv.drop (k+1)))))));have p7:=AX (qE.same s7) p6;refine q p5 (ls.take k++[(l.1,x7,y7)]++ls.drop (k+1)) _ (D6.trans (D6.draw.more s5)) (Ne.symm ((D6.draw.same s4).ne h5)) #[_,zE,AX (qE.same s75) (Paired.append (Paired.append (Paired.take k p7) (.cons ts .nil)) (Paired.dropN (k+1) p7))] (by rw[zG,zG,yW,jI];show _+1+_<=_;lia) λl' m=>?_
 rcases List.mem_append.mp m with m|m
 ·rcases List.mem_append.mp m with m|m
  ·exact#[l',uJ m,rfl]
  ·rw[List.mem_singleton.mp m];exact#[l,ml,rfl]
 ·exact#[l',DB m,rfl]
structure zAr (K:a7)(mg:Str->Option a9):Prop extends GB K mg where
 n_min:mg "min"=none
 kbb:PySem.W.kitOne K (.type "bool") (.type "bool")=some true
theorem NT {α β:Type}{F:α->β->Prop}{xs:a6 α}{ys:a6 β}(h:Paired F xs ys): ∀k,Paired F (xs.eraseIdx k) (ys.eraseIdx k):=by
 induction h with
 |nil=>exact λk=>.nil
 |cons r t ih=>
  intro k;cases k with
  |zero=>exact t
  |succ k=>exact .cons r (ih k)
theorem Od: ∀(xs ys:a6 Nd),BG (xs++ys)=BG xs+BG ys
 |[],ys=>(Ec _).symm
 |a::r,ys=>by
  show FT a+BG (r++ys)=FT a+BG r+BG ys;rw[Od r ys];lia
theorem MD: ∀{xs:a6 Nd} {k:Nat} {x:Nd},xs[k]? =some x->BG (xs.eraseIdx k)+FT x=BG xs
 |[],k,x,e=>by simp at e
 |a::r,0,x,e=>by cases e;show BG r+FT a=FT a+BG r;lia
 |a::r,k+1,x,e=>by
  have:=MD (xs:=r) (k:=k) (x:=x) (by simpa using e);show FT a+BG (r.eraseIdx k)+FT x=FT a+BG r;lia
theorem XS (h:Uq 10 (.mk k p own ps)): ∀x∈ps,Uq 10 x:=λx m=>by
 obtain⟨⟨hs,bx,ft⟩,sm⟩:=h;have ft:vU hs bx 10 (.mk k own (zU ps)):=ft;have sm:Mj 10 (.mk k own (zU ps)):=sm;have mb:bare x∈zU ps:=JR m;unfold vU at ft;unfold Mj at sm;exact#[#[hs,bx,JP _ _ (Jf ft.2.2.2.2.2 mb)],(sm.2.2.1 _ mb).more]
inductive Ni (K:a7) (vs:List V) (H:Hp) (Q:VK) (E:XK):Prop
 |mk (st tl c pa:i3) (wt:Int) (r:DJ×List Nd) (cs:List Int) (hs:FV) (rs:vS) (ls:FV) (h0:vs=[.ref st,.ref tl,.ref c,.ref pa]) (h1:uE K H st wt) (h2:tl≠st) (h3:c≠st) (h4:pa≠st) (h5:Jm H tl r) (h6:(∀nd∈r.2,Uq 10 nd)) (h7:BG r.2<=50) (h8:r.1.length=r.2.length) (h9:H c=some (.lst (cs.map V.int))) (h10:Cd cs hs rs) (h11:cs.length<=900) (h12:Nf H pa ls) (h13:ls.length<=1000) (h14: ∀c' cs' H',kI K st wt H H'->c'≠st->H' c'=some (.lst (cs'.map V.int))->ED cs'->cs'.length<=cs.length+4->Q (.ref c') H'):Ni K vs H Q E
inductive VyI (K:a7)(st tl c pa:i3)(wt:Int)(H:Hp)(m:Nat)(U':St)(H':Hp):Prop
 |mk (so:i3) (us:a6 V) (ns:a6 Nd) (v5 v6 v7 v8 v9 v10:i4 V) (h0:U'=[some (.ref st),some (.ref tl),some (.ref c),some (.ref pa),some (.ref so),v5,v6,v7,v8,v9,v10]) (h1:kI K st wt H H') (h2:H so=none) (h3:so≠st) (h4:H' so=some (.lst us)) (h5:Paired (jK H' 10) us ns) (h6:(∀x∈ns,Uq 10 x)) (h7:m=BG ns) (h8:BG ns<=50):VyI K st tl c pa wt H m U' H'
inductive VyJ (st tl c pa so tn u:i3)(o:V)(U':St):Prop
 |mk (v8 v9 v10:i4 V) (h:U'=[some (.ref st),some (.ref tl),some (.ref c),some (.ref pa),some (.ref so),some (.ref tn),some (.ref u),some o,v8,v9,v10]):VyJ st tl c pa so tn u o U'
inductive VyK (H:Hp)(u:i3)(l:a6 Nd)(i:Nat)(U':St)(H':Hp):Prop
 |mk (h0:xK H H') (h1:(∃a b c,U'=[a,b,c])) (us:_) (h2:H' u=some (.lst us)) (h3:Paired (jK H' 10) us (l.take i)):VyK H u l i U' H'
inductive VyL (H5:Hp)(tn u:i3)(i:Nat)(U':St)(H':Hp):Prop
 |mk (h0:xK H5 H') (h1:(∃a,U'=[a,some (.ref tn)])) (zs ss:_) (h2:H' u=some (.lst zs)) (h3:zs.length<=i) (h4:Paired (Kk H') zs ss):VyL H5 tn u i U' H'
theorem Vy (T:zAr K mg)(F:qZ K "_law_pushed" "_law_pushed" Bl f fd)(Ca:kB P w K mg base 2 "_law_take" ["_law_state","_law_most"] (DV K))(Cn:kB P w K mg base (1+10) "_law_worth" ["_law_node_here"] (BH 10))(Cq:kB P w K mg base 3 "is_code" ["thing"] Ei):vX P w K mg base 12 f fd ["_law_state","_law_told","_law_code","_law_paper"] (Ni K):=by
 exists wA;obtain⟨st,tl,c,pa,wt,r,cs,hs,rs,ls,rfl,D,nt,nc,np,⟨vp,epf,lnf,pf⟩,nk,nz,hr2,hc,cd,c9,lps,l1,q⟩:=h;exists _,(zB (Gh (i:=4) wA.nd rfl rfl (own:=["_law_params","_law_boxes","_law_body"]) (ys:=[]) rfl (Ae (pv 1)) (wU (sc:=zW Bl) rfl (by decide+kernel)) .nil (λ_ _ _ _ _=>(Kr (n:=3) K rfl rfl (yE (yA 0 (show List.Nodup [("_law_params":Str),("_law_boxes":Str),("_law_body":Str)]from(by decide+kernel))) (yE (yA 1 (show List.Nodup [("_law_params":Str),("_law_boxes":Str),("_law_body":Str)]from(by decide+kernel))) (yE (yA 2 (show List.Nodup [("_law_params":Str),("_law_boxes":Str),("_law_body":Str)]from(by decide+kernel))) jJ))))) (λ_ _ _ _ _=>AT) (λ_ _ _ _ _=>(pv 2)))
   (zB (Pa xE (zT (Li hr) (pv 4) (kU zC) (zY _)) (zB (yP 5 wA.nd (uQ yF PySem.F.slot_list_pop PySem.F.type_list_pop VS (pv 4) (zA (zK Ca hr rfl (zA (pv 0) (zA (xF yX rfl T.n_len jY (zA (pv 4) zC)) zC)) zX) zC)) rfl (Or.inr rfl))
   (zB (Gh (i:=6) wA.nd rfl rfl (own:=["_law_line"]) (ys:=["_law_node_here"]) rfl (Ae (pv 3)) (wU (sc:=zW Bl) rfl (by decide+kernel)) (.cons (j:=5) rfl .nil) (λ_ _ _ _ _=>(yA 0 (show List.Nodup [("_law_line":Str),("_law_node_here":Str)]from(by decide+kernel)))) (λ_ _ _ _ _=>Xt (zT jD (yZ (HK K rfl) (pv 0) zH (λ_ _=>rfl)) (yZ (HK K rfl) (pv 1) zH (λ_ _=>rfl)) (zY _))) (λ_ _ _ _ _=>(pv 0)))
   (zB (yP 7 wA.nd (zK Cn hr rfl (zA (pv 5) zC) zX))
   (zB (AI (xC (PW.pt (Ep (zT Gz (yZ xL (pv 5) zH (λ_ _=>rfl)) zH (zY _)) (Ep (zT HG (pv 7) qL (zY _)) (Ep (zT (Li hr) (pv 6) (kU zC) (zY _)) (DZ (zT Gz (xD vW (yZ xL (yZ xQ (pv 6) zH (λ_ _=>rfl)) zH (λ_ _=>rfl)) (yZ xL (yZ xQ (pv 6) zH (λ_ _=>rfl)) zH (λ_ _=>rfl))) zH (zY _))))))) (zB (yP 8 wA.nd (xD jA (xD jA zH (xD uN zH (yZ xQ (pv 2) zH (λ_ _=>rfl)))) (xD uN zH (xF (HM rfl) rfl T.n_max Os (zA zH (zA (yZ xL (yZ xQ (pv 6) zH (λ_ _=>rfl)) zH (λ_ _=>rfl)) zC))))))
   (zB (yP 9 wA.nd (xD vW (xD Es (xD vW (xD vW (xF yX rfl T.n_len jY (zA (pv 2) zC)) zH) (xD uN zH (yZ xQ (pv 2) zH (λ_ _=>rfl)))) zH) zH))
   (zB (yP 10 wA.nd (xD CT (xD CT (qW Br (pv 2) vQ (wH (pv 8))) (kU (zA zH (zA (pv 7) (zA zH (zA (xF (HM rfl) rfl T.n_max Os (zA zH (zA (xF (Um rfl) rfl T.n_min zAm (zA (yZ xL (yZ xQ (pv 6) zH (λ_ _=>rfl)) zH (λ_ _=>rfl)) (zA (pv 9) zC))) zC))) zC)))))) (qW Br (pv 2) (wH (xD jA (pv 8) zH)) vQ)))
   (zI (xC (kT (zK Cq hr rfl (zA (pv 10) zC) zX)) (zI (zV (pv 10))) yD))))) yD))
   (zI (yP 4 wA.nd (xD CT (pv 4) (At BU rfl T.n_list Eb (zA (yZ xL (pv 5) zH (λ_ _=>rfl)) zC))))))))))
   (zI (zV (pv 2)))))
 have sl:sizeLine=16777216:=wG;have a0:Gv (cs.map V.int) 0=some (.int (hs.length:Int)):=kG (j:=0) (by rw[yJ,cd.c0];rfl);have lf:=Paired.len pf;have nl2:=HI r.2;have lz:(r.1.zip r.2).length =r.2.length:=by rw[jS];lia
 refine#[-1,tl,rfl,#[_,kF.of epf],λu hu=>?_];refine Ey (xs:=vp) (VyK H u r.2) #[zN hu _,#[_,_,-1],[],zE,.nil] ?_ ?_ ?_
 ·rintro i U' H' _ ⟨g,_⟩;exact kF.of (g _ _ epf)
 ·rintro i x U' H' hi hx ⟨g,⟨a',b',c',rfl⟩,us,eu,pu⟩;obtain⟨⟨hd2,nd⟩,hnd,t2,bd,rfl,et2,na⟩:=Paired.yonder pf hx;have hn2:=(List.getElem?_zip_eq_some.mp hnd).2;have tk:r.2.take (i+1)=r.2.take i++[nd]:=by rw[jO,hn2]<;>rfl
  have lu:=Paired.len pu;rw[yW]at lu;refine#[t2,-1,uZ.of (g _ _ et2),rfl,_,-1,_,-1,_,-1,rfl,?_];refine OI #[-1,us,eu,(by clear hi;lia),CW.next hi #[g.fresh hu,#[_,_,-1],us++[bd],zE,?_]];rw[tk];have tu:qE H' (upd H' u (.lst (us++[bd]))):=qE.upd eu;exact Paired.append (Paired.imp (λ_ _ z=>z.tups tu) pu) (.cons ((na.tups (qE.same g)).tups tu) .nil)
 rintro U' H1 ⟨g1,_,us,eu,pu⟩;rw[lf,lz,xZ]at pu;have nu:u≠st:=Ne.symm (D.ne hu);have D1:=D.more g1;dsimp only[AC,List.set];refine#[VyI K st tl c pa wt H,#[_,u,us,r.2,_,_,_,_,_,-1,D1,hu,nu,eu,pu,nk,rfl,nz],?_];rintro m U' H2 ⟨so,us,ns,v5,v6,v7,v8,v9,v10,rfl,D2,hso,nso,es,ps,nks,rfl,nz⟩;refine#[-1,zz0,λn0 hn0=>#[so,n0,us,rfl,rfl,.of (zN hn0 _ _ _ es),.of zE,-1,?_]];have s3:=zN hn0 (.lst []);have D3:=D2.trans (D2.draw.more s3);have es:=s3 _ _ es;have ps:=Paired.imp (λ_ _ z=>jK.tups (qE.same s3) z) ps;clear s3;generalize upd H2 n0 (.lst [])=H3 at *
 have lu:=Paired.len ps;have ln:=HI ns;cases us with
 |nil=>exact xX #[-1,q c cs H3 D3 nc (D3.keep _ _ nc hc) cd.co ()]
 |cons u0 ur=>
 refine jC #[λU'' H''=> ∃m',m'<BG ns/\VyI K st tl c pa wt H m' U'' H'',λ_ _ z=>z,?_];obtain⟨us,eus⟩: ∃us,us=u0::ur:=#[-1];have lpos:0<us.length:=by rw[eus];exact BX _
 rw[<-eus]at es ps lu;clear eus;refine#[-1,.inl #[rfl,_,.of es],-2,so,-1,.inl (kF.of es),st,_,-1,(),(),D3.draw,λi H4 i0 i1 D4=>?_];obtain⟨i,rfl⟩: ∃n:Nat,i=n:=#[i.toNat,()];have hi:i<us.length:=()
 have es4:=D4.keep _ _ nso es;obtain⟨nd,hnd,na⟩:=Paired.yonder ps (zF hi);have na4:=na.tups (D4.tups D3.draw);have nkd:=nks nd (xP hnd);refine#[so,us,_,i,us[i],rfl,rfl,es4,(),(),(Oh (SH hi)).1,zF hi,?_];have t5:qE H4 (upd H4 so (.lst (us.eraseIdx i))):=qE.upd es4;have ps5:Paired (jK (upd H4 so (.lst (us.eraseIdx i))) 10) (us.eraseIdx i) (ns.eraseIdx i):=NT (Paired.imp (λ_ _ z=>(jK.tups (D4.tups D3.draw) z).tups t5) ps) i;have D5:kI K st wt H (upd H4 so (.lst (us.eraseIdx i))):=#[D4.draw.put es4 nso,(D3.trans D4).keep.fresh hso];have es5:upd H4 so (.lst (us.eraseIdx i)) so=some (.lst (us.eraseIdx i)):=zE;have na5:=na4.tups t5;have le:=MD hnd;clear t5 na4 na es4 ps D4 D3 es D1 eu pu;dsimp only[AC,List.set];generalize upd H4 so (.lst (us.eraseIdx i))=H5 at *
 obtain⟨rv,epa,ppa⟩:=Nf.keep D D5 np lps;have hc5:=D5.keep _ _ nc hc;have lpa:=Paired.len ppa;cases nd with
 |mk k p own Hm=>
 have tr:=HH na5;obtain⟨tn,o,pq,vs,ev,etn,eo,ep,pr⟩:=na5;rw[ev];have tr:Jl H5 10 (.ref tn) (bare (.mk k p own Hm)):=ev▸tr;refine#[-1,pa,rfl,#[_,kF.of epa],λu hu=>?_];refine Ey (xs:=rv) (VyL H5 tn u) #[zN hu _,#[-1],[],[],zE,zS _,.nil] ?_ ?_ ?_
 ·rintro i U' H' _ ⟨g,_⟩;exact kF.of (g _ _ epa)
 ·rintro i x U' H' hi hx ⟨g,⟨a',rfl⟩,zs,ss,eu,lz,pz⟩;obtain⟨l,hl,t,rfl,et⟩:=Paired.yonder ppa hx;dsimp only[AC];refine#[-1,t,_,_,-1,rfl,.of (g _ _ et),rfl,-1,tn,_,_,-1,rfl,.of (g _ _ etn),rfl,rfl,-1,jB (λc=>?_) (λc=>?_)]
  ·have tu:qE H' (upd H' u (.lst (zs++[.ref t]))):=qE.upd eu;exact#[-1,zs,eu,(),CW.next hi #[g.fresh hu,#[-1],zs++[.ref t],ss++[l],zE,by rw[zG];exact uY lz,Paired.append (AX tu pz) (.cons #[t,rfl,tu _ _ (g _ _ et)] .nil)]]
  ·exact CW.next hi #[g,#[-1],zs,ss,eu,(),pz]
 rintro U' H6 ⟨s6,_,zs,ss,eu,_,pz⟩;have D6:=D5.draw.more s6;dsimp only[AC,List.set];refine#[-1,_,bare (.mk k p own Hm),rfl,tr.tups (qE.same s6),nkd.2,λH7 g7=>?_];have s7:=s6.trans g7;have D7:=D5.trans (D5.draw.more s7);have eu7:=g7 _ _ eu;have pz7:=AX (qE.same g7) pz;have etn7:=s7 _ _ etn;have hc7:=s7 _ _ hc5;generalize hov:kP (bare (.mk k p own Hm))=ov;refine#[λU' H'=>xK H7 H'/\ VyJ st tl c pa so tn u (oZ ov) U',?_,?_]
 ·refine nxg λNN NB NC hN=>?_;have rest: ∀{H':Hp} {v8 v9 v10:i4 V},xK H7 H'->NN [some (.ref st),some (.ref tl),some (.ref c),some (.ref pa),some (.ref so),some (.ref tn),some (.ref u),some (oZ ov),v8,v9,v10] H':=λs=>hN _ _ #[s,_,_,-1];refine#[-1,tn,_,_,-1,rfl,.of etn7,rfl,_,-1,rfl,-1,jB (λ_=>?_) (λ_=>xX (rest (xK.refl _)))];cases ov with
  |none=>exact#[-1,rfl,-1,xX (xX (rest (xK.refl _)))]
  |some vn=>
  refine#[-1,rfl,-1,jC #[-1,zz0,λn0 hn0=>#[u,n0,zs,rfl,rfl,.of (zN hn0 _ _ _ eu7),.of zE,-1,?_]]];have s8:=zN hn0 (.lst []);cases pz7 with
  |nil=>exact xX (xX (rest s8))
  |cons h0 pz7=>
  rename_i l0 zr sr _;obtain⟨t1,rfl,et1⟩:=h0;have eu8:=s8 _ _ eu7;have et8:=s8 _ _ et1;have hc8:=s8 _ _ hc7;generalize upd H7 n0 (.lst [])=H8 at *
  refine jC #[-1,u,_,_,-1,rfl,.of eu8,Kc,t1,_,_,-1,rfl,.of et8,rfl,-1,u,_,_,-1,rfl,.of eu8,Kc,t1,_,_,-1,rfl,.of et8,rfl,_,-1,rfl,_,-1,rfl,-1,jB (λ_=>?_) (λ_=>rest s8)];have lc:(cs.map V.int).length =cs.length:=zM ..;refine#[-1,c,_,_,-1,rfl,kF.of hc8,a0,_,-1,rfl,.inl #[by decide,by decide],_,-1,rfl,-1,u,_,_,-1,rfl,.of eu8,Kc,t1,_,_,-1,rfl,.of et8,rfl,_,-1,_,-1,rfl,.inl #[by decide,by decide],_,-1,rfl,?_];obtain⟨j,ej⟩: ∃j:Nat,1+3*(hs.length:Int)+2*(if l0.2.1 > 0 then l0.2.1 else 0)=(j:Int):=#[(1+3*(hs.length:Int)+2*(if l0.2.1 > 0 then l0.2.1 else 0)).toNat,by split<;>lia];dsimp only;rw[ej];refine#[-1,c,-1,.inl (kF.of hc8),_,-1,rfl,-1,c,_,_,-1,rfl,kF.of hc8,a0,_,-1,rfl,.inl #[by decide,by decide],_,-1,rfl,_,-1,rfl,Yk (by decide) (by decide),_,-1,rfl,?_];refine#[-3,c,-1,kF.of hc8,λp1 h1=>?_];have c1:Bg (cs.map V.int) none (some (j:Int))=(cs.take j).map V.int:=by rw[List.map_take];exact FG j
  rw[c1];have s9:=zN h1 (.lst ((cs.take j).map V.int));refine#[-2,u,_,_,-1,rfl,.of (s9 _ _ eu8),Kc,t1,_,_,-1,rfl,.of (s9 _ _ et8),rfl,-1,_,-1,_,-1,sm4,λp2 h2=>?_];generalize(if(if(((cs.map V.int).length:Int)-1-3*(hs.length:Int)) / 2-1<l0.2.2 then(((cs.map V.int).length:Int)-1-3*(hs.length:Int)) / 2-1 else l0.2.2) > 0 then(if(((cs.map V.int).length:Int)-1-3*(hs.length:Int)) / 2-1<l0.2.2 then(((cs.map V.int).length:Int)-1-3*(hs.length:Int)) / 2-1 else l0.2.2)else 0)=mx at h2 ⊢;have s10:=s9.trans (zN h2 (.lst ([0,vn,4,mx].map V.int)));refine#[p1,p2,_,-1,rfl,zN h2 _ _ _ zE,zE,small (by rw[zM,yW];show _+4<=_;(clear ej;lia)),λp3 h3=>?_];have s11:=s10.trans (zN h3 (.lst ((cs.take j).map V.int++[0,vn,4,mx].map V.int)));refine#[-2,_,-1,rfl,-1,c,-1,kF.of (s11 _ _ hc8),λp4 h4=>?_];have c2:Bg (cs.map V.int) (some ((j:Int)+4)) none=(cs.drop (j+4)).map V.int:=by rw[List.map_drop];exact AZ (j+4)
  rw[c2];have s12:=s11.trans (zN h4 (.lst ((cs.drop (j+4)).map V.int)));refine#[p3,p4,_,-1,rfl,zN h4 _ _ _ zE,zE,small (by rw[zG,zM,yW,zM,jI];show _+4+_<=_;(clear ej;lia)),λp5 h5=>?_];have s13:=s12.trans (zN h5 (.lst ((cs.take j).map V.int++[0,vn,4,mx].map V.int++(cs.drop (j+4)).map V.int)));have e5:upd (upd (upd (upd (upd H8 p1 (.lst ((cs.take j).map V.int))) p2 (.lst ([0,vn,4,mx].map V.int))) p3 (.lst ((cs.take j).map V.int++[0,vn,4,mx].map V.int))) p4 (.lst ((cs.drop (j+4)).map V.int))) p5 (.lst ((cs.take j).map V.int++[0,vn,4,mx].map V.int++(cs.drop (j+4)).map V.int)) p5=some (.lst ((cs.take j++[0,vn,4,mx]++cs.drop (j+4)).map V.int)):=by rw[zE,xN,xN]
  have lm:(cs.take j++[0,vn,4,mx]++cs.drop (j+4)).length<=cs.length+4:=by rw[zG,zG,yW,jI];show _+4+_<=_;(clear ej;lia)
  have n5:p5≠st:=Ne.symm ((D7.draw.same (s8.trans s12)).ne h5);refine#[-1,p5,-1,e5,(),λb H9 YC hb=>#[-1,jB (λcb=>?_) (λcb=>rest (s8.trans (s13.trans YC)))]];exact#[-1,q p5 _ H9 (D7.trans (D7.draw.more (s8.trans (s13.trans YC)))) n5 (YC _ _ e5) (hb.mp cb) lm]
 rintro _ H8 ⟨s8,v8',v9',v10',rfl⟩;have g58:=s7.trans s8;have ep8:=g58 _ _ ep;have es8:=g58 _ _ es5;have pr':=Paired.len pr;have lk:=HI Hm;have ln5:FT (.mk k p own Hm)=1+BG Hm:=rfl;have le5:=HI (ns.eraseIdx i);have lps5:=Paired.len ps5;refine#[-2,tn,_,_,-1,rfl,.of (g58 _ _ etn),rfl,pq,-1,.inr (uZ.of ep8),λy hy=>?_];have s9:=g58.trans (zN hy (.lst vs));refine#[so,y,_,-1,rfl,zN hy _ _ _ es8,zE,small (),λz hz=>?_];have s10:=s9.trans (zN hz (.lst (us.eraseIdx i++vs)));have D10:=D5.trans (D5.draw.more s10);refine#[BG (ns.eraseIdx i++Hm),by rw[Od];lia,z,_,ns.eraseIdx i++Hm,_,_,_,_,_,-1,D10,(D5.trans (D5.draw.more s9)).free hz,Ne.symm ((D5.draw.same s9).ne hz),zE,Paired.append (Paired.imp (λ_ _ w=>jK.tups (qE.same s10) w) ps5) (Paired.imp (λ_ _ w=>(jK.tups (qE.same s10) w).more) pr),λx m=>?_,rfl,by rw[Od];lia]
 rcases List.mem_append.mp m with m|m
 ·exact nks x (List.mem_of_mem_eraseIdx m)
 ·exact XS nkd x m
theorem Zf {as:a6 i3}{ls:FV}(h:Paired (Kj H) as ls):Paired (Kk H) (as.map V.ref) ls:=by
 induction h with
 |nil=>exact .nil
 |cons h r ih=>exact .cons #[-1,h] ih
theorem QX (T:GB K mg)(F:qZ K "_law_worth" "_law_worth" DW f fd)(hm:mg "_law_worth"=some (.ref f))(hk:PySem.W.keepIn K (.ref f)=true)(hb:uR K fd ["_law_node_here"] []):
  ∀d,vX P w K mg base (1+d) f fd ["_law_node_here"] (BH d):=by
 intro d
 induction d with
 |zero=>exact Ky λvs H Q E h=>by obtain⟨v,t,_,_,z,_⟩:=h;exact z.elim
 |succ d ih=>exact Tt d T F #[#[_,_,ih,hm,hk,hb]]
theorem Pf (T:GB K mg)(CW: ∀d,kB P w K mg base (1+d) "_law_worth" ["_law_node_here"] (BH d))(Cg:kB P w K mg base 1 "_law_goal" ["_law_rows_here","_law_at"] AG)(Cd:kB P w K mg base 3 "_law_does" ["_law_rows_here","_law_at","_law_row","_law_behind"] GL)(Cm:kB P w K mg base 2 "_law_meet" ["_law_rows_here","_law_one","_law_other"] Do)
  (F1:qZ K "_law_right" "_law_right" DX f1 d1) (m1:mg "_law_right"=some (.ref f1)) (k1:PySem.W.keepIn K (.ref f1)=true) (b1:uR K d1 ["_law_look","_law_node_here"] [])
  (F3:qZ K "_law_picked" "_law_picked" Di f3 d3) (m3:mg "_law_picked"=some (.ref f3)) (k3:PySem.W.keepIn K (.ref f3)=true) (b3:uR K d3 ["_law_look","_law_many","_law_parts_here","_law_begin","_law_end"] [])
  (F4:qZ K "_law_looped" "_law_looped" Dj f4 d4) (m4:mg "_law_looped"=some (.ref f4)) (k4:PySem.W.keepIn K (.ref f4)=true) (b4:uR K d4 ["_law_look","_law_parts_here","_law_begin","_law_end"] [])
  (F5:qZ K "_law_parts" "_law_parts" DY f5 d5) (m5:mg "_law_parts"=some (.ref f5)) (k5:PySem.W.keepIn K (.ref f5)=true) (b5:uR K d5 ["_law_look","_law_parts_here","_law_begin","_law_drops"] []):
  ∀d,vX P w K mg base (4+3*d) f1 d1 ["_law_look","_law_node_here"] (Dn d):=by
 intro d
 induction d with
 |zero=>exact Ky λvs H Q E h=>by obtain⟨_,_,_,_,_,_,_,_,_,_,z,_⟩:=h;exact z.elim
 |succ d ih=>
  have cr:kB P w K mg base (4+3*d) "_law_right" ["_law_look","_law_node_here"] (Dn d):=#[#[_,_,ih,m1,k1,b1]];have cp:kB P w K mg base (4+3*d+1) "_law_parts" ["_law_look","_law_parts_here","_law_begin","_law_drops"] (Fu d):=#[#[_,_,Rc d T F5 cr Cg Cm,m5,k5,b5]];exact Rb d T F1 (CW (d+1)) Cg Cd Cm #[#[_,_,Pk d T F3 cr cp (CW d) Cg Cm,m3,k3,b3]] #[#[_,_,Pp d T F4 cp Cg Cd,m4,k4,b4]] cp
theorem zCo (h:Paired (Kk H) rv ls):Paired (Qq K H 1) rv rv:=by
 induction h with
 |nil=>exact .nil
 |cons h0 r ih=>
  obtain⟨t,rfl,et⟩:=h0;exact .cons (.inr #[t,t,_,-1,rfl,.inr #[.of et,.of et],Qq.flats (λx m=>by simp at m;rcases m with rfl|rfl|rfl<;>rfl)]) ih
theorem Qb (T:qE H H')(e: ∀o,H a=some o->H' a=some o)(h:Jm H a r):Jm H' a r:=by
 obtain⟨rv,e1,l,p⟩:=h;exact#[rv,e _ e1,l,Paired.imp (λ_ _ ⟨t,b,e1,e2,z⟩=>#[t,b,e1,T _ _ e2,z.tups T]) p]
inductive VCa (K:a7)(a st sh tl:i3)(H5:Hp)(rr:a6 Nd)(i:Nat)(U':St)(H':Hp):Prop
 |mk (wt:Int) (c pa:i3) (cs:a6 Int) (hs:FV) (rs:vS) (ls:FV) (v6 v7 v8 v9:i4 V) (h0:U'=[some (.ref a),some (.ref st),some (.ref sh),some (.ref tl),some (.ref c),some (.ref pa),v6,v7,v8,v9]) (h1:kI K st wt H5 H') (h2:c≠st) (h3:H' c=some (.lst (cs.map V.int))) (h4:Cd cs hs rs) (h5:cs.length<=400+4*i) (h6:pa≠st) (h7:Nf H' pa ls) (h8:ls.length<=100+i) (h9: ∀l∈ls,Ux (jR rr) l.1=true):VCa K a st sh tl H5 rr i U' H'
inductive VCb (K:a7)(a st sh tl:i3)(H5:Hp)(rr:a6 Nd)(wt wy:Int)(i:Nat)(v8 v9:i4 V)(U':St)(H':Hp):Prop
 |mk (c pa:i3) (cs:a6 Int) (hs:FV) (rs:vS) (ls:FV) (h0:U'=[some (.ref a),some (.ref st),some (.ref sh),some (.ref tl),some (.ref c),some (.ref pa),some (.int (0+(i:Int))),some (.int wy),v8,v9]) (h1:kI K st wt H5 H') (h2:c≠st) (h3:H' c=some (.lst (cs.map V.int))) (h4:Cd cs hs rs) (h5:cs.length<=400+4*(i+1)) (h6:pa≠st) (h7:Nf H' pa ls) (h8:ls.length<=100+(i+1)) (h9: ∀l∈ls,Ux (jR rr) l.1=true):VCb K a st sh tl H5 rr wt wy i v8 v9 U' H'
theorem VC (T:CV K mg CK)(T5:zAr K mg)(F:qZ K "law" "law" UV f fd)(Ca:kB P w K mg base 2 "_law_take" ["_law_state","_law_most"] (DV K))(Cd0:kB P w K mg base 8 "_law_sheet" ["_law_state"] (Jr K))(Ck:kB P w K mg base 17 "functions" ["sheet"] HY)(Cf5:kB P w K mg base 23 "made" ["sheet"] QH)(Cc7:kB P w K mg base 23 "made_paper" ["sheet"] GK)(Cc3:kB P w K mg base 19 "lets_by" ["sheet","code","paper"] Nn)(Ce1:kB P w K mg base (4+3*10+1) "_law_due" ["_law_told","_law_code","_law_paper"] QK)(Cb5:kB P w K mg base 4 "_law_bent_code" ["_law_state","_law_code"] (Nv K))(Ca9:kB P w K mg base 3 "_law_bent_paper" ["_law_state","_law_rows_here","_law_paper"] (Nu K))(Cc4:kB P w K mg base 12 "_law_pushed" ["_law_state","_law_told","_law_code","_law_paper"] (Ni K))(Ca1:kB P w K mg base 1 "_law_rows" ["_law_code"] Hy):vX P w K mg base 36 f fd ["_law_script"] (OK K):=by
 exists CO;obtain⟨a,ns,rfl,hs0,hl0,q⟩:=h;exists _,(zB (yP 1 CO.nd (kU (zA (pv 0) (zA zH (zA zH (zA zH zC))))))
   (zB (yP 2 CO.nd (zK Cd0 hr rfl (zA (pv 1) zC) zX))
   (zB (yP 3 CO.nd (zK Ck hr rfl (zA (pv 2) zC) zX))
   (zB (yP 4 CO.nd (zK Cf5 hr rfl (zA (pv 2) zC) zX))
   (zB (yP 5 CO.nd (zK Cc7 hr rfl (zA (pv 2) zC) zX))
   (zB (xC (zT XE (zK Cc3 hr rfl (zA (pv 2) (zA (pv 4) (zA (pv 5) zC))) zX) kX (zY _)) (zI (zV kX)) yD)
   (zB (wD xE rfl (AU rfl T.n_range (zA zH zC)) (yA 6 CO.nd) (zB (yP 7 CO.nd (zK Ca hr rfl (zA (pv 1) (zA zH zC)) zX))
   (zB (AI (xC (zT wR (pv 7) zH (zY _)) (zI (yP 4 CO.nd (zK Cb5 hr rfl (zA (pv 1) (zA (pv 4) zC)) zX))) (zI (xC (zT jD (pv 7) zH (zY _)) (zI (yP 4 CO.nd (zK Cc4 hr rfl (zA (pv 1) (zA (pv 3) (zA (pv 4) (zA (pv 5) zC)))) zX))) (zI (xC (zT (Li hr) (pv 5) (kU zC) (zY _)) (zI (yP 5 CO.nd (zK Ca9 hr rfl (zA (pv 1) (zA (zK Ca1 hr rfl (zA (pv 4) zC) zX) (zA (pv 5) zC))) zX))) yD))))))
   (zB (yP 8 CO.nd (xM (zA (At BU rfl T.n_list Eb (zA (pv 2) zC)) (zA (At BU rfl T.n_list Eb (zA (pv 4) zC)) (zA (At BU rfl T.n_list Eb (zA (pv 5) zC)) zC)))))
   (zB (yP 9 CO.nd (zK Cc3 hr rfl (zA (yZ xL (pv 8) zH (λ_ _=>rfl)) (zA (yZ xL (pv 8) zH (λ_ _=>rfl)) (zA (yZ xL (pv 8) zH (λ_ _=>rfl)) zC))) zX))
   (zB (xC (PW.pt (qF (qK (kT (xF Dw rfl T.n_isinstance qY (zA (pv 9) (zA (Bt (v:=.ty "bool") rfl T.n_bool Ou rfl) zC))))) (kK (zT Hh (pv 9) (zK Ce1 hr rfl (zA (pv 3) (zA (pv 4) (zA (pv 5) zC))) zX) (zY _))))) (zI (zV kX)) yD)
   (zB (xC (zT (ZM hr) (pv 8) (xM (zA (pv 2) (zA (pv 4) (zA (pv 5) zC)))) (zY _)) (zI (zV kX)) yD)
   (zI (xC (PW.pt (Ep (zT jD (pv 6) zH (zY _)) (DZ (qK (kT (pv 9)))))) (zI (qH zH (CS (pv 1) zH uV))) yD)))))))))
   (zI (zV kX)))))))))
 refine#[-1,sm4,λst hst=>?_];have D0:uE K (upd H st (.lst [.ref a,.int 0,.int 0,.int 12])) st 12:=#[a,ns,0,0,zE,hs0.imp (fun⟨o,z⟩=>#[o,zN hst _ _ _ z]) id,hl0,by decide,by decide];generalize upd H st (.lst [.ref a,.int 0,.int 0,.int 12])=H0 at *
 refine#[-1,st,rfl,D0,λsh h0 ts H1 w1 D1 nsh esh ht=>?_];obtain⟨r,cs,hs,rs,ls,W⟩:=Xj ht;generalize Uu h0 ts=wn at *
 have wl:=W.n1;refine#[-1,sh,wn,r,rfl,esh,W.fn,λtl H2 s2 htl fa=>?_];refine#[-1,sh,wn,-1,s2 _ _ esh,W.mk_,λc H3 s3 hc0 ec=>?_];rw[<-W.ec]at ec;refine#[-1,sh,wn,-1,s3 _ _ (s2 _ _ esh),W.mk_,W.n64,λpa as H4 s4 hp0 ep tr=>?_];rw[<-W.el]at tr;have YC:=(s2.trans s3).trans s4;have D4:uE K H4 st w1:=D1.draw.same YC;have fa4:=fa.same (s3.trans s4);have ec4:=s4 _ _ ec;have es4:=YC _ _ esh;have nc:c≠st:=Ne.symm ((D1.draw.same s2).ne hc0);have npa:pa≠st:=Ne.symm ((D1.draw.same (s2.trans s3)).ne hp0);have ntl:tl≠st:=Ne.symm (D1.draw.ne htl);obtain⟨as',eas⟩: ∃rv,rv=as.map V.ref:=#[-1];have el4:Nf H4 pa ls:=#[_,ep,Zf tr];have l1:=W.l1;have c4:=W.c4;have lets: ∀{cs':a6 Int} {hs':FV} {rs':vS} {ls':FV} {G:Hp} {sh c pa:i3} {Q:VK} {E:XK},G sh=some (.lst (wn.map V.int))->G c=some (.lst (cs'.map V.int))->Cd cs' hs' rs'->cs'.length<=1000->Nf G pa ls'->ls'.length<=1000->(∀H',xK G H'->Q (.bl (lsM rs' hs' r ls')) H')->Nn [.ref sh,.ref c,.ref pa] G Q E:=λes ec C l el l' q=>by
  obtain⟨rv,e,p⟩:=el;exact#[_,_,_,wn,_,rv,_,_,_,r,rfl,es,(),W.fn,ec,W.lt C l l',e,p,q]
 have nok: ∀nd∈r.2,Uq 10 nd:=λnd m=>by
  obtain⟨bx,g,_⟩:=W.gd nd (Hl m);exact#[#[_,_,g.1],g.2]
 dsimp only[AC,List.set];refine#[-3,lets es4 ec4 W.cd () el4 () λH5 s5=>?_];rw[W.ok];refine#[_,-1,rfl,-1,xX ?_];have D5:=D4.same s5;have fa5:=fa4.same s5;have es5:=s5 _ _ es4;refine#[-1,by decide,by decide,AY (lo:=0) (n:=3) (VCa K a st sh tl H5 r.2) #[w1,c,pa,cs,hs,rs,ls,_,_,_,-1,D5.refl,nc,s5 _ _ ec4,W.cd,c4,npa,el4.same s5,l1,W.po] ?_ ?_]
 ·clear el4 ec4 ec ep tr l1 c4 nc npa eas as' hc0 hp0;rintro i U' H6 hi ⟨wt,c,pa,cs,hs,rs,ls,v6,v7,v8,v9,rfl,D6,nc,ec6,cd,lc,npa,el6,ll,po⟩;dsimp only[AC,List.set];refine#[-1,st,5,-1,by decide,by decide,D6.draw,λwy H7 w0 w1 D7=>?_];have ec7:=D7.keep _ _ nc ec6;have el7:=Nf.keep D6.draw D7 npa el6;have D7:=D6.trans D7;have fa7:=Qb (D7.tups D5) (λo e=>D7.keep _ _ ntl e) fa5;clear ec6 el6 D6;refine#[VCb K a st sh tl H5 r.2 wt wy i v8 v9,?_,?_]
  ·refine nxg λNN NB NC hN=>?_;refine#[-1,_,-1,rfl,-1,jB (λ_=>?_) (λ_=>?_)]
   ·refine#[-2,st,c,wt,cs,hs,rs,rfl,D7.draw,nc,ec7,cd,(),λc' cs' H8 D8 nc' ec' ok' lc'=>?_];obtain⟨hs',rs',cd'⟩:=LH ok' ();exact hN _ _ #[c',pa,cs',hs',rs',ls,rfl,D7.trans D8,nc',ec',cd',(),npa,Nf.keep D7.draw D8 npa el7,(),po]
   refine#[-1,rfl,-1,jB (λ_=>?_) (λ_=>?_)]
   ·refine#[-4,st,tl,c,pa,wt,r,cs,hs,rs,ls,rfl,D7.draw,ntl,nc,npa,fa7,nok,W.nz,W.ln,ec7,cd,(),el7,(),λc' cs' H8 D8 nc' ec' ok' lc'=>?_];obtain⟨hs',rs',cd'⟩:=LH ok' ();exact hN _ _ #[c',pa,cs',hs',rs',ls,rfl,D7.trans D8,nc',ec',cd',(),npa,Nf.keep D7.draw D8 npa el7,(),po]
   obtain⟨rv,epa,ppa⟩:=id el7;refine#[-1,zz0,λn0 hn0=>#[pa,n0,rv,rfl,rfl,.of (zN hn0 _ _ _ epa),.of zE,-1,?_]];have s8:=zN hn0 (.lst []);have D8:=D7.trans (D7.draw.more s8);have el8:=el7.same s8;have ec8:=s8 _ _ ec7;generalize upd H7 n0 (.lst [])=H8 at *
   have lpa:=Paired.len ppa;cases rv with
   |nil=>exact xX (hN _ _ #[c,pa,cs,hs,rs,ls,rfl,D8,nc,ec8,cd,(),npa,el8,(),po])
   |cons v0 vr=>
   refine jC #[-2,c,cs,rs,hs.length,rfl,ec8,cd.c0,by have:=cd.h1;lia,cd.cl,cd.ra,cd.ro.rl,λrl H9 s9 gr=>?_];have D9:=D8.trans (D8.draw.more s9);have nrl:rl≠st:=λz=>by
    obtain⟨vr,e,p⟩:=gr;obtain⟨xs,xn,sk,sc,ez,_⟩:=D9.draw;rw[z,ez]at e;injection e with e
    injection e with e
    obtain⟨y,_,t,et,_⟩:=Paired.yonder p (j:=1) (x:=.int sk) (by rw[<-e];rfl);cases et
   refine#[-1,st,rl,pa,wt,rs,ls,rfl,D9.draw,nrl,npa,gr,cd.ro.jo,cd.ro.rl,cd.r0,el8.same s9,by rw[<-lpa];exact BX _,(),λp' ls' H10 D10 np' el' ll' pl'=>?_];exact hN _ _ #[c,p',cs,hs,rs,ls',rfl,D9.trans D10,nc,D10.keep _ _ nc (s9 _ _ ec8),cd,(),np',el',(),λl m=>by obtain⟨l0,m0,e0⟩:=pl' l m;rw[e0];exact po l0 m0]
  clear ec7 el7 fa7 cd lc ll po nc npa D7;rintro _ H8 ⟨c,pa,cs,hs,rs,ls,rfl,D8,nc,ec8,cd,lc,npa,⟨rv,epa,ppa⟩,ll,po⟩;have es8:=D8.keep _ _ nsh es5;have fa8:=Qb (D8.tups D5) (λo e=>D8.keep _ _ ntl e) fa5;refine#[-1,sh,-1,.inl (kF.of es8),λh1 hh1=>?_];have z1:=zN hh1 (.lst (wn.map V.int));refine#[-1,c,-1,.inl (kF.of (z1 _ _ ec8)),λh2 hh2=>?_];have z2:=z1.trans (zN hh2 (.lst (cs.map V.int)));refine#[-1,pa,-1,.inl (kF.of (z2 _ _ epa)),λh3 hh3=>?_];have z3:=z2.trans (zN hh3 (.lst rv));refine#[sm3,λhd hhd=>?_];have z4:=z3.trans (zN hhd (.tup [.ref h1,.ref h2,.ref h3]));have f4:upd (upd (upd (upd H8 h1 (.lst (wn.map V.int))) h2 (.lst (cs.map V.int))) h3 (.lst rv)) hd (.tup [.ref h1,.ref h2,.ref h3]) hd=some (.tup [.ref h1,.ref h2,.ref h3]):=zE;have f3:=zN hhd (.tup [.ref h1,.ref h2,.ref h3]) _ _ (zE (H:=upd (upd H8 h1 (.lst (wn.map V.int))) h2 (.lst (cs.map V.int))) (a:=h3) (o:=.lst rv));have f2:=zN hhd (.tup [.ref h1,.ref h2,.ref h3]) _ _ (zN hh3 (.lst rv) _ _ (zE (H:=upd H8 h1 (.lst (wn.map V.int))) (a:=h2) (o:=.lst (cs.map V.int))));have f1:=zN hhd (.tup [.ref h1,.ref h2,.ref h3]) _ _ (zN hh3 (.lst rv) _ _ (zN hh2 (.lst (cs.map V.int)) _ _ (zE (H:=H8) (a:=h1) (o:=.lst (wn.map V.int)))));dsimp only[AC,List.set];generalize upd (upd (upd (upd H8 h1 (.lst (wn.map V.int))) h2 (.lst (cs.map V.int))) h3 (.lst rv)) hd (.tup [.ref h1,.ref h2,.ref h3])=H9 at *
  have el9:Nf H9 h3 ls:=#[rv,f3,AX (qE.same z4) ppa];refine#[-1,hd,_,_,-1,rfl,.of f4,rfl,-1,hd,_,_,-1,rfl,.of f4,rfl,-1,hd,_,_,-1,rfl,.of f4,rfl,lets f1 f2 cd () el9 () λH10 g10=>?_];rw[VX W.ln W.nod po];have z10:=z4.trans g10;generalize hb:LD rs hs (r.1.zip r.2) ls=bb;refine#[-1,.inl #[_,_,_,true,rfl,.bl _,T5.kbb,-1,xX #[-4,tl,c,pa,r,cs,hs,rs,rv,ls,rfl,fa8.same z10,z10 _ _ ec8,cd,z10 _ _ epa,AX (qE.same z10) ppa,(),by have:=W.f1;lia,nok,λH11 g11=>#[rfl,-1,?_]]]];rw[hb,zQ rfl];have z11:=z10.trans g11;have g911:=g10.trans g11;refine xX #[-4,sm3,λt2 ht2=>?_];have z12:=z11.trans (zN ht2 (.tup [.ref sh,.ref c,.ref pa]));have g912:=g911.trans (zN ht2 (.tup [.ref sh,.ref c,.ref pa]));refine#[hd,t2,_,_,2,rfl,rfl,.inr #[.of (g912 _ _ f4),.of zE],.cons (.inr #[h1,sh,_,-1,rfl,.inl #[kF.of (g912 _ _ f1),kF.of (z12 _ _ es8)],Qq.intsN wn]) (.cons (.inr #[h2,c,_,-1,rfl,.inl #[kF.of (g912 _ _ f2),kF.of (z12 _ _ ec8)],Qq.intsN cs]) (.cons (.inr #[h3,pa,_,-1,rfl,.inl #[kF.of (g912 _ _ f3),kF.of (z12 _ _ epa)],zCo (AX (qE.same z12) ppa)]) .nil)),by decide,-1,xX ?_];have D12:=D8.trans (D8.draw.more z12);have el12:Nf _ pa ls:=#[rv,z12 _ _ epa,AX (qE.same z12) ppa];have ec12:=z12 _ _ ec8;generalize upd H11 t2 (.tup [.ref sh,.ref c,.ref pa])=H12 at *
  refine#[-1,rfl,-1,jB (λ_=>#[-2,jB (λ_=>?_) (λ_=>#[wt,c,pa,cs,hs,rs,ls,_,_,_,-1,D12,nc,ec12,cd,lc,npa,el12,ll,po])]) (λ_=>xX #[wt,c,pa,cs,hs,rs,ls,_,_,_,-1,D12,nc,ec12,cd,lc,npa,el12,ll,po])];obtain⟨xs,ex,lx,ax,px⟩:=D12.draw.pay;have D13:=px 0;exact#[-1,st,xs,_,3,rfl,rfl,ex,by rw[lx];rfl,#[0,c,pa,cs,hs,rs,ls,_,_,_,-1,D12.trans D13,nc,D13.keep _ _ nc ec12,cd,lc,npa,Nf.keep D12.draw D13 npa el12,ll,po]]
 ·rintro U' H6 ⟨wt,c,pa,cs,hs,rs,ls,v6,v7,v8,v9,rfl,_⟩;exact q _
end
open PySem.W in
theorem all_mk {l:OpenLaw}{w:i9}{K:Frag}{h:j3}{mg:Str->i4 a9}{fa f0 f1 f2 f3 f4 f5 f6 f7 f8 f9 ua uw xm xo xv uc rf qp re wf oz tf yq ul vw yg ud wg zj vq xw pj uj zh si sw vg zm qt tw oy yx ze ut rm zb yb zd xj xu yc ye yj vj vc wo wu wr sg uv ve sd wq uf zo wc ym uu yp yf yn qb xk yo uq zk we xh xp qe vk:i3}{ae aP:i3}{jc oa oi oh mo md mh mq om az bw de fc dw dz cz:Tok}{ja jq ji jd iz jl je jk jb jf ir iy gw:Tok}{kj:Nat}{kh:j6 (i4 a9)}{aa:i3}{nw ik jg jp gj gn dh iw ip ie dy jy gc dk fv:Tok}{ac:i3}{mw dq ng ny oq me kx ou mn ku:Tok}(X:K.In h)(G:h.Ns mainGlobals mg)(qo:mg "law"=some (.ref fa))
  (jn:nsIn K mainGlobals "Check"=some (some (.ref ac)))
  (jx:nsIn K mainGlobals "Look"=some (some (.ref ae)))
  (iu:nsIn K mainGlobals "Making"=some (some (.ref aa)))
  (d0:Dm K ae "__init__" "Look.__init__" DI f0)
  (d1:Dm K ae "take" "Look.take" Hc f1)
  (d2:Dm K ae "take_within" "Look.take_within" BA f2)
  (d3:Dq K "is_whole" Ge f3)
  (d4:Dq K "take_heads" Ga f4)
  (d5:Dq K "take_own" Ic f5)
  (d6:Dq K "parts_of" Ig f6)
  (d7:Dq K "parts_due" GS f7)
  (d8:Dq K "take_node" EQ f8)
  (d9:Dq K "functions" GW f9)
  (ux:Dq K "is_head" JI ua)
  (yv:Dq K "stands_alone" Em uw)
  (wk:Dq K "is_row" KS xm)
  (qd:Dq K "grouped" HD xo)
  (wv:Dq K "heads_in" Il xv)
  (qj:Dq K "rows_in" JG uc)
  (zf:Dq K "is_list_of_wholes" uS rf)
  (qu:Dq K "is_code" HC qp)
  (xt:Dq K "joined" KR re)
  (wp:Dq K "code_of" JJ wf)
  (qf:Dm K aa "__init__" "Making.__init__" BM oz)
  (yt:Dq K "make_all" Gc tf)
  (yh:Dq K "make_pick" ET yq)
  (rj:Dq K "make_loop" EV ul)
  (qm:Dq K "own_row" JH vw)
  (xl:Dq K "make_node" EU yg)
  (vz:Dq K "making_of" GU ud)
  (xx:Dq K "made" QR wg)
  (qw:Dq K "made_paper" Gd zj)
  (qi:Dq K "nodes_in" Ih vq)
  (xc:Dq K "nodes" NI xw)
  (qc:Dq K "heads_of" Ik pj)
  (ya:Dq K "rows_of" JF uj)
  (zi:Dq K "within" KP zh)
  (wj:Dq K "reckoned" Ie si)
  (sy:Dq K "done_to_row" LW sw)
  (uy:Dq K "worth" NH vg)
  (yk:Dq K "picked" KQ zm)
  (yw:Dq K "meant" NJ qt)
  (xr:Dq K "fixed" IK tw)
  (vi:Dm K ac "__init__" "Check.__init__" AS oy)
  (zg:Dq K "begin_of" Im yx)
  (tj:Dq K "end_of" KU ze)
  (xq:Dq K "row_meant" GR ut)
  (ui:Dq K "meet" QQ rm)
  (zn:Dq K "behind" KW zb)
  (su:Dq K "are_right" EW yb)
  (xa:Dq K "begins_alike" Eo zd)
  (vd:Dq K "ends_alike" Gf xj)
  (wa:Dq K "is_pushed" GV xu)
  (qy:Dq K "is_right_all" En yc)
  (ub:Dq K "is_right_pick" DF ye)
  (um:Dq K "is_picked_ahead" BK yj)
  (qr:Dq K "left_by_unless" CP vj)
  (pd:Dq K "is_right_loop" DH vc)
  (uz:Dq K "own_row_at" Gb wo)
  (rn:Dq K "is_right_by_own_row" Aw wu)
  (xg:Dq K "is_right" Ii wr)
  (vv:Dq K "is_right_function" Be sg)
  (xf:Dq K "is_line" HB uv)
  (wx:Dq K "is_paper" Ij ve)
  (yu:Dq K "have_same_boxes" uB sd)
  (se:Dq K "lets_by" Fw wq)
  (qx:Dq K "_law_cell" Hb uf)
  (pe:Dq K "_law_take" GX zo)
  (sx:Dq K "_law_node" EY wc)
  (wz:Dq K "_law_sheet" Gg ym)
  (rq:Dq K "_law_rows" EX uu)
  (qg:Dq K "_law_goal" GZ yp)
  (sf:Dq K "_law_meet" GY yf)
  (ug:Dq K "_law_does" Ha yn)
  (qh:Dq K "_law_worth" DW qb)
  (ww:Dq K "_law_parts" DY xk)
  (ue:Dq K "_law_picked" Di yo)
  (qk:Dq K "_law_looped" Dj uq)
  (qv:Dq K "_law_right" DX zk)
  (xb:Dq K "_law_due" Ip we)
  (wm:Dq K "_law_bent_code" CQ xh)
  (yy:Dq K "_law_bent_paper" BL xp)
  (vy:Dq K "_law_pushed" Bl qe)
  (zc:Dq K "law" UV vk)
  (fk:nsIn K mainGlobals "len"=some none)
  (bu:nsIn K mainGlobals "range"=some none)
  (ak:nsIn K mainGlobals "isinstance"=some none)
  (jv:nsIn K mainGlobals "int"=some none)
  (ic:nsIn K mainGlobals "bool"=some none)
  (fh:nsIn K mainGlobals "tuple"=some none)
  (kt:nsIn K mainGlobals "list"=some none)
  (OG:nsIn K mainGlobals "all"=some none)
  (lj:nsIn K mainGlobals "max"=some none)
  (ay:nsIn K mainGlobals "enumerate"=some none)
  (iq:nsIn K mainGlobals "sorted"=some none)
  (ap:nsIn K mainGlobals "NUMBER"=some (some (.int 0 jc)))
  (jt:nsIn K mainGlobals "GET"=some (some (.int 1 oa)))
  (jw:nsIn K mainGlobals "SET"=some (some (.int 2 oi)))
  (gu:nsIn K mainGlobals "ALL"=some (some (.int 3 oh)))
  (dv:nsIn K mainGlobals "PICK"=some (some (.int 4 mo)))
  (du:nsIn K mainGlobals "LOOP"=some (some (.int 5 md)))
  (ia:nsIn K mainGlobals "CALL"=some (some (.int 6 mh)))
  (dj:nsIn K mainGlobals "FAIL"=some (some (.int 7 mq)))
  (gq:nsIn K mainGlobals "NEW"=some (some (.int 19 om)))
  (af:nsIn K mainGlobals "MOST_FUNCTIONS"=some (some (.int 16 az)))
  (ah:nsIn K mainGlobals "MOST_PARAMS"=some (some (.int 4 bw)))
  (am:nsIn K mainGlobals "MOST_BOXES"=some (some (.int 12 de)))
  (cn:nsIn K mainGlobals "MOST_DEEP"=some (some (.int 10 fc)))
  (aw:nsIn K mainGlobals "MOST_MANY"=some (some (.int 12 dw)))
  (cg:nsIn K mainGlobals "LEAST_ALL"=some (some (.int 1 dz)))
  (ao:nsIn K mainGlobals "LEAST_PICK"=some (some (.int 2 cz)))
  (ju:nsIn K mainGlobals "ADD"=some (some (.int 8 nw)))
  (bj:nsIn K mainGlobals "OP_PUSH"=some (some (.int 0 ik)))
  (cm:nsIn K mainGlobals "OP_GET"=some (some (.int 1 jg)))
  (cq:nsIn K mainGlobals "OP_SET"=some (some (.int 2 jp)))
  (bf:nsIn K mainGlobals "OP_DROP"=some (some (.int 3 gj)))
  (bn:nsIn K mainGlobals "OP_JUMP"=some (some (.int 4 gn)))
  (au:nsIn K mainGlobals "OP_UNLESS"=some (some (.int 5 dh)))
  (bc:nsIn K mainGlobals "OP_CALL"=some (some (.int 6 iw)))
  (bo:nsIn K mainGlobals "OP_BACK"=some (some (.int 7 ip)))
  (bp:nsIn K mainGlobals "OP_FAIL"=some (some (.int 8 ie)))
  (ar:nsIn K mainGlobals "OP_BREATH"=some (some (.int 9 dy)))
  (fj:nsIn K mainGlobals "OP_DO"=some (some (.int 10 jy)))
  (bg:nsIn K mainGlobals "OP_PICK"=some (some (.int 11 gc)))
  (cj:nsIn K mainGlobals "HEAD_SIZE"=some (some (.int 3 dk)))
  (fg:nsIn K mainGlobals "ROW_SIZE"=some (some (.int 2 fv)))
  (jj:nsIn K mainGlobals "PARTS"=some (some (.ref aP)))
  (jh:K.lookup aP=some #[.type "tuple",none,.seq (List.toArray [.int 1 ja,.int 2 jq,.int 2 ji,.int 2 jd,.int 2 iz,.int 2 jl,.int 2 je,.int 2 jk,.int 2 jb,.int 2 jf,.int 3 ir,.int 1 iy,.int 0 gw]) kj,kh])
  (il:subIn K (.type "int") (.type "bool")=some false)
  (og:subIn K (.type "tuple") (.type "list")=some false)
  (aq:isFn K (.ref f0)=true)
  (bq:isFn K (.ref f1)=true)
  (ag:isFn K (.ref f2)=true)
  (ai:isFn K (.ref oz)=true)
  (aj:isFn K (.ref oy)=true)
  (ma:makesIn K ae=true)
  (wb:keepIn K (.ref ae)=true)
  (pg:plainGet K ae Str.empty=true)
  (hd:hasDictIn K ae=true)
  (po:plainOver K ae=true)
  (sa:findIn K (.ref ae) "__setattr__"=some (some (.builtin "object.__setattr__")))
  (oj:findIn K (.ref ae) "numbers"=some none)
  (qz:findIn K (.ref ae) "place"=some none)
  (ky:nsIn K mainGlobals "zip"=some none)
  (jz:nsIn K mainGlobals "dict"=some none)
  (di:nsIn K mainGlobals "reversed"=some none)
  (ld:nsIn K mainGlobals "min"=some none)
  (ko:nsIn K mainGlobals "SAME"=some (some (.int 14 mw)))
  (cw:nsIn K mainGlobals "LINE_SIZE"=some (some (.int 3 dq)))
  (mj:nsIn K mainGlobals "SUB"=some (some (.int 9 ng)))
  (mi:nsIn K mainGlobals "MUL"=some (some (.int 10 ny)))
  (mz:nsIn K mainGlobals "QUO"=some (some (.int 11 oq)))
  (ke:nsIn K mainGlobals "LESS"=some (some (.int 13 me)))
  (kq:nsIn K mainGlobals "PUSH"=some (some (.int 15 kx)))
  (lg:nsIn K mainGlobals "PUT"=some (some (.int 17 ou)))
  (kn:nsIn K mainGlobals "SIZE"=some (some (.int 18 mn)))
  (jr:nsIn K mainGlobals "GREAT"=some (some (.int 10000000000000000000000000000000000000000000000000000000000000000000000000000000000000000000000000000 ku)))
  (cc:makesIn K aa=true)
  (fo:keepIn K (.ref aa)=true)
  (fw:plainGet K aa Str.empty=true)
  (fu:hasDictIn K aa=true)
  (fm:plainOver K aa=true)
  (fq:findIn K (.ref aa) "__setattr__"=some (some (.builtin "object.__setattr__")))
  (bv:findIn K (.ref aa) "heads"=some none)
  (dc:findIn K (.ref aa) "rows"=some none)
  (bt:findIn K (.ref aa) "paper"=some none)
  (cu:makesIn K ac=true)
  (im:keepIn K (.ref ac)=true)
  (io:plainGet K ac Str.empty=true)
  (ig:hasDictIn K ac=true)
  (gz:plainOver K ac=true)
  (ii:findIn K (.ref ac) "__setattr__"=some (some (.builtin "object.__setattr__")))
  (ff:findIn K (.ref ac) "rows"=some none)
  (ci:findIn K (.ref ac) "leads"=some none)
  (cv:findIn K (.ref ac) "lines"=some none)
  (ce:findIn K (.ref ac) "right"=some none)
  : ∃fd:FuncData,(∀(s:i5) (v:a9),BindsTo s fd #[[v],[]] [("_law_script",v)])/\ ∀base:j3,K.In base->base.Ns mainGlobals mg->Dx l.prog w K mg base (GC l.prog w) 36 fa fd ["_law_script"] (OK K):=by
 obtain⟨a0,_,F0⟩:=d0;have b0:=F0.b2 "self" "numbers" λ_ _ _ _ _ _ _ _=>rfl;obtain⟨a1,_,F1⟩:=d1;have b1:=F1.b1 "self" λ_ _ _ _ _ _ _=>rfl;have k1:=F1.kp;obtain⟨a2,_,F2⟩:=d2;have b2:=F2.b3 "self" "least" "most" λ_ _ _ _ _ _ _ _ _=>rfl;have k2:=F2.kp;obtain⟨a3,_,F3⟩:=d3;have b3:=F3.b1 "thing" λ_ _ _ _ _ _ _=>rfl;have m3:=mg_of X G a3;have k3:=F3.kp;obtain⟨a8,_,F8⟩:=d8;have b8:=F8.b4 "look" "heads" "boxes" "deep" λ_ _ _ _ _ _ _ _ _ _=>rfl;have m8:=mg_of X G a8;have k8:=F8.kp;obtain⟨a20,_,F20⟩:=qf;have b20:=F20.b1 "self" λ_ _ _ _ _ _ _=>rfl;obtain⟨a21,_,F21⟩:=yt;have b21:=F21.b2 "making" "parts" λ_ _ _ _ _ _ _ _=>rfl;have m21:=mg_of X G a21;have k21:=F21.kp;obtain⟨a22,_,F22⟩:=yh;have b22:=F22.b2 "making" "parts" λ_ _ _ _ _ _ _ _=>rfl;have m22:=mg_of X G a22;have k22:=F22.kp;obtain⟨a23,_,F23⟩:=rj;have b23:=F23.b2 "making" "parts" λ_ _ _ _ _ _ _ _=>rfl;have m23:=mg_of X G a23;have k23:=F23.kp;obtain⟨a25,_,F25⟩:=xl;have b25:=F25.b2 "making" "node" λ_ _ _ _ _ _ _ _=>rfl;have m25:=mg_of X G a25;have k25:=F25.kp;obtain⟨a26,_,F26⟩:=vz;have b26:=F26.b1 "program" λ_ _ _ _ _ _ _=>rfl;have m26:=mg_of X G a26;have k26:=F26.kp;obtain⟨a35,_,F35⟩:=sy;have b35:=F35.b3 "kind" "values" "rows" λ_ _ _ _ _ _ _ _ _=>rfl;have m35:=mg_of X G a35;have k35:=F35.kp;obtain⟨a39,_,F39⟩:=xr;have b39:=F39.b1 "node" λ_ _ _ _ _ _ _=>rfl;have m39:=mg_of X G a39;have k39:=F39.kp;obtain⟨a40,_,F40⟩:=vi;have b40:=F40.b3 "self" "rows" "paper" λ_ _ _ _ _ _ _ _ _=>rfl;obtain⟨a65,_,F65⟩:=sx;have b65:=F65.b4 "_law_state" "_law_heads" "_law_boxes" "_law_deep" λ_ _ _ _ _ _ _ _ _ _=>rfl;have m65:=mg_of X G a65;have k65:=F65.kp;obtain⟨a71,_,F71⟩:=qh;have b71:=F71.b1 "_law_node_here" λ_ _ _ _ _ _ _=>rfl;have m71:=mg_of X G a71;have k71:=F71.kp;obtain⟨a72,_,F72⟩:=ww;have b72:=F72.b4 "_law_look" "_law_parts_here" "_law_begin" "_law_drops" λ_ _ _ _ _ _ _ _ _ _=>rfl;have m72:=mg_of X G a72;have k72:=F72.kp;obtain⟨a73,_,F73⟩:=ue;have b73:=F73.b5 "_law_look" "_law_many" "_law_parts_here" "_law_begin" "_law_end" λ_ _ _ _ _ _ _ _ _ _ _=>rfl;have m73:=mg_of X G a73;have k73:=F73.kp;obtain⟨a74,_,F74⟩:=qk;have b74:=F74.b4 "_law_look" "_law_parts_here" "_law_begin" "_law_end" λ_ _ _ _ _ _ _ _ _ _=>rfl;have m74:=mg_of X G a74;have k74:=F74.kp;obtain⟨a75,_,F75⟩:=qv;have b75:=F75.b2 "_law_look" "_law_node_here" λ_ _ _ _ _ _ _ _=>rfl;have m75:=mg_of X G a75;have k75:=F75.kp;obtain⟨a80,_,F80⟩:=zc;have e:=qo.symm.trans (mg_of X G a80);cases e;refine#[_,F80.law "_law_script" λ_ _ _ _ _ _ _=>rfl,λbase _ _=>?_];have cl: ∀{x q g:Str} {st:i8} {f:i3} {fd:FuncData} {k:Nat} {ps:a6 Str} {sp:Sp},nsIn K mainGlobals g=some (some (.ref f))->qZ K x q st f fd->uR K fd ps []->Dx l.prog w K mg base (GC l.prog w) k f fd ps sp->Qt l.prog w K mg base (GC l.prog w) k g ps sp:=λa F b o=>Cl X G a F b o;have c1:=@cg1 l.prog w K h mg base (GC l.prog w) X G;have c2:=@cg2 l.prog w K h mg base (GC l.prog w) X G;have c3:=@cg3 l.prog w K h mg base (GC l.prog w) X G;have c4:=@cg4 l.prog w K h mg base (GC l.prog w) X G;have nz: ∀{x:Str},nsIn K mainGlobals x=some none->mg x=none:=λz=>mg_none_of X G z;have ni: ∀{x:Str} {v:Int} {t:Tok},nsIn K mainGlobals x=some (some (.int v t))->kN mg x v:=λz=>#[_,mg_of X G z];have TN:Jk K mg aP ae:=#[nz fk,nz bu,nz ak,nz jv,nz ic,nz fh,ni ap,ni jt,ni jw,ni gu,ni dv,ni du,ni ia,ni dj,ni gq,ni af,ni ah,ni am,ni cn,ni aw,ni cg,ni ao,mg_of X G jj,Zn jh (small (show 13<=1000 by decide)) (.cons #[-1] (.cons #[-1] (.cons #[-1] (.cons #[-1] (.cons #[-1] (.cons #[-1] (.cons #[-1] (.cons #[-1] (.cons #[-1] (.cons #[-1] (.cons #[-1] (.cons #[-1] (.cons #[-1] (.nil)))))))))))))),Ev,RC il,#[pg,hd,po,sa],oj,qz];have T0:GB K mg:=#[nz fk,nz bu,nz OG,nz lj,nz ay,nz ak,nz jv,nz ic,nz fh,nz kt,ni ju,ni gq,ni af,ni ah,ni am,ni aw,ni ao,ni bj,ni cm,ni cq,ni bf,ni bn,ni au,ni bc,ni bo,ni bp,ni ar,ni fj,ni bg,ni cj,ni fg,Ev,RC il,Ev,PR Ev,Wj (RC og) Ev,Ev];have TK:LO K mg aa:=#[nz fk,nz bu,nz ay,nz iq,ni ap,ni jt,ni jw,ni gu,ni dv,ni du,ni ia,ni dj,ni bj,ni cm,ni cq,ni bf,ni bn,ni au,ni bc,ni bo,ni bp,ni ar,ni fj,ni bg,#[fw,fu,fm,fq],bv,dc,bt];have TP:CV K mg ac:=#[T0,nz ky,nz jz,nz di,ni cw,ni ap,ni gu,ni dv,ni du,ni dj,#[io,ig,gz,ii],ff,ci,cv,ce];have TF:zAq K mg:=#[#[nz fk,ni ju,ni mj,ni mi,ni mz,ni ke,ni ko,ni kq,ni lg,ni kn,ni gq,ni jr],ni ap];have K0:Qs l.prog w K mg base (GC l.prog w) 1 "Look" ae _ _:=#[#[_,_,#[ma,a0,aq,wb],VE TN F0,mg_of X G jx,b0]];have C3:=cl a3 F3 b3 (Vx TN F3);have M1:Ml l.prog w K mg base (GC l.prog w) 3 ae "take" _ _:=#[#[_,_,zCh TN F1 C3,TN.look,#[a1,bq,k1],b1]];have M2:Ml l.prog w K mg base (GC l.prog w) 4 ae "take_within" _ _:=#[#[_,_,Tu TN F2 M1,TN.look,#[a2,ag,k2],b2]];have C4:=c1 d4 λ_ F=>VG TN F M2;have C5:=c4 d5 λ_ F=>ZP TN F M1 M2;have C6:=c1 d6 λ_ F=>Vz TN F;have C7:=c3 d7 λ_ F=>ZR TN F C6;have N8:=VA TN F8 M2 C5 C7 m8 k8 b8;have C8:Qt l.prog w K mg base (GC l.prog w) 16 "take_node" _ (Jv ae 10):=#[#[_,_,N8 10,m8,k8,b8]];have C9:=c1 d9 λ_ F=>ZQ TN F K0 C4 C8;have CWC:Qt l.prog w K mg base (GC l.prog w) 1 "is_whole" _ _:=#[#[_,_,Tw T0 F3,m3,k3,b3]];have C10:=c3 ux λ_ F=>Rg T0 F;have C11:=c1 yv λ_ F=>VM T0 F;have C12:=c3 wk λ_ F=>TH T0 F C11;have C13:=c2 qd λ_ F=>Ri T0 F;have C14:=c1 wv λ_ F=>Pt T0 F C13;have C15:=c1 qj λ_ F=>Ra T0 F C13;have C16:=c1 zf λ_ F=>Tv T0 F CWC;have C17:=c1 qu λ_ F=>Rh T0 F C16 C14 C15 C10 C12;have C18:=c2 xt λ_ F=>TD T0 F;have C19:=c2 wp λ_ F=>Rk T0 F C18 C17;have D20:Qs l.prog w K mg base (GC l.prog w) 1 "Making" aa _ _:=#[#[_,_,#[cc,a20,ai,fo],VD TK F20,mg_of X G iu,b20]];have C24:=c2 qm λ_ F=>Re TK F;have C26: ∀hs,Qt l.prog w K mg base (GC l.prog w) 22 "making_of" _ (Eh aa hs):=λhs=>#[#[_,_,NW TK F26 D20 (Pn (hs:=hs) TK F25 F21 F22 F23 C24 (λo=>#[#[_,_,o,m25,k25,b25]]) (λo=>#[#[_,_,o,m21,k21,b21]]) (λo=>#[#[_,_,o,m22,k22,b22]]) (λo=>#[#[_,_,o,m23,k23,b23]]) 10),m26,k26,b26]];have C27:=c1 xx λ_ F=>XL TK F C9 C26 C19;have C28:=c1 qw λ_ F=>Md TK F C9 C26;have C29:=c1 qi λ_ F=>Pm TN TP.n_reversed F;have C30:=c1 xc λ_ F=>Tz TN F C9 C29;have C31:=c1 qc λ_ F=>Ps T0 F C17 C14;have C32:=c1 ya λ_ F=>QZ T0 F C17 C15;have C33:=c1 zi λ_ F=>Rj TF.1 F;have C34:=c3 wj λ_ F=>Pj TF.1 F C33;have C35:Qt l.prog w K mg base (GC l.prog w) 1 "done_to_row" _ zBr:=#[#[_,_,Ky (λ_ _ _ _ z=>z),m35,k35,b35]];have C36:=c3 uy λ_ F=>Vw TF.1 F C35 C34;have A39: ∀d,Qt l.prog w K mg base (GC l.prog w) (3+d) "fixed" _ (FW d):=λd=>#[#[_,_,TL TF F39 C36 m39 k39 b39 d,m39,k39,b39]];have C37:=c2 yk λ_ F=>Ty TP F;have C38:=c2 yw λ_ F=>VB T0 F;have D40:Qs l.prog w K mg base (GC l.prog w) 2 "Check" ac _ _:=#[#[_,_,#[cu,a40,aj,im],VF TP F40 C38,mg_of X G jn,b40]];have C41:=c2 zg λ_ F=>Pu TP F;have C42:=c2 tj λ_ F=>TM TP F;have C43:=c2 xq λ_ F=>NU TP F;have C44:=c3 ui λ_ F=>XJ TP F C43;have C45:=c3 zn λ_ F=>TU TP F C43;have C46:=c2 su λ_ F=>Oa TP F;have C47:=c3 xa λ_ F=>Kg TP F C41 C44;have C48:=c3 vd λ_ F=>Me TP F C42 C44;have C49:=c2 wa λ_ F=>NZ 10 TP F (A39 10) C41 C42 C45 C44;have C50:=c2 qy λ_ F=>NV TP F C41 C42 C45 C44 C47 C48;have C51:=c2 ub λ_ F=>LZ TP F C41 C42 C45 C44 C47 C48;have C52:=c2 um λ_ F=>VN 9 TP F (A39 9) C37 C47 C48;have C53:=c2 qr λ_ F=>XN TP F C43;have C54:=c2 pd λ_ F=>Ma TP F C41 C42 C45 C44 C53;have C55:=c2 uz λ_ F=>Mb TP F C41 C42 C44;have C56:=c2 rn λ_ F=>TR TP F C55 C24 C45 C42 C44;have C57:=c2 xg λ_ F=>Pq 9 TP F C49 C52 C46 C50 C51 C54 C56;have C58:=c3 vv λ_ F=>Ph TP F C41 C42 C45 C44;have C59:=c3 xf λ_ F=>Rf TP F CWC;have C60:=c3 wx λ_ F=>Pr TP F C59;have C61:=c2 yu λ_ F=>LY TP F;have C62:=c3 se λ_ F=>XM TP F C9 C31 C32 C30 C61 C60 D40 C57 C58;have T5:zAr K mg:=#[T0,nz ld,Ev];have C63:=c2 qx λ_ F=>XO T0 F;have C64:=c2 pe λ_ F=>XI T0 F C63;have C65:Qt l.prog w K mg base (GC l.prog w) 7 "_law_node" _ (Fv K 4):=#[#[_,_,Lk T0 F65 C64 m65 k65 b65 4,m65,k65,b65]];have C66:=c1 wz λ_ F=>QY T0 F C64 C65;have C67:=c1 rq λ_ F=>Tx T0 F;have C68:=c2 qg λ_ F=>TJ T0 F;have C69:=c3 sf λ_ F=>TC T0 F C68;have C70:=c4 ug λ_ F=>TQ T0 F C68 C69;have A71: ∀d,Qt l.prog w K mg base (GC l.prog w) (1+d) "_law_worth" _ (BH d):=λd=>#[#[_,_,QX T0 F71 m71 k71 b71 d,m71,k71,b71]];have C75:Qt l.prog w K mg base (GC l.prog w) (4+3*10) "_law_right" _ (Dn 10):=#[#[_,_,Pf T0 A71 C68 C70 C69 F75 m75 k75 b75 F73 m73 k73 b73 F74 m74 k74 b74 F72 m72 k72 b72 10,m75,k75,b75]];have C76:=c3 xb λ_ F=>VI TP F C67 C68 C69 C75;have C77:=c2 wm λ_ F=>VL T0 F C64 C17;have C78:=c3 yy λ_ F=>VJ T0 F C64 C68;have C79:=c4 vy λ_ F=>Vy T5 F C64 (A71 10) C17;exact VC TP T5 F80 C64 C66 C9 C27 C28 C62 C76 C77 C78 C79 C67
theorem walk {l:PySem.W.OpenLaw}{q:i6}{loose:a6 Str}{XP:(Str->i4 a9)->j3->Prop}{YP:i9->j3->Prop}{d:DefRec}{K:Params->a7}(hn:l.most=some 63)(hdf:d.params.defaults=[])
  (hY: ∀(w:i9) (h:j3),YP w h->(K w.params).In h)
  (F: ∀(w:i9) (mg:Str->i4 a9) (fa:i3) (h:j3),(K w.params).In h->h.Ns mainGlobals mg->mg d.name=some (.ref fa)->
   ∃fd:FuncData,(∀(s:i5) (u:a9),BindsTo s fd #[[u],[]] [("_law_script",u)])/\ ∀base:j3,(K w.params).In base->base.Ns mainGlobals mg->Dx l.prog w (K w.params) mg base (GC l.prog w) 36 fa fd ["_law_script"] (OK (K w.params))):
  PySem.W.WalkO q loose XP YP l.row.toRowW d [] (λf vs=>PySem.call f vs):=
 L2.walk_of (n:=63) (k:=36) (x:="_law_script") (CX:=λw=>(GC l.prog w)) (sp:=λw=>OK (K w.params)) hn (by decide) hdf #[rfl,by decide,by decide,rfl] hY F (λ_ _ a ns hl hO hS=>#[a,ns,rfl,Te.of hO hS,hl,λ_=>rfl]) (λ_ _ _ _ _=>Qi)
end OcL
end
namespace OcP
open PySem
set_option bootstrap.genMatcherCode true
def n:List Stmt->Nat->Stmt
 |a::_,0=>a
 |_::t,k+1=>n t k
 |_,_=>.Pass ⟨0,0,0,0⟩
def N:=n PySem.Challenge.pw_ownchain_k35_papers_let_by_or_not.main.body
def s0:=N 0
def s1:=N 1
def s2:=N 2
def s3:=N 3
def s4:=N 4
def s5:=N 5
def s6:=N 6
def s7:=N 7
def s8:=N 8
def s9:=N 9
def s10:=N 10
def s11:=N 11
def s12:=N 12
def s13:=N 13
def YC:=N 14
def s15:=N 15
def s16:=N 16
def s17:=N 17
def s18:=N 18
def s19:=N 19
def s20:=N 20
def s21:=N 21
def s22:=N 22
def s23:=N 23
def s24:=N 24
def s25:=N 25
def s26:=N 26
def s27:=N 27
def s28:=N 28
def s29:=N 29
def s30:=N 30
def s31:=N 31
def s32:=N 32
def s33:=N 33
def s34:=N 34
def s35:=N 35
def s36:=N 36
def s37:=N 37
def s38:=N 38
def s39:=N 39
def s40:=N 40
def s41:=N 41
def s42:=N 42
def s43:=N 43
def s44:=N 44
def s45:=N 45
def s46:=N 46
def s47:=N 47
def s48:=N 48
def s49:=N 49
def s50:=N 50
def s51:=N 51
def s52:=N 52
def s53:=N 53
def s54:=N 54
def s55:=N 55
def s56:=N 56
def s57:=N 57
def s58:=N 58
def s59:=N 59
def s60:=N 60
def s61:=N 61
def s62:=N 62
def s63:=N 63
def s64:=N 64
def s65:=N 65
def s66:=N 66
def s67:=N 67
def s68:=N 68
def s69:=N 69
def s70:=N 70
def s71:=N 71
def s72:=N 72
def s73:=N 73
def s74:=N 74
def s75:=N 75
def s76:=N 76
def s77:=N 77
def s78:=N 78
def s79:=N 79
def s80:=N 80
def s81:=N 81
def s82:=N 82
def s83:=N 83
def s84:=N 84
def s85:=N 85
def s86:=N 86
def s87:=N 87
def s88:=N 88
def s89:=N 89
def s90:=N 90
def s91:=N 91
def s92:=N 92
def s93:=N 93
def s94:=N 94
def s95:=N 95
def s96:=N 96
def s97:=N 97
def s98:=N 98
def s99:=N 99
def zGf:=N 100
def zGe:=N 101
def zGd:=N 102
def zGc:=N 103
def zGb:=N 104
def zGa:=N 105
def zFz:=N 106
def zFy:=N 107
def zFx:=N 108
def zFw:=N 109
def zFv:=N 110
def zFu:=N 111
def zFt:=N 112
def zFs:=N 113
def zFr:=N 114
def zFq:=N 115
def zFp:=N 116
def zFo:=N 117
def zFn:=N 118
def zFm:=N 119
def zFl:=N 120
def zFk:=N 121
def zFj:=N 122
def zFi:=N 123
def zFh:=N 124
def zFg:=N 125
def zFf:=N 126
def zFe:=N 127
def zFd:=N 128
def zFc:=N 129
def zFb:=N 130
def zFa:=N 131
def zEz:=N 132
def sc:=PySem.Challenge.pw_ownchain_k35_papers_let_by_or_not.main.scope
def gi:Given:={argv:=[],stdin:=[],environ:=(some [([76,67,95,65,76,76],[67,46,85,84,70,45,56])]):PySem.Given}
def fi:Str:="/claim/cut.py"
def pw:Program:={main:={body:=[s0,s1,s2,s3,s4,s5,s6,s7,s8,s9,s10,s11,s12,s13,YC,s15,s16,s17,s18,s19,s20,s21,s22,s23,s24,s25,s26,s27,s28,s29,s30,s31,s32,s33,s34,s35,s36,s37,s38,s39,s40,s41,s42,s43,s44,s45,s46,s47,s48,s49,s50,s51,s52,s53,s54,s55,s56,s57,s58,s59,s60,s61,s62,s63,s64,s65,s66,s67,s68,s69,s70,s71,s72,s73,s74,s75,s76,s77,s78,s79,s80,s81,s82,s83,s84,s85,s86,s87,s88,s89,s90,s91,s92,s93,s94,s95,s96,s97,s98,s99,zGf,zGe,zGd,zGc,zGb,zGa,zFz,zFy,zFx,zFw,zFv,zFu,zFt,zFs,zFr,zFq,zFp,zFo,zFn,zFm,zFl,zFk,zFj,zFi,zFh,zFg,zFf,zFe,zFd,zFc,zFb,zFa,zEz],scope:=sc,futureAnnotations:=false,file:=fi,more:=[]},modules:=[],parses:=[],absent:=[],harvested:=[],given:=gi}
def rw:PySem.W.OpenLaw:={prog:=pw,name:=(PySem.Str.ofString "law"),about:=[(PySem.Str.ofString "lets_by")],foot:=18,most:=some 63,bound:=none,writes:=false}
theorem rw_eq:PySem.Challenge.rw_ownchain_k35_papers_let_by_or_not=rw:=rfl
end OcP
structure PySem.W.Fast:Prop where
 (tw12936647238736868274 tw12774831317057325048 tw15954810443565721118 tw1626368295776428230 tw3201156862458510922 tw3480036082607230921 tw8960080428497462162 tw5261141721799334399 tw492714477734699250 tw13209191176948223513 tw12460451275344975801 tw8599880702246200313 tw4568583924740808485 tw168012579945562550 tw1170306326858558093 tw17109216213126728631 tw6028300939858615250 tw13371014628570731303 tw4295802053158030470 tw17421447413960244796 tw5491720647940649681 tw1061127036560761763 tw15476829997375714793 tw12181198537472489899 tw5187553842732323897 tw6445859060416911513 tw8141318240091234760 tw2029633037995648042 tw15986433132280030778 tw758320858091586273 tw10761742979221935400 tw15298882966356027378 tw8844342993021775243 tw6436994262050603538 tw13155652609953134223 tw2375374550777781374 tw16724919704014791538 tw11515612985827613946 tw13170746049371398248 tw13630696938647298295 tw183693754585120208 tw5960501535842918804 tw9552130790216317109 tw18420594864491533131 tw2015954576793891822 tw16284585712878137026 tw13697534918529894371 tw1539563677996891280 tw15505692958044901458 tw1059816808975661966 tw3395907853884198460 tw16683417855566163995 tw10881762536066831108 tw1140268723952459351 tw5456650877964902178 tw16348213556878433165 tw440257358263279447 tw17258817890610510873 tw12793981976249376633 tw5056523160062305640 tw12722592745376653600 tw2446704890166245049 tw14051171032455698571 tw4754865958545963008 tw5054005250378246099 tw6811298434429840817 tw10414058034162877850 tw10049945782272666824 tw14478157961692727924 tw12872680516395318936 tw15452727729700517715 tw12692909145246593279 tw2468670109464814279 tw4421363941840298983 tw9235391817959470737 tw3611360094890730253 tw9223992499854035892 tw5059111014835567124 tw15965363405906500604 tw9458042077767969561 tw14819857095588690644 tw11360681373298147786 tw15166797201935710735 tw15517050493684993012 tw9880309128502940126 tw11887428382036164230 tw13943870615394930613 tw8322994042260996053 tw13298923016433257577 tw14115638749186901345 tw4482827117047000959 tw11058070443444935772 tw17559878392454954579 tw8160391283774894512 tw1706767210187560277 tw1052227232540590180 tw2998921671810614589 tw4289529763612136997 tw15274216296242631857 tw4458874518523716793 tw1101101192937307136 tw11631409274913833698 tw15356874392534582969 tw13160963302340234864 tw7801441276308706802 tw6669456113819932085 tw17785261616011886975 tw14416940037303325835 tw5449263521087615712 tw7714703347066764321 tw17390471041712318554 tw8637085918868327009 tw10551678540414193829 tw12346040954751186863 tw16279956223706283694 tw8453801839865664951 tw3476100060281477870 tw5904015649882712787 tw16432401690577965028 tw14703898069375888984 tw6085145264787426172 tw2987328955683961648 tw3660714445782884522 tw11809040932655760169 tw6852415737688427791 tw10671995631860989575 tw8410293639943135303 tw16455914385253338323 tw16984763307913418149 tw1548991536002030959 tw10594100632020049669 tw16107451532258302452 tw18138434117673823313 tw16909539753170844961 tw450502328682450760 tw3066612417103928000 tw4265937587895892318 tw13308076416530698545 tw8294624862884353117 tw4673012847760562665 tw5650736426078662065 tw8600647995175213148 tw867194602811455845 tw5936434865854101371 tw7230738211265085043 tw8867436882690699038 tw10058243473639796486 tw3632583411624587825 tw4089438196219960518 tw8032455636256755420 tw13252150089291679205 tw5733084402120667402 tw2385606768644919366 tw13800896233349587739 tw17884973622073097663 tw16516010741458015408 tw9931390331182963789 tw1912379667418559086 tw6407762866754921931 tw3575255932235983290 tw10441380780563305618 tw709178544693812123 tw9717245735858697133 tw5685266133135302343 tw3919804390702727562 tw8532608636348189815 tw244430098862897669 tw2951648160230287519 tw12134892901764526785 tw1888509882032914722 tw7225755503171778861 tw13308815855388507151 tw16756788382249711605 tw7795091009904821560 tw7871899583191333721 tw15265272175094768428 tw14118568142498756672 tw17414018674331675056 tw10782975718423588557 tw10580461821212630335 tw3543908257127353623 tw2017794330160625316 tw4936200067959822395 tw7439021179330039744 tw16993113738454892988 tw16861106009370722404 tw18445565858491180978 tw3546694353404298117 tw1451990189786674766 tw6057149212811275160 tw3091755997094693738 tw2462961615130143468 tw16571911619005752884 tw14410137799079986791 tw712874446098188739 tw11048987139856276521 tw2759639518503512942 tw13766798575378599627 tw13915698678292192581 tw1655436721165912137 tw2978033935714736419 tw11633767109848865752 tw13964683895542889548 tw94004455024519969 tw14085401938404262175 tw5930752854711752471 tw11146708736600865634 tw5981710295899979062 tw15698101703015721172 tw4530105269528873380 tw8763687046819622275 tw69641273024637565 tw4559284224314790023 tw3018428594233241013 tw16574175910080170335 tw16751447442720362689 tw14118698164981728924 tw3966384891252634048 tw5827619815152927160 tw13541850114844746075 tw1552292428241422220 tw13688884532626549501 tw1978651964950311906 tw11386774990829397496 tw9696059120575017068 tw4693180495534951635 tw16529882078138533393 tw11648679400833134787 tw3470659836661725335 tw16631314366610272134 tw10873821134896173845 tw10551639566519072032 tw1674578513249508010 tw18354968375919581792 tw8877189455045405090 tw7538938773089863575 tw14745507095138270342 tw9732149469225261399 tw6066980247740081246 tw2353252067127332719 tw5976326095454760225 tw12026821579857479358 tw11429022074655600405 tw3026135677169829909 tw15703294538735711299 tw15767053898318223859 tw11983554796640409106 tw13657265737530110473 tw7896039188064497840 tw6870481848691261703 tw15301586363981489404 tw7958101996171530500 tw15481815209963953190 tw9821840416578320937 tw3959124258691020917 tw17150367865813041283 tw15617390508513447121 tw3273306303959265935 tw15489358701761736084 tw3239199280472539751 tw1256330238600778949 tw14491383948792795711 tw1945873205435755006 tw2918768849120347177 tw12086854327914387737 tw13977373890684420445 tw4247596739853800616 tw17367222453213877523 tw7136554600966921104 tw9560815361530047005 tw9674930004304206653 tw8831472785475764849 tw11528733318112260798 tw5750625892218603843 tw12263173732132426942 tw4028841500346656536 tw16605051358929499373 tw5371782957303979829 tw6888503224000760898 tw10886136550059581208 tw18414627931920435667 tw9226320259653991115 tw16145300616320566472 tw3677699144457031027 tw6912533918498709537 tw6517810043174487859 tw1852970221991898830 tw686711827302572838 tw11275979677946152178 tw7413470552398196948 tw18349865181884981523 tw766596199305185313 tw8907759949265008282 tw4792823864276645636 tw13039265605281010680 tw897958759115317976 tw16790809555376204919 tw12848908381261534612 tw129300827785038369 tw36045293425093274 tw17988554961485379277 tw17566954132485343809 tw18402700602153292121 tw733673946418741563 tw17092778671873811362 tw6120635414397436786 tw4524398435958989904 tw2262215260227309655 tw2869644908417956714 tw14687173259792252489 tw5571639402085220498 tw12603664167247470242 tw1625354693935149607 tw18274826917986501448 tw11602149460553403477 tw17876377873591927452 tw15933736049454550811 tw11315084361008444231 tw13460805208655009180 tw1755962807446093375 tw9608898280607538518 tw2935726941345709529 tw10227066787052832132 tw14852381781397821722 tw7171151355419983406 tw18134336512771292095 tw2747022089352153076 tw7913016917009383237 tw101766125419338624 tw14985931106381945187 tw16991205610545990306 tw9336867182683538537 tw6877574507733768742 tw13157092746240768345 tw12312716282585462803 tw17971345525168671924 tw10592263632286089951 tw11296965977159866092 tw14358925845604028732 tw1917345609761520560 tw5105002073492154865 tw1014224994078444721 tw7807647544871373935 tw10701356901755814653 tw1376561666568100553 tw9894641156424468387 tw8821718372781309535 tw1253556489423157228 tw978080946386663301 tw16321680326853702120 tw12973128155921979598 tw3804669987224074783 tw9052887359078954654 tw8907772273056266807 tw1512784264561265351 tw18332492308065743354 tw9612468820442116159 tw10771196705719244199 tw1779519259533590939 tw5325344882370464909 tw8727075994131422524 tw18176308985832289122 tw17985784960746820348 tw4446010588903152046 tw7734500469466160576 tw15006099619935900559 tw1418490656334154837 tw18261224454190220116 tw7933741446585625798 tw9162089834529662218 tw10657711612327329249 tw7674589370126146867 tw3360696534384700833 tw9153819352573001789 tw9082167277444177407 tw16394819678067826256 tw156750048709865395 tw12516147847640425569 tw12414640182266048755 tw4364922994577683360 tw14958901890535616800 tw3495593674685565181 tw7339891098215366976 tw11835579716226919521 tw14021177031728368597:True)
open PySem PySem.W PyProof.Rows
set_option maxRecDepth 100000 in
set_option maxHeartbeats 0 in
theorem PySem.Challenge.cw_ownchain_k35_papers_let_by_or_not_holds : PySem.Challenge.rw_ownchain_k35_papers_let_by_or_not.Holds := by
 rw[OcP.rw_eq]
 w_on;o_law;z_head;(case hw=>w_witness2)
 k_fill
 refine L2.walkX_of (λP=>rfl) ?_;refine OcL.walk (l:=OcP.rw) rfl rfl (λw h Y=>Y) ?F
 case F=>
  intro w mg fa h KX G hmg
  refine' OcL.all_mk KX G hmg ..
  all_goals first|k_is|rfl|(refine' L2.dg_mk ?a ?b ?c ?d;(case a=>k_is);(case b=>k_is);(case c=>k_is);(case d=>k_is))|(refine' L2.dm_mk ?a ?b ?c ?d;(case a=>k_is);(case b=>k_is);(case c=>k_is);(case d=>k_is))|skip
